import PyProof.Rows.All
import Wide.All
import OpenK.AllK
import Wide.FinOn
import Lean
import PyProof.EqAt
import PyProof.EqKinds
import PyProof.TupleCall
import PyProof.NeKinds
import PyProof.StrOps2
import PySem.Challenge.RW_twigtable_k35_whole_pages_looked_at
local macro_rules | `(#[0]) => `(by lia)
local macro_rules | `(#[1]) => `(by decide)
local macro_rules | `(#[2]) => `(by simp)
abbrev YQ_:=PySem.Value->PySem.Shared->Prop
abbrev YP_:=List (PySem.Addr×PySem.Obj)
open List
open Array renaming length_toList → V7,getElem?_toList → OE,getD_eq_getD_getElem? → Iw,getElem_mem → IF,toList_extract → IM,toList_append → IT,toList_push → IU,toList_reverse → I0,size_extract → Lc,getElem?_setIfInBounds_ne → Le,toList_map → Ll,map → LA,forIn_toList → LB,getElem?_eq_getElem → DB,getElem?_eq_none → DE
open Bool renaming false_ne_true → Uc,eq_iff_iff → UA,false_eq_true → Ie,and_eq_true → Il,and_false → LX
open Classical renaming byContradiction → D5
open False renaming elim → V8
open ForInStep renaming yield → Ic
open Int renaming toNat_natCast → Os,emod_nonneg → Cr
open Lean renaming mkIdent → Ck
open List renaming range → VB,filterMap_cons → VL,mem_cons_self → VM,mem_cons_of_mem → VN,mem_append_left → VS,iter → Uh,mem_append_right → Uw,size_toArray → UC,length_cons → UG,lookup → UL,map_cons → UM,length_map → UO,append_nil → U0,length_take → Of,getElem?_append_right → Oh,getElem?_append_left → Oi,getElem?_map → Oj,take_sublist → Ol,mem_of_getElem? → Om,length_append → On,length_drop → Ov,length_singleton → OD,find?_cons → OL,length_nil → ON,filter_cons → OQ,length_filter_le → OR,lookup_cons → Ib,all_eq_true → Im,mem_of_mem_drop → Iu,mem_of_mem_take → Iv,take_append_drop → II,append_assoc → IJ,perm_append_comm → IK,take_of_length_le → IL,drop_eq_getElem_cons → IN,getElem_of_mem → IP,reverse_append → La,foldl_cons → Ld,ext_getElem? → Lf,length_range → Ln,getElem_mem → Lo,getD_eq_getElem?_getD → Lp,getElem?_eq_getElem → Lq,ext_getElem → Lr,toArray → Lu,take_succ → LI,mem_of_getLast? → LJ,mem_append → LK,take_length → LL,mem_map_of_mem → LM,contains_cons → LV,getD → L6,getElem?_eq_none → Dc,map_append → Dd,mem_singleton → Dg,mem_cons → Dh,foldl_append → Di,nodup_nil → Dr,nodup_cons → Ds,take_add_one → Dy,pairwise_map → DG,length_eraseIdx_of_lt → DS,not_mem_nil → D0,append_of_mem → D1,filterMap_cons_some → Cc,nodup_append → Ci,exists_cons_of_ne_nil → Cj,mem_range → Cy,reverse_reverse → Cz,length_reverse → CA,eraseIdx_cons_succ → CB,nil_append → CC,range_succ_eq_map → CD,map_nil → CF,filter_append → CH,any_cons → CI,drop_zero → CJ
open List.Pairwise renaming nil → Ir,imp_of_mem → Ct,sublist → Cu
open List.Perm renaming swap → Li
open List.Sublist renaming refl → D4,nodup → D6
open List.cons renaming injEq → Lh
open Nat renaming lt_of_lt_of_le → Vy,lt_irrefl → Vz,ne_of_lt → VA,le_trans → VI,le_of_lt → VJ,ne_of_gt → Ud,le_refl → Ut,zero_le → Ux,lt_succ_self → UR,le_succ → U5,lt_of_le_of_lt → OI,lt_succ_of_lt → Ii,add_zero → IZ,zero_add → Lb,add_assoc → Lg,le_succ_of_le → Lz,lt_or_ge → DC,mod_lt → DR,pow_succ → D7,mod_mul → D8,succ_pos → D9,mul_le_mul_right → Cq
open Ne renaming symm → VR
open Option renaming none → Vo,map_some → OM,map_eq_some_iff → DH
open Option.some renaming inj → Vq,injEq → Ig
open Or renaming inl → OJ
open Prod renaming fst → Cs
open PyProof.Rows renaming IsTup → Vs,AllBare → VH,callWith_type1 → Uv,envOfC → Oe,callWith_builtin1 → Op,Keyed → Ix,SortSt → Iy,SortKind → Iz,wpS_pure → IA,arrOf → IC,wpS_bind → ID,wpS_get → IE,wpS_mono → IG,wpS_forRange → IH,pendingOf → IR,failedOf → IS,wpS_lift → IV,gallopOf → IX,wpS_modify → IY,seqObj → Ls,get?_update_seq → Lw,listUpdate_at → Lx,seqEpoch_at → Ly,listItems_at → LC,lt_str → CM
open PyProof.Rows.SortSt renaming mk' → IQ
open PySem renaming Value → Va,World → Vb,Program → Vg,Addr → Vh,Paired → Vm,Heap → Vp,sizeLine → Vr,sysModules → Vt,tupleKind → Vu,Within → Vw,mainGlobals → VD,bootBuiltins → VE,Around → VF,Shared → VG,GenState → VP,Drawn → VQ,Model → VT,wpAny → VV,model → VW,eval → VX,backTo → VY,starEach → VZ,Stmt → V0,wpAny_mono → V1,compareOp → V2,behindInMarks → V3,wpAny_truthy_bool → V4,standAt → V5,holding → V6,wpAny_execs_nil → V9,swapsWith → Ua,wpAny_passesOwn → Ub,pyNext → Ue,letOwnedTupleGo → Uf,pyIter → Ug,wpAny_pure → Ui,wpAny_bind → Uj,rawInt → Uk,wpAny_pyNext_list_item → Ul,wpAny_pyNext_list_end → Um,IsRangeIter → Uo,wpAny_pyIter_list → Uq,call → Uy,binaryOp → Uz,sizeLine_eq → UB,getMethod → UF,Result → UH,codeAny → UJ,attributeBase → US,cLine → UW,FuncData → UZ,wpAny_call → U1,codeAny_mono → U2,wpAny_Call_Name_kw → U3,Keyword → U7,backToKw → U8,keywordEach → U9,wpAny_standAt → Oa,NameKind → Ob,bindL → Oc,bindC → Od,mem_of_lookup → Og,typeLookup → Ot,getItem → Ou,subscripted → Ow,sliceBounds → Ox,callerA → OH,valueAt → OO,atKey → OS,tupleKind_room_in1 → OT,call_meetsIn → OU,merged → OW,wpAny_Call_method → OZ,wpAny_newObj_type → Ih,Builtin → Ij,wpAny_forIn_list → Ik,wpAny_rule → IW,wpAny_attempt → Lm,wpAny_newList → LF,wpAny_holding → LG,wpAny_newTuple → LH,wpAny_field → LP,wpAny_setField → LQ,excClassObj → LR,codeAny_call_builtin → LY,isInstance → LZ,wpAny_loadPart_at → L3,callWith → L4,wpAny_call_entry → L8,raiseErrorWords → L9,checkBuiltinCall → De,entryFor → Df,isSubtype_type → Dj,wpAny_isInstance → Dk,sub_set_self → Dl,wpAny_typeOf → Do,wpAny_seqItems → Dq,typeLookup_type → Du,builtinLookup_eq_fast → Dv,codeAny_builtin → Dw,plainId_quiet → Dz,SetTable → DF,scanBound → DI,wpAny_storeSet_of → DL,fits_of_scanBound → DM,wpAny_setState_of → DN,wpAny_askSetting → DP,setNext → DT,wpAny_callSpecial?_slot → DU,wpAny_fieldsOf → DV,setEntries → DW,pickOrder → DX,setsByText → DY,refuseLoop_ref → CG,raiseNew → CK,data2 → CL
open PySem.Around renaming under_plainId → Dx
open PySem.Builtin.Frozenset renaming isAnySet → DQ
open PySem.Builtin.Int renaming intBits → Ip
open PySem.Builtin.List renaming listTooLong → OC,listExtendWith → Dm
open PySem.Builtin.Range renaming rangeSize → Uu
open PySem.Builtin.Tuple renaming tupleHashOf → Dp
open PySem.Calls renaming spliced_nil → UX,spliced_cons → UY,callWith_builtin → Oy,evalArgs_plain → Oz
open PySem.F renaming slot_dict_pop → OV,slot_dict_get → OX,entry_dict_get → OY,plainAttrs_dict → O8,plainAttrs_list → Cn,slot_list_append → Co,type_list_append → Cp
open PySem.Fin renaming done → Da
open PySem.Flow renaming ret → Db
open PySem.Heap renaming lt_size → Vx,get?_none_of_le → VO,SameBut → VU,get?_push_of_some → Ur,get?_push_size → Us,size_push → UQ,get?_update_other → OB,get?_update_self → LO
open PySem.Heap.SameBut renaming update → Lv,refl → DO
open PySem.NameKind renaming free → O9,cell → Ia
open PySem.Obj renaming mapSeq → OA,mapFields → LN,putSet → DJ
open PySem.Paired renaming length → Vn,snoc → OP
open PySem.PassesOwn renaming never → Cm
open PySem.SeqAt renaming EqAt → Oq
open PySem.SetTable renaming below → DD,grown → DK,fits → DZ,turns → Ca,bits → Cd,fill → Ce,eraseAt → Cf,fresh → Cg
open PySem.SetTable.below renaming go → DA
open PySem.SetTable.layClean renaming free → Cb
open PySem.Str renaming ofString → LD
open PySem.Value renaming int → Vd,str → Vf,none → Vi,bool → Vj,ref → Vk,type → Vl,builtin → LW
open PySem.Value.type renaming inj → L7
open PySem.W renaming instObj → Vv,Frag → VC,findIn → UD,isFn → UE,makesIn → UI,emptyDict → UK,keepIn → UN,specialIn → UT,kitOne → UU,kia_one → UV,callWith_K → U4,callWith_K0 → U6,fnOf → Oo,kas_ask → Lj,kas_item → Lk,nsIn → LS,methodCall_KW → L5,mg_of → Cv,mg_none_of → Cw,hashAt → CN
open PySem.W.WData renaming int → OF,weightAll → Io,weight → Iq
open Sum renaming inl → Vc,inr → Ve
open True renaming intro → UP
set_option Elab.async false
set_option linter.all false
set_option maxRecDepth 100000
set_option maxHeartbeats 4000000
section
namespace L2
open PySem PySem.Spec PyProof.Rows
abbrev Key:=Sum Int Str
def Qoa:Key->Va->Bool
 | .inl k,v=>Value.isInt k v
 | .inr x,v=>Value.isStrOf x v
def QId(w:Vb):Key->Int
 | .inl k=>hashInt k
 | .inr x=>hashStr w x
theorem Q3:∀ {k:Key} {v:Va},Qoa k v=true->(∃ i t,k=Vc i/\v=Vd i t)\/(∃ x t,k=Ve x/\v=Vf x t)
 | .inl i,v,h=>by
  obtain⟨t,e⟩:=Value.isInt_shape (k:=i) (v:=v) h;exact .inl ⟨i,t,rfl,e⟩
 | .inr x,v,h=>by
  obtain⟨t,e⟩:=Value.isStrOf_shape (x:=x) (v:=v) h;exact .inr ⟨x,t,rfl,e⟩
theorem YPb(i:Int)(t:Tok):Qoa (.inl i) (.int i t)=true:=by simp[Qoa,Value.isInt]
theorem YQb(x:Str)(t:Tok):Qoa (.inr x) (.str x t)=true:=by simp[Qoa,Value.isStrOf]
theorem YMc(a b:Int):decide ((Vc a:Key)=Vc b)=(a == b):=by
 by_cases e:a=b
 ·subst e;simp
 ·have h:¬ (Vc a:Key)=Vc b:=λq=>e (Sum.inl.inj q)
  rw[decide_eq_false h];exact(beq_eq_false_iff_ne.mpr e).symm
theorem YNc(a b:Str):decide ((Ve a:Key)=Ve b)=decide (a=b):=by
 by_cases e:a=b
 ·subst e;simp
 ·have h:¬ (Ve a:Key)=Ve b:=λq=>e (Sum.inr.inj q)
  rw[decide_eq_false h,decide_eq_false e]
theorem YOc(a:Int)(b:Str):decide ((Vc a:Key)=Ve b)=false:=decide_eq_false (λq=>nomatch q)
theorem YPc(a:Str)(b:Int):decide ((Ve a:Key)=Vc b)=false:=decide_eq_false (λq=>nomatch q)
def QA(prog:Vg)(w:Vb):PySem.KeyKind prog w Key where
 is:=Qoa
 hash:=QId w
 inj:=λv a b ha hb=>by
  rcases Q3 ha with ⟨i,t,rfl,rfl⟩ | ⟨x,t,rfl,rfl⟩
  ·rcases Q3 hb with ⟨j,u,rfl,e⟩ | ⟨y,u,rfl,e⟩
   ·injection e with e1 _;rw[e1]
   ·exact nomatch e
  ·rcases Q3 hb with ⟨j,u,rfl,e⟩ | ⟨y,u,rfl,e⟩
   ·exact nomatch e
   ·injection e with e1 _;rw[e1]
 byValue:=λk v h=>by
  rcases Q3 h with ⟨i,t,rfl,rfl⟩ | ⟨x,t,rfl,rfl⟩ <;> rfl
 pyHash:=λhv h=>by
  rcases Q3 hv with ⟨i,t,rfl,rfl⟩ | ⟨x,t,rfl,rfl⟩
  ·exact wpAny_pyHash_int h
  ·exact wpAny_pyHash_str h
 eqBool:=λhu hv h=>by
  rcases Q3 hu with ⟨i,t,rfl,rfl⟩ | ⟨x,t,rfl,rfl⟩
  ·rcases Q3 hv with ⟨j,u,rfl,rfl⟩ | ⟨y,u,rfl,rfl⟩
   ·rw[YMc]at h;exact wpAny_eqBool_int h
   ·rw[YOc]at h;exact SeqAt.EqAt.int_str i t y u _ _ _ _ h
  ·rcases Q3 hv with ⟨j,u,rfl,rfl⟩ | ⟨y,u,rfl,rfl⟩
   ·rw[YPc]at h;exact SeqAt.EqAt.str_int x t j u _ _ _ _ h
   ·rw[YNc]at h;exact wpAny_eqBool_str h
 «strs»:=λk x t v h=>by
  rcases Q3 h with ⟨i,u,rfl,e⟩ | ⟨y,u,rfl,e⟩
  ·exact nomatch e
  ·injection e with e1 _
   subst e1;cases v <;> rfl
theorem QHb(prog:Vg)(w:Vb)(i:Int)(t:Tok):(QA prog w).is (.inl i) (.int i t)=true:=YPb i t
theorem QIb(prog:Vg)(w:Vb)(x:Str)(t:Tok):(QA prog w).is (.inr x) (.str x t)=true:=YQb x t
inductive V where
 | non | bl (b:Bool) | int (i:Int) | str (x:Str) | byt (b:Array UInt8) | flt (b:UInt64) | ref (a:Vh) | ty (n:String)
 deriving DecidableEq
def Qq:V->Va->Prop
 | .non,u=>u=Vi
 | .bl b,u=>u=Vj b
 | .int i,u=>∃ t,u=Vd i t
 | .str x,u=>∃ t,u=Vf x t
 | .byt b,u=>∃ t,u=Value.bytes b t
 | .flt b,u=>∃ t,u=Value.float b t
 | .ref a,u=>u=Vk a
 | .ty n,u=>u=Vl n
abbrev Qt:List V->List Va->Prop:=Vm Qq
theorem Qt.length{xs:List V}{us:List Va}(r:Qt xs us):xs.length=us.length:=Vn r
theorem Qt.get:∀ {xs:List V} {us:List Va} {i:Nat} {x:V},Qt xs us->xs[i]?=some x->∃ u,us[i]?=some u/\Qq x u
 | _,_,_,_,.nil,e=>by simp at e
 | _,_,0,_,.cons r _,e=>by simp at e;subst e;exact⟨_,rfl,r⟩
 | _,_,i+1,x,.cons _ t,e=>by
  obtain⟨u,h1,h2⟩:=Qt.get (i:=i) (x:=x) t (by simpa using e)
  exact⟨u,by simpa using h1,h2⟩
theorem Qt.append:∀ {xs ys:List V} {us ws:List Va},Qt xs us->Qt ys ws->Qt (xs++ys) (us++ws)
 | _,_,_,_,.nil,s=>s
 | _,_,_,_,.cons r t,s=>.cons r (Qt.append t s)
theorem Qt.take:∀ {xs:List V} {us:List Va} (n:Nat),Qt xs us->Qt (xs.take n) (us.take n)
 | _,_,0,_=>.nil
 | _,_,_+1,.nil=>.nil
 | _,_,n+1,.cons r t=>.cons r (Qt.take n t)
theorem Qt.drop:∀ {xs:List V} {us:List Va} (n:Nat),Qt xs us->Qt (xs.drop n) (us.drop n)
 | _,_,0,r=>r
 | _,_,_+1,.nil=>.nil
 | _,_,n+1,.cons _ t=>Qt.drop n t
theorem Qt.none_of:∀ {xs:List V} {us:List Va} {i:Nat},Qt xs us->xs[i]?=Vo->us[i]?=Vo:=λ{xs us i} r e=>by
 have h1:=r.length;have h2:xs.length<=i:=List.getElem?_eq_none_iff.mp e
 exact List.getElem?_eq_none_iff.mpr #[0]
def JQ:Option V->Option Va->Prop
 | some v,some u=>Qq v u
 | none,Vo=>True
 | _,_=>False
def KV{κ:Type}:List (κ×V)->List (κ×Va)->Prop:=Vm λ(p:κ×V) (q:κ×Va)=>p.1=q.1/\Qq p.2 q.2
def kV:Key->V
 | .inl i=>.int i
 | .inr x=>.str x
inductive HO where
 | lst (xs:List V)
 | tup (xs:List V)
 | dK (ae:List (Key×V)) | dT (ae:List (List Key×V))
 | set (S:Int->Bool) (n:Nat)
 | ins (C dx:Vh) (fs:List (Str×V))
 | own (x:Vh)
 | xd (fs:List (Str×V))
 | met (f x:Vh)
 | rng (lo hi:Int)
 | frz (o:Obj) (u:HO)
 | tbl (ps:Array Va)
 | ext (φ:Vp->Prop)
abbrev Hp:=Vh->Option HO
def upd(H:Hp)(a:Vh)(o:HO):Hp:=λb=>if b=a then some o else H b
theorem Qa{H:Hp}{a:Vh}{o:HO}:upd H a o a=some o:=by unfold upd;rw[if_pos rfl]
theorem Qf{H:Hp}{a b:Vh}{o:HO}(h:b≠a):upd H a o b=H b:=by unfold upd;rw[if_neg h]
theorem Zt{H:Hp}{a:Vh}{o u:HO}:upd (upd H a o) a u=upd H a u:=by
 funext b;unfold upd;split <;> rfl
theorem JP{H:Hp}{a b:Vh}{o u:HO}(h:H a=some o)(h':H b=some u)(d:o≠u):a≠b:=by
 intro e;subst e;rw[h]at h';exact d (Vq h')
theorem Qr{H:Hp}{a b:Vh}{o:HO}(h:H a=some o)(h':H b=Vo):a≠b:=by
 intro e;subst e;rw[h]at h';cases h'
section
variable(P:Vg)(w:Vb)
def QC(H:Hp)(h:Vp)(a:Vh):HO->Prop
 | .lst xs=>xs.length<=Vr/\∃ (ah:List Va) (n:Nat),Qt xs ah/\h.get? a=some { cls:=.type "list",data:=.seq ah.toArray n }
 | .tup xs=>(xs.length<=Vr/\∃ o,h.get? a=some o/\o.dict=Vo)/\∃ ah:List Va,Qt xs ah/\Vs h a ah.toArray
 | .dK ae=>ae.length<=Vr/\(a == Vt)=false/\∃ vs,KV ae vs/\h.DictOf (QA P w) a vs
 | .dT ae=>ae.length<=Vr/\(a == Vt)=false/\∃ xs:List (List Key×Vh×Va),
  Vm (λ(p:List Key×V) (q:List Key×Vh×Va)=>p.1=q.1/\H q.2.1=some (.tup (p.1.map kV))/\Qq p.2 q.2.2) ae xs /\
  ∃ o es ep,h.get? a=some o/\o.ExactDict/\o.data=.dict es ep/\es.toList=xs.map (entryOfKey (Vu (QA P w)))/\(xs.map (·.1)).Nodup
 | .set S n=>h.SetOf (intKind P w) a S n
 | .ins C dx fs=>H dx=some (.own a)/\fs.length<=1000/\dx≠a/\h.get? a=some (Vv C dx) /\
  ∃ mA,h.Ns1 dx mA/\(∀ f,JQ (fs.lookup f) (mA f))/\Vw mA (fs.map (·.1))
 | .own _=>∃ o,h.get? a=some o
 | .xd fs=>∃ mA,h.Ns1 a mA/\∀ f,JQ (fs.lookup f) (mA f)
 | .rng lo hi=>∃ t u v,h.get? a=some { cls:=.type "range",data:=.fields #[.int lo t,.int hi u,.int 1 v] }
 | .frz o u=>h.get? a=some o/\QC H h a u
 | .tbl ps=>h.get? a=some { cls:=.none,data:=.fields ps }
 | .met f x=>h.get? a=some (W.methodObj (.ref f) (.ref x))
 | .ext φ=>φ h/\(∃ o,h.get? a=some o)/\∀ h1 h2:Vp,φ h1->(∀ o,h1.get? a=some o->h2.get? a=some o)->φ h2
def HOk(H:Hp)(h:Vp):Prop:=∀ a o,H a=some o->QC P w H h a o
end
section
variable{P:Vg}{w:Vb}{H H':Hp}{h h':Vp}{a:Vh}{o:HO}
theorem QC.lt(x:QC P w H h a o):a < h.objs.size:=by
 cases o with
 | lst xs=>obtain⟨_,_,_,_,e⟩:=x;exact Vx e
 | tup xs=>obtain⟨_,_,_,p⟩:=x;exact p.lt
 | dK ae=>obtain⟨_,_,_,_,o,_,_,e,_⟩:=x;exact Vx e
 | dT ae=>obtain⟨_,_,_,_,o,_,_,e,_⟩:=x;exact Vx e
 | set S n=>obtain⟨o,_,_,_,e,_⟩:=x;exact Vx e
 | ins C dx fs=>obtain⟨_,_,_,e,_⟩:=x;exact Vx e
 | own y=>obtain⟨_,e⟩:=x;exact Vx e
 | xd fs=>obtain⟨_,⟨_,_,_,e,_⟩,_⟩:=x;exact Vx e
 | rng lo hi=>obtain⟨_,_,_,e⟩:=x;exact Vx e
 | frz ob u=>obtain⟨e,_⟩:=x;exact Vx e
 | tbl ps=>exact Vx (show h.get? a=some _ from x)
 | met f y=>exact Vx (show h.get? a=some _ from x)
 | ext φ=>obtain⟨_,⟨_,e⟩,_⟩:=x;exact Vx e
theorem Paired.mapP{α β:Type}{F G:α->β->Prop}:∀ {l₁:List α} {l₂:List β},Vm F l₁ l₂->(∀ a b,F a b->G a b)->Vm G l₁ l₂
 | _,_,.nil,_=>.nil
 | _,_,.cons r t,f=>.cons (f _ _ r) (Paired.mapP t f)
theorem QC.stay(x:QC P w H h a o)(k:∀ b u,(b=a\/H b=some (.own a))->h.get? b=some u->h'.get? b=some u)
 (ho:∀ b,H b=some (.own a)->H' b=some (.own a)) (ht:∀ b xs,H b=some (.tup xs)->H' b=some (.tup xs)):QC P w H' h' a o:=by
 induction o with
 | lst xs=>obtain⟨z,ah,n,r,e⟩:=x;exact⟨z,ah,n,r,k _ _ (.inl rfl) e⟩
 | tup xs=>obtain⟨⟨z,o1,e1,d1⟩,ah,r,ob,e,c⟩:=x;exact⟨⟨z,o1,k _ _ (.inl rfl) e1,d1⟩,ah,r,ob,k _ _ (.inl rfl) e,c⟩
 | dK ae=>obtain⟨z,y,vs,r,ob,es,ep,e,c⟩:=x;exact⟨z,y,vs,r,ob,es,ep,k _ _ (.inl rfl) e,c⟩
 | dT ae =>
  obtain⟨z,y,xs,r,ob,es,ep,e,c⟩:=x;exact⟨z,y,xs,Paired.mapP r λp q z=>⟨z.1,ht _ _ z.2.1,z.2.2⟩,ob,es,ep,k _ _ (.inl rfl) e,c⟩
 | set S n=>obtain⟨ob,es,ep,t,e,c⟩:=x;exact⟨ob,es,ep,t,k _ _ (.inl rfl) e,c⟩
 | ins C dx fs =>
  obtain⟨d,z,ne,e,mA,⟨od,es,ep,e2,c⟩,r⟩:=x;exact⟨ho _ d,z,ne,k _ _ (.inl rfl) e,mA,⟨od,es,ep,k _ _ (.inr d) e2,c⟩,r⟩
 | own y=>obtain⟨ob,e⟩:=x;exact⟨ob,k _ _ (.inl rfl) e⟩
 | xd fs=>obtain⟨mA,⟨od,es,ep,e,c⟩,r⟩:=x;exact⟨mA,⟨od,es,ep,k _ _ (.inl rfl) e,c⟩,r⟩
 | rng lo hi=>obtain⟨t,u,v,e⟩:=x;exact⟨t,u,v,k _ _ (.inl rfl) e⟩
 | frz ob u ih=>obtain⟨e,q⟩:=x;exact⟨k _ _ (.inl rfl) e,ih q⟩
 | tbl ps =>
  have e:h.get? a=some { cls:=.none,data:=.fields ps }:=x;show h'.get? a=some { cls:=.none,data:=.fields ps };exact k a _ (.inl rfl) e
 | met f y =>
  have e:h.get? a=some (W.methodObj (.ref f) (.ref y)):=x;show h'.get? a=some (W.methodObj (.ref f) (.ref y));exact k a _ (.inl rfl) e
 | ext φ=>obtain⟨p,⟨o,e⟩,st⟩:=x;exact⟨st _ _ p λo q=>k _ _ (.inl rfl) q,⟨o,k _ _ (.inl rfl) e⟩,st⟩
theorem HOk.lt(x:HOk P w H h)(e:H a=some o):a < h.objs.size:=(x a o e).lt
theorem HOk.fresh(x:HOk P w H h)(e:h.objs.size<=a):H a=Vo:=by
 cases q:H a with
 | none=>rfl
 | some u=>exact absurd (Vy (x.lt q) e) (Vz _)
theorem HOk.kept(x:HOk P w H h)(k:∀ b u,h.get? b=some u->h'.get? b=some u):HOk P w H h':=λa o e =>
 (x a o e).stay (λb u _ q=>k b u q) (λ_ q=>q) λ_ _ q=>q
theorem HOk.laid(x:HOk P w H h)(k:∀ b u,h.get? b=some u->h'.get? b=some u)(hp:h.objs.size<=a)(new:QC P w (upd H a o) h' a o):HOk P w (upd H a o) h':=λb u e=>by
 have hn:=x.fresh hp
 by_cases hb:b=a
 ·subst hb;rw[Qa]at e;cases e;exact new
 ·rw[Qf hb]at e
  exact(x b u e).stay (λc v _ q=>k c v q) (λc q=>by rw[Qf (Qr q hn)];exact q) λc xs q=>by rw[Qf (Qr q hn)];exact q
end
def Rd(H:Hp)(a:Vh)(u:HO):Prop:=H a=some u\/∃ o,H a=some (.frz o u)
theorem Rd.ok{P:Vg}{w:Vb}{H:Hp}{h:Vp}{a:Vh}{u:HO}(r:Rd H a u)(x:HOk P w H h):QC P w H h a u:=by
 rcases r with r | ⟨o,r⟩
 ·exact x a u r
 ·obtain⟨_,q⟩:=x a _ r
  exact q
def Mut:Option HO->Prop
 | some (.lst _)=>True
 | some (.dK _)=>True
 | some (.dT _)=>True
 | some (.set _ _)=>True
 | some (.ins _ _ _)=>True
 | some (.ext _)=>True
 | _=>False
section
variable{P:Vg}{w:Vb}{H:Hp}{h h':Vp}{x e:Vh}{o':HO}
theorem HOk.write(ok:HOk P w H h)(mu:Mut (H x))(he:e=x\/H e=some (.own x))(k:∀ b u,b≠e->h.get? b=some u->h'.get? b=some u)(gP:∃ u,h'.get? e=some u)
 (new:QC P w (upd H x o') h' x o'):HOk P w (upd H x o') h':=λb u q=>by
 have ir:∀ c y,H c=some (.own y)->c≠x:=λc y r z=>by subst z;rw[r]at mu;exact mu
 have lK:∀ c xs,H c=some (.tup xs)->c≠x:=λc xs r z=>by subst z;rw[r]at mu;exact mu
 by_cases hb:b=x
 ·subst hb;rw[Qa]at q;cases q;exact new
 ·rw[Qf hb]at q
  by_cases hbe:b=e
  ·have q':H b=some (.own x):=by
    rcases he with z | z
    ·exact absurd (hbe.trans z) hb
    ·rw[hbe];exact z
   rw[q]at q';cases q';obtain⟨v,hv⟩:=gP;exact⟨v,by rw[hbe];exact hv⟩
  ·refine(ok b u q).stay (λc v hc r=>k c v ?_ r) (λc r=>by rw[Qf (ir c b r)];exact r) λc xs r=>by rw[Qf (lK c xs r)];exact r
   rcases hc with rfl | hc
   ·exact hbe
   ·rintro rfl
    rcases he with z | z
    ·exact ir c b hc z
    ·rw[hc]at z;cases z;exact hb rfl
end
structure Un(fs ex:List Vh)(H H':Hp)(h h':Vp):Prop where
 keep:∀ b o,h.get? b=some o->H b=Vo->b∉fs->b∉ex->h'.get? b=some o
 slot:∀ b o,h.get? b=some o->H b=Vo->b∈fs->b∉ex->∃ sl,h'.get? b=some { o with slots:=sl }
 free:∀ b o,h.get? b=some o->H b=Vo->b∉ex->H' b=Vo
 there:∀ b o,h.get? b=some o->b∉ex->∃ o',h'.get? b=some o'
 tups:∀ b xs,H b=some (.tup xs)->H' b=some (.tup xs)
 frzs:∀ b o u,H b=some (.frz o u)->H' b=some (.frz o u)
 tbls:∀ b ps,H b=some (.tbl ps)->∃ more,H' b=some (.tbl (ps++more))
section
variable{fs dF ex tI:List Vh}{H H1 H2:Hp}{h h1 h2 h':Vp}{a x e:Vh}{o:HO}
theorem Un.any(u:Un fs ex H H1 h h1){b:Vh}{ob:Obj}(q:h.get? b=some ob)(n:H b=Vo)(hx:b∉ex):∃ sl,h1.get? b=some { ob with slots:=sl }:=by
 by_cases hb:b∈fs
 ·exact u.slot b ob q n hb hx
 ·exact⟨ob.slots,u.keep b ob q n hb hx⟩
theorem Un.kept(k:∀ b u,h.get? b=some u->h'.get? b=some u):Un fs ex H H h h' :=
 ⟨λb ob q _ _ _=>k b ob q,λb ob q _ _ _=>⟨ob.slots,k b ob q⟩,λ_ _ _ n _=>n,λb ob q _=>⟨ob,k b ob q⟩,λ_ _ q=>q,λ_ _ _ q=>q,λ_ ps q=>⟨#[],by rw[q];simp⟩⟩
theorem Un.refl:Un fs ex H H h h:=Un.kept λ_ _ q=>q
theorem Un.laid(k:∀ b u,h.get? b=some u->h'.get? b=some u)(hp:h.objs.size<=a)(hn:H a=Vo):Un fs ex H (upd H a o) h h' where
 keep:=λb u q _ _ _=>k b u q
 slot:=λb u q _ _ _=>⟨u.slots,k b u q⟩
 free:=λb u q n _=>by rw[Qf (VA (Vy (Vx q) hp))];exact n
 there:=λb u q _=>⟨u,k b u q⟩
 tups:=λb xs q=>by rw[Qf (Qr q hn)];exact q
 frzs:=λb u xs q=>by rw[Qf (Qr q hn)];exact q
 tbls:=λb ps q=>⟨#[],by rw[Qf (Qr q hn),q];simp⟩
theorem Un.write(mu:Mut (H x))(he:e=x\/H e=some (.own x))(k:∀ b u,b≠e->h.get? b=some u->h'.get? b=some u)(gP:∃ u,h'.get? e=some u):Un fs ex H (upd H x o) h h':=by
 have hx:∀ b,H b=Vo->b≠x:=λb n z=>by subst z;rw[n]at mu;exact mu
 have hb:∀ b,H b=Vo->b≠e:=λb n z=>by
  subst z
  rcases he with r | r
  ·exact hx b n r
  ·rw[n]at r;cases r
 have hm:∀ b u,H b=some u->¬ Mut (some u)->b≠x:=λb u q nm z=>by subst z;rw[q]at mu;exact nm mu
 refine⟨λb u q n _ _=>k b u (hb b n) q,λb u q n _ _=>⟨u.slots,k b u (hb b n) q⟩,λb u q n _=>by rw[Qf (hx b n)];exact n,λb u q _=>?_,
  λb xs q=>by rw[Qf (hm b _ q λz=>z)];exact q,λb u xs q=>by rw[Qf (hm b _ q λz=>z)];exact q,λb ps q=>⟨#[],by rw[Qf (hm b _ q λz=>z),q];simp⟩⟩
 by_cases hbe:b=e
 ·subst hbe;exact gP
 ·exact⟨u,k b u hbe q⟩
end
def trk(h:Vp)(H:Hp):List Vh:=(VB h.objs.size).filter λa=>(H a).isSome
def XQa(h:Vp)(H:Hp):Vp:=W.hideAll h (trk h H)
theorem YRb(h:Vp)(H:Hp):(XQa h H).objs.size=h.objs.size:=W.hideAll_size _ _
theorem XRb{h:Vp}{H:Hp}{b:Vh}{o:Obj}(e:h.get? b=some o)(n:H b=Vo):(XQa h H).get? b=some o :=
 W.hideAll_get _ e λhm=>by
  have q:(H b).isSome=true:=(mem_filter.mp hm).2;rw[n]at q;simp at q
theorem ZYc{h:Vp}{H:Hp}{b:Vh}{o:Obj}(e:(XQa h H).get? b=some o):h.get? b=some o/\H b=Vo:=by
 have e':h.get? b=some o:=W.of_hideAll (trk h H) e;refine⟨e',?_⟩
 cases q:H b with
 | none=>rfl
 | some x =>
  have hm:b∈trk h H:=mem_filter.mpr ⟨mem_range.mpr (Vx e'),by simp[q]⟩
  have z:(XQa h H).get? b=Vo:=W.hideAll_none (trk h H) hm;rw[z]at e;cases e
def ZZc(g h:Vp)(L:Vh):YP_:=(VB h.objs.size).filterMap λa=>if a=L\/(g.get? a).isSome=true then Vo else (h.get? a).map λo=>(a,o)
def rest(g h:Vp)(L d:Vh):YP_:=(ZZc g h L).filter λp=>decide (p.1≠d)
structure Mod(K:VC)(mg:Str->Option Va)(base:Vp):Prop where
 kin:K.In base
 glob:base.Ns VD mg
 blt:∃ mb,base.Ns builtinsNs mb/\∀ x:Str,x≠"__name__"->mb x=VE x
 nolimit:base.NoLimit
structure Cx where
 prog:Vg
 w:Vb
 K:VC
 mg:Str->Option Va
 base:Vp
 A:VF
 N:List Str
 s₀:VG
 H₀:Hp
 env:Env
 outer:List Env
 stack:List Env
 ex:List Vh
 fn:Str->Bool
 calm:Bool
 pn:YP_
 xe:YQ_
def frs(l:List Env):List Vh:=l.filterMap (·.frame)
abbrev Cx.fs(X:Cx):List Vh:=frs X.outer
def Vis(sc:Scope)(x:Str):Prop:=sc.names.lookup x=some .local\/sc.names.lookup x=some .cell\/sc.names.lookup x=some .free
def Loc(sc:Scope)(x:Str):Prop:=sc.names.lookup x=some .local\/sc.names.lookup x=some .cell
def QJd(env:Env)(h:Vp)(m:Str->Option Va)(x:Str)(u:Va):Prop :=
 (env.kindOf x=some .local/\m x=some u)\/((env.kindOf x=some .cell\/env.kindOf x=some .free)/\∃ c,env.cells.lookup x=some c/\h.IsCell c (some u))
structure Cx.Ok(X:Cx):Prop where
 mod:Mod X.K X.mg X.base
 kind:X.env.scope.kind=.function
 glob:X.env.globals=VD
 blt:X.env.builtins=builtinsNs
 above:X.s₀.heap.objs.size<=X.env.locals
 inj:∀ x y c,X.env.cells.lookup x=some c->X.env.cells.lookup y=some c->x=y
 has:∀ x,(X.env.kindOf x=some .cell\/X.env.kindOf x=some .free)->∃ c,X.env.cells.lookup x=some c
 cab:∀ x c,X.fn x=true->X.env.cells.lookup x=some c->X.s₀.heap.objs.size<=c
 hd:X.calm=true->X.A.handled=Vo
 frames:X.A.frames=some X.stack
 stk:X.stack=X.outer\/(X.stack=X.env::X.outer/\X.env.frame=some X.env.locals)
 exf:∀ b∈X.ex,b≠X.env.locals/\∀ x c,X.env.cells.lookup x=some c->c≠b
 bs:∀ b o,X.base.get? b=some o->X.s₀.heap.get? b=some o/\X.H₀ b=Vo
 bsz:X.base.objs.size<=X.s₀.heap.objs.size
 noex:∀ b o,X.base.get? b=some o->b∉X.ex
 exfs:∀ b∈X.ex,b∉X.fs
 funs:X.s₀.heap.FunFrames X.base X.outer
 frf:∀ b∈X.fs,X.H₀ b=Vo
structure Inv(X:Cx)(aa:YP_)(σ:List (Option V))(H:Hp)(s:VG):Prop where
 ok:X.Ok
 os:s.os=X.s₀.os
 bare:VH s.gens
 base:Un X.fs X.ex X.H₀ H X.s₀.heap s.heap
 loc:∃ m,s.heap.Ns X.env.locals m/\∀ (i:Nat) (x:Str) (v:V),X.N[i]?=some x->σ[i]?=some (some v)->Vis X.env.scope x->∃ u,Qq v u/\QJd X.env s.heap m x u
 cell:∀ x c,X.env.cells.lookup x=some c->∃ v,s.heap.IsCell c v
 free:H X.env.locals=Vo
 freeC:∀ x c,X.env.cells.lookup x=some c->H c=Vo
 pin:∀ p∈X.pn++aa,s.heap.get? p.1=some p.2/\H p.1=Vo/\p.1≠X.env.locals/\p.1∉X.fs/\∀ v,p.2.data≠.cell v
 hok:HOk X.prog X.w H s.heap
 len:σ.length=X.N.length
section
variable{X:Cx}{aa:YP_}{σ:List (Option V)}{H H':Hp}{s:VG}{h':Vp}
theorem Cx.Ok.nofr(ok:X.Ok){b:Vh}{o:Obj}(e:X.base.get? b=some o):b∉X.fs:=λhb=>by
 have:=(ok.funs.mem hb).1;rw[e]at this;cases this
theorem Inv.bs(I:Inv X aa σ H s):∀ b o,X.base.get? b=some o->s.heap.get? b=some o/\H b=Vo:=λb o e =>
 ⟨I.base.keep b o (I.ok.bs b o e).1 (I.ok.bs b o e).2 (I.ok.nofr e) (I.ok.noex b o e),I.base.free b o (I.ok.bs b o e).1 (I.ok.bs b o e).2 (I.ok.noex b o e)⟩
theorem Inv.bk(I:Inv X aa σ H s):∀ b o,X.base.get? b=some o->s.heap.get? b=some o:=λb o e=>(I.bs b o e).1
theorem Inv.mod(I:Inv X aa σ H s):Mod X.K X.mg X.base:=I.ok.mod
theorem Inv.kIn(I:Inv X aa σ H s):X.K.In s.heap:=I.ok.mod.kin.keeps I.bk
theorem Inv.lt(I:Inv X aa σ H s):X.env.locals < s.heap.objs.size:=let ⟨_,hn,_⟩:=I.loc;hn.lt
theorem Inv.sz(I:Inv X aa σ H s):X.s₀.heap.objs.size<=s.heap.objs.size:=VI I.ok.above (VJ I.lt)
theorem Inv.nofs(I:Inv X aa σ H s){a:Vh}(h:s.heap.objs.size<=a):a∉X.fs:=λhb=>by
 obtain⟨_,o,ho,_⟩:=I.ok.funs.mem hb;exact absurd (Vy (Vx ho) (VI I.sz h)) (Vz _)
theorem Inv.cne(I:Inv X aa σ H s):∀ x c,X.env.cells.lookup x=some c->c≠X.env.locals:=λx c e z=>by
 obtain⟨v,o,ho,hd⟩:=I.cell x c e;obtain⟨m,⟨o',es,ep,bu,cf,_⟩,_⟩:=I.loc;rw[z,bu]at ho;cases ho;rw[cf]at hd;cases hd
theorem Inv.funs(I:Inv X aa σ H s):s.heap.FunFrames X.base X.outer:=by
 have all:∀ (l:List Env),(∀ b∈frs l,b∈X.fs)->X.s₀.heap.FunFrames X.base l->s.heap.FunFrames X.base l:=by
  intro l
  induction l with
  | nil=>intro _ _;trivial
  | cons env r ih =>
   intro hs hl;obtain⟨hk,⟨L,o,hf,hn,ho,hd⟩,hr⟩:=hl;have hL:L∈X.fs:=hs L (by unfold frs;rw[VL,hf];exact VM)
   obtain⟨sl,e⟩:=I.base.slot L o ho (I.ok.frf L hL) hL λz=>I.ok.exfs L z hL
   exact⟨hk,⟨L,_,hf,hn,e,hd⟩,ih (λb hb=>hs b (by unfold frs;rw[VL,hf];exact VN _ hb)) hr⟩
 exact all X.outer (λ_ hb=>hb) I.ok.funs
theorem Inv.stack(I:Inv X aa σ H s):s.heap.FunFrames X.base X.stack:=by
 rcases I.ok.stk with e | ⟨e,hf⟩
 ·rw[e];exact I.funs
 ·rw[e]
  obtain⟨m,hn,_⟩:=I.loc;refine .cons (by rw[I.ok.kind];decide) hf hn ?_ I.funs
  exact VO (VI I.ok.bsz I.ok.above)
theorem Inv.stkSub(I:Inv X aa σ H s):∀ b∈frs X.stack,b∈X.env.locals::X.fs:=λb hb=>by
 rcases I.ok.stk with e | ⟨e,hf⟩
 ·rw[e]at hb;exact VN _ hb
 ·rw[e]at hb
  unfold frs at hb;rw[VL,hf]at hb;exact hb
theorem Inv.stkFree(I:Inv X aa σ H s):∀ b∈frs X.stack,H b=Vo:=λb hb=>by
 rcases mem_cons.mp (I.stkSub b hb) with e | hb
 ·rw[e];exact I.free
 ·obtain⟨_,o,ho,_⟩:=I.ok.funs.mem hb
  exact I.base.free b o ho (I.ok.frf b hb) λz=>I.ok.exfs b z hb
theorem Inv.step{g':Array VP}{t':Nat}{d':VQ}{ch:List Vh}(I:Inv X aa σ H s)
 (cM:∀ b∈ch,(b∈X.ex\/X.s₀.heap.objs.size<=b)/\b≠X.env.locals/\(∀ x c,X.env.cells.lookup x=some c->c≠b)/\∀ p∈X.pn++aa,p.1≠b)
 (keep:∀ b o,b≠X.env.locals->b∉X.fs->b∉ch->s.heap.get? b=some o->H b=Vo->h'.get? b=some o)
 (slot:∀ b o,b≠X.env.locals->b∈X.fs->b∉ch->s.heap.get? b=some o->H b=Vo->∃ sl,h'.get? b=some { o with slots:=sl }) (free:∀ b o,b∉ch->s.heap.get? b=some o->H b=Vo->H' b=Vo)
 (there:∀ b o,b∉ch->s.heap.get? b=some o->∃ o',h'.get? b=some o')
 (tups:∀ b xs,H b=some (.tup xs)->H' b=some (.tup xs)) (frzs:∀ b o u,H b=some (.frz o u)->H' b=some (.frz o u)) (tbls:∀ b ps,H b=some (.tbl ps)->∃ more,H' b=some (.tbl (ps++more)))
 (ns:∀ m,s.heap.Ns X.env.locals m->h'.Ns X.env.locals m) (hok:HOk X.prog X.w H' h') (hg:VH g') :
 Inv X aa σ H' { s with heap:=h',gens:=g',drawn:=d',toks:=t' }:=by
 have pH:∀ b o,X.s₀.heap.get? b=some o->b≠X.env.locals:=λb o e=>VA (Vy (Vx e) I.ok.above)
 have kz:∀ b o,X.s₀.heap.get? b=some o->b∉X.ex->b∉ch:=λb o e hx hb=>by
  rcases(cM b hb).1 with z | z
  ·exact hx z
  ·exact absurd (Vy (Vx e) z) (Vz _)
 have eU:∀ x c,X.env.cells.lookup x=some c->∀ v,s.heap.IsCell c v->h'.IsCell c v:=λx c e v ⟨o,ho,hd⟩=>by
  have iu:c∉ch:=λz=>(cM c z).2.2.1 x c e rfl
  by_cases hc:c∈X.fs
  ·obtain⟨sl,q⟩:=slot c o (I.cne x c e) hc iu ho (I.freeC x c e)
   exact⟨_,q,hd⟩
  ·exact⟨o,keep c o (I.cne x c e) hc iu ho (I.freeC x c e),hd⟩
 refine⟨I.ok,I.os,hg,⟨λb o e n hb hx=>?_,λb o e n hb hx=>?_,λb o e n hx=>?_,λb o e hx=>?_,λb xs e=>tups b xs (I.base.tups b xs e),λb o xs e=>frzs b o xs (I.base.frzs b o xs e),λb ps e=>?_⟩,?_,λx c e=>?_,?_,λx c e=>?_,λp hp=>?_,hok,I.len⟩
 ·exact keep b o (pH b o e) hb (kz b o e hx) (I.base.keep b o e n hb hx) (I.base.free b o e n hx)
 ·obtain⟨sl,e1⟩:=I.base.slot b o e n hb hx
  obtain⟨lL,e2⟩:=slot b _ (pH b o e) hb (kz b o e hx) e1 (I.base.free b o e n hx);exact⟨lL,e2⟩
 ·obtain⟨o',e1⟩:=I.base.there b o e hx
  exact free b o' (kz b o e hx) e1 (I.base.free b o e n hx)
 ·obtain⟨o',e1⟩:=I.base.there b o e hx
  exact there b o' (kz b o e hx) e1
 ·obtain⟨m1,e1⟩:=I.base.tbls b ps e
  obtain⟨m2,e2⟩:=tbls b _ e1;exact⟨m1++m2,by rw[e2,Array.append_assoc]⟩
 ·obtain⟨m,hn,hl⟩:=I.loc
  refine⟨m,ns m hn,λi x v e1 e2 e3=>?_⟩
  obtain⟨u,r,l⟩:=hl i x v e1 e2 e3;refine⟨u,r,?_⟩
  rcases l with l | ⟨k,c,e,z⟩
  ·exact .inl l
  ·exact .inr ⟨k,c,e,eU x c e _ z⟩
 ·obtain⟨v,z⟩:=I.cell x c e
  exact⟨v,eU x c e v z⟩
 ·obtain⟨m,⟨o,_,_,ho,_⟩,_⟩:=I.loc
  exact free _ o (λz=>(cM _ z).2.1 rfl) ho I.free
 ·obtain⟨v,o,ho,hd⟩:=I.cell x c e
  exact free c o (λz=>(cM c z).2.2.1 x c e rfl) ho (I.freeC x c e)
 ·obtain⟨e,n,ne,nf,d⟩:=I.pin p hp
  have iu:p.1∉ch:=λz=>(cM p.1 z).2.2.2 p hp rfl
  exact⟨keep p.1 p.2 ne nf iu e n,free p.1 p.2 iu e n,ne,nf,d⟩
theorem Inv.un{t':Nat}(I:Inv X aa σ H s)(u:Un X.fs [] H H' s.heap h')(hok:HOk X.prog X.w H' h'):Inv X aa σ H' { s with heap:=h',toks:=t' }:=by
 obtain⟨m,⟨o,es,ep,ho,r⟩,_⟩:=id I.loc;obtain⟨sl,hL⟩:=u.any ho I.free #[2]
 exact I.step (g':=s.gens) (d':=s.drawn) (ch:=[]) (λ_ z=>nomatch z) (λb o _ hb _ e n=>u.keep b o e n hb #[2]) (λb o _ hb _ e n=>u.slot b o e n hb #[2]) (λb o _ e n=>u.free b o e n #[2]) (λb o _ e=>u.there b o e #[2]) u.tups u.frzs u.tbls (λm' hm=>by
  obtain⟨o',es',kA,bu,r'⟩:=hm;rw[ho]at bu;cases bu;exact⟨_,es',kA,hL,r'⟩) hok I.bare
theorem Inv.call{g':Array VP}{t':Nat}{d':VQ}{ch:List Vh}(I:Inv X aa σ H s)(u:Un (frs X.stack) ch H H' s.heap h')(hok:HOk X.prog X.w H' h')(hg:VH g')
 (cM:∀ b∈ch,(b∈X.ex\/X.s₀.heap.objs.size<=b)/\b≠X.env.locals/\(∀ x c,X.env.cells.lookup x=some c->c≠b)/\∀ p∈X.pn++aa,p.1≠b) :
 Inv X aa σ H' { s with heap:=h',gens:=g',drawn:=d',toks:=t' }:=by
 obtain⟨m,⟨o,es,ep,ho,r⟩,_⟩:=id I.loc;obtain⟨sl,hL⟩:=u.any ho I.free λz=>(cM _ z).2.1 rfl
 exact I.step (ch:=ch) cM (λb o hL hb hc e n=>u.keep b o e n (λz=>(mem_cons.mp (I.stkSub b z)).elim hL hb) hc) (λb o _ _ hc e n=>u.any e n hc) (λb o hc e n=>u.free b o e n hc) (λb o hc e=>u.there b o e hc) u.tups u.frzs u.tbls (λm' hm=>by
  obtain⟨o',es',kA,bu,r'⟩:=hm;rw[ho]at bu;cases bu;exact⟨_,es',kA,hL,r'⟩) hok hg
theorem Inv.turned{t':Nat}{it:Vh}(I:Inv X aa σ H s)(k:∀ b o,b≠it->s.heap.get? b=some o->h'.get? b=some o)(hn:H it=Vo)(hL:it≠X.env.locals)
 (h1:it∈X.ex\/X.s₀.heap.objs.size<=it) (h2:∀ x c,X.env.cells.lookup x=some c->c≠it) (h3:∀ p∈X.pn++aa,p.1≠it):Inv X aa σ H { s with heap:=h',toks:=t' }:=by
 have dS:∀ b u,H b=some u->b≠it:=λb u e z=>by rw[z,hn]at e;cases e
 refine I.step (g':=s.gens) (d':=s.drawn) (ch:=[it]) (λb hb=>?_) (λb o _ _ hc e _=>k b o (λz=>hc (by simp[z])) e) (λb o _ _ hc e _=>⟨o.slots,k b o (λz=>hc (by simp[z])) e⟩) (λ_ _ _ _ n=>n)
  (λb o hc e=>⟨o,k b o (λz=>hc (by simp[z])) e⟩) (λ_ _ e=>e) (λ_ _ _ e=>e) (λb ps e=>⟨#[],by rw[e];simp⟩) (λm hm=>?_) (λb u e=>?_) I.bare
 ·have e:b=it:=by simpa using hb
  subst e;exact⟨h1,hL,h2,h3⟩
 ·obtain⟨o,es,ep,ho,r⟩:=hm
  exact⟨o,es,ep,k _ o (VR hL) ho,r⟩
 ·refine(I.hok b u e).stay (λc v hc q=>k c v ?_ q) (λ_ q=>q) λ_ _ q=>q
  rcases hc with z | z
  ·rw[z];exact dS b u e
  ·exact dS c _ z
theorem Inv.tok(I:Inv X aa σ H s)(t:Nat):Inv X aa σ H { s with toks:=t }:=I.un (h':=s.heap) (t':=t) Un.refl I.hok
theorem Inv.kept{t':Nat}(I:Inv X aa σ H s)(k:∀ b u,s.heap.get? b=some u->h'.get? b=some u):Inv X aa σ H { s with heap:=h',toks:=t' }:=I.un (Un.kept k) (I.hok.kept k)
theorem Inv.laid{a:Vh}{o:HO}{t':Nat}(I:Inv X aa σ H s)(k:∀ b u,s.heap.get? b=some u->h'.get? b=some u)(hp:s.heap.objs.size<=a)(new:QC X.prog X.w (upd H a o) h' a o) :
 Inv X aa σ (upd H a o) { s with heap:=h',toks:=t' }:=I.un (Un.laid k hp (I.hok.fresh hp)) (I.hok.laid k hp new)
theorem Inv.write{x e:Vh}{o:HO}{t':Nat}(I:Inv X aa σ H s)(mu:Mut (H x))(he:e=x\/H e=some (.own x))(k:∀ b u,b≠e->s.heap.get? b=some u->h'.get? b=some u)(gP:∃ u,h'.get? e=some u)
 (new:QC X.prog X.w (upd H x o) h' x o):Inv X aa σ (upd H x o) { s with heap:=h',toks:=t' }:=I.un (Un.write mu he k gP) (I.hok.write mu he k gP new)
theorem Inv.pins_of{eV:YP_}(I:Inv X aa σ H s)(h:∀ p∈eV,s.heap.get? p.1=some p.2/\H p.1=Vo/\p.1≠X.env.locals/\p.1∉X.fs/\∀ v,p.2.data≠.cell v):Inv X eV σ H s :=
 ⟨I.ok,I.os,I.bare,I.base,I.loc,I.cell,I.free,I.freeC,λp hp=>(mem_append.mp hp).elim (λz=>I.pin p (VS _ z)) (h p),I.hok,I.len⟩
theorem QJb{N:List Str}(hN:N.Nodup){i j:Nat}{x:Str}(a:N[i]?=some x)(b:N[j]?=some x):i=j:=by
 obtain⟨h1,e1⟩:=List.getElem?_eq_some_iff.mp a
 obtain⟨h2,e2⟩:=List.getElem?_eq_some_iff.mp b
 exact(getElem_inj hN).mp (e1.trans e2.symm)
theorem Xca{M:VT}{A:VF}{E:YQ_}{i:Nat}{x:Str}{v:V}{u:Va}{Q:Unit->VG->Prop}(I:Inv X aa σ H s)(hN:X.N.Nodup)(hi:X.N[i]?=some x)(hx:Loc X.env.scope x)(r:Qq v u)
 (h:∀ s',Inv X aa (σ.set i (some v)) H s'->(∃ a,VU a s.heap s'.heap/\(a=X.env.locals\/X.env.cells.lookup x=some a))->Q () s') (hf:X.fn x=true\/X.env.scope.names.lookup x=some .local:=by first | exact .inl rfl | exact .inr rfl | assumption):VV M A (storeName X.env x u) Q E s:=by
 obtain⟨m,hn,hl⟩:=id I.loc;have lM:(X.env.scope.kind == .class || (X.env.scope.kind == .module && X.env.locals != X.env.globals))=false:=by rw[I.ok.kind];rfl
 have pI:i < σ.length:=by rw[I.len];exact(List.getElem?_eq_some_iff.mp hi).1
 have cne:=I.cne;have ck:∀ {a:Vh} {h':Vp},(∃ o,s.heap.get? a=some o/\H a=Vo)->VU a s.heap h'->HOk X.prog X.w H h':=λ{a h'} ha hs b ob e=>by
  obtain⟨_,_,eW⟩:=ha;refine(I.hok b ob e).stay (λc w' hc q=>(hs.2 c ?_).trans q) (λ_ q=>q) λ_ _ q=>q
  rintro rfl
  rcases hc with rfl | hc
  ·rw[eW]at e;cases e
  ·rw[eW]at hc;cases hc
 rcases hx with hk | hk
 ·refine wpAny_storeName_local hk hn (λh' eX hs=>?_) lM
  obtain⟨oL,_,_,a8,_⟩:=id hn;refine h _ ⟨I.ok,I.os,I.bare,⟨λb o e n hb hx=>?_,λb o e n hb hx=>?_,I.base.free,λb o e hx=>?_,I.base.tups,I.base.frzs,I.base.tbls⟩,⟨_,eX,λj y v' e1 e2 e3=>?_⟩,λy c e=>?_,I.free,I.freeC,λp hp=>?_,ck ⟨oL,a8,I.free⟩ hs,by simpa using I.len⟩ ⟨_,hs,.inl rfl⟩
  ·exact(hs.2 b (VA (Vy (Vx e) I.ok.above))).trans (I.base.keep b o e n hb hx)
  ·obtain⟨sl,e1⟩:=I.base.slot b o e n hb hx
   exact⟨sl,(hs.2 b (VA (Vy (Vx e) I.ok.above))).trans e1⟩
  ·obtain⟨o',e1⟩:=I.base.there b o e hx
   exact⟨o',(hs.2 b (VA (Vy (Vx e) I.ok.above))).trans e1⟩
  ·by_cases hj:j=i
   ·subst hj
    rw[hi]at e1;cases e1;rw[getElem?_set_self pI]at e2
    cases e2;exact⟨u,r,.inl ⟨hk,by simp⟩⟩
   ·rw[getElem?_set_ne (VR hj)]at e2
    obtain⟨u',r',q⟩:=hl j y v' e1 e2 e3;refine⟨u',r',?_⟩
    rcases q with ⟨k,e⟩ | ⟨k,c,e,z⟩
    ·refine .inl ⟨k,?_⟩
     have:y≠x:=λe=>hj (QJb hN e1 (e ▸ hi))
     simp[this,e]
    ·exact .inr ⟨k,c,e,z.sameBut hs (cne y c e)⟩
  ·obtain⟨w',z⟩:=I.cell y c e
   exact⟨w',z.sameBut hs (cne y c e)⟩
  ·obtain⟨e,n,ne,nf,d⟩:=I.pin p hp
   exact⟨(hs.2 p.1 ne).trans e,n,ne,nf,d⟩
 ·have dU:X.fn x=true:=by
   rcases hf with z | z
   ·exact z
   ·rw[z]at hk;cases hk
  obtain⟨c,hc⟩:=I.ok.has x (.inl hk);obtain⟨w',z⟩:=I.cell x c hc;refine wpAny_storeName_cell I.ok.kind hk hc z (λh' cZ hs=>?_)
  obtain⟨oc,pJ,lN⟩:=id z;refine h { s with heap:=h' } ⟨I.ok,I.os,I.bare,⟨λb o e n hb hx=>?_,λb o e n hb hx=>?_,I.base.free,λb o e hx=>?_,I.base.tups,I.base.frzs,I.base.tbls⟩,⟨m,hn.sameBut hs (VR (cne x c hc)),λj y v' e1 e2 e3=>?_⟩,λy c' e=>?_,I.free,I.freeC,λp hp=>?_,ck ⟨oc,pJ,I.freeC x c hc⟩ hs,by simpa using I.len⟩ ⟨c,hs,.inr hc⟩
  ·exact(hs.2 b (VA (Vy (Vx e) (I.ok.cab x c dU hc)))).trans (I.base.keep b o e n hb hx)
  ·obtain⟨sl,e1⟩:=I.base.slot b o e n hb hx
   exact⟨sl,(hs.2 b (VA (Vy (Vx e) (I.ok.cab x c dU hc)))).trans e1⟩
  ·obtain⟨o',e1⟩:=I.base.there b o e hx
   exact⟨o',(hs.2 b (VA (Vy (Vx e) (I.ok.cab x c dU hc)))).trans e1⟩
  ·by_cases hj:j=i
   ·subst hj
    rw[hi]at e1;cases e1;rw[getElem?_set_self pI]at e2
    cases e2;exact⟨u,r,.inr ⟨.inl hk,c,hc,cZ⟩⟩
   ·rw[getElem?_set_ne (VR hj)]at e2
    obtain⟨u',r',q⟩:=hl j y v' e1 e2 e3;refine⟨u',r',?_⟩
    rcases q with q | ⟨k,c',e,z'⟩
    ·exact .inl q
    ·refine .inr ⟨k,c',e,z'.sameBut hs ?_⟩
     rintro rfl;exact hj (QJb hN e1 (I.ok.inj _ _ _ e hc ▸ hi))
  ·by_cases hcc:c'=c
   ·subst hcc;exact⟨_,cZ⟩
   ·obtain⟨w2,z2⟩:=I.cell y c' e
    exact⟨w2,z2.sameBut hs hcc⟩
  ·obtain⟨e,n,ne,nf,d⟩:=I.pin p hp
   refine⟨(hs.2 p.1 ?_).trans e,n,ne,nf,d⟩
   intro q;rw[q,pJ]at e;have q':oc=p.2:=Vq e;exact d w' (by rw[<- q'];exact lN)
theorem QKb{M:VT}{A:VF}{E:YQ_}{i:Nat}{x:Str}{v:V}{u:Va}{Q:Unit->VG->Prop}(I:Inv X aa σ H s)(hN:X.N.Nodup)(hi:X.N[i]?=some x)(hx:Loc X.env.scope x)(r:Qq v u)
 (h:∀ s',Inv X aa (σ.set i (some v)) H s'->Q () s') (hf:X.fn x=true\/X.env.scope.names.lookup x=some .local:=by first | exact .inl rfl | exact .inr rfl | assumption):VV M A (storeName X.env x u) Q E s :=
 Xca I hN hi hx r (λs' I' _=>h s' I') hf
theorem Inv.call'{s':VG}{ch:List Vh}(I:Inv X aa σ H s)(ho:s'.os=s.os)(u:Un (frs X.stack) ch H H' s.heap s'.heap)(hok:HOk X.prog X.w H' s'.heap)(hg:VH s'.gens)
 (cM:∀ b∈ch,(b∈X.ex\/X.s₀.heap.objs.size<=b)/\b≠X.env.locals/\(∀ x c,X.env.cells.lookup x=some c->c≠b)/\∀ p∈X.pn++aa,p.1≠b):Inv X aa σ H' s':=by
 obtain⟨h',g',d',t',o'⟩:=s';have e:o'=s.os:=ho;subst e;exact I.call (g':=g') (t':=t') (d':=d') u hok hg cM
end
abbrev XK:=Va->Option Vh->Hp->Prop
abbrev St:=List (Option V)
abbrev VK:=V->Hp->Prop
abbrev TE:=St->Hp->VK->Prop
abbrev TT:=St->Hp->(Bool->Hp->Prop)->Prop
abbrev TA:=St->Hp->(List V->Hp->Prop)->Prop
structure Jg where
 nx:St->Hp->Prop
 rt:VK
 bk:St->Hp->Prop:=λ_ _=>False
 ct:St->Hp->Prop:=λ_ _=>False
abbrev TS:=Jg->St->Hp->Prop
inductive EP(X:Cx)(aa:YP_)(σ:St)(Q:VK)(u:Va)(s':VG):Prop
 | mk (v:V) (H':Hp) (i:Inv X aa σ H' s') (r:Qq v u) (q:Q v H'):EP X aa σ Q u s'
inductive TP(X:Cx)(aa:YP_)(σ:St)(Q:Bool->Hp->Prop)(b:Bool)(s':VG):Prop
 | mk (H':Hp) (i:Inv X aa σ H' s') (q:Q b H'):TP X aa σ Q b s'
inductive AP(X:Cx)(aa:YP_)(σ:St)(Q:List V->Hp->Prop)(us:List Va)(s':VG):Prop
 | mk (vs:List V) (H':Hp) (i:Inv X aa σ H' s') (r:Qt vs us) (q:Q vs H'):AP X aa σ Q us s'
def SP(X:Cx)(aa:YP_)(D:Jg)(f:Flow)(s':VG):Prop :=
 match f with
 | .next=>∃ σ' H',Inv X aa σ' H' s'/\D.nx σ' H'
 | .brk=>∃ σ' H',Inv X aa σ' H' s'/\D.bk σ' H'
 | .cont=>∃ σ' H',Inv X aa σ' H' s'/\D.ct σ' H'
 | .ret u=>∃ v σ' H',Inv X aa σ' H' s'/\Qq v u/\D.rt v H'
def PE(X:Cx)(e:Expr)(t:TE):Prop :=
 ∀ (aa:YP_) (s:VG) (σ:St) (H:Hp) (Q:VK),Inv X aa σ H s->t σ H Q->VV (VW X.prog X.w) X.A (VX e X.env) (EP X aa σ Q) X.xe s
def PT(X:Cx)(e:Expr)(t:TT):Prop :=
 ∀ (aa:YP_) (s:VG) (σ:St) (H:Hp) (Q:Bool->Hp->Prop),Inv X aa σ H s->t σ H Q->VV (VW X.prog X.w) X.A (isTrue e X.env (VX e X.env)) (TP X aa σ Q) X.xe s
def PW(X:Cx)(e:Expr)(t:TT):Prop :=
 ∀ (bd:Sem Va) (aa:YP_) (s:VG) (σ:St) (H:Hp) (Q:Bool->Hp->Prop),Inv X aa σ H s->t σ H Q->VV (VW X.prog X.w) X.A (isTrue e X.env bd) (TP X aa σ Q) X.xe s
theorem PW.pt{X:Cx}{e:Expr}{t:TT}(h:PW X e t):PT X e t:=h _
def PA(X:Cx)(es:List Expr)(t:TA):Prop :=
 ∀ (pos:Pos) (aa:YP_) (s:VG) (σ:St) (H:Hp) (Q:List V->Hp->Prop),Inv X aa σ H s->t σ H Q->VV (VW X.prog X.w) X.A (spliced (VY pos (VZ es X.env))) (AP X aa σ Q) X.xe s
def PS(X:Cx)(st:V0)(t:TS):Prop :=
 ∀ (aa:YP_) (s:VG) (σ:St) (H:Hp) (D:Jg),Inv X aa σ H s->t D σ H->VV (VW X.prog X.w) X.A (exec st X.env) (SP X aa D) X.xe s
def PSs(X:Cx)(st:List V0)(t:TS):Prop :=
 ∀ (aa:YP_) (s:VG) (σ:St) (H:Hp) (D:Jg),Inv X aa σ H s->t D σ H->VV (VW X.prog X.w) X.A (execs st X.env) (SP X aa D) X.xe s
theorem thn{α:Type}{t:Sem α}{Q Q':α->VG->Prop}{M:VT}{A:VF}{E:YQ_}{s:VG}(h:VV M A t Q E s)(hQ:∀ a s,Q a s->Q' a s):VV M A t Q' E s:=V1 h hQ λ_ _ x=>x
section
variable{X:Cx}
def JC(i:Nat):TE:=λσ H Q=>match σ[i]? with | some (some v)=>Q v H | _=>False
theorem Z0c{i:Nat}{σ:St}{H:Hp}{Q:VK}(h:JC i σ H Q):∃ v,σ[i]?=some (some v)/\Q v H:=by
 unfold JC at h
 split at h
 ·exact⟨_,‹_›,h⟩
 ·exact h.elim
theorem Qba{i:Nat}{σ:St}{H:Hp}{Q:VK}{v:V}(e:σ[i]?=some (some v))(q:Q v H):JC i σ H Q:=by
 unfold JC;rw[e];exact q
theorem ZTb{σ:St}{H:Hp}{Q:VK}{v:V}:JC 0 (some v::σ) H Q=Q v H:=rfl
theorem ZUb{σ:St}{H:Hp}{Q:VK}{i:Nat}{x:Option V}:JC (i+1) (x::σ) H Q=JC i σ H Q:=rfl
def tC(v:V):TE:=λ_ H Q=>Q v H
theorem YQc{i:Nat}{x:Str}{pos:Pos}(hN:X.N[i]?=some x)(hv:Vis X.env.scope x)(hd:(x == ("__debug__":Str))=false:=by decide)(bG:(x == ("__classdict__":Str))=false:=by decide):PE X (.Name x pos) (JC i):=by
 intro aa s σ H Q I h;obtain⟨v,e,h⟩:=Z0c h;obtain⟨m,hn,hl⟩:=I.loc;obtain⟨u,r,l⟩:=hl i x v hN e hv;have fin:EP X aa σ Q u s:=⟨v,H,I,r,h⟩
 rcases l with ⟨hk,hm⟩ | ⟨hk,c,hc,eY⟩
 ·exact wpAny_Name (wpAny_loadName_local I.ok.kind hk hn hm fin) hd
 ·rcases hk with hk | hk
  ·exact wpAny_Name (wpAny_loadName_cell I.ok.kind hk hc eY fin) hd
  ·exact wpAny_Name (wpAny_loadName_free I.ok.kind hk hc eY fin bG) hd
theorem Qc{i j pos}:PE X (.Constant (.int i) j pos) (tC (.int i)):=λ_ _ _ H _ I h=>wpAny_Constant_int ⟨.int i,H,I.tok _,⟨_,rfl⟩,h⟩
theorem Qpa{b j pos}:PE X (.Constant (.bool b) j pos) (tC (.bl b)):=λ_ _ _ H _ I h=>Constant_bool ⟨.bl b,H,I,rfl,h⟩
theorem ZG{j pos}:PE X (.Constant .none j pos) (tC .non):=λ_ _ _ H _ I h=>Constant_none ⟨.non,H,I,rfl,h⟩
theorem Jm{x j pos}:PE X (.Constant (.str x) j pos) (tC (.str x)):=λ_ _ _ H _ I h=>Calls.Constant_str ⟨.str x,H,I.tok _,⟨_,rfl⟩,h⟩
def Gl(X:Cx)(x:Str):Prop:=X.env.kindOf x=some .globalImplicit
theorem Ye{E:YQ_}{aa:YP_}{s:VG}{σ:St}{H:Hp}{x:Str}{u:Va}{pos:Pos}{Q:YQ_}(I:Inv X aa σ H s)(hg:Gl X x)(hm:X.mg x=some u)(h:Q u s)
 (hd:(x == ("__debug__":Str))=false:=by decide):VV (VW X.prog X.w) X.A (VX (.Name x pos) X.env) Q E s :=
 Calls.Name_function_global I.ok.kind hg (Calls.loadGlobal_global (by rw[I.ok.glob];exact I.mod.glob.keeps I.bk) hm h) hd
theorem YS{E:YQ_}{aa:YP_}{s:VG}{σ:St}{H:Hp}{x:Str}{u:Va}{pos:Pos}{Q:YQ_}(I:Inv X aa σ H s)(hg:Gl X x)(hm:X.mg x=Vo)(hv:VE x=some u)(h:Q u s)
 (hn:x≠"__name__":=by decide) (hd:(x == ("__debug__":Str))=false:=by decide):VV (VW X.prog X.w) X.A (VX (.Name x pos) X.env) Q E s:=by
 obtain⟨mb,h1,h2⟩:=I.mod.blt;exact Calls.Name_function_global I.ok.kind hg (Calls.loadGlobal_builtin (by rw[I.ok.glob];exact I.mod.glob.keeps I.bk) hm (by rw[I.ok.blt];exact h1.keeps I.bk) ((h2 x hn).trans hv) h) hd
theorem JZb{x:Str}{v:V}{u:Va}{pos:Pos}(hg:Gl X x)(hm:X.mg x=some u)(r:Qq v u)(hd:(x == ("__debug__":Str))=false:=by decide):PE X (.Name x pos) (tC v) :=
 λ_ _ _ H _ I h=>Ye I hg hm ⟨v,H,I,r,h⟩ hd
theorem Qca{x:Str}{v:V}{u:Va}{pos:Pos}(hg:Gl X x)(hm:X.mg x=Vo)(hv:VE x=some u)(r:Qq v u)(hn:x≠"__name__":=by decide)(hd:(x == ("__debug__":Str))=false:=by decide):PE X (.Name x pos) (tC v) :=
 λ_ _ _ H _ I h=>YS I hg hm hv ⟨v,H,I,r,h⟩ hn hd
variable{a b:Expr}{ta tb:TE}{pos:Pos}
def PC(X:Cx)(op:CmpOp)(a b:Expr)(t:TE):Prop :=
 ∀ (aa:YP_) (s:VG) (σ:St) (H:Hp) (Q:VK),Inv X aa σ H s->t σ H Q ->
  VV (VW X.prog X.w) X.A (VX a X.env) (λv s₁=>VV (VW X.prog X.w) X.A (VX b X.env) (λu s₂=>VV (VW X.prog X.w) X.A (V2 op v u) (EP X aa σ Q) X.xe s₂) X.xe s₁) X.xe s
def tB(t:TE):TT:=λσ H Q=>t σ H λx H1=>∃ c,x=.bl c/\Q c H1
theorem ZVb{op:CmpOp}{t:TE}(h:PC X op a b t)(h1:V3 op b=false:=by first | exact nobehind _ #[1] #[1] | rfl):PT X (.Compare a [op] [b] pos) (tB t):=by
 intro aa s σ H Q I hw;refine wpAny_isTrue_Compare1 (thn (h aa s σ H _ I hw) λv s1 h1=>thn h1 λu s2 h2=>thn h2 λc s3 hZ=>?_) h1
 obtain⟨x,H1,I1,r1,q1⟩:=hZ;obtain⟨d,rfl,q⟩:=q1;cases r1;exact V4 ⟨H1,I1,q⟩
theorem Zr{e:Expr}{t:TE}(h:PE X e t)(he:∀ bd,isTrue e X.env bd=(do let v <- bd;V5 e.pos;V6 [v] (truthy v)):=by intro _;rfl):PT X e (tB t):=by
 intro aa s σ H Q I hw;refine isTrue_plain (thn (h aa s σ H _ I hw) λv s1 hZ=>?_) (he _)
 obtain⟨x,H1,I1,r1,q1⟩:=hZ;obtain⟨d,rfl,q⟩:=q1;cases r1;exact V4 ⟨H1,I1,q⟩
variable{tA ix:TT}{rest:List Expr}
def X1c(t u:TT):TT:=λσ H Q=>t σ H λc H1=>if c=true then u σ H1 Q else Q false H1
def tOr(t u:TT):TT:=λσ H Q=>t σ H λc H1=>if c=true then Q true H1 else u σ H1 Q
def X2c(t:TT):TT:=λσ H Q=>t σ H λc H1=>Q (!c) H1
theorem XRa(ha:PT X a tA):PW X (.BoolOp .And [a] pos) tA:=by
 intro wh aa s σ H Q I h;refine isTrue_and (thn (ha aa s σ H Q I h) λc s1 e=>?_)
 cases c with
 | true=>exact isTrue_and_nil e
 | false=>exact e
theorem XA(ha:PT X a tA):PW X (.BoolOp .Or [a] pos) tA:=by
 intro wh aa s σ H Q I h;refine isTrue_or (thn (ha aa s σ H Q I h) λc s1 e=>?_)
 cases c with
 | false=>exact isTrue_or_nil e
 | true=>exact e
theorem ZWb(ha:PT X a tA)(hb:PW X (.BoolOp .And (b::rest) pos) ix):PW X (.BoolOp .And (a::b::rest) pos) (X1c tA ix):=by
 intro wh aa s σ H Q I h;refine isTrue_and (thn (ha aa s σ H _ I h) λc s1 hZ=>?_)
 obtain⟨H1,I1,q1⟩:=hZ;cases c with
 | true=>exact hb wh aa s1 σ H1 Q I1 q1
 | false=>exact⟨H1,I1,q1⟩
theorem Z8a(ha:PT X a tA)(hb:PW X (.BoolOp .Or (b::rest) pos) ix):PW X (.BoolOp .Or (a::b::rest) pos) (tOr tA ix):=by
 intro wh aa s σ H Q I h;refine isTrue_or (thn (ha aa s σ H _ I h) λc s1 hZ=>?_)
 obtain⟨H1,I1,q1⟩:=hZ;cases c with
 | true=>exact⟨H1,I1,q1⟩
 | false=>exact hb wh aa s1 σ H1 Q I1 q1
theorem ZN(ha:PT X a tA):PT X (.UnaryOp .Not a pos) (X2c tA):=by
 intro aa s σ H Q I h;exact isTrue_not (thn (ha aa s σ H (λc H1=>Q (!c) H1) I h) λ_ _ hZ=>by obtain⟨H1,I1,q1⟩:=hZ;exact⟨H1,I1,q1⟩)
def Ykc(ta tb:TE):TE:=λσ H Q=>ta σ H λx H1=>∃ c,x=.bl c/\if c=true then tb σ H1 Q else Q (.bl false) H1
theorem XSb{op}{t:TE}(h:PE X a t):PE X (.BoolOp op [a] pos) t:=λaa s σ H Q I hw=>BoolOp_one (h aa s σ H Q I hw)
theorem XTb(ha:PE X a ta)(hb:PE X (.BoolOp .And (b::rest) pos) tb):PE X (.BoolOp .And (a::b::rest) pos) (Ykc ta tb):=by
 intro aa s σ H Q I h;refine BoolOp_and (thn (ha aa s σ H _ I h) λv s1 hZ=>?_)
 obtain⟨x,H1,I1,r1,q1⟩:=hZ;obtain⟨c,rfl,q1⟩:=q1;cases r1;refine V4 ?_
 cases c with
 | true=>exact hb aa s1 σ H1 Q I1 q1
 | false=>exact⟨.bl false,H1,I1,rfl,q1⟩
def tIf(t:TT)(ta tb:TE):TE:=λσ H Q=>t σ H λc H1=>if c=true then ta σ H1 Q else tb σ H1 Q
theorem QLb{c:Expr}(hc:PT X c tA)(ha:PE X a ta)(hb:PE X b tb):PE X (.IfExp c a b pos) (tIf tA ta tb):=by
 intro aa s σ H Q I h;refine wpAny_IfExp (thn (hc aa s σ H _ I h) λd s1 hZ=>?_)
 obtain⟨H1,I1,q1⟩:=hZ;cases d with
 | true=>exact ha aa s1 σ H1 Q I1 q1
 | false=>exact hb aa s1 σ H1 Q I1 q1
end
def SqL(K:VC)(H:Hp)(a:Vh)(xs:List V):Prop :=
 Rd H a (.lst xs) \/
  ∃ (o:Obj) (ah:Array Va) (n:Nat),K.lookup a=some o/\o.cls=.type "list"/\o.dict=Vo/\o.data=.seq ah n/\ah.size<=Vr/\Qt xs ah.toList
def SqT(K:VC)(H:Hp)(a:Vh)(xs:List V):Prop :=
 Rd H a (.tup xs) \/
  ∃ (o:Obj) (ah:Array Va) (n:Nat),K.lookup a=some o/\o.cls=.type "tuple"/\o.data=.seq ah n/\ah.size<=Vr/\Qt xs ah.toList
def QKd:Va->Option V
 | .none=>some .non
 | .bool b=>some (.bl b)
 | .int i _=>some (.int i)
 | .str x _=>some (.str x)
 | .bytes b _=>some (.byt b)
 | .float b _=>some (.flt b)
 | .ref a=>some (.ref a)
 | .type n=>some (.ty n)
 | _=>Vo
theorem Qq.abs{x:V}{u:Va}(r:Qq x u):QKd u=some x:=by
 cases x with
 | non=>cases r;rfl
 | bl _=>cases r;rfl
 | int _=>obtain⟨t,rfl⟩:=r;rfl
 | str _=>obtain⟨t,rfl⟩:=r;rfl
 | byt _=>obtain⟨t,rfl⟩:=r;rfl
 | flt _=>obtain⟨t,rfl⟩:=r;rfl
 | ref _=>cases r;rfl
 | ty _=>cases r;rfl
theorem Qq.inj{x y:V}{u:Va}(r:Qq x u)(q:Qq y u):x=y:=Vq (r.abs.symm.trans q.abs)
theorem Qt.inj:∀ {xs ys:List V} {us:List Va},Qt xs us->Qt ys us->xs=ys
 | _,_,_,.nil,.nil=>rfl
 | _,_,_,.cons r t,.cons r' t'=>by rw[r.inj r',Qt.inj t t']
section
variable{X:Cx}{aa:YP_}{σ:St}{H:Hp}{s:VG}{a:Vh}{xs ys:List V}
theorem SqL.of{K:VC}(h:H a=some (.lst xs)):SqL K H a xs:=.inl (.inl h)
theorem SqT.of{K:VC}(h:H a=some (.tup xs)):SqT K H a xs:=.inl (.inl h)
theorem Inv.list(I:Inv X aa σ H s)(h:SqL X.K H a xs):∃ ah:List Va,Qt xs ah/\PlainL s.heap a ah.toArray/\xs.length<=Vr:=by
 rcases h with h | ⟨o,ah,n,hk,hc,hd,hs,hz,r⟩
 ·obtain⟨z,ah,n,r,e⟩:=h.ok I.hok
  exact⟨ah,r,⟨_,n,e,rfl,rfl,rfl⟩,z⟩
 ·refine⟨ah.toList,r,⟨o,n,I.kIn a o hk,hc,hd,by simpa using hs⟩,?_⟩
  have e:=r.length;simp only[V7]at e
  lia
theorem Inv.tuple(I:Inv X aa σ H s)(h:SqT X.K H a xs):∃ ah:List Va,Qt xs ah/\Vs s.heap a ah.toArray/\xs.length<=Vr:=by
 rcases h with h | ⟨o,ah,n,hk,hc,hs,hz,r⟩
 ·obtain⟨⟨z,_⟩,ah,r,p⟩:=h.ok I.hok
  exact⟨ah,r,p,z⟩
 ·refine⟨ah.toList,r,⟨o,I.kIn a o hk,hc,n,by simpa using hs⟩,?_⟩
  have e:=r.length;simp only[V7]at e
  lia
theorem Inv.list_inj(I:Inv X aa σ H s)(h:SqL X.K H a xs)(h':SqL X.K H a ys):xs=ys:=by
 obtain⟨ah,r,⟨o,n,e,_,_,d⟩,_⟩:=I.list h;obtain⟨its',r',⟨o',n',e',_,_,d'⟩,_⟩:=I.list h';rw[e]at e';cases e';rw[d]at d';injection d' with d1 _
 have:ah=its':=by simpa using congrArg Array.toList d1
 subst this;exact r.inj r'
theorem Inv.tuple_inj(I:Inv X aa σ H s)(h:SqT X.K H a xs)(h':SqT X.K H a ys):xs=ys:=by
 obtain⟨ah,r,⟨o,e,_,n,d⟩,_⟩:=I.tuple h;obtain⟨its',r',⟨o',e',_,n',d'⟩,_⟩:=I.tuple h';rw[e]at e';cases e';rw[d]at d';injection d' with d1 _
 have:ah=its':=by simpa using congrArg Array.toList d1
 subst this;exact r.inj r'
end
abbrev Cx.wish(X:Cx)(E:YQ_):Cx:={ X with xe:=E }
abbrev Cx.nox(X:Cx):Cx:=X.wish λ_ _=>False
theorem Cx.Ok.wish{X:Cx}(ok:X.Ok)(E:YQ_):(X.wish E).Ok :=
 ⟨ok.mod,ok.kind,ok.glob,ok.blt,ok.above,ok.inj,ok.has,ok.cab,ok.hd,ok.frames,ok.stk,ok.exf,ok.bs,ok.bsz,ok.noex,ok.exfs,ok.funs,ok.frf⟩
theorem Cx.Ok.unwish{X:Cx}{E:YQ_}(ok:(X.wish E).Ok):X.Ok :=
 ⟨ok.mod,ok.kind,ok.glob,ok.blt,ok.above,ok.inj,ok.has,ok.cab,ok.hd,ok.frames,ok.stk,ok.exf,ok.bs,ok.bsz,ok.noex,ok.exfs,ok.funs,ok.frf⟩
section
variable{X:Cx}{aa:YP_}{σ:St}{H:Hp}{s:VG}{E:YQ_}
theorem Inv.wish(I:Inv X aa σ H s)(E:YQ_):Inv (X.wish E) aa σ H s:=⟨I.ok.wish E,I.os,I.bare,I.base,I.loc,I.cell,I.free,I.freeC,I.pin,I.hok,I.len⟩
theorem Inv.unwish(I:Inv (X.wish E) aa σ H s):Inv X aa σ H s:=⟨I.ok.unwish,I.os,I.bare,I.base,I.loc,I.cell,I.free,I.freeC,I.pin,I.hok,I.len⟩
theorem SP.unwish{D:Jg}{f:Flow}{s':VG}(h:SP (X.wish E) aa D f s'):SP X aa D f s':=by
 cases f with
 | next=>obtain⟨σ',H',I,q⟩:=h;exact⟨σ',H',I.unwish,q⟩
 | brk=>obtain⟨σ',H',I,q⟩:=h;exact⟨σ',H',I.unwish,q⟩
 | cont=>obtain⟨σ',H',I,q⟩:=h;exact⟨σ',H',I.unwish,q⟩
 | ret u=>obtain⟨v,σ',H',I,r,q⟩:=h;exact⟨v,σ',H',I.unwish,r,q⟩
theorem PSs.nox{st:List V0}{t:TS}(h:PSs X.nox st t):PSs X st t:=λaa s σ H D I hw =>
 V1 (h aa s σ H D (I.wish _) hw) (λ_ _ q=>q.unwish) λ_ _ z=>V8 z
end
section
variable{X:Cx}{st:V0}{rest:List V0}{t u:TS}{e:Expr}{te:TE}{pos:Pos}
def Ylc:TS:=λD σ H=>D.nx σ H
def ZEa(t u:TS):TS:=λD σ H=>t { D with nx:=u D } σ H
theorem Qs:PSs X [] Ylc:=λ_ _ σ H _ I h=>V9 ⟨σ,H,I,h⟩
theorem Qb(h1:PS X st t)(h2:PSs X rest u):PSs X (st::rest) (ZEa t u):=by
 intro aa s σ H D I h;refine wpAny_execs_cons (thn (h1 aa s σ H { D with nx:=u D } I h) λf s1 q=>?_)
 cases f with
 | next =>
  obtain⟨σ',H',I',q⟩:=q;exact h2 aa s1 σ' H' D I' q
 | ret v=>exact q
 | brk=>exact q
 | cont=>exact q
theorem Qe(h1:PS X st t):PSs X [st] t:=by
 intro aa s σ H D I h;refine wpAny_execs_cons (thn (h1 aa s σ H D I h) λf s1 q=>?_)
 cases f with
 | next=>exact V9 q
 | ret v=>exact q
 | brk=>exact q
 | cont=>exact q
theorem Inv.quiet{aa:YP_}{σ:St}{H:Hp}{s:VG}(I:Inv X aa σ H s):interactive X.env=false:=by simp[interactive,I.ok.kind]
def Ymc(te:TE):TS:=λD σ H=>te σ H λ_ H1=>D.nx σ H1
theorem QT(he:PE X e te)(hs:Ua e Vo pos.line X.env=pure false:=by rfl):PS X (.Expr e pos) (Ymc te):=by
 intro aa s σ H D I h;exact wpAny_Expr_any (thn (he aa s σ H _ I h) λv s1 ⟨x,H1,I1,r1,q1⟩=>⟨σ,H1,I1,q1⟩) I.quiet hs
def X3c(te:TE):TS:=λD σ H=>te σ H D.rt
theorem Qp(he:PE X e te):PS X (.Return (some e) pos) (X3c te):=by
 intro aa s σ H D I h;exact wpAny_Return_some (thn (he aa s σ H _ I h) λv s1 ⟨x,H1,I1,r1,q1⟩=>⟨x,σ,H1,I1,r1,q1⟩)
def X4c(c:TT)(t u:TS):TS:=λD σ H=>c σ H λb H1=>if b=true then t D σ H1 else u D σ H1
theorem QN{c:Expr}{a b:List V0}{tc:TT}(hc:PT X c tc)(ha:PSs X a t)(hb:PSs X b u):PS X (.If c a b pos) (X4c tc t u):=by
 intro aa s σ H D I h;refine wpAny_If (thn (hc aa s σ H _ I h) λd s1 hZ=>?_)
 obtain⟨H1,I1,q1⟩:=hZ;cases d with
 | true=>exact ha aa s1 σ H1 D I1 q1
 | false=>exact hb aa s1 σ H1 D I1 q1
end
abbrev TG:=V->St->Hp->(St->Hp->Prop)->Prop
abbrev TGs:=List V->St->Hp->(St->Hp->Prop)->Prop
def PG(X:Cx)(aT:Expr)(t:TG):Prop :=
 ∀ (aa:YP_) (s:VG) (σ:St) (H:Hp) (v:V) (u:Va) (Q:St->Hp->Prop),Inv X aa σ H s->Qq v u->t v σ H Q ->
  VV (VW X.prog X.w) X.A (assign aT X.env u) (λ_ s'=>∃ σ' H',Inv X aa σ' H' s'/\Q σ' H') X.xe s
def PGs(X:Cx)(ts:List Expr)(t:TGs):Prop :=
 ∀ (aa:YP_) (s:VG) (σ:St) (H:Hp) (vs:List V) (us:List Va) (Q:St->Hp->Prop),Inv X aa σ H s->Qt vs us->t vs σ H Q ->
  VV (VW X.prog X.w) X.A (assignInOrder ((assignEach ts X.env).map (·.2)) us) (λ_ s'=>∃ σ' H',Inv X aa σ' H' s'/\Q σ' H') X.xe s
section
variable{X:Cx}{pos:Pos}
def QMb(i:Nat):TG:=λv σ H Q=>Q (σ.set i (some v)) H
theorem Zc{i:Nat}{x:Str}(hN:X.N.Nodup)(hi:X.N[i]?=some x)(hx:Loc X.env.scope x)(hf:X.fn x=true\/X.env.scope.names.lookup x=some .local:=by first | exact .inl rfl | exact .inr rfl | assumption):PG X (.Name x pos) (QMb i):=by
 intro aa s σ H v u Q I r h;exact wpAny_assign_Name (QKb I hN hi hx r (λs' I'=>⟨_,H,I',h⟩) hf)
def YRc(te:TE)(g:TG):TS:=λD σ H=>te σ H λx H1=>g x σ H1 D.nx
theorem YSc{i:Nat}{x:Str}{e:Expr}{te:TE}{aI:Pos}(hN:X.N.Nodup)(hi:X.N[i]?=some x)(hx:Loc X.env.scope x)(he:PE X e te)(hs:Ua e (some (.Name x aI)) pos.line X.env=pure false:=by rfl)(hf:X.fn x=true\/X.env.scope.names.lookup x=some .local:=by first | exact .inl rfl | exact .inr rfl | assumption) :
 PS X (.Assign [.Name x aI] e pos) (YRc te (QMb i)):=by
 intro aa s σ H D I h;refine wpAny_Assign_Name (thn (he aa s σ H _ I h) λv s1 hZ=>?_) hs
 obtain⟨y,H1,I1,r1,q1⟩:=hZ;exact QKb I1 hN hi hx r1 (λs2 I2=>⟨_,H1,I2,q1⟩) hf
end
section
variable{X:Cx}{pos:Pos}
def YTc(c:TT)(tb:TS):TS:=λD σ H=>∃ W:Nat->St->Hp->Prop,(∃ m,W m σ H)/\∀ m σ H,W m σ H ->
 c σ H λb H1=>if b=true then ∃ N:St->Hp->Prop,(∀ σ' H',N σ' H'->∃ m',m' < m/\W m' σ' H')/\tb { D with nx:=N,ct:=N,bk:=D.nx } σ H1 else D.nx σ H1
theorem JBa{c:Expr}{body:List V0}{tc:TT}{tb:TS}(hp:PassesOwn (VW X.prog X.w) X.A X.env X.xe)(hc:PT X c tc)(hb:PSs X body tb):PS X (.While c body [] pos) (YTc tc tb):=by
 intro aa s σ H D I h;obtain⟨W,⟨m0,w0⟩,turn⟩:=h;refine wpAny_While (codeAny_whileLoop (λn s'=>∃ σ' H',Inv X aa σ' H' s'/\W n σ' H') ?_ m0 ⟨σ,H,I,w0⟩)
 rintro n s1 ⟨σ1,H1,I1,w1⟩;refine Ub hp (thn (hc aa s1 σ1 H1 _ I1 (turn n σ1 H1 w1)) λb s2 hZ=>?_)
 obtain⟨H2,I2,q2⟩:=hZ;cases b with
 | true =>
  obtain⟨N,hN,q2⟩:=q2;rw[if_pos rfl];refine Ub hp (thn (hb aa s2 σ1 H2 _ I2 q2) λf s3 q3=>?_)
  cases f with
  | next =>
   obtain⟨σ3,H3,I3,n3⟩:=q3;obtain⟨m',hm,w3⟩:=hN σ3 H3 n3;exact⟨m',hm,σ3,H3,I3,w3⟩
  | cont =>
   obtain⟨σ3,H3,I3,n3⟩:=q3;obtain⟨m',hm,w3⟩:=hN σ3 H3 n3;exact⟨m',hm,σ3,H3,I3,w3⟩
  | brk=>exact q3
  | ret v=>exact q3
 | false =>
  rw[if_neg Uc];exact V9 ⟨σ1,H2,I2,q2⟩
end
structure It where
 go:Nat->Hp->Prop
 yld:Nat->Hp->V->Hp->Prop
 stop:Nat->Hp->Prop
def J1(X:Cx)(aa:YP_)(H:Hp)(b:Vh):Prop :=
 H b=Vo/\b≠X.env.locals/\b∉X.fs/\(b∈X.ex\/X.s₀.heap.objs.size<=b)/\(∀ x c,X.env.cells.lookup x=some c->c≠b)/\∀ p∈X.pn++aa,p.1≠b
theorem Inv.fpOk{X:Cx}{aa:YP_}{σ:St}{H H':Hp}{s:VG}{b:Vh}(I:Inv X aa σ H s)(hb:s.heap.objs.size<=b)(hn:H' b=Vo):J1 X aa H' b:=by
 refine⟨hn,Ud (Vy I.lt hb),I.nofs hb,.inr (VI I.sz hb),λx c e z=>?_,λp hp z=>?_⟩
 ·obtain⟨v,q⟩:=I.cell x c e
  exact absurd (Vy q.lt (by rw[z];exact hb)) (Vz _)
 ·exact absurd (Vy (Vx (I.pin p hp).1) (by rw[z];exact hb)) (Vz _)
structure QNb(P:Vg)(w:Vb)(K:VC)(tg:Expr)(J:It)(fp:List Vh)(it:Vh)(tn:Nat->Vp->Prop):Prop where
 mem:it∈fp
 obj:∀ i h,tn i h->∀ b∈fp,∃ o,h.get? b=some o/\∀ v,o.data≠.cell v
 keep:∀ i h h',tn i h->(∀ b∈fp,∀ o,h.get? b=some o->h'.get? b=some o)->tn i h'
 item:∀ (X:Cx),X.prog=P->X.w=w->X.K=K->X.calm=true->∀ (i:Nat) (aa:YP_) (s:VG) (σ:St) (H:Hp) (E:YQ_),Inv X aa σ H s->(∀ b∈fp,J1 X aa H b)->tn i s.heap->J.go i H ->
  VV (VW P w) X.A (Ue (.ref it)) (λr s1=>∃ u,r=some u /\
   VV (VW P w) X.A (Uf tg (.ref it) u) (λ_ s2=>∃ x H',Inv X aa σ H' s2/\Qq x u/\J.yld i H x H'/\tn (i+1) s2.heap/\∀ b∈fp,H' b=Vo) E s1) E s
 done:∀ (X:Cx),X.prog=P->X.w=w->X.K=K->X.calm=true->∀ (i:Nat) (aa:YP_) (s:VG) (σ:St) (H:Hp) (E:YQ_),Inv X aa σ H s->(∀ b∈fp,J1 X aa H b)->tn i s.heap->J.stop i H ->
  VV (VW P w) X.A (Ue (.ref it)) (λr s1=>r=Vo/\Inv X aa σ H s1) E s
 self:∀ (A:VF) (i:Nat) (s:VG) (Q:YQ_) (E:YQ_),tn i s.heap->Q (.ref it) s->VV (VW P w) A (Ug (.ref it)) Q E s
abbrev TI:=St->Hp->(It->Hp->Prop)->Prop
def PIE(X:Cx)(aa:YP_)(σ:St)(tg:Expr)(R:It->Hp->Prop)(lO:Va)(s2:VG):Prop :=
 ∃ (it:Vh) (fp:List Vh) (tn:Nat->Vp->Prop) (J:It) (H':Hp),lO=.ref it/\Inv X aa σ H' s2/\QNb X.prog X.w X.K tg J fp it tn/\tn 0 s2.heap/\(∀ b∈fp,J1 X aa H' b)/\R J H'
def PI(X:Cx)(tg Uh:Expr)(wi:TI):Prop :=
 ∀ (aa:YP_) (s:VG) (σ:St) (H:Hp) (R:It->Hp->Prop),Inv X aa σ H s->wi σ H R ->
  VV (VW X.prog X.w) X.A (VX Uh X.env) (λv s1=>VV (VW X.prog X.w) X.A (Ug v) (PIE X aa σ tg R) X.xe s1) X.xe s
theorem JCa{M:VT}{A:VF}{E:YQ_}{s:VG}{tg:Expr}{it:Vh}{u:Va}{o:Obj}{n:String}{vs:Array Va}{Q:Unit->VG->Prop}(ho:s.heap.get? it=some o)(hc:o.cls=.type n)(hd:o.data=.fields vs)
 (hn:["enumerate","zip","dict_itemiterator","dict_reverseitemiterator","odict_iterator","itertools.zip_longest","itertools.pairwise"].contains n=false) (hQ:Q () s):VV M A (Uf tg (.ref it) u) Q E s:=by
 unfold Uf;cases tg <;> first
  | exact Ui hQ
  | (cases u <;> first
   | exact Ui hQ
   | (refine Uj (wpAny_load ho ?_)
      rw[hc,hd];show VV M A (if (["enumerate","zip","dict_itemiterator","dict_reverseitemiterator","odict_iterator","itertools.zip_longest","itertools.pairwise"].contains n && vs[0]? == some (Uk _))=true then _ else _) Q E s
      rw[if_neg (by intro h;rw[hn,Bool.false_and]at h;cases h)]
      exact Ui hQ))
def Itl(K:VC)(a:Vh):It :=
 ⟨λi H=>∃ xs x,SqL K H a xs/\xs[i]?=some x,λi H x H'=>H'=H/\∀ xs,SqL K H a xs->xs[i]?=some x,λi H=>∃ xs,SqL K H a xs/\xs.length<=i⟩
def Itt(K:VC)(a:Vh):It :=
 ⟨λi H=>∃ xs x,SqT K H a xs/\xs[i]?=some x,λi H x H'=>H'=H/\∀ xs,SqT K H a xs->xs[i]?=some x,λi H=>∃ xs,SqT K H a xs/\xs.length<=i⟩
def Itr(lo:Int)(n:Nat):It:=⟨λi _=>i < n,λi H x H'=>H'=H/\x=.int (lo+i),λi _=>n<=i⟩
theorem Xda{P:Vg}{w:Vb}{K:VC}{tg:Expr}(a it:Vh):QNb P w K tg (Itl K a) [it] it (λi h=>h.IsListIter it a i) where
 mem:=by simp
 obj:=λi h st b hb=>by
  have e:b=it:=by simpa using hb
  subst e;obtain⟨o,e,c,d⟩:=st;exact⟨o,e,λv z=>by rw[d]at z;cases z⟩
 keep:=λi h h' st k=>st.at λo e=>k it #[2] o e
 item:=by
  intro X hP hw hK hc i aa s σ H E I hf st hg;subst hP hw hK;obtain⟨xs,x,hq,hx⟩:=hg;obtain⟨ah,rv,p,hz⟩:=I.list hq;obtain⟨u,hu,ru⟩:=rv.get hx;obtain⟨f0,f1,f2,f3,f4,f5⟩:=hf it #[2]
  refine Ul st p.isList (x:=u) (by simpa using hu) λh' ag sb=>?_
  have I1:Inv X aa σ H { s with heap:=h' }:=I.turned (t':=s.toks) (λb o hb e=>(sb.2 b hb).trans e) f0 f1 f3 f4 f5
  obtain⟨o,e,c,d⟩:=id ag;exact⟨u,rfl,JCa (s:={ s with heap:=h' }) e c d #[1] ⟨x,H,I1,ru,⟨rfl,λys hy=>by rw[I.list_inj hy hq];exact hx⟩,ag,λb hb=>(hf b hb).1⟩⟩
 done:=by
  intro X hP hw hK hc i aa s σ H E I hf st hg;subst hP hw hK;obtain⟨xs,hq,hx⟩:=hg;obtain⟨ah,rv,p,hz⟩:=I.list hq;obtain⟨f0,f1,f2,f3,f4,f5⟩:=hf it #[2]
  have hl:=rv.length;exact Um (I.ok.hd hc) st p.isList (by simp;lia) λh' eb=>⟨rfl,I.turned (t':=s.toks) (λb o hb e=>eb b o hb e) f0 f1 f3 f4 f5⟩
 self:=λ_ _ _ _ _ st h=>wpAny_pyIter_listiter st h
theorem JDa{P:Vg}{w:Vb}{K:VC}{tg:Expr}(a it:Vh):QNb P w K tg (Itt K a) [it] it (λi h=>h.IsTupleIter it a i) where
 mem:=by simp
 obj:=λi h st b hb=>by
  have e:b=it:=by simpa using hb
  subst e;obtain⟨o,e,c,d⟩:=st;exact⟨o,e,λv z=>by rw[d]at z;cases z⟩
 keep:=λi h h' st k=>st.at λo e=>k it #[2] o e
 item:=by
  intro X hP hw hK hc i aa s σ H E I hf st hg;subst hP hw hK;obtain⟨xs,x,hq,hx⟩:=hg;obtain⟨ah,rv,p,hz⟩:=I.tuple hq;obtain⟨u,hu,ru⟩:=rv.get hx;obtain⟨f0,f1,f2,f3,f4,f5⟩:=hf it #[2]
  refine wpAny_pyNext_tuple_item st (show s.heap.IsTuple a ah.toArray from p) (x:=u) (by simpa using hu) λh' ag sb=>?_
  have I1:Inv X aa σ H { s with heap:=h' }:=I.turned (t':=s.toks) (λb o hb e=>(sb.2 b hb).trans e) f0 f1 f3 f4 f5
  obtain⟨o,e,c,d⟩:=id ag;exact⟨u,rfl,JCa (s:={ s with heap:=h' }) e c d #[1] ⟨x,H,I1,ru,⟨rfl,λys hy=>by rw[I.tuple_inj hy hq];exact hx⟩,ag,λb hb=>(hf b hb).1⟩⟩
 done:=by
  intro X hP hw hK hc i aa s σ H E I hf st hg;subst hP hw hK;obtain⟨xs,hq,hx⟩:=hg;obtain⟨ah,rv,p,hz⟩:=I.tuple hq;obtain⟨f0,f1,f2,f3,f4,f5⟩:=hf it #[2]
  have hl:=rv.length;exact wpAny_pyNext_tuple_end (I.ok.hd hc) st (show s.heap.IsTuple a ah.toArray from p) (by simp;lia) λh' eb=>⟨rfl,I.turned (t':=s.toks) (λb o hb e=>eb b o hb e) f0 f1 f3 f4 f5⟩
 self:=λ_ _ _ _ _ st h=>wpAny_pyIter_tupleiter st h
theorem ZXb{P:Vg}{w:Vb}{K:VC}{tg:Expr}(it:Vh)(lo:Int)(n:Nat):QNb P w K tg (Itr lo n) [it] it (λi h=>Uo h it (lo+(i:Nat) * 1) ((n:Int) - (i:Nat)) 1) where
 mem:=by simp
 obj:=λi h st b hb=>by
  have e:b=it:=by simpa using hb
  subst e;exact⟨_,st,λv z=>by
   have z':Data.fields _=Data.cell v:=z;cases z'⟩
 keep:=λi h h' st k=>k it #[2] _ st
 item:=by
  intro X hP hw hK hc i aa s σ H E I hf st hg;subst hP hw hK;obtain⟨f0,f1,f2,f3,f4,f5⟩:=hf it #[2]
  have W:=Walks.range (prog:=X.prog) (w:=X.w) (I.ok.hd hc) it lo 1 n;refine W.item i s _ _ hg st λv h' tk hv ag kk=>?_
  obtain⟨t,rfl⟩:=hv;have I1:Inv X aa σ H { s with heap:=h',toks:=tk }:=I.turned (λb o hb e=>kk b o (by simpa using hb) e) f0 f1 f3 f4 f5
  refine⟨_,rfl,JCa (s:={ s with heap:=h',toks:=tk }) (n:="range_iterator") ag rfl rfl #[1] ⟨.int (lo+i),H,I1,⟨t,?_⟩,⟨rfl,rfl⟩,ag,λb hb=>(hf b hb).1⟩⟩
  rw[Int.mul_one]
 done:=by
  intro X hP hw hK hc i aa s σ H E I hf st hg;subst hP hw hK;obtain⟨f0,f1,f2,f3,f4,f5⟩:=hf it #[2]
  exact wpAny_pyNext_range_end (I.ok.hd hc) st (by have:n<=i:=hg;lia) λh' eb=>⟨rfl,I.turned (t':=s.toks) (λb o hb e=>eb b o hb e) f0 f1 f3 f4 f5⟩
 self:=λ_ _ _ _ _ st h=>wpAny_pyIter_rangeiter st h
section
variable{X:Cx}{tg:Expr}
def XUb(K:VC)(tl:TE):TI:=λσ H R=>tl σ H λx H1=>∃ a,x=.ref a/\(∃ xs,SqL K H1 a xs)/\R (Itl K a) H1
def YUc(K:VC)(tl:TE):TI:=λσ H R=>tl σ H λx H1=>∃ a,x=.ref a/\(∃ xs,SqT K H1 a xs)/\R (Itt K a) H1
theorem ZC{l:Expr}{tl:TE}(hl:PE X l tl):PI X tg l (XUb X.K tl):=by
 intro aa s σ H R I h;refine thn (hl aa s σ H _ I h) λv s1 hZ=>?_
 obtain⟨x,H1,I1,r1,q1⟩:=hZ;obtain⟨a,e,⟨xs,hq⟩,q⟩:=q1;subst e;cases r1;obtain⟨ah,rv,p,hz⟩:=I1.list hq;refine Uq p.isList ?_
 refine⟨s1.heap.objs.size,[s1.heap.objs.size],_,_,H1,rfl,I1.kept (t':=s1.toks) λb o e=>Ur _ e,Xda a _,⟨_,Us _ rfl,rfl,rfl⟩,λb hb=>?_,q⟩
 have e:b=s1.heap.objs.size:=by simpa using hb
 subst e;exact I1.fpOk (Ut _) (I1.hok.fresh (Ut _))
theorem YVc{l:Expr}{tl:TE}(hl:PE X l tl):PI X tg l (YUc X.K tl):=by
 intro aa s σ H R I h;refine thn (hl aa s σ H _ I h) λv s1 hZ=>?_
 obtain⟨x,H1,I1,r1,q1⟩:=hZ;obtain⟨a,e,⟨xs,hq⟩,q⟩:=q1;subst e;cases r1;obtain⟨ah,rv,p,hz⟩:=I1.tuple hq;refine wpAny_pyIter_tuple (show s1.heap.IsTuple a ah.toArray from p) ?_
 refine⟨s1.heap.objs.size,[s1.heap.objs.size],_,_,H1,rfl,I1.kept (t':=s1.toks) λb o e=>Ur _ e,JDa a _,⟨_,Us _ rfl,rfl,rfl⟩,λb hb=>?_,q⟩
 have e:b=s1.heap.objs.size:=by simpa using hb
 subst e;exact I1.fpOk (Ut _) (I1.hok.fresh (Ut _))
theorem QOb{aa:YP_}{σ:St}{H:Hp}{s:VG}{R:It->Hp->Prop}{E:YQ_}{lo hi:Int}{t u v:Tok}{tk:Nat}(I:Inv X aa σ H s)(h1 : -(2 ^ 62)<=lo)(h2:lo < 2 ^ 62)(h3 : -(2 ^ 62)<=hi)(h4:hi < 2 ^ 62)
 (q:R (Itr lo (hi - lo).toNat) H):VV (VW X.prog X.w) X.A (Ug (.ref s.heap.objs.size)) (PIE X aa σ tg R) E { s with heap:=s.heap.push { cls:=.type "range",data:=.fields #[.int lo t,.int hi u,.int 1 v] },toks:=tk }:=by
 refine wpAny_pyIter_range (IsRange.new ..) (small_one h1 h2 h3 h4) ?_
 have I1:Inv X aa σ H { s with heap:=s.heap.push { cls:=.type "range",data:=.fields #[.int lo t,.int hi u,.int 1 v] },toks:=tk }:=I.kept λb o e=>Ur _ e
 refine⟨(s.heap.push { cls:=.type "range",data:=.fields #[.int lo t,.int hi u,.int 1 v] }).objs.size,[(s.heap.push { cls:=.type "range",data:=.fields #[.int lo t,.int hi u,.int 1 v] }).objs.size],_,_,H,rfl,
  I1.kept (t':=tk) λb o e=>Ur _ e,ZXb _ lo (hi - lo).toNat,?_,λb hb=>?_,q⟩
 ·have e1:lo+((0:Nat):Int) * 1=lo:=by simp
  have e2:(((hi - lo).toNat:Nat):Int) - ((0:Nat):Int)=Uu lo hi 1:=by rw[rangeSize_one];split <;> lia
  show Uo _ _ (lo+((0:Nat):Int) * 1) ((((hi - lo).toNat:Nat):Int) - ((0:Nat):Int)) 1;rw[e1,e2];exact Us _ rfl
 ·have e:b=(s.heap.push { cls:=.type "range",data:=.fields #[.int lo t,.int hi u,.int 1 v] }).objs.size:=by simpa using hb
  subst e;exact I1.fpOk (Ut _) (I1.hok.fresh (Ut _))
def XVb(ta:TA):TI:=λσ H R=>ta σ H λvs H1=>∃ j:Int,vs=[.int j] /\ -(2 ^ 62)<=j/\j < 2 ^ 62/\R (Itr 0 j.toNat) H1
def XWb(ta:TA):TI:=λσ H R=>ta σ H λvs H1=>∃ i j:Int,vs=[.int i,.int j]/\(-(2 ^ 62)<=i/\i < 2 ^ 62 /\ -(2 ^ 62)<=j/\j < 2 ^ 62)/\R (Itr i (j - i).toNat) H1
theorem Xea{a:Expr}{ta:TA}{p pos:Pos}(hg:Gl X "range")(hm:X.mg "range"=Vo)(ha:PA X [a] ta)(hs:VZ [a] X.env=[(false,VX a X.env)]:=by rfl):PI X tg (.Call (.Name "range" p) [a] [] pos) (XVb ta):=by
 intro aa s σ H R I h;refine Call_ (YS I hg hm boot_range (Uv (thn (ha pos aa s σ H _ I h) λus s1 hZ=>?_) hs rfl))
 obtain⟨vs,H1,I1,r1,q1⟩:=hZ;obtain⟨j,e,q1,q2,q⟩:=q1;subst e;cases r1 with
 | cons r rr =>
  cases rr;obtain⟨t,rfl⟩:=r;exact call_range_1 (QOb I1 #[0] #[0] q1 q2 (by simpa using q))
theorem YSb{a b:Expr}{ta:TA}{p pos:Pos}(hg:Gl X "range")(hm:X.mg "range"=Vo)(ha:PA X [a,b] ta)(hs:VZ [a,b] X.env=[(false,VX a X.env),(false,VX b X.env)]:=by rfl)(cN:VZ [b] X.env=[(false,VX b X.env)]:=by rfl) :
 PI X tg (.Call (.Name "range" p) [a,b] [] pos) (XWb ta):=by
 intro aa s σ H R I h;refine Call_ (YS I hg hm boot_range (Uv (thn (ha pos aa s σ H _ I h) λus s1 ⟨vs,H1,I1,r1,q1⟩=>?_) (by rw[hs,cN]) (by rw[cN];rfl)))
 obtain⟨i,j,e,⟨q1,q2,q3,q4⟩,q⟩:=q1;subst e;cases r1 with
 | cons r rr =>
  cases rr with
  | cons r' rr =>
   cases rr;obtain⟨t,rfl⟩:=r;obtain⟨t',rfl⟩:=r';exact call_range_2 (QOb I1 q1 q2 q3 q4 q)
def XSa(wi:TI)(g:TG)(tb:TS):TS:=λD σ H=>wi σ H λJ H1=>∃ W:Nat->Nat->St->Hp->Prop,(∃ m,W 0 m σ H1)/\∀ i m σ H,W i m σ H ->
 (J.stop i H/\D.nx σ H)\/(J.go i H/\∃ N:St->Hp->Prop,(∀ σ' H',N σ' H'->∃ m',m' < m/\W (i+1) m' σ' H')/\∀ x H',J.yld i H x H'->g x σ H' λσ2 H2=>tb { D with nx:=N,ct:=N,bk:=D.nx } σ2 H2)
def JEa(fp:List Vh)(h:Vp):YP_:=fp.filterMap λb=>(h.get? b).map λo=>(b,o)
theorem YT{fp:List Vh}{h:Vp}{b:Vh}{o:Obj}(hb:b∈fp)(e:h.get? b=some o):(b,o)∈JEa fp h:=mem_filterMap.mpr ⟨b,hb,by rw[e];rfl⟩
theorem YTb{fp:List Vh}{h:Vp}{p:Vh×Obj}(hp:p∈JEa fp h):p.1∈fp/\h.get? p.1=some p.2:=by
 obtain⟨b,hb,e⟩:=mem_filterMap.mp hp;cases q:h.get? b with
 | none=>rw[q]at e;cases e
 | some o =>
  rw[q]at e;have e':(b,o)=p:=Vq e;subst e';exact⟨hb,q⟩
theorem Inv.pinned{aa:YP_}{σ:St}{H:Hp}{s:VG}{fp:List Vh}(I:Inv X aa σ H s)(hf:∀ b∈fp,J1 X aa H b)(ho:∀ b∈fp,∃ o,s.heap.get? b=some o/\∀ v,o.data≠.cell v):Inv X (aa++JEa fp s.heap) σ H s :=
 I.pins_of λp hp=>(mem_append.mp hp).elim (λz=>I.pin p (Uw _ z)) λz=>by
  obtain⟨hb,e⟩:=YTb z;obtain⟨f0,f1,f2,_⟩:=hf p.1 hb;obtain⟨o,e',d⟩:=ho p.1 hb;rw[e]at e';cases e';exact⟨e,f0,f1,f2,d⟩
theorem Inv.unpinned{aa pl:YP_}{σ:St}{H:Hp}{s:VG}(I:Inv X (aa++pl) σ H s):Inv X aa σ H s:=I.pins_of λp hp=>I.pin p (Uw _ (VS _ hp))
theorem ZO{Uh:Expr}{body:List V0}{wi:TI}{g:TG}{tb:TS}{pos:Pos}(hp:PassesOwn (VW X.prog X.w) X.A X.env X.xe)(hc:X.calm=true)(hi:PI X tg Uh wi)(hg:PG X tg g)(hb:PSs X body tb)
 (hs:∀ x,foldedSetIterable Uh X.env x=pure x:=by intro _;rfl):PS X (.For tg Uh body [] pos) (XSa wi g tb):=by
 intro aa s σ H D I h;refine wpAny_For (thn (hi aa s σ H _ I h) λv s1 h1=>thn h1 λlO s2 h2=>?_) hs
 obtain⟨it,fp,tn,J,H2,e,I2,T,cm,f2,W,⟨m0,w0⟩,turn⟩:=h2;subst e;have fR:∀ {H':Hp},(∀ b∈fp,H' b=Vo)->∀ b∈fp,J1 X aa H' b:=λhn b hb=>⟨hn b hb,(f2 b hb).2⟩
 refine codeAny_forLoop_any (λn s'=>∃ i σ' H',Inv X aa σ' H' s'/\tn i s'.heap/\(∀ b∈fp,H' b=Vo)/\W i n σ' H') ?_ m0 ⟨0,σ,H2,I2,cm,λb hb=>(f2 b hb).1,w0⟩
 rintro n s3 ⟨i,σ3,H3,I3,aY,pK,w3⟩
 rcases turn i n σ3 H3 w3 with ⟨stop,qn⟩ | ⟨go,N,hN,step⟩
 ·refine Ub hp (thn (T.done X rfl rfl rfl hc i aa s3 σ3 H3 X.xe I3 (fR pK) aY stop) λr s4 hZ=>?_)
  obtain⟨hr,I4⟩:=hZ;subst hr;exact V9 ⟨σ3,H3,I4,qn⟩
 ·refine Ub hp (thn (T.item X rfl rfl rfl hc i aa s3 σ3 H3 X.xe I3 (fR pK) aY go) λr s4 hZ=>?_)
  obtain⟨u,hr,h4⟩:=hZ;subst hr;refine Ub hp (thn h4 λ_ s5 hZ=>?_)
  obtain⟨x,H5,I5,r5,y5,fS,lP⟩:=hZ;have lQ:=I5.pinned (fR lP) (T.obj _ _ fS);refine Ub hp (thn (hg _ s5 σ3 H5 x u _ lQ r5 (step x H5 y5)) λ_ s6 hZ=>?_)
  obtain⟨σ6,H6,I6,q6⟩:=hZ;refine Ub hp (thn (hb _ s6 σ6 H6 _ I6 q6) λf s7 q7=>?_)
  have again:∀ {σ7:St} {H7:Hp},Inv X (aa++JEa fp s5.heap) σ7 H7 s7->N σ7 H7->∃ m,m < n/\∃ i σ' H',Inv X aa σ' H' s7/\tn i s7.heap/\(∀ b∈fp,H' b=Vo)/\W i m σ' H':=λ{σ7 H7} I7 n7=>by
   obtain⟨m',hm,w7⟩:=hN σ7 H7 n7;refine⟨m',hm,i+1,σ7,H7,I7.unpinned,T.keep _ _ _ fS λb hb o e=>(I7.pin (b,o) (Uw _ (Uw _ (YT hb e)))).1,λb hb=>?_,w7⟩
   obtain⟨o,e,d⟩:=T.obj _ _ fS b hb;exact(I7.pin (b,o) (Uw _ (Uw _ (YT hb e)))).2.1
  cases f with
  | next=>obtain⟨σ7,H7,I7,n7⟩:=q7;exact again I7 n7
  | cont=>obtain⟨σ7,H7,I7,n7⟩:=q7;exact again I7 n7
  | brk=>obtain⟨σ7,H7,I7,q7⟩:=q7;exact⟨σ7,H7,I7.unpinned,q7⟩
  | ret v=>obtain⟨x7,σ7,H7,I7,r7,q7⟩:=q7;exact⟨x7,σ7,H7,I7.unpinned,r7,q7⟩
end
theorem XXb{K:VC}{a:Vh}{xs:List V}{g:TG}{tb:TS}{D:Jg}{σ:St}{H:Hp}(Pv:Nat->St->Hp->Prop)(h0:Pv 0 σ H)(hl:∀ i σ H,i<=xs.length->Pv i σ H->SqL K H a xs)
 (hs:∀ i x σ H,xs[i]?=some x->Pv i σ H->g x σ H λσ2 H2=>tb { D with nx:=Pv (i+1),ct:=Pv (i+1),bk:=D.nx } σ2 H2) (hd:∀ σ H,Pv xs.length σ H->D.nx σ H) :
 ∃ W:Nat->Nat->St->Hp->Prop,(∃ m,W 0 m σ H)/\∀ i m σ H,W i m σ H ->
  ((Itl K a).stop i H/\D.nx σ H)\/((Itl K a).go i H/\∃ N:St->Hp->Prop,(∀ σ' H',N σ' H'->∃ m',m' < m/\W (i+1) m' σ' H')/\∀ x H',(Itl K a).yld i H x H'->g x σ H' λσ2 H2=>tb { D with nx:=N,ct:=N,bk:=D.nx } σ2 H2):=by
 refine⟨λi m σ H=>m=xs.length - i/\i<=xs.length/\Pv i σ H,⟨xs.length,by simp,Ux _,h0⟩,?_⟩
 rintro i m σ H ⟨rfl,hi,p⟩;have q:=hl i σ H hi p
 by_cases aA:i < xs.length
 ·refine .inr ⟨⟨xs,xs[i],q,by simp[aA]⟩,Pv (i+1),λσ' H' p'=>⟨xs.length - (i+1),by lia,rfl,aA,p'⟩,λx H' y=>?_⟩
  obtain⟨e,y⟩:=y;subst e;exact hs i x σ _ (y xs q) p
 ·have e:i=xs.length:=by lia
  subst e;exact .inl ⟨⟨xs,q,Ut _⟩,hd σ H p⟩
theorem Z1c{K:VC}{a:Vh}{xs:List V}{g:TG}{tb:TS}{D:Jg}{σ:St}{H:Hp}(Pv:Nat->St->Hp->Prop)(h0:Pv 0 σ H)(hl:∀ i σ H,i<=xs.length->Pv i σ H->SqT K H a xs)
 (hs:∀ i x σ H,xs[i]?=some x->Pv i σ H->g x σ H λσ2 H2=>tb { D with nx:=Pv (i+1),ct:=Pv (i+1),bk:=D.nx } σ2 H2) (hd:∀ σ H,Pv xs.length σ H->D.nx σ H) :
 ∃ W:Nat->Nat->St->Hp->Prop,(∃ m,W 0 m σ H)/\∀ i m σ H,W i m σ H ->
  ((Itt K a).stop i H/\D.nx σ H)\/((Itt K a).go i H/\∃ N:St->Hp->Prop,(∀ σ' H',N σ' H'->∃ m',m' < m/\W (i+1) m' σ' H')/\∀ x H',(Itt K a).yld i H x H'->g x σ H' λσ2 H2=>tb { D with nx:=N,ct:=N,bk:=D.nx } σ2 H2):=by
 refine⟨λi m σ H=>m=xs.length - i/\i<=xs.length/\Pv i σ H,⟨xs.length,by simp,Ux _,h0⟩,?_⟩
 rintro i m σ H ⟨rfl,hi,p⟩;have q:=hl i σ H hi p
 by_cases aA:i < xs.length
 ·refine .inr ⟨⟨xs,xs[i],q,by simp[aA]⟩,Pv (i+1),λσ' H' p'=>⟨xs.length - (i+1),by lia,rfl,aA,p'⟩,λx H' y=>?_⟩
  obtain⟨e,y⟩:=y;subst e;exact hs i x σ _ (y xs q) p
 ·have e:i=xs.length:=by lia
  subst e;exact .inl ⟨⟨xs,q,Ut _⟩,hd σ H p⟩
theorem YUb{lo:Int}{n:Nat}{g:TG}{tb:TS}{D:Jg}{σ:St}{H:Hp}(Pv:Nat->St->Hp->Prop)(h0:Pv 0 σ H)
 (hs:∀ i σ H,i < n->Pv i σ H->g (.int (lo+i)) σ H λσ2 H2=>tb { D with nx:=Pv (i+1),ct:=Pv (i+1),bk:=D.nx } σ2 H2) (hd:∀ σ H,Pv n σ H->D.nx σ H) :
 ∃ W:Nat->Nat->St->Hp->Prop,(∃ m,W 0 m σ H)/\∀ i m σ H,W i m σ H ->
  ((Itr lo n).stop i H/\D.nx σ H)\/((Itr lo n).go i H/\∃ N:St->Hp->Prop,(∀ σ' H',N σ' H'->∃ m',m' < m/\W (i+1) m' σ' H')/\∀ x H',(Itr lo n).yld i H x H'->g x σ H' λσ2 H2=>tb { D with nx:=N,ct:=N,bk:=D.nx } σ2 H2):=by
 refine⟨λi m σ H=>m=n - i/\i<=n/\Pv i σ H,⟨n,by simp,Ux _,h0⟩,?_⟩
 rintro i m σ H ⟨rfl,hi,p⟩
 by_cases aA:i < n
 ·refine .inr ⟨aA,Pv (i+1),λσ' H' p'=>⟨n - (i+1),by lia,rfl,aA,p'⟩,λx H' y=>?_⟩
  obtain⟨e,y⟩:=y;subst e y;exact hs i σ _ aA p
 ·have e:i=n:=by lia
  subst e;exact .inl ⟨Ut _,hd σ H p⟩
abbrev R2:=V->V->Hp->VK->Prop
def OpR(X:Cx)(f:Va->Va->Sem Va)(r:R2):Prop :=
 ∀ (aa:YP_) (s:VG) (σ:St) (H:Hp) (x y:V) (v u:Va) (Q:VK),Inv X aa σ H s->Qq x v->Qq y u->r x y H Q ->
  VV (VW X.prog X.w) X.A (f v u) (EP X aa σ Q) X.xe s
def UnR(X:Cx)(f:Va->Sem Va)(r:V->Hp->VK->Prop):Prop :=
 ∀ (aa:YP_) (s:VG) (σ:St) (H:Hp) (x:V) (v:Va) (Q:VK),Inv X aa σ H s->Qq x v->r x H Q ->
  VV (VW X.prog X.w) X.A (f v) (EP X aa σ Q) X.xe s
def XB(X:Cx)(f:Va)(r:List V->Hp->VK->Prop):Prop :=
 ∀ (aa:YP_) (s:VG) (σ:St) (H:Hp) (xs:List V) (us:List Va) (Q:VK),Inv X aa σ H s->Qt xs us->r xs H Q ->
  VV (VW X.prog X.w) X.A (Uy f us) (EP X aa σ Q) X.xe s
def QLd(X:Cx)(r:V->Hp->(Bool->Hp->Prop)->Prop):Prop :=
 ∀ (aa:YP_) (s:VG) (σ:St) (H:Hp) (x:V) (v:Va) (Q:Bool->Hp->Prop),Inv X aa σ H s->Qq x v->r x H Q ->
  VV (VW X.prog X.w) X.A (truthy v) (TP X aa σ Q) X.xe s
def tOp(r:R2)(ta tb:TE):TE:=λσ H Q=>ta σ H λx H1=>tb σ H1 λy H2=>r x y H2 Q
def tUn(r:V->Hp->VK->Prop)(ta:TE):TE:=λσ H Q=>ta σ H λx H1=>r x H1 Q
def rI(C:Int->Int->Prop)(g:Int->Int->V):R2:=λx y H Q=>∃ i j,x=.int i/\y=.int j/\C i j/\Q (g i j) H
def rI0(g:Int->Int->V):R2:=λx y H Q=>∃ i j,x=.int i/\y=.int j/\Q (g i j) H
def rU(g:Int->V):V->Hp->VK->Prop:=λx H Q=>∃ i,x=.int i/\Q (g i) H
section
variable{X:Cx}{a b c:Expr}{ta tb tc:TE}{pos:Pos}
theorem YWc(ha:PE X a ta)(hb:PE X b tb){aa:YP_}{s:VG}{σ:St}{H:Hp}{R:V->V->Hp->Prop}(I:Inv X aa σ H s)
 (h:ta σ H λx H1=>tb σ H1 λy H2=>R x y H2) {Q:YQ_} {f:Va->Va->Sem Va}
 (hf:∀ v u s2 x y H2,Inv X aa σ H2 s2->Qq x v->Qq y u->R x y H2->VV (VW X.prog X.w) X.A (f v u) Q X.xe s2) :
 VV (VW X.prog X.w) X.A (VX a X.env) (λv s₁=>VV (VW X.prog X.w) X.A (VX b X.env) (λu s₂=>VV (VW X.prog X.w) X.A (f v u) Q X.xe s₂) X.xe s₁) X.xe s:=by
 refine thn (ha aa s σ H _ I h) λv s1 hZ=>?_
 obtain⟨x,H1,I1,r1,q1⟩:=hZ;refine thn (hb aa s1 σ H1 _ I1 q1) λu s2 hZ=>?_
 obtain⟨y,H2,I2,r2,q2⟩:=hZ;exact hf v u s2 x y H2 I2 r1 r2 q2
theorem Qk{op:Operator}{r:R2}(ho:OpR X (Uz op) r)(ha:PE X a ta)(hb:PE X b tb):PE X (.BinOp a op b pos) (tOp r ta tb):=by
 intro aa s σ H Q I h;exact wpAny_BinOp (YWc ha hb I h λv u s2 x y H2 I2 rx ry q=>ho aa s2 σ H2 x y v u Q I2 rx ry q)
theorem J0b{op:UnaryOp}{r:V->Hp->VK->Prop}(ho:UnR X (unaryOp op) r)(ha:PE X a ta):PE X (.UnaryOp op a pos) (tUn r ta):=by
 intro aa s σ H Q I h;exact UnaryOp_ (thn (ha aa s σ H _ I h) λv s1 ⟨x,H1,I1,r1,q1⟩=>ho aa s1 σ H1 x v Q I1 r1 q1)
theorem opI{f:Va->Va->Sem Va}{C:Int->Int->Prop}{g:Int->Int->Int}
 (rule:∀ (i j:Int) (t u:Tok) (s:VG) (Q:YQ_) (E:YQ_),C i j->Q (.int (g i j) s.toks) { s with toks:=s.toks+1 }->VV (VW X.prog X.w) X.A (f (.int i t) (.int j u)) Q E s) :
 OpR X f (rI C λi j=>.int (g i j)):=by
 intro aa s σ H x y v u Q I rx ry h;obtain⟨i,j,rfl,rfl,hc,q⟩:=h;obtain⟨t,rfl⟩:=rx;obtain⟨t',rfl⟩:=ry;exact rule i j t t' s _ _ hc ⟨.int (g i j),H,I.tok _,⟨_,rfl⟩,q⟩
theorem YXc{f:Va->Va->Sem Va}{g:Int->Int->Int}
 (rule:∀ (i j:Int) (t u:Tok) (s:VG) (Q:YQ_) (E:YQ_),Q (.int (g i j) s.toks) { s with toks:=s.toks+1 }->VV (VW X.prog X.w) X.A (f (.int i t) (.int j u)) Q E s) :
 OpR X f (rI0 λi j=>.int (g i j)):=by
 intro aa s σ H x y v u Q I rx ry h;obtain⟨i,j,rfl,rfl,q⟩:=h;obtain⟨t,rfl⟩:=rx;obtain⟨t',rfl⟩:=ry;exact rule i j t t' s _ _ ⟨.int (g i j),H,I.tok _,⟨_,rfl⟩,q⟩
theorem X5c{f:Va->Va->Sem Va}{g:Int->Int->Bool}
 (rule:∀ (i j:Int) (t u:Tok) (s:VG) (Q:YQ_) (E:YQ_),Q (.bool (g i j)) s->VV (VW X.prog X.w) X.A (f (.int i t) (.int j u)) Q E s) :
 OpR X f (rI0 λi j=>.bl (g i j)):=by
 intro aa s σ H x y v u Q I rx ry h;obtain⟨i,j,rfl,rfl,q⟩:=h;obtain⟨t,rfl⟩:=rx;obtain⟨t',rfl⟩:=ry;exact rule i j t t' s _ _ ⟨.bl (g i j),H,I,rfl,q⟩
def Jda(i j:Int):Prop:=0 < j/\j < 1073741824
def YYc(i j:Int):Prop:=0<=j/\j<=1000000/\i.natAbs < 2 ^ 64
def ZYb(i j:Int):Prop:=(-(2 ^ 64) < i/\i < 2 ^ 64)\/(-(2 ^ 64) < j/\j < 2 ^ 64)
theorem ZYb.ok{i j:Int}(h:ZYb i j):IntMulOk i j:=by
 rcases h with ⟨h1,h2⟩ | ⟨h1,h2⟩
 ·exact .of_left (intBits_le_64 h1 h2)
 ·exact .of_right (intBits_le_64 h1 h2)
theorem ZZb(k:Nat):(0:Int)<=2 ^ k:=by
 rw[two_pow_cast];exact Int.natCast_nonneg _
theorem ZY:OpR X (Uz .Add) (rI0 λi j=>.int (i+j)):=YXc λ_ _ _ _ _ _ _ q=>add_int q
theorem J2:OpR X (Uz .Sub) (rI0 λi j=>.int (i - j)):=YXc λ_ _ _ _ _ _ _ q=>sub_int q
theorem QH:OpR X (Uz .FloorDiv) (rI Jda λi j=>.int (i / j)):=opI λi j _ _ _ _ _ hc q=>by
 have h1:(0:Int) < j:=hc.1;have h2:j < 1073741824:=hc.2;exact floordiv_int #[0] (by rw[Int.fdiv_eq_ediv_of_nonneg i #[0]];exact q) (.inl (PyProof.noPylong_small #[0]))
theorem QD:OpR X (Uz .Mod) (rI (λ_ j=>0 < j) λi j=>.int (i % j)):=opI λi j _ _ _ _ _ hc q=>by
 have h1:(0:Int) < j:=hc;exact mod_int' #[0] (by rw[Int.fmod_eq_emod_of_nonneg i #[0]];exact q)
theorem JFa:OpR X (Uz .Pow) (rI YYc λi j=>.int (i ^ j.toNat)):=opI λ_ _ _ _ _ _ _ hc q=>pow_int_small hc.1 hc.2.1 hc.2.2 q
theorem YZc:OpR X (Uz .LShift) (rI YYc λi j=>.int (i * 2 ^ j.toNat)):=opI λ_ _ _ _ _ _ _ hc q=>lshift_int_small hc.1 hc.2.1 hc.2.2 q
theorem Z0b:OpR X (Uz .RShift) (rI (λ_ j=>0<=j) λi j=>.int (i / 2 ^ j.toNat)):=opI λi j _ _ _ _ _ hc q =>
 rshift_int hc (by rw[Int.fdiv_eq_ediv_of_nonneg i (ZZb _)];exact q)
theorem XYb:OpR X (Uz .BitXor) (rI0 λi j=>.int (Builtin.bitXor i j)):=YXc λ_ _ _ _ _ _ _ q=>xor_int q
theorem unI{f:Va->Sem Va}{g:Int->Int}
 (rule:∀ (i:Int) (t:Tok) (s:VG) (Q:YQ_) (E:YQ_),Q (.int (g i) s.toks) { s with toks:=s.toks+1 }->VV (VW X.prog X.w) X.A (f (.int i t)) Q E s) :
 UnR X f (rU λi=>.int (g i)):=by
 intro aa s σ H x v Q I rx h;obtain⟨i,rfl,q⟩:=h;obtain⟨t,rfl⟩:=rx;exact rule i t s _ _ ⟨.int (g i),H,I.tok _,⟨_,rfl⟩,q⟩
theorem XTa:UnR X (unaryOp .USub) (rU λi=>.int (-i)):=unI λ_ _ _ _ _ q=>neg_int q
end
def Xx:V->V->Bool
 | .non,.non=>true | .non,.int _=>true | .int _,.non=>true | .non,.bl _=>true | .bl _,.non=>true | .non,.str _=>true | .str _,.non=>true
 | .int _,.int _=>true | .bl _,.bl _=>true | .str _,.str _=>true | .byt _,.byt _=>true
 | .int _,.str _=>true | .str _,.int _=>true | .bl _,.str _=>true | .str _,.bl _=>true
 | _,_=>false
theorem Z2c:Xx .non .non=true:=rfl
theorem Z3c{b:Int}:Xx .non (.int b)=true:=rfl
theorem Z4c{a:Int}:Xx (.int a) .non=true:=rfl
theorem Z5c{b:Bool}:Xx .non (.bl b)=true:=rfl
theorem Z6c{a:Bool}:Xx (.bl a) .non=true:=rfl
theorem Z7c{b:Str}:Xx .non (.str b)=true:=rfl
theorem Z8c{a:Str}:Xx (.str a) .non=true:=rfl
theorem Z9c{a:Int}{b:Int}:Xx (.int a) (.int b)=true:=rfl
theorem Jac{a:Bool}{b:Bool}:Xx (.bl a) (.bl b)=true:=rfl
theorem Jbc{a:Str}{b:Str}:Xx (.str a) (.str b)=true:=rfl
theorem Jcc{a:Int}{b:Str}:Xx (.int a) (.str b)=true:=rfl
theorem Jdc{a:Str}{b:Int}:Xx (.str a) (.int b)=true:=rfl
theorem Jec{a:Bool}{b:Str}:Xx (.bl a) (.str b)=true:=rfl
theorem Jfc{a:Str}{b:Bool}:Xx (.str a) (.bl b)=true:=rfl
def rEq:R2:=λx y H Q=>Xx x y=true/\Q (.bl (decide (x=y))) H
def rNe:R2:=λx y H Q=>Xx x y=true/\Q (.bl (!decide (x=y))) H
theorem J1b{i j:Int}:decide (V.int i=V.int j)=(i == j):=by
 rw[UA];simp
theorem XZb{i j:Bool}:decide (V.bl i=V.bl j)=(i == j):=by
 rw[UA];simp
theorem J2b{i j:Str}:decide (V.str i=V.str j)=(i == j):=by
 rw[UA];simp
theorem J3b{i j:Array UInt8}:decide (V.byt i=V.byt j)=(i.toList == j.toList):=by
 rw[UA];cases i;cases j;simp
section
variable{X:Cx}{a b c:Expr}{ta tb tc:TE}{pos:Pos}
theorem QI{aa:YP_}{σ:St}{H:Hp}{s:VG}{Q:VK}{k k':Bool}(I:Inv X aa σ H s)(q:Q (.bl k) H)(e:k=k'):EP X aa σ Q (.bool k') s:=by
 subst e;exact⟨.bl k,H,I,rfl,q⟩
theorem Ji:OpR X (V2 .Eq) rEq:=by
 intro aa s σ H x y v u Q I rx ry h;obtain⟨hs,q⟩:=h;cases x with
 | non =>
  cases rx;cases y with
  | non=>cases ry;exact PySem.EqNone.eq_none_none (QI I q #[2])
  | bl j=>cases ry;exact PySem.EqNone.eq_none_bool (QI I q #[2])
  | int j=>obtain⟨t',rfl⟩:=ry;exact PySem.EqNone.eq_none_int (QI I q #[2])
  | str j=>obtain⟨t',rfl⟩:=ry;exact PySem.EqNone.eq_none_str (QI I q #[2])
  | _=>exact absurd (show false=true from hs) Uc
 | bl i =>
  cases rx;cases y with
  | non=>cases ry;exact PySem.EqNone.eq_bool_none (QI I q #[2])
  | bl j=>cases ry;exact eq_bool (QI I q XZb)
  | str j=>obtain⟨t',rfl⟩:=ry;exact PySem.EqMixed.eq_bool_str (QI I q #[2])
  | _=>exact absurd (show false=true from hs) Uc
 | int i =>
  obtain⟨t,rfl⟩:=rx;cases y with
  | non=>cases ry;exact PySem.EqNone.eq_int_none (QI I q #[2])
  | int j=>obtain⟨t',rfl⟩:=ry;exact eq_int (QI I q J1b)
  | str j=>obtain⟨t',rfl⟩:=ry;exact PySem.EqMixed.eq_int_str (QI I q #[2])
  | _=>exact absurd (show false=true from hs) Uc
 | str i =>
  obtain⟨t,rfl⟩:=rx;cases y with
  | non=>cases ry;exact PySem.EqNone.eq_str_none (QI I q #[2])
  | bl j=>cases ry;exact PySem.EqMixed.eq_str_bool (QI I q #[2])
  | int j=>obtain⟨t',rfl⟩:=ry;exact PySem.EqMixed.eq_str_int (QI I q #[2])
  | str j=>obtain⟨t',rfl⟩:=ry;exact eq_str (QI I q J2b)
  | _=>exact absurd (show false=true from hs) Uc
 | byt i =>
  obtain⟨t,rfl⟩:=rx;cases y with
  | byt j=>obtain⟨t',rfl⟩:=ry;exact W.eq_bytes (QI I q J3b)
  | _=>exact absurd (show false=true from hs) Uc
 | _=>cases y <;> exact absurd (show false=true from hs) Uc
theorem J4b:OpR X (V2 .NotEq) rNe:=by
 intro aa s σ H x y v u Q I rx ry h;obtain⟨hs,q⟩:=h;cases x with
 | non =>
  cases rx;cases y with
  | non=>cases ry;exact PySem.EqNone.ne_none_none (QI I q #[2])
  | bl j=>cases ry;exact PySem.EqNone.ne_none_bool (QI I q #[2])
  | int j=>obtain⟨t',rfl⟩:=ry;exact PySem.EqNone.ne_none_int (QI I q #[2])
  | str j=>obtain⟨t',rfl⟩:=ry;exact PySem.EqNone.ne_none_str (QI I q #[2])
  | _=>exact absurd (show false=true from hs) Uc
 | bl i =>
  cases rx;cases y with
  | non=>cases ry;exact PySem.EqNone.ne_bool_none (QI I q #[2])
  | bl j=>cases ry;exact ne_bool (QI I q (congrArg not XZb))
  | str j=>obtain⟨t',rfl⟩:=ry;exact PySem.EqMixed.ne_bool_str (QI I q #[2])
  | _=>exact absurd (show false=true from hs) Uc
 | int i =>
  obtain⟨t,rfl⟩:=rx;cases y with
  | non=>cases ry;exact PySem.EqNone.ne_int_none (QI I q #[2])
  | int j=>obtain⟨t',rfl⟩:=ry;exact ne_int (QI I q (congrArg not J1b))
  | str j=>obtain⟨t',rfl⟩:=ry;exact PySem.EqMixed.ne_int_str (QI I q #[2])
  | _=>exact absurd (show false=true from hs) Uc
 | str i =>
  obtain⟨t,rfl⟩:=rx;cases y with
  | non=>cases ry;exact PySem.EqNone.ne_str_none (QI I q #[2])
  | bl j=>cases ry;exact PySem.EqMixed.ne_str_bool (QI I q #[2])
  | int j=>obtain⟨t',rfl⟩:=ry;exact PySem.EqMixed.ne_str_int (QI I q #[2])
  | str j=>obtain⟨t',rfl⟩:=ry;exact ne_str (QI I q (congrArg not J2b))
  | _=>exact absurd (show false=true from hs) Uc
 | byt i =>
  obtain⟨t,rfl⟩:=rx;cases y with
  | byt j=>obtain⟨t',rfl⟩:=ry;exact W.ne_bytes (QI I q (congrArg not J3b))
  | _=>exact absurd (show false=true from hs) Uc
 | _=>cases y <;> exact absurd (show false=true from hs) Uc
theorem Ync:OpR X (V2 .Lt) (rI0 λi j=>.bl (decide (i < j))):=X5c λ_ _ _ _ _ _ _ q=>lt_int q
theorem Xfa:OpR X (V2 .Gt) (rI0 λi j=>.bl (decide (j < i))):=X5c λ_ _ _ _ _ _ _ q=>gt_int q
theorem ZFa:OpR X (V2 .Is) (λx y H Q=>y=.non/\Q (.bl (decide (x=.non))) H):=by
 intro aa s σ H x y v u Q I rx ry h;obtain⟨rfl,q⟩:=h;cases ry;refine is_none_gen (QI I q ?_)
 cases x <;> first
  | (cases rx;rfl)
  | (obtain⟨t,rfl⟩:=rx;rfl)
theorem Jgc:OpR X (V2 .IsNot) (λx y H Q=>y=.non/\Q (.bl (!decide (x=.non))) H):=by
 intro aa s σ H x y v u Q I rx ry h;obtain⟨rfl,q⟩:=h;cases ry;refine isnot_none_gen (QI I q ?_)
 cases x <;> first
  | (cases rx;rfl)
  | (obtain⟨t,rfl⟩:=rx;rfl)
theorem Qz(b:Expr){op:CmpOp}(h:op≠.In:=by decide)(h2:op≠.NotIn:=by decide):V3 op b=false:=by
 have e1:(op == CmpOp.In)=false:=by cases op <;> first | rfl | exact absurd rfl h
 have e2:(op == CmpOp.NotIn)=false:=by cases op <;> first | rfl | exact absurd rfl h2
 cases b <;> simp[V3,e1,e2]
theorem Qda{op:CmpOp}{r:R2}(ho:OpR X (V2 op) r)(ha:PE X a ta)(hb:PE X b tb)(hm:V3 op b=false):PE X (.Compare a [op] [b] pos) (tOp r ta tb):=by
 intro aa s σ H Q I h;exact wpAny_Compare1 (YWc ha hb I h λv u s2 x y H2 I2 rx ry q=>ho aa s2 σ H2 x y v u Q I2 rx ry q) hm
def Yoc(t:TE):TT:=λσ H Q=>t σ H λx H'=>∃ k,x=.bl k/\Q k H'
theorem Qu{op:CmpOp}{r:R2}(ho:OpR X (V2 op) r)(ha:PE X a ta)(hb:PE X b tb)(hm:V3 op b=false):PT X (.Compare a [op] [b] pos) (Yoc (tOp r ta tb)):=by
 intro aa s σ H Q I h;refine wpAny_isTrue_Compare1 (thn (ha aa s σ H _ I h) λv s1 ⟨x,H1,I1,r1,q1⟩=>thn (hb aa s1 σ H1 _ I1 q1) λu s2 ⟨y,H2,I2,r2,q2⟩ =>
  thn (ho aa s2 σ H2 x y v u _ I2 r1 r2 q2) λc s3 ⟨z,H3,I3,r3,k,e,q3⟩=>?_) hm
 subst e;cases r3;exact V4 ⟨H3,I3,q3⟩
def X6c(K:VC)(x:V)(H:Hp)(k:Bool):Prop :=
 match x with
 | .non=>k=false
 | .bl b=>k=b
 | .int i=>k=(i != 0)
 | .str y=>y.length<=Vr/\k=((y.length:Int) != 0)
 | .byt y=>y.size<=Vr/\k=((y.size:Int) != 0)
 | .ref p=>(∃ xs,SqL K H p xs/\k=!xs.isEmpty)\/(∃ xs,SqT K H p xs/\k=!xs.isEmpty)\/∃ ae,H p=some (.dK ae)/\k=!ae.isEmpty
 | _=>False
theorem Z1b{κ:Type}{ae:List (κ×V)}{vs:List (κ×Va)}(r:KV ae vs):(!vs.isEmpty)=!ae.isEmpty:=by
 cases r <;> rfl
theorem JGa{xs:List V}{ah:List Va}(r:Qt xs ah):(!ah.toArray.isEmpty)=!xs.isEmpty:=by
 cases r <;> simp
theorem JHa:(Vr:Nat) < 2 ^ 63:=by rw[UB];decide
theorem Y0c:QLd X (λx H Q=>∃ k,X6c X.K x H k/\Q k H):=by
 intro aa s σ H x v Q I rx h;obtain⟨k,e,q⟩:=h;have hl:=JHa;have hs:Vr=16777216:=UB;cases x with
 | non =>
  cases rx;have e':k=false:=e;subst e';exact truthy_none ⟨H,I,q⟩
 | bl b =>
  cases rx;have e':k=b:=e;subst e';exact V4 ⟨H,I,q⟩
 | int i =>
  obtain⟨t,rfl⟩:=rx;have e':k=(i != 0):=e;subst e';exact PySem.P.truthy_int ⟨H,I,q⟩
 | str y =>
  obtain⟨t,rfl⟩:=rx;obtain⟨hy,e'⟩:y.length<=Vr/\k=((y.length:Int) != 0):=e;subst e';exact PySem.P.truthy_str #[0] ⟨H,I.tok _,q⟩
 | byt y =>
  obtain⟨t,rfl⟩:=rx;obtain⟨hy,e'⟩:y.size<=Vr/\k=((y.size:Int) != 0):=e;subst e';exact W.truthy_bytes #[0] ⟨H,I.tok _,q⟩
 | ref p =>
  cases rx;have e':(∃ xs,SqL X.K H p xs/\k=!xs.isEmpty)\/(∃ xs,SqT X.K H p xs/\k=!xs.isEmpty)\/∃ ae,H p=some (.dK ae)/\k=!ae.isEmpty:=e
  rcases e' with ⟨xs,hx,e'⟩ | ⟨xs,hx,e'⟩ | ⟨ae,hx,e'⟩
  ·subst e'
   obtain⟨ah,r,pl,hz⟩:=I.list hx;have ar:=r.length;exact wpAny_truthy_list pl.isList (by simp only[UC];lia) ⟨H,I.tok _,by rw[JGa r];exact q⟩
  ·subst e'
   obtain⟨ah,r,pl,hz⟩:=I.tuple hx;have ar:=r.length;exact truthy_tuple pl (by simp only[UC];lia) ⟨H,I.tok _,by rw[JGa r];exact q⟩
  ·subst e'
   obtain⟨hz,hS,vs,r,m⟩:ae.length<=Vr/\(p == Vt)=false/\∃ vs,KV ae vs/\s.heap.DictOf (QA X.prog X.w) p vs:=I.hok p _ hx;have ar:ae.length=vs.length:=Vn r;exact wpAny_truthy_dict hS m #[0] ⟨H,I.tok _,by rw[Z1b r];exact q⟩
 | _=>exact(show False from e).elim
theorem Q2a(ha:PE X a ta)(he:∀ bd,isTrue a X.env bd=(do let v <- bd;V5 a.pos;V6 [v] (truthy v))) :
 PT X a (λσ H Q=>ta σ H λx H'=>∃ k,X6c X.K x H' k/\Q k H'):=by
 intro aa s σ H Q I h;exact isTrue_plain (thn (ha aa s σ H _ I h) λv s1 ⟨x,H1,I1,r1,q1⟩=>Y0c aa s1 σ H1 x v Q I1 r1 q1) (he _)
theorem YU:OpR X (Uz .Add) (λx y H Q=>∃ i j,x=.str i/\y=.str j/\i.length+j.length<=Vr/\Q (.str (i++j)) H):=by
 intro aa s σ H x y v u Q I rx ry h;obtain⟨i,j,rfl,rfl,hz,q⟩:=h;obtain⟨t,rfl⟩:=rx;obtain⟨t',rfl⟩:=ry;exact add_str (λt' tk=>⟨.str (i++j),H,I.tok _,⟨_,rfl⟩,q⟩) hz
theorem Qqa{x:V}{us:List Va}(r:Qt [x] us):∃ u,us=[u]/\Qq x u:=by
 cases r with
 | cons r1 r2=>cases r2;exact⟨_,rfl,r1⟩
theorem X7c{x y:V}{us:List Va}(r:Qt [x,y] us):∃ u w',us=[u,w']/\Qq x u/\Qq y w':=by
 cases r with
 | cons r1 r2 =>
  cases r2 with
  | cons r3 r4=>cases r4;exact⟨_,_,rfl,r1,r3⟩
theorem XUa:XB X (.type "str") (λxs H Q=>∃ i,xs=[.int i]/\i.natAbs.log2 < 1920/\Q (.str (toString i)) H):=by
 intro aa s σ H xs us Q I r h;obtain⟨i,rfl,hz,q⟩:=h;obtain⟨u,rfl,t,rfl⟩:=Qqa r;exact PySem.P.str_of_int hz ⟨.str _,H,I.tok _,⟨_,rfl⟩,q⟩
theorem X0b:XB X (.builtin "ord") (λxs H Q=>∃ x,xs=[.str x]/\x.length=1/\Q (.int (x.cps.getD 0 0:Nat)) H):=by
 intro aa s σ H xs us Q I r h;obtain⟨x,rfl,hz,q⟩:=h;obtain⟨u,rfl,t,rfl⟩:=Qqa r;exact ord_of_one hz ⟨.int _,H,I.tok _,⟨_,rfl⟩,q⟩
end
structure Z2b(h:Vp)(x dx C:Vh)(mA:Str->Option Va):Prop where
 obj:h.get? x=some (Vv C dx)
 ns:h.Ns1 dx mA
 ne:dx≠x
theorem YVb{h:Vp}{dx:Vh}{mA:Str->Option Va}(n:h.Ns1 dx mA):∃ od,h.get? dx=some od/\∀ name,W.lookIn name od=some (mA name):=by
 obtain⟨o,es,ep,ho,hd,hk,_,hm⟩:=n;refine⟨o,ho,λname=>?_⟩
 have e:=hm name;unfold nsFind findBy at e;rw[<- Array.find?_toList]at e
 unfold W.lookIn;rw[hd];dsimp only
 split
 ·rename_i y q
  rw[q]at e;exact congrArg some e
 ·rename_i q
  rw[q]at e;have a:es.toList.any (·.refKey)=false:=by
   rw[any_eq_false];intro y hy;obtain⟨z,t,ap⟩:=hk y (Array.mem_toList_iff.mp hy);simp[DictEntry.refKey,ap]
  have a':¬ es.toList.any (·.refKey)=true:=by rw[a];exact Uc
  rw[if_neg a'];exact congrArg some e
theorem Z2b.look{h:Vp}{x dx C:Vh}{mA:Str->Option Va}(I:Z2b h x dx C mA):∃ od,W.InstAt h x (Vv C dx) C (some od)/\∀ name,W.lookIn name od=some (mA name) :=
 let ⟨od,ho,hl⟩:=YVb I.ns
 ⟨od,⟨I.obj,rfl,rfl,ho⟩,hl⟩
section
variable{prog:Vg}{w:Vb}{A:VF}{E:YQ_}{s:VG}{K:VC}{x dx C f:Vh}{mA:Str->Option Va}{name:Str}{v:Va}
theorem Jhc{dW:Bool}{Q:YQ_}(X:K.In s.heap)(I:Z2b s.heap x dx C mA)(hg:W.plainGet K C name=true)(hh:W.hasDictIn K C=true)
 (ha:UD K (.ref C) name=some Vo) (hv:mA name=some v) (fT:W.handedIn v=true) (h:Q v { s with toks:=s.toks+1 }) :
 VV (VW prog w) A (getAttr (.ref x) name dW) Q E s:=by
 obtain⟨od,J,hl⟩:=I.look;exact W.get_value X J (W.plainGet_of hg).1 (W.findObj_own hh ha rfl (by rw[hl,hv])) fT h
theorem X1b{pl:Sem Bool}{Q:Va×List Va->VG->Prop}(X:K.In s.heap)(I:Z2b s.heap x dx C mA)(hg:W.plainGet K C name=true)
 (hf:UD K (.ref C) name=some (some (.ref f))) (ht:UE K (.ref f)=true) (hv:mA name=Vo) (h:Q (.ref f,[.ref x]) s) :
 VV (VW prog w) A (UF (.ref x) name pl) Q E s:=by
 obtain⟨od,J,hl⟩:=I.look;exact W.method_fn X J (W.plainGet_of hg).1 (W.plainGet_of hg).2 hf (beq_iff_eq.mp ht) (by show(W.lookIn name od).map (·.isSome)=some false;rw[hl,hv];rfl) h
theorem Jic{ns:List Str}{Q:Unit->VG->Prop}(X:K.In s.heap)(I:Z2b s.heap x dx C mA)
 (hs:UD K (.ref C) "__setattr__"=some (some (.builtin "object.__setattr__"))) (hp:W.plainOver K C=true) (ht:W.takerIn K C name=some Vo) (hh:W.hasDictIn K C=true)
 (hw:Vw mA ns) (hsz:ns.length<=Vr)
 (h:∀ h',Z2b h' x dx C (λy=>if y=name then some v else mA y)->VU dx s.heap h'->Q () { s with heap:=h',toks:=s.toks+2 }) :
 VV (VW prog w) A (setAttr (.ref x) name v) Q E s:=by
 obtain⟨od,J,hl⟩:=I.look;refine W.set_plain X J hs (W.osa_open (s:={ s with toks:=s.toks+1 }) (r:=Vo) X J hp ht λb=>?_)
 obtain⟨cd,hc,cf⟩:=W.any_some hh;have hx:s.heap.get? x=some ⟨.ref C,some dx,.plain,#[]⟩:=I.obj;refine Uj (Ui (Uj (Uj (wpAny_loadPart hx (Uj (W.Looks.here (s:={ s with toks:=s.toks+1 }) (W.looks_clsIn X hc) ?_))))))
 rw[cf];refine Ui (a:=some dx) (Uj (Ui (Uj ?_)))
 refine wpAny_nsSet1 (s:={ s with toks:=s.toks+1 }) I.ns λh' cO cN=>?_
 obtain⟨oD,tJ,tK,lR,lS,lT⟩:=cO.count (PySem.Within.cons name v hw);refine Uj (wpAny_lookBehind lR (by rw[lS];exact pastItsLine_dict (VI lT (by rw[UG];lia))) ?_)
 exact Ui (h _ ⟨(cN.2 _ (VR I.ne)).trans I.obj,cO,I.ne⟩ cN)
theorem X2b{R:UH->VG->Prop}{vs:List Va}{kw:List (Str×Va)}(X:K.In s.heap)(hm:UI K C=true)
 (hi:UD K (.ref C) "__init__"=some (some (.ref f))) (hf:W.typeIn K (.ref f)=some (.type "function"))
 (h:UJ (VW prog w) (A.under (.builtin "type.__call__" ⟨.ref C::vs,kw⟩)) (.call (.ref f) ⟨.ref (s.heap.objs.size+1)::vs,kw⟩) (W.InitBack (s.heap.objs.size+1) R)
  { s with heap:=(s.heap.push UK).push (Vv C s.heap.objs.size) }) :
 UJ (VW prog w) A (.call (.ref C) ⟨vs,kw⟩) R s:=by
 obtain⟨hh,g,d,t,os⟩:=s;exact W.make_core (W.makes_of X hm) (W.looks_findIn X hi) (λself=>W.bind_fn X self hf) (.inl rfl) h
end
def Zu(f:Str)(v:V):List (Str×V)->List (Str×V)
 | []=>[(f,v)]
 | (g,x)::r=>if g=f then (g,v)::r else (g,x)::Zu f v r
theorem Z9a(f g:Str)(v:V):∀ fs:List (Str×V),(Zu f v fs).lookup g=if g=f then some v else fs.lookup g
 | []=>by
  show UL g [(f,v)]=_
  by_cases h:g=f
  ·have hb:(g == f)=true:=beq_iff_eq.mpr h
   simp only[UL,hb,if_pos h]
  ·have hb:(g == f)=false:=beq_eq_false_iff_ne.mpr h
   simp only[UL,hb,if_neg h]
 | (k,x)::r=>by
  have ih:=Z9a f g v r;rw[show Zu f v ((k,x)::r)=(if k=f then (k,v)::r else (k,x)::Zu f v r) from rfl]
  by_cases hk:k=f
  ·rw[if_pos hk]
   by_cases h:g=k
   ·have hb:(g == k)=true:=beq_iff_eq.mpr h
    simp only[UL,hb,if_pos (h.trans hk)]
   ·have hb:(g == k)=false:=beq_eq_false_iff_ne.mpr h
    simp only[UL,hb,if_neg (λe:g=f=>h (e.trans hk.symm))]
  ·rw[if_neg hk]
   by_cases h:g=k
   ·have hb:(g == k)=true:=beq_iff_eq.mpr h
    simp only[UL,hb,if_neg (λe:g=f=>hk (h.symm.trans e))]
   ·have hb:(g == k)=false:=beq_eq_false_iff_ne.mpr h
    simp only[UL,hb];exact ih
theorem ZGa(f:Str)(v:V):∀ fs:List (Str×V),f∈(Zu f v fs).map (·.1)/\∀ g,g∈fs.map (·.1)->g∈(Zu f v fs).map (·.1)
 | []=>⟨by simp[Zu],λg h=>by simp at h⟩
 | (k,x)::r=>by
  obtain⟨i1,i2⟩:=ZGa f v r;rw[show Zu f v ((k,x)::r)=(if k=f then (k,v)::r else (k,x)::Zu f v r) from rfl]
  by_cases hk:k=f
  ·rw[if_pos hk]
   subst hk;exact⟨by simp,λg h=>by simpa using h⟩
  ·rw[if_neg hk]
   refine⟨?_,λg h=>?_⟩
   ·rw[UM]
    exact VN _ i1
   ·rw[UM]at h ⊢
    rcases mem_cons.mp h with e | e
    ·exact mem_cons.mpr (.inl e)
    ·exact VN _ (i2 g e)
theorem Jaa(f:Str)(v:V):∀ fs:List (Str×V),(Zu f v fs).length<=fs.length+1
 | []=>by simp[Zu]
 | (k,x)::r=>by
  have ih:=Jaa f v r;rw[show Zu f v ((k,x)::r)=(if k=f then (k,v)::r else (k,x)::Zu f v r) from rfl]
  by_cases hk:k=f
  ·rw[if_pos hk,UG,UG];lia
  ·rw[if_neg hk,UG,UG];lia
theorem JQ.some_of{v:V}{o:Option Va}(r:JQ (some v) o):∃ u,o=some u/\Qq v u:=by
 cases o with
 | none=>exact(show False from r).elim
 | some u=>exact⟨u,rfl,r⟩
theorem JQ.none_of{o:Option Va}(r:JQ Vo o):o=Vo:=by
 cases o with
 | none=>rfl
 | some u=>exact(show False from r).elim
theorem YWb{v:V}{u:Va}(r:Qq v u):W.handedIn u=true:=by
 cases v with
 | non=>cases (show u=Vi from r);rfl
 | bl b=>cases (show u=Vj b from r);rfl
 | int i=>obtain⟨t,e⟩:=(show ∃ t,u=Vd i t from r);cases e;rfl
 | str x=>obtain⟨t,e⟩:=(show ∃ t,u=Vf x t from r);cases e;rfl
 | byt b=>obtain⟨t,e⟩:=(show ∃ t,u=Value.bytes b t from r);cases e;rfl
 | flt b=>obtain⟨t,e⟩:=(show ∃ t,u=Value.float b t from r);cases e;rfl
 | ref a=>cases (show u=Vk a from r);rfl
 | ty n=>cases (show u=Vl n from r);rfl
section
variable{P:Vg}{w:Vb}{H H':Hp}{h h':Vp}{a C dx:Vh}{fs dF:List (Str×V)}
theorem Joa(hok:HOk P w H h)(e:H a=some (.ins C dx fs)):∃ mA,Z2b h a dx C mA/\(∀ f,JQ (fs.lookup f) (mA f))/\Vw mA (fs.map (·.1))/\fs.length<=1000/\H dx=some (.own a):=by
 obtain⟨d,z,ne,ob,mA,n,r,q⟩:=(show QC P w H h a (.ins C dx fs) from hok a _ e)
 exact⟨mA,⟨ob,n,ne⟩,r,q,z,d⟩
end
structure Cls(K:VC)(C:Vh):Prop where
 pg:W.plainGet K C Str.empty=true
 hd:W.hasDictIn K C=true
 po:W.plainOver K C=true
 sa:UD K (.ref C) "__setattr__"=some (some (.builtin "object.__setattr__"))
theorem Cls.get{K:VC}{C:Vh}(c:Cls K C)(f:Str):W.plainGet K C f=true:=c.pg
def Jn(K:VC)(C:Vh)(f:Str):Prop:=UD K (.ref C) f=some Vo
theorem Jn.taker{K:VC}{C:Vh}{f:Str}(n:Jn K C f):W.takerIn K C f=some Vo:=by
 unfold W.takerIn;rw[show UD K (.ref C) f=some Vo from n]
 rfl
structure X8c(K:VC)(C:Vh)(m:Str)(f:Vh):Prop where
 at_:UD K (.ref C) m=some (some (.ref f))
 fn:UE K (.ref f)=true
 kp:UN K (.ref f)=true
section
variable{X:Cx}{aa:YP_}{σ:St}{H:Hp}{s:VG}{a C dx:Vh}{fs:List (Str×V)}{f:Str}{v:V}{A:VF}{E:YQ_}
theorem Z3b{b:Bool}{Q:YQ_}(I:Inv X aa σ H s)(e:H a=some (.ins C dx fs))(c:Cls X.K C)(n:Jn X.K C f)(l:fs.lookup f=some v)
 (h:∀ u s',Inv X aa σ H s'->Qq v u->Q u s'):VV (VW X.prog X.w) A (getAttr (.ref a) f b) Q E s:=by
 obtain⟨mA,O,r,_,_,_⟩:=Joa I.hok e;obtain⟨u,hu,ru⟩:=JQ.some_of (v:=v) (o:=mA f) (by rw[<- l];exact r f)
 exact Jhc I.kIn O (c.get f) c.hd n hu (YWb ru) (h u _ (I.tok _) ru)
theorem YV{m:Str}{g:Vh}{pl:Sem Bool}{Q:Va×List Va->VG->Prop}(I:Inv X aa σ H s)(e:H a=some (.ins C dx fs))(c:Cls X.K C)(k:X8c X.K C m g)(l:fs.lookup m=Vo)
 (h:Q (.ref g,[.ref a]) s):VV (VW X.prog X.w) A (UF (.ref a) m pl) Q E s:=by
 obtain⟨mA,O,r,_,_,_⟩:=Joa I.hok e;have hn:mA m=Vo:=JQ.none_of (by rw[<- l];exact r m)
 exact X1b I.kIn O (c.get m) k.at_ k.fn hn h
theorem Z4b{y:V}{u:Va}{Q:Unit->VG->Prop}(I:Inv X aa σ H s)(e:H a=some (.ins C dx fs))(c:Cls X.K C)(n:Jn X.K C f)(hl:fs.length < 1000)(ry:Qq y u)
 (h:∀ s',Inv X aa σ (upd H a (.ins C dx (Zu f y fs))) s'->Q () s'):VV (VW X.prog X.w) A (setAttr (.ref a) f u) Q E s:=by
 obtain⟨mA,O,r,wi,_,ho⟩:=Joa I.hok e;have hz:(fs.map (·.1)).length<=Vr:=by rw[UO,UB];lia
 refine Jic I.kIn O c.sa c.po n.taker c.hd wi hz λh' O' sb=>h _ ?_
 have hd:∃ o,h'.get? dx=some o:=let ⟨o,_,_,e',_⟩:=O'.ns;⟨o,e'⟩
 refine I.write (x:=a) (e:=dx) (by rw[e];exact UP) (.inr ho) (λb q hb z=>(sb.2 b hb).trans z) hd ?_
 refine⟨by rw[Qf O.ne];exact ho,?_,O.ne,O'.obj,_,O'.ns,λg=>?_,λg hg=>?_⟩
 ·have:=Jaa f y fs;lia
 ·show JQ ((Zu f y fs).lookup g) (if g=f then some u else mA g)
  rw[Z9a]
  by_cases q:g=f
  ·rw[if_pos q,if_pos q];exact ry
  ·rw[if_neg q,if_neg q];exact r g
 ·by_cases q:g=f
  ·rw[q];exact(ZGa f y fs).1
  ·refine(ZGa f y fs).2 g (wi g λz=>hg ?_)
   show(if g=f then some u else mA g)=Vo
   rw[if_neg q];exact z
theorem Inv.made(I:Inv X aa σ H s):Inv X aa σ (upd (upd H s.heap.objs.size (.own (s.heap.objs.size+1))) (s.heap.objs.size+1) (.ins C s.heap.objs.size []))
 { s with heap:=(s.heap.push UK).push (Vv C s.heap.objs.size) }:=by
 have e1:(s.heap.push UK).get? s.heap.objs.size=some UK:=Us s.heap rfl
 have e2:((s.heap.push UK).push (Vv C s.heap.objs.size)).get? (s.heap.objs.size+1)=some (Vv C s.heap.objs.size):=by
  have:=Us (s.heap.push UK) (o:=Vv C s.heap.objs.size) rfl
  rwa [UQ]at this
 have e3:(s.heap.push UK).Ns s.heap.objs.size (λ_=>Vo):=⟨UK,#[],_,e1,rfl,(λe he=>absurd he #[2]),λ_=>rfl⟩
 have I1:=I.laid (a:=s.heap.objs.size) (o:=.own (s.heap.objs.size+1)) (h':=s.heap.push UK) (t':=s.toks) (λb u q=>Ur _ q) (Ut _) ⟨_,e1⟩
 refine I1.laid (a:=s.heap.objs.size+1) (o:=.ins C s.heap.objs.size []) (t':=s.toks) (λb u q=>Ur _ q) (Nat.le_of_eq (UQ _ _)) ?_
 have ne:s.heap.objs.size≠s.heap.objs.size+1:=VA (UR _);refine⟨by rw[Qf ne,Qa],Ux _,ne,e2,λ_=>Vo,(Heap.Ns1.of_empty e3).at λo q=>Ur _ q,λ_=>UP,λy hy=>absurd rfl hy⟩
theorem Jjc{prog:Vg}{w:Vb}{env:Env}{e:Expr}{f:Str}{pos:Pos}{s:VG}{Q:YQ_}(hb:US e f env (VX e env)=VX e env)
 (h:VV (VW prog w) A (VX e env) (λo s₁=>VV (VW prog w) A (getAttr o f true) Q E s₁) E s):VV (VW prog w) A (VX (.Attribute e f pos) env) Q E s :=
 Attribute_any_ h (by rw[arm_eval_Attribute,hb])
end
def YXb(K:VC)(ta:TE)(f:Str):TE:=λσ H Q=>ta σ H λx H1=>∃ a C dx fs v,x=.ref a/\H1 a=some (.ins C dx fs)/\Cls K C/\Jn K C f/\fs.lookup f=some v/\Q v H1
def X9c(K:VC)(ta tv:TE)(f:Str):TS:=λD σ H=>tv σ H λy H1=>ta σ H1 λx H2=>∃ a C dx fs,x=.ref a/\H2 a=some (.ins C dx fs)/\Cls K C/\Jn K C f/\fs.length < 1000 /\
 D.nx σ (upd H2 a (.ins C dx (Zu f y fs)))
section
variable{X:Cx}{o e value:Expr}{f:Str}{pos aI fU:Pos}{ta tv:TE}
theorem Q2(he:PE X e ta)(hb:US e f X.env (VX e X.env)=VX e X.env):PE X (.Attribute e f pos) (YXb X.K ta f):=by
 intro aa s σ H Q I h;refine Jjc hb (thn (he aa s σ H _ I h) λu s1 hZ=>?_)
 obtain⟨x,H1,I1,rx,a,C,dx,fs,v,ex,ea,c,n,l,q⟩:=hZ;subst ex;obtain rfl:u=Vk a:=rx;exact Z3b I1 ea c n l λu' s2 I2 ru=>⟨v,H1,I2,ru,q⟩
theorem ZZ(ha:PE X o ta)(hv:PE X value tv)(hs:Ua value (some (.Attribute o f aI)) pos.line X.env=pure false):PS X (.Assign [.Attribute o f aI] value pos) (X9c X.K ta tv f):=by
 intro aa s σ H D I h;refine plainObj_wpAny_Assign_Attribute (thn (hv aa s σ H _ I h) λu s1 ⟨y,H1,I1,ry,q⟩=>thn (ha aa s1 σ H1 _ I1 q) λov s2 hZ=>?_) hs
 obtain⟨x,H2,I2,rx,a,C,dx,fs,ex,ea,c,n,l,q2⟩:=hZ;subst ex;obtain rfl:ov=Vk a:=rx;exact Z4b I2 ea c n l ry λs3 I3=>⟨σ,_,I3,q2⟩
end
section
variable{X:Cx}{aa:YP_}{σ:St}{H:Hp}{s:VG}{A:VF}{E:YQ_}{Q:YQ_}{c:Va}{b:Bool}
inductive Q3a(K:VC)(H:Hp):V->Va->Prop where
 | non:Q3a K H .non (.type "NoneType")
 | bl (x:Bool):Q3a K H (.bl x) (.type "bool")
 | int (i:Int):Q3a K H (.int i) (.type "int")
 | str (x:Str):Q3a K H (.str x) (.type "str")
 | flt (x:UInt64):Q3a K H (.flt x) (.type "float")
 | lst {a:Vh} {xs:List V} (e:H a=some (.lst xs)):Q3a K H (.ref a) (.type "list")
 | frz {a:Vh} {o:Obj} {xs:List V} (e:H a=some (.frz o (.lst xs))):Q3a K H (.ref a) (.type "list")
 | tup {a:Vh} {xs:List V} (e:H a=some (.tup xs)):Q3a K H (.ref a) (.type "tuple")
 | dK {a:Vh} {ae:List (Key×V)} (e:H a=some (.dK ae)):Q3a K H (.ref a) (.type "dict")
 | dT {a:Vh} {ae:List (List Key×V)} (e:H a=some (.dT ae)):Q3a K H (.ref a) (.type "dict")
 | ins {a C dx:Vh} {fs:List (Str×V)} (e:H a=some (.ins C dx fs)) (cl:Cls K C) (ha:UD K (.ref C) "__class__"=some (some (.builtin "object.__class__")))
  (hn:UT K (.builtin "object.__class__") "__get__"=some (some (.builtin "getset_descriptor.__get__"))) (pL:W.takesIn K (.builtin "object.__class__")=some true)
  (hm:W.mroIn K C (.type "object")=some true):Q3a K H (.ref a) (.ref C)
theorem YYb{x:V}{u t:Va}(I:Inv X aa σ H s)(rx:Qq x u)(ty:Q3a X.K H x t)(e:UU X.K t c=some b)(h:∀ tk,Q (.bool b) { s with toks:=tk }) :
 VV (VW X.prog X.w) A (Uy (.builtin "isinstance") [u,c]) Q E s:=by
 cases ty with
 | non=>cases (show u=Vi from rx);exact UV W.kitx_none I.kIn UP e (λz=>nomatch z) h
 | bl y=>cases (show u=Vj y from rx);exact UV W.kitx_bool I.kIn UP e (λz=>nomatch z) h
 | int i=>obtain⟨t,q⟩:=(show ∃ t,u=Vd i t from rx);cases q;exact UV W.kitx_int I.kIn UP e (λz=>nomatch z) h
 | str y=>obtain⟨t,q⟩:=(show ∃ t,u=Vf y t from rx);cases q;exact UV W.kitx_str I.kIn UP e (λz=>nomatch z) h
 | flt y=>obtain⟨t,q⟩:=(show ∃ t,u=Value.float y t from rx);cases q;exact UV W.kitx_float I.kIn UP e (λz=>nomatch z) h
 | @lst a xs ea =>
  cases (show u=Vk a from rx)
  obtain⟨_,_,n,_,h1⟩:=(show QC X.prog X.w H s.heap a (.lst xs) from I.hok a _ ea)
  exact UV W.kitx_list I.kIn ⟨_,h1,rfl⟩ e (λz=>nomatch z) h
 | @frz a ob xs ea =>
  cases (show u=Vk a from rx)
  obtain⟨_,_,_,n,_,h1⟩:=(show QC X.prog X.w H s.heap a (.frz ob (.lst xs)) from I.hok a _ ea)
  exact UV W.kitx_list I.kIn ⟨_,h1,rfl⟩ e (λz=>nomatch z) h
 | @tup a xs ea =>
  cases (show u=Vk a from rx)
  obtain⟨_,_,_,p⟩:=(show QC X.prog X.w H s.heap a (.tup xs) from I.hok a _ ea)
  obtain⟨o,h1,h2,_⟩:=p;exact UV W.kitx_tuple I.kIn ⟨o,h1,h2⟩ e (λz=>nomatch z) h
 | @dK a ae ea =>
  cases (show u=Vk a from rx)
  obtain⟨_,_,vs,_,p⟩:=(show QC X.prog X.w H s.heap a (.dK ae) from I.hok a _ ea)
  obtain⟨o,es,ep,h1,h2,_⟩:=p;exact UV W.kitx_dict I.kIn ⟨o,h1,h2.1⟩ e (λz=>nomatch z) h
 | @dT a ae ea =>
  cases (show u=Vk a from rx)
  obtain⟨_,_,xs,_,o,es,ep,h1,h2,_⟩:=(show QC X.prog X.w H s.heap a (.dT ae) from I.hok a _ ea)
  exact UV W.kitx_dict I.kIn ⟨o,h1,h2.1⟩ e (λz=>nomatch z) h
 | @ins a C dx fs ea cl ha hn pL hm =>
  cases (show u=Vk a from rx)
  obtain⟨mA,O,_⟩:=Joa I.hok ea;obtain⟨od,J,_⟩:=O.look;exact UV (W.kitx_own (cl.get _) cl.hd ha hn pL hm) I.kIn J e (λz=>nomatch z) h
end
structure QX(k:Nat)(A:VF):Prop where
 hd:A.handled=Vo
 dp:A.depth+3 * k+5 < recursionLimit
 un:A.units+16 * k+200 < UW
theorem QX.mono{j k:Nat}{A:VF}(r:QX k A)(h:j<=k):QX j A:=⟨r.hd,by have:=r.dp;lia,by have:=r.un;lia⟩
theorem QX.deeper{k:Nat}{A:VF}(r:QX (k+1) A)(env:Env):QX k (A.deeper env) :=
 ⟨r.hd,by have:=r.dp;show A.depth+1+3 * k+5 < _;lia,by have:=r.un;show A.units+3+16 * k+200 < _;lia⟩
theorem QX.in1{k:Nat}{A:VF}(r:QX (k+1) A):QX k A.in1 :=
 ⟨r.hd,by have:=r.dp;show A.depth+3 * k+5 < _;lia,by have:=r.un;show A.units+1+16 * k+200 < _;lia⟩
theorem Z5b{A:VF}{C:Vh}{us:List Va}{kw:List (Str×Va)}:(A.under (.builtin "type.__call__" ⟨.ref C::us,kw⟩)).depth=A.depth+1:=by
 first | rfl | simp[Around.under,Code.weight,Code.isCreation,Code.isGuard,Code.isCaller,Code.frames,Code.isFrame,guardIds]
theorem Z6b{A:VF}{C:Vh}{us:List Va}{kw:List (Str×Va)}:(A.under (.builtin "type.__call__" ⟨.ref C::us,kw⟩)).units=A.units+1:=by
 first | rfl | simp[Around.under,Code.cUnits,Code.frames,Code.isFrame]
theorem QX.make{k:Nat}{A:VF}(r:QX (k+1) A)(C:Vh)(us:List Va)(kw:List (Str×Va)):QX k (A.under (.builtin "type.__call__" ⟨.ref C::us,kw⟩)) :=
 ⟨r.hd,by have:=r.dp;rw[Z5b];lia,by have:=r.un;rw[Z6b];lia⟩
theorem QX.depth{k:Nat}{A:VF}(r:QX k A):A.depth < recursionLimit:=by have:=r.dp;lia
theorem QX.units{k:Nat}{A:VF}(r:QX k A):A.units+64 < UW:=by have:=r.un;lia
theorem QX.units0{k:Nat}{A:VF}(r:QX k A):A.units < UW:=by have:=r.un;lia
def Jea:TA:=λ_ H Q=>Q [] H
def Xga(ta:TE)(tr:TA):TA:=λσ H Q=>ta σ H λx H1=>tr σ H1 λxs H2=>Q (x::xs) H2
section
variable{X:Cx}{e:Expr}{es:List Expr}{te:TE}{t:TA}{pos:Pos}
theorem Qd:PA X [] Jea:=λ_ _ _ _ H Q I h=>UX ⟨[],H,I,.nil,h⟩
theorem J5b(ha:PE X e te)(hr:PA X es t)(hs:VZ (e::es) X.env=(false,VX e X.env)::VZ es X.env:=by rfl):PA X (e::es) (Xga te t):=by
 intro pos aa s σ H Q I h;rw[hs];show VV _ _ (spliced ((false,VX e X.env)::VY pos (VZ es X.env))) _ _ s;refine UY (thn (ha aa s σ H _ I h) λu s1 hZ=>?_)
 obtain⟨x,H1,I1,r1,q1⟩:=hZ;exact thn (hr pos aa s1 σ H1 _ I1 q1) λus s2 ⟨xs,H2,I2,r2,q2⟩=>⟨x::xs,H2,I2,.cons r1 r2,q2⟩
def Qad(t:TA):TE:=λσ H Q=>t σ H λxs H1=>xs.length<=Vr/\∀ p,H1 p=Vo->Q (.ref p) (upd H1 p (.tup xs))
def Y1c(t:TA):TE:=λσ H Q=>t σ H λxs H1=>xs.length<=Vr/\∀ p,H1 p=Vo->Q (.ref p) (upd H1 p (.lst xs))
theorem Zd{x1}(h:PA X es t):PE X (.Tuple es x1 pos) (Qad t):=by
 intro aa s σ H Q I hq;refine wpAny_Tuple_spliced (thn (h pos aa s σ H _ I hq) λus s1 ⟨xs,H1,I1,r,z,q⟩=>⟨by rw[<- r.length];exact z,?_⟩)
 have hf:H1 s1.heap.objs.size=Vo:=I1.hok.fresh (Ut _);refine⟨.ref s1.heap.objs.size,upd H1 s1.heap.objs.size (.tup xs),I1.laid (t':=s1.toks) (λb u e=>Ur _ e) (Ut _) ?_,rfl,q _ hf⟩
 exact⟨⟨z,_,Us _ rfl,rfl⟩,us,r,⟨_,Us _ rfl,rfl,_,rfl⟩⟩
theorem ZH(h:PA X es t):PE X (.List es pos) (Y1c t):=by
 intro aa s σ H Q I hq;refine wpAny_List_spliced (thn (h pos aa s σ H _ I hq) λus s1 ⟨xs,H1,I1,r,z,q⟩=>⟨by rw[<- r.length];exact z,?_⟩)
 have hf:H1 s1.heap.objs.size=Vo:=I1.hok.fresh (Ut _);refine⟨.ref s1.heap.objs.size,upd H1 s1.heap.objs.size (.lst xs),I1.laid (t':=s1.toks) (λb u e=>Ur _ e) (Ut _) ?_,rfl,q _ hf⟩
 exact⟨z,us,0,r,Us _ rfl⟩
end
abbrev Sp:=List V->Hp->VK->XK->Prop
abbrev CXT:=List Env->Hp->VG->XK->YQ_
structure Z7b(P:Vg)(w:Vb)(K:VC)(mg:Str->Option Va)(base:Vp)(A:VF)(outer:List Env)(s:VG)(H:Hp):Prop where
 frames:A.frames=some outer
 mod:Mod K mg base
 bs:∀ b o,base.get? b=some o->s.heap.get? b=some o/\H b=Vo
 bsz:base.objs.size<=s.heap.objs.size
 funs:s.heap.FunFrames base outer
 frf:∀ b∈frs outer,H b=Vo
 hok:HOk P w H s.heap
 bare:VH s.gens
def CE(outer:List Env)(P:Vg)(w:Vb)(H:Hp)(s:VG)(Q:VK)(u:Va)(s':VG):Prop :=
 ∃ v H',s'.os=s.os/\VH s'.gens/\Un (frs outer) [] H H' s.heap s'.heap/\HOk P w H' s'.heap/\Qq v u/\Q v H'
def CR(CX:CXT)(outer:List Env)(P:Vg)(w:Vb)(H:Hp)(s:VG)(Q:VK)(E:XK)(r:UH)(s':VG):Prop :=
 match r with
 | .ok (.ret u)=>CE outer P w H s Q u s'
 | .ok _=>False
 | .error e=>CX outer H s E e s'
structure QB(P:Vg)(w:Vb)(K:VC)(mg:Str->Option Va)(base:Vp)(CX:CXT)(k:Nat)(f:Vh)(fd:UZ)(ps:List Str)(sp:Sp):Prop where
 len:∀ vs H Q E,sp vs H Q E->vs.length=ps.length
 run:∀ (A:VF) (outer:List Env) (s:VG) (H:Hp) (args:Args) (us:List Va) (vs:List V) (Q:VK) (E:XK),QX k A->Z7b P w K mg base A outer s H->BindsTo s fd args (ps.zip us)->Qt vs us->sp vs H Q E ->
  UJ (VW P w) A (.call (.ref f) args) (CR CX outer P w H s Q E) s
theorem QB.mono{P:Vg}{w:Vb}{K:VC}{mg:Str->Option Va}{base:Vp}{CX:CXT}{j k:Nat}{f:Vh}{fd:UZ}{ps:List Str}{sp:Sp}(F:QB P w K mg base CX j f fd ps sp)(h:j<=k) :
 QB P w K mg base CX k f fd ps sp:=⟨F.len,λA outer s H args us vs Q E hr=>F.run A outer s H args us vs Q E (hr.mono h)⟩
theorem Z7b.make{P:Vg}{w:Vb}{K:VC}{mg:Str->Option Va}{base:Vp}{A:VF}{outer:List Env}{s:VG}{H:Hp}(e:Z7b P w K mg base A outer s H)(C:Vh)(us:List Va)(kw:List (Str×Va)) :
 Z7b P w K mg base (A.under (.builtin "type.__call__" ⟨.ref C::us,kw⟩)) outer s H:=⟨by first | exact e.frames | (simpa[Around.under,Code.envs,Code.isFrame,pushEnvs]using e.frames),e.mod,e.bs,e.bsz,e.funs,e.frf,e.hok,e.bare⟩
section
variable{X:Cx}{aa:YP_}{σ:St}{H:Hp}{s s':VG}
theorem Inv.env0(I:Inv X aa σ H s):Z7b X.prog X.w X.K X.mg X.base X.A X.stack s H :=
 ⟨I.ok.frames,I.ok.mod,I.bs,VI I.ok.bsz I.sz,I.stack,I.stkFree,I.hok,I.bare⟩
theorem Inv.after{Q:VK}{u:Va}(I:Inv X aa σ H s)(h:CE X.stack X.prog X.w H s Q u s'):EP X aa σ Q u s':=by
 obtain⟨v,H',os,bare,un,hok,r,q⟩:=h;obtain⟨hh,g,d,t,tL⟩:=s';obtain rfl:tL=s.os:=os;exact⟨v,H',I.call (h':=hh) (g':=g) (d':=d) (t':=t) (ch:=[]) un hok bare (λb z=>absurd z #[2]),r,q⟩
end
def QPb(sp:Sp)(bB:List V)(E:XK)(t:TA):TE:=λσ H Q=>t σ H λvs H1=>sp (vs++bB) H1 Q E
def J6b(C:Vh)(sp:Sp)(bB:List V)(E:XK)(t:TA):TE:=λσ H Q=>t σ H λvs H1=>∀ x dx,H1 x=Vo->H1 dx=Vo->dx≠x ->
 sp (.ref x::(vs++bB)) (upd (upd H1 dx (.own x)) x (.ins C dx [])) (λv H2=>v=.non/\Q (.ref x) H2) E
def Zv(K:VC)(fd:UZ)(ps:List Str)(ds:List Va):Prop :=
 ∀ (s:VG) (us:List Va),K.In s.heap->(us++ds).length=ps.length->BindsTo s fd ⟨us,[]⟩ (ps.zip (us++ds))
theorem Zv.all{K:VC}{fd:UZ}{ps:List Str}(h:∀ us:List Va,us.length=ps.length->bindArgs fd ⟨us,[]⟩=pure (ps.zip us)):Zv K fd ps []:=λs us _ hl=>by
 rw[U0]at hl ⊢;exact .of_eq (h us hl)
def ZHa(CX:CXT)(X:Cx)(E:XK):Prop:=∀ (aa:YP_) (σ:St) (H:Hp) (s:VG) (e:Va) (s':VG),Inv X aa σ H s->CX X.stack H s E e s'->X.xe e s'
section
variable{X:Cx}{CX:CXT}{k:Nat}{f C:Vh}{fd:UZ}{ps:List Str}{sp:Sp}{bB:List V}{ds:List Va}{E:XK}{x m:Str}{p pos ai:Pos}{e o:Expr}{es:List Expr}{ta:TE}{t:TA}
theorem X3b{aa:YP_}{σ:St}{H:Hp}{s:VG}{Q:VK}{us:List Va}{vs:List V}(F:QB X.prog X.w X.K X.mg X.base CX k f fd ps sp)(hr:QX k X.A)(hb:Zv X.K fd ps ds)(hd:Qt bB ds)(hx:ZHa CX X E)
 (I:Inv X aa σ H s) (r:Qt vs us) (h:sp (vs++bB) H Q E):VV (VW X.prog X.w) X.A (Uy (.ref f) us) (EP X aa σ Q) X.xe s:=by
 have r2:Qt (vs++bB) (us++ds):=r.append hd;have hl:(us++ds).length=ps.length:=by rw[<- r2.length];exact F.len _ _ _ _ h
 refine U1 (U2 (F.run X.A X.stack s H ⟨us,[]⟩ (us++ds) (vs++bB) Q E hr I.env0 (hb s us I.kIn hl) r2 h) λr s' hq=>?_)
 cases r with
 | error e=>exact hx aa σ H s e s' I hq
 | ok fl =>
  cases fl with
  | ret u=>exact I.after hq
  | next=>exact V8 hq
  | brk=>exact V8 hq
  | cont=>exact V8 hq
theorem Jkc(F:QB X.prog X.w X.K X.mg X.base CX k f fd ps sp)(hr:QX k X.A)(hg:Gl X x)(hm:X.mg x=some (.ref f))(hk:UN X.K (.ref f)=true)(hb:Zv X.K fd ps ds)(hd:Qt bB ds)(hx:ZHa CX X E)
 (ha:PA X (e::es) t) (aP:(x == ("__debug__":Str))=false:=by decide) (he:VZ (e::es) X.env=(false,VX e X.env)::VZ es X.env:=by rfl) (aN:(VY pos (VZ es X.env)).any (·.1)=false:=by rfl) :
 PE X (.Call (.Name x p) (e::es) [] pos) (QPb sp bB E t):=by
 intro aa s σ H Q I h;refine U3 (Ye I hg hm ?_ aP)
 refine U4 (h₀:=X.base) I.ok.mod.kin hk (thn (ha pos aa s σ H _ I h) λus s1 ⟨vs,H1,I1,r,q⟩=>⟨I1.kIn,?_⟩) he aN
 exact X3b F hr hb hd hx I1 r q
structure Mk(K:VC)(C f:Vh):Prop where
 makes:UI K C=true
 init:UD K (.ref C) "__init__"=some (some (.ref f))
 fn:UE K (.ref f)=true
 kp:UN K (.ref C)=true
theorem QQb{aa:YP_}{σ:St}{H:Hp}{s:VG}{Q:VK}{us:List Va}{vs:List V}(M:Mk X.K C f)(F:QB X.prog X.w X.K X.mg X.base CX k f fd ps sp)(hr:QX (k+1) X.A)(hb:Zv X.K fd ps ds)(hd:Qt bB ds)
 (hx:ZHa CX X E) (I:Inv X aa σ H s) (r:Qt vs us)
 (h:∀ x dx,H x=Vo->H dx=Vo->dx≠x->sp (.ref x::(vs++bB)) (upd (upd H dx (.own x)) x (.ins C dx [])) (λv H2=>v=.non/\Q (.ref x) H2) E) :
 VV (VW X.prog X.w) X.A (Uy (.ref C) us) (EP X aa σ Q) X.xe s:=by
 have hq:=h (s.heap.objs.size+1) s.heap.objs.size (I.hok.fresh (U5 _)) (I.hok.fresh (Ut _)) (VA (UR _));have I2:=Inv.made (C:=C) I;have r2:Qt (V.ref (s.heap.objs.size+1)::(vs++bB)) (Vk (s.heap.objs.size+1)::(us++ds)):=.cons rfl (r.append hd);have hl:(Vk (s.heap.objs.size+1)::us++ds).length=ps.length:=by
  have e:=r2.length;rw[F.len _ _ _ _ hq]at e;exact e.symm
 refine U1 (X2b (f:=f) I.kIn M.makes M.init (beq_iff_eq.mp M.fn) (U2 (F.run _ X.stack _ _ ⟨Vk (s.heap.objs.size+1)::us,[]⟩ (Vk (s.heap.objs.size+1)::(us++ds)) _ _ E (hr.make C us [])
  (I2.env0.make C us []) (hb _ (Vk (s.heap.objs.size+1)::us) I2.kIn hl) r2 hq) λr s' iy=>?_))
 cases r with
 | error e=>exact hx aa σ _ _ e s' I2 iy
 | ok fl =>
  cases fl with
  | ret u =>
   obtain⟨v,H',I3,rv,ev,q3⟩:=I2.after iy;subst ev;exact⟨rv,⟨V.ref (s.heap.objs.size+1),H',I3,rfl,q3⟩⟩
  | next=>exact V8 iy
  | brk=>exact V8 iy
  | cont=>exact V8 iy
theorem Jlc(M:Mk X.K C f)(F:QB X.prog X.w X.K X.mg X.base CX k f fd ps sp)(hr:QX (k+1) X.A)(hg:Gl X x)(hm:X.mg x=some (.ref C))(hb:Zv X.K fd ps ds)(hd:Qt bB ds)(hx:ZHa CX X E)
 (ha:PA X (e::es) t) (aP:(x == ("__debug__":Str))=false:=by decide) (he:VZ (e::es) X.env=(false,VX e X.env)::VZ es X.env:=by rfl) (aN:(VY pos (VZ es X.env)).any (·.1)=false:=by rfl) :
 PE X (.Call (.Name x p) (e::es) [] pos) (J6b C sp bB E t):=by
 intro aa s σ H Q I h;refine U3 (Ye I hg hm ?_ aP)
 refine U4 (h₀:=X.base) I.ok.mod.kin M.kp (thn (ha pos aa s σ H _ I h) λus s1 ⟨vs,H1,I1,r,q⟩=>⟨I1.kIn,?_⟩) he aN
 exact QQb M F hr hb hd hx I1 r q
theorem X4b(M:Mk X.K C f)(F:QB X.prog X.w X.K X.mg X.base CX k f fd ps sp)(hr:QX (k+1) X.A)(hg:Gl X x)(hm:X.mg x=some (.ref C))(hb:Zv X.K fd ps ds)(hd:Qt bB ds)(hx:ZHa CX X E)
 (aP:(x == ("__debug__":Str))=false:=by decide):PE X (.Call (.Name x p) [] [] pos) (J6b C sp bB E Jea):=by
 intro aa s σ H Q I h;refine U3 (Ye I hg hm ?_ aP)
 exact U6 I.kIn M.kp (QQb (us:=[]) M F hr hb hd hx I .nil h)
end
def PK(X:Cx)(gQ:List U7)(t:TA):Prop :=
 ∀ (pos:Pos) (aa:YP_) (s:VG) (σ:St) (H:Hp) (Q:List V->Hp->Prop),Inv X aa σ H s->t σ H Q->VV (VW X.prog X.w) X.A (evalAll ((U8 pos (U9 gQ X.env)).map (·.2))) (AP X aa σ Q) X.xe s
section
variable{X:Cx}{CX:CXT}{k:Nat}{f C:Vh}{fd:UZ}{ps ks:List Str}{sp:Sp}{E:XK}{x m:Str}{p pos ai c5:Pos}{e o:Expr}{es:List Expr}{gQ:List U7}{te ta:TE}{t tk:TA}{nm:Option Str}
theorem Y2c:PK X [] Jea:=λ_ _ _ _ H Q I h=>wpAny_evalAll_nil ⟨[],H,I,.nil,h⟩
theorem Jmc(ha:PE X e te)(hr:PK X gQ t):PK X (⟨nm,e,c5⟩::gQ) (Xga te t):=by
 intro pos aa s σ H Q I h;show VV _ _ (evalAll ((do let v <- VX e X.env;V5 pos;pure v)::(U8 pos (U9 gQ X.env)).map (·.2))) _ _ s
 refine wpAny_evalAll_cons (Uj (thn (ha aa s σ H _ I h) λu s1 ⟨x,H1,I1,r1,q1⟩=>Uj (Oa (Ui ?_))))
 exact thn (hr pos aa s1 σ H1 _ I1 q1) λus s2 ⟨xs,H2,I2,r2,q2⟩=>⟨x::xs,H2,I2,.cons r1 r2,q2⟩
variable{g:List Va->List Va->List Va}{gV:List V->List V->List V}
end
structure Qo(N P:List Str)(sc:Scope):Prop where
 kind:sc.kind=.function
 co:sc.isCoroutine=false
 gen:sc.isGenerator=false
 nd:N.Nodup
 pre:N.take P.length=P
 par:∀ x∈P,sc.names.lookup x=some .local\/sc.names.lookup x=some .cell
 nofree:∀ y∈sc.names,y.2≠.free
theorem Xha{kindOf:Str->Option Ob}{x:Str}:∀ {binds:List (Str×Va)} {m:Str->Option Va},(∀ v,(x,v)∉binds)->Oc kindOf binds m x=m x
 | [],_,_=>rfl
 | (n,v)::r,m,h=>by
  unfold Oc;rw[Xha λw hw=>h w (VN _ hw)]
  split
  ·have:x≠n:=by rintro rfl;exact h v VM
   simp[this]
  ·rfl
theorem Xia{kindOf:Str->Option Ob}{x:Str}:∀ {binds:List (Str×Va)} {m:Str->Option Va},(∀ v,(x,v)∉binds)->Od kindOf binds m x=m x
 | [],_,_=>rfl
 | (n,v)::r,m,h=>by
  unfold Od;rw[Xia λw hw=>h w (VN _ hw)]
  split
  ·rfl
  ·have:x≠n:=by rintro rfl;exact h v VM
   simp[this]
theorem Xja{kindOf:Str->Option Ob}{x:Str}{v:Va}:∀ {P:List Str} {vs:List Va} {i:Nat} {m:Str->Option Va},P.Nodup->P[i]?=some x->vs[i]?=some v->kindOf x=some .local ->
 Oc kindOf (P.zip vs) m x=some v
 | [],_,_,_,_,h,_,_=>by simp at h
 | _::_,[],_,_,_,_,h,_=>by simp at h
 | p::P,w::vs,0,m,nd,h1,h2,hk=>by
  simp at h1 h2;subst h1;subst h2;show Oc kindOf ((p,w)::P.zip vs) m p=_;unfold Oc;rw[Xha λv hv=>(nodup_cons.mp nd).1 (of_mem_zip hv).1,if_pos hk]
  simp
 | p::P,w::vs,i+1,m,nd,h1,h2,hk=>by
  show Oc kindOf ((p,w)::P.zip vs) m x=_;unfold Oc;exact Xja (i:=i) (nodup_cons.mp nd).2 (by simpa using h1) (by simpa using h2) hk
theorem Xka{kindOf:Str->Option Ob}{x:Str}{v:Va}:∀ {P:List Str} {vs:List Va} {i:Nat} {m:Str->Option Va},P.Nodup->P[i]?=some x->vs[i]?=some v->kindOf x≠some .local ->
 Od kindOf (P.zip vs) m x=some v
 | [],_,_,_,_,h,_,_=>by simp at h
 | _::_,[],_,_,_,_,h,_=>by simp at h
 | p::P,w::vs,0,m,nd,h1,h2,hk=>by
  simp at h1 h2;subst h1;subst h2;show Od kindOf ((p,w)::P.zip vs) m p=_;unfold Od;rw[Xia λv hv=>(nodup_cons.mp nd).1 (of_mem_zip hv).1,if_neg hk]
  simp
 | p::P,w::vs,i+1,m,nd,h1,h2,hk=>by
  show Od kindOf ((p,w)::P.zip vs) m x=_;unfold Od;exact Xka (i:=i) (nodup_cons.mp nd).2 (by simpa using h1) (by simpa using h2) hk
def Q4a(N:List Str)(vs:List V):St:=vs.map some++List.replicate (N.length - vs.length) Vo
def Q5a(CX:CXT)(P:Vg)(w:Vb)(K:VC)(mg:Str->Option Va)(base:Vp)(N:List Str)(qual:Str)(scope:Scope)(f:Vh)(cd:Va)(A:VF)(outer:List Env)(s:VG)(H:Hp)(E:XK):Cx where
 prog:=P
 w:=w
 K:=K
 mg:=mg
 base:=base
 A:=A.deeper (Oe qual scope s.heap.objs.size f cd)
 N:=N
 s₀:=s
 H₀:=H
 env:=Oe qual scope s.heap.objs.size f cd
 outer:=outer
 stack:=Oe qual scope s.heap.objs.size f cd::outer
 ex:=[]
 calm:=true
 fn:=λ_=>true
 pn:=[]
 xe:=λe s'=>VV (VW P w) (A.deeper (Oe qual scope s.heap.objs.size f cd)) (leaving (Oe qual scope s.heap.objs.size f cd) e) (λ_ bH=>CX outer H s E e bH) (λe' bH=>CX outer H s E e' bH) s'
theorem QRb{sc:Scope}{n:Nat}{x:Str}(h:sc.names.lookup x=some .cell):∃ c,(cellsFrom n sc.names []).lookup x=some c:=by
 have q:=W.cellsFrom_some sc.names n [] (.inl h);exact Option.isSome_iff_exists.mp q
theorem YZb{CX:CXT}{P:Vg}{w:Vb}{K:VC}{mg:Str->Option Va}{base:Vp}{N ps:List Str}{qual:Str}{scope:Scope}{f:Vh}{cd:Va}{A:VF}{outer:List Env}{s s1:VG}{H:Hp}{E:XK}{us:List Va}{vs:List V}
 (S:Qo N ps scope) (hd:A.handled=Vo) (e0:Z7b P w K mg base A outer s H) (hl:vs.length=ps.length) (r:Qt vs us)
 (x:InCallC s s.heap.objs.size (Oc (Oe qual scope s.heap.objs.size f cd).kindOf (ps.zip us) λ_=>Vo) (cellsFrom (s.heap.objs.size+1) scope.names []) (Od (Oe qual scope s.heap.objs.size f cd).kindOf (ps.zip us) λ_=>Vo) s1) :
 Inv (Q5a CX P w K mg base N qual scope f cd A outer s H E) [] (Q4a N vs) H s1:=by
 have aN:ps.length<=N.length:=by have:=congrArg List.length S.pre;rw[Of]at this;lia
 obtain⟨h1,tk,rfl,hk⟩:=x.done;have iz:∀ b:Vh,b∉(Q5a CX P w K mg base N qual scope f cd A outer s H E).ex:=λb z=>absurd (show b∈([]:List Vh) from z) #[2]
 refine⟨⟨e0.mod,S.kind,rfl,rfl,Ut _,λy z c h1 h2=>?_,λy hy=>?_,λy c _ h=>?_,λ_=>hd,Around.frames_deeper e0.frames,.inr ⟨rfl,rfl⟩,λb z=>absurd z (iz b),e0.bs,e0.bsz,λb _ _=>iz b,λb z=>absurd z (iz b),e0.funs,e0.frf⟩,
  rfl,e0.bare,Un.kept hk,⟨_,x.toInCall.ns,λi y v h1 h2 h3=>?_⟩,λy c h=>⟨_,x.cell y c h⟩,e0.hok.fresh (Ut _),λy c h=>?_,λp hp=>absurd (show p∈([]:YP_) from hp) #[2],e0.hok.kept hk,?_⟩
 ·exact name_of_addr x.apart (Og h1) (Og h2)
 ·have hy:scope.names.lookup y=some .cell\/scope.names.lookup y=some .free:=hy
  rcases hy with hy | hy
  ·exact QRb hy
  ·exact absurd rfl (S.nofree _ (Og hy))
 ·exact VJ (x.above y c (Og h))
 ·have hi:i < vs.length:=by
   unfold Q4a at h2
   by_cases hi:i < vs.length
   ·exact hi
   ·rw[Oh (by simpa using hi)]at h2
    rw[getElem?_replicate]at h2
    split at h2 <;> cases h2
  have ha:vs[i]?=some v:=by
   unfold Q4a at h2;rw[Oi (by simpa using hi),Oj]at h2
   cases e:vs[i]? with
   | none=>rw[e]at h2;cases h2
   | some a=>rw[e]at h2;cases h2;rfl
  obtain⟨u,hu,rv⟩:=r.get ha;have hp:ps[i]?=some y:=by
   rw[<- S.pre,getElem?_take_of_lt #[0]];exact h1
  have pM:ps.Nodup:=by rw[<- S.pre];exact S.nd.sublist (Ol _ _)
  refine⟨u,rv,?_⟩
  rcases S.par y (Om hp) with k | k
  ·exact .inl ⟨k,Xja pM hp hu k⟩
  ·obtain⟨c,e⟩:=QRb (n:=s.heap.objs.size+1) k
   refine .inr ⟨.inl k,c,e,?_⟩
   have q:=x.cell y c e;rw[Xka pM hp hu (by show scope.names.lookup y≠_;rw[k];decide)]at q
   exact q
 ·exact e0.hok.fresh (VJ (x.above y c (Og h)))
 ·unfold Q4a
  show _=N.length;rw[On,UO,length_replicate]
  lia
theorem Ypc{CX:CXT}{P:Vg}{w:Vb}{K:VC}{mg:Str->Option Va}{base:Vp}{k:Nat}{f:Vh}{name qual:Str}{params:Arguments}{body:List V0}{scope:Scope}{dV kV bv pm am ct oc:Va}{an od:Option Vh}
 {cP:Array (Option Va)} {N ps:List Str} {sp:Sp} (lk:K.lookup f=some ⟨oc,od,.func (Oo name qual params body scope dV kV bv pm an am ct),cP⟩) (bG:W.codeIn K am qual=true) (S:Qo N ps scope)
 (len:∀ vs H Q E,sp vs H Q E->vs.length=ps.length)
 (bI:∀ (A:VF) (outer:List Env) (s:VG) (H:Hp) (vs:List V) (Q:VK) (E:XK),QX k (A.deeper (Oe qual scope s.heap.objs.size f am))->sp vs H Q E ->
  ∃ t,PSs (Q5a CX P w K mg base N qual scope f am A outer s H E) body t/\t { nx:=λ_ H'=>Q .non H',rt:=Q } (Q4a N vs) H) :
 QB P w K mg base CX (k+1) f (Oo name qual params body scope dV kV bv pm an am ct) ps sp:=by
 refine⟨len,λA outer s H args us vs Q E hr e0 hb r cC=>?_⟩
 have hl:=len _ _ _ _ cC;have KX:K.In s.heap:=e0.mod.kin.keeps λb o e=>(e0.bs b o e).1
 have tM:s.heap.NoLimit:=e0.mod.nolimit.keeps λb o e=>(e0.bs b o e).1
 have iA:∀ y∈ps.zip us,scope.names.lookup y.1=some .local\/(scope.names.lookup y.1=some .cell/\((cellsFrom (s.heap.objs.size+1) scope.names []).lookup y.1).isSome=true):=λ⟨n,v⟩ hy=>by
  rcases S.par n (of_mem_zip hy).1 with q | q
  ·exact .inl q
  ·exact .inr ⟨q,W.cellsFrom_some _ _ _ (.inl q)⟩
 refine codeAny_call_function hr.depth (KX _ _ lk) rfl S.co S.gen rfl (W.codeRec_of KX bG) (hb _ _ _ _ ?_)
 refine wpAny_newFunctionEnv_cells S.kind iA λenv he s1 x=>?_
 subst he;refine⟨tM.keeps x.toInCall.keep,codeAny_func ?_⟩
 obtain⟨t,ht,hq⟩:=bI A outer s H vs Q E (hr.deeper _) cC;have I:Inv (Q5a CX P w K mg base N qual scope f am A outer s H E) [] (Q4a N vs) H s1:=YZb S hr.hd e0 hl r x;refine V1 (ht [] s1 (Q4a N vs) H _ I hq) (λfl s' hs=>?_) λe s' hs=>hs
 have fin:∀ {σ':St} {H':Hp} {v:V} {u:Va},Inv (Q5a CX P w K mg base N qual scope f am A outer s H E) [] σ' H' s'->Qq v u->Q v H'->CE outer P w H s Q u s' :=
  λ{σ' H' v u} J rv q=>⟨v,H',J.os,J.bare,J.base,J.hok,rv,q⟩
 cases fl with
 | ret u =>
  obtain⟨v,σ',H',J,rv,q⟩:=hs;exact fin J rv q
 | next =>
  obtain⟨σ',H',J,q⟩:=hs;exact fin (v:=V.non) (u:=Vi) J rfl q
 | brk =>
  obtain⟨_,_,_,q⟩:=hs;exact V8 q
 | cont =>
  obtain⟨_,_,_,q⟩:=hs;exact V8 q
section
variable{X:Cx}{x:Str}{p pos:Pos}{e:Expr}{es:List Expr}{t:TA}{id T:String}{r:List V->Hp->VK->Prop}
def tCB(r:List V->Hp->VK->Prop)(t:TA):TE:=λσ H Q=>t σ H λvs H1=>r vs H1 Q
theorem QR(hc:XB X (.builtin id) r)(hg:Gl X x)(hm:X.mg x=Vo)(hv:VE x=some (.builtin id))(ha:PA X (e::es) t)(hn:x≠"__name__":=by decide)(aP:(x == ("__debug__":Str))=false:=by decide)
 (he:VZ (e::es) X.env=(false,VX e X.env)::VZ es X.env:=by rfl) (aN:(VY pos (VZ es X.env)).any (·.1)=false:=by rfl):PE X (.Call (.Name x p) (e::es) [] pos) (tCB r t):=by
 intro aa s σ H Q I h;refine U3 (YS I hg hm hv ?_ hn aP)
 exact Op (thn (ha pos aa s σ H _ I h) λus s1 ⟨vs,H1,I1,r1,q1⟩=>hc aa s1 σ H1 vs us Q I1 r1 q1) he aN
theorem Zm(hc:XB X (.type T) r)(hg:Gl X x)(hm:X.mg x=Vo)(hv:VE x=some (.type T))(ha:PA X (e::es) t)(hn:x≠"__name__":=by decide)(aP:(x == ("__debug__":Str))=false:=by decide)
 (he:VZ (e::es) X.env=(false,VX e X.env)::VZ es X.env:=by rfl) (aN:(VY pos (VZ es X.env)).any (·.1)=false:=by rfl):PE X (.Call (.Name x p) (e::es) [] pos) (tCB r t):=by
 intro aa s σ H Q I h;refine U3 (YS I hg hm hv ?_ hn aP)
 exact Uv (thn (ha pos aa s σ H _ I h) λus s1 ⟨vs,H1,I1,r1,q1⟩=>hc aa s1 σ H1 vs us Q I1 r1 q1) he aN
end
end L2
namespace HT
open PySem PyProof.Rows
theorem X5b(A:VF)(s:VG)(a:Int)(t:Tok)(c:Int)(u:Tok):∃ e,Oq A s (.int a t) (.int c u) e/\(e=true↔a=c) :=
 ⟨(a == c),SeqAt.EqAt.int_int a t c u,by simp⟩
theorem X6b(A:VF)(s:VG)(a:Int)(t:Tok)(c:Int)(u:Tok)(prog:Vg)(w:Vb)(E:YQ_)(Q:YQ_)(h:Q (.bool (decide (a < c))) s) :
 VV (VW prog w) A (richCompare .Lt (.int a t) (.int c u)) Q E s :=
 (PyProof.Rows.lt_int h:VV (VW prog w) A (V2 .Lt (.int a t) (.int c u)) Q E s)
section
open PySem.SeqAt
open PySem.AutoSeq1 (wpAny_loadPart')
open PySem.MeetsSeq PySem.MeetsSeq2 PySem.MeetsSeq3
end
section
variable{prog:Vg}{w:Vb}{A:VF}{E:YQ_}{s:VG}
theorem Jnc{t b:Vh}{vs ws:List Va}{Q:YQ_}(ht:Vs s.heap t vs.toArray)(hb:Vs s.heap b ws.toArray)(hv:vs≠[])
 (h1:ws=[]->Q (.ref t) s) (h2:ws≠[]->Q (.ref s.heap.objs.size) { s with heap:=s.heap.push { cls:=.type "tuple",data:=.seq (vs++ws).toArray } })
 (hsz:vs.length+ws.length<=Vr):VV (VW prog w) A (Uz .Add (.ref t) (.ref b)) Q E s:=by
 obtain⟨⟨cls,dd,data,sl⟩,ho,hc,n,hd⟩:=id ht;obtain⟨⟨iB,cD,CL,eZ⟩,cQ,bC,n2,dG⟩:=id hb;simp only at hc hd bC dG;subst hc hd bC dG;have e:vs.toArray++ws.toArray=(vs++ws).toArray:=by simp
 by_cases hw:ws=[]
 ·exact concat_meets ⟨_,ho,rfl⟩ ⟨_,cQ,rfl⟩ noFill_tuple_add seq_tuple_add F.slot_tuple_add F.entry_tuple_add (F.args_tuple_add_2 _ _)
   (tuple_addW1 t b vs.toArray ws.toArray n n2 dd cD sl eZ (by simpa using hv) (by simp[hw])) ⟨ho,cQ,h1 hw⟩
 ·refine concat_meets ⟨_,ho,rfl⟩ ⟨_,cQ,rfl⟩ noFill_tuple_add seq_tuple_add F.slot_tuple_add F.entry_tuple_add (F.args_tuple_add_2 _ _)
   (tuple_addW2 t b vs.toArray ws.toArray n n2 dd cD sl eZ (by simpa using hv) (by simpa using hw) (by rw[UC,UC];exact hsz)) ⟨ho,cQ,?_⟩
  rw[e];exact h2 hw
def sIx(n d:Nat):Option Int->Nat
 | none=>d
 | some v=>if v < 0 then (v+(n:Int)).toNat else min v.toNat n
theorem J7b(n d k:Nat):sIx n d (some (k:Int))=min k n:=by
 show(if (k:Int) < 0 then ((k:Int)+(n:Int)).toNat else min (k:Int).toNat n)=min k n
 rw[if_neg #[0],Os]
end
end HT
namespace L2
open PySem PySem.Spec PyProof.Rows
abbrev TO:=St->Hp->(Option Int->Hp->Prop)->Prop
def PO(X:Cx)(e:Option Expr)(t:TO):Prop :=
 ∀ (aa:YP_) (s:VG) (σ:St) (H:Hp) (Q:Option Int->Hp->Prop),Inv X aa σ H s->t σ H Q ->
  VV (VW X.prog X.w) X.A (evalPart e X.env) (λu s'=>∃ o H',Inv X aa σ H' s'/\IsPart u o/\Q o H') X.xe s
def YW:TO:=λ_ H Q=>Q Vo H
def JIa(t:TE):TO:=λσ H Q=>t σ H λx H1=>∃ i,x=.int i/\Q (some i) H1
section
variable{X:Cx}{e:Expr}{te:TE}{lo hi:Option Expr}{tl th:TO}{pos p2:Pos}
theorem Jpa:PO X Vo YW:=by
 intro aa s σ H Q I h;rw[evalPart_none];exact Ui ⟨Vo,H,I,.none,h⟩
theorem Yf(h:PE X e te):PO X (some e) (JIa te):=by
 intro aa s σ H Q I hw;rw[evalPart_some];refine thn (h aa s σ H _ I hw) λu s1 hZ=>?_
 obtain⟨x,H1,I1,r1,q1⟩:=hZ;obtain⟨i,rfl,q⟩:=q1;obtain⟨t,rfl⟩:=r1;exact⟨some i,H1,I1,.int i t,q⟩
def SlR(X:Cx)(r:V->Option Int->Option Int->Hp->VK->Prop):Prop :=
 ∀ (aa:YP_) (s:VG) (σ:St) (H:Hp) (x:V) (v vl vu:Va) (lo hi:Option Int) (sl:Vh) (Q:VK),Inv X aa σ H s->Qq x v->s.heap.IsSliceOf sl vl vu .none->IsPart vl lo->IsPart vu hi->r x lo hi H Q ->
  ∃ T id,Ot (.type T) "__getitem__"=pure (some (.builtin id))/\s.TypeIs v T/\VV (VW X.prog X.w) X.A (Ou v (.ref sl)) (EP X aa σ Q) X.xe s
def tSl(r:V->Option Int->Option Int->Hp->VK->Prop)(te:TE)(tl th:TO):TE:=λσ H Q=>te σ H λx H1=>tl σ H1 λl H2=>th σ H2 λu H3=>r x l u H3 Q
theorem YC{r:V->Option Int->Option Int->Hp->VK->Prop}(hr:SlR X r)(he:PE X e te)(hl:PO X lo tl)(hu:PO X hi th):PE X (.Subscript e (.Slice lo hi Vo p2) pos) (tSl r te tl th):=by
 intro aa s σ H Q I h;refine Subscript_ (thn (he aa s σ H _ I h) λv s1 hZ=>?_)
 obtain⟨x,H1,I1,r1,q1⟩:=hZ;refine wpAny_Slice (thn (hl aa s1 σ H1 _ I1 q1) λvl s2 ⟨l,H2,I2,pl,q2⟩=>thn (hu aa s2 σ H2 _ I2 q2) λvu s3 hZ=>?_)
 obtain⟨u,H3,I3,pu,q3⟩:=hZ;rw[evalPart_none];refine Ui ?_
 have I4:Inv X aa σ H3 { s3 with heap:=s3.heap.push { cls:=.type "slice",data:=.fields #[vl,vu,.none] } }:=I3.kept (t':=s3.toks) λb ob q=>Ur _ q
 obtain⟨T,id,hT,ht,hg⟩:=hr aa { s3 with heap:=s3.heap.push { cls:=.type "slice",data:=.fields #[vl,vu,.none] } } σ H3 x v vl vu l u s3.heap.objs.size Q I4 r1 (Heap.IsSliceOf.new ..) pl pu q3
 show VV (VW X.prog X.w) X.A (subscriptTail e (.Slice lo hi Vo p2) v (.ref s3.heap.objs.size)) (EP X aa σ Q) X.xe { s3 with heap:=s3.heap.push { cls:=.type "slice",data:=.fields #[vl,vu,.none] } }
 exact tail_any (ops:=[.ref s3.heap.objs.size,v]) ht hT hg (by with_unfolding_all rfl)
def Qna(xs:List V)(lo hi:Option Int):List V:=(xs.drop (HT.sIx xs.length 0 lo)).take (HT.sIx xs.length xs.length hi - HT.sIx xs.length 0 lo)
theorem QSb(xs:List V)(lo hi:Option Int):(Qna xs lo hi).length<=xs.length:=by
 unfold Qna;rw[Of,Ov]
 lia
def Qbd(K:VC):R2:=λx y H Q=>∃ a b xs ys,x=.ref a/\y=.ref b/\SqT K H a xs/\SqT K H b ys/\xs≠[]/\xs.length+ys.length<=Vr /\
 (ys=[]->Q (.ref a) H)/\(ys≠[]->∀ p,H p=Vo->Q (.ref p) (upd H p (.tup (xs++ys))))
theorem Qt.nil_iff{xs:List V}{us:List Va}(r:Qt xs us):us=[]↔xs=[]:=by
 cases r with
 | nil=>simp
 | cons _ _=>simp
theorem Joc:OpR X (Uz .Add) (Qbd X.K):=by
 intro aa s σ H x y v u Q I rx ry h;obtain⟨a,b,xs,ys,rfl,rfl,ha,hb,hx,hz,q1,q2⟩:=h;cases rx;cases ry;obtain⟨ah,r1,p1,_⟩:=I.tuple ha;obtain⟨aQ,r2,p2,_⟩:=I.tuple hb;refine HT.Jnc p1 p2 (λz=>hx (r1.nil_iff.mp z)) (λz=>⟨.ref a,H,I,rfl,q1 (r2.nil_iff.mp z)⟩) (λz=>?_) (by rw[<- r1.length,<- r2.length];exact hz)
 refine⟨.ref s.heap.objs.size,_,I.laid (t':=s.toks) (o:=.tup (xs++ys)) (λb ob q=>Ur _ q) (Ut _) ?_,rfl,q2 (λw=>z (r2.nil_iff.mpr w)) _ (I.hok.fresh (Ut _))⟩
 exact⟨⟨(by rw[On];exact hz),_,Us _ rfl,rfl⟩,_,r1.append r2,IsTup.new _ _⟩
end
def ixN(n:Nat)(i:Int):Option Nat:=if 0<=i then (if i < n then some i.toNat else Vo) else if -(n:Int)<=i then some (i+n).toNat else Vo
def atI{α:Type}(xs:List α)(i:Int):Option α:=(ixN xs.length i).bind λj=>xs[j]?
theorem Jpc{n:Nat}{i:Int}{j:Nat}(h:ixN n i=some j):seqIndex? i n=some j/\j < n /\ -(n:Int)<=i/\i < n:=by
 unfold ixN at h
 by_cases h0:0<=i
 ·rw[if_pos h0]at h
  by_cases h1:i < n
  ·rw[if_pos h1]at h
   have e:i.toNat=j:=Vq h;exact⟨by rw[seqIndex_of h0 h1,e],by lia,by lia,h1⟩
  ·rw[if_neg h1]at h;cases h
 ·rw[if_neg h0]at h
  by_cases h1 : -(n:Int)<=i
  ·rw[if_pos h1]at h
   have e:(i+n).toNat=j:=Vq h;exact⟨by rw[seqIndex_neg #[0] h1,e],by lia,h1,by lia⟩
  ·rw[if_neg h1]at h;cases h
theorem XVa{α:Type}{xs:List α}{i:Int}{v:α}(h:atI xs i=some v):∃ j,seqIndex? i xs.length=some j/\xs[j]?=some v/\j < xs.length /\ -(xs.length:Int)<=i/\i < xs.length:=by
 unfold atI at h;cases e:ixN xs.length i with
 | none=>rw[e]at h;cases h
 | some j =>
  rw[e]at h;obtain⟨h1,h2,h3,h4⟩:=Jpc e;exact⟨j,h1,h,h2,h3,h4⟩
theorem Z0{α:Type}{xs:List α}{j:Nat}{v:α}(h:xs[j]?=some v):atI xs (j:Int)=some v:=by
 have hj:j < xs.length:=(List.getElem?_eq_some_iff.mp h).1
 have e:ixN xs.length (j:Int)=some j:=by
  unfold ixN;rw[if_pos #[0],if_pos #[0]];simp
 unfold atI;rw[e];exact h
theorem Q6a{α:Type}(xs:List α)(v:α):atI (xs++[v]) (-1)=some v:=by
 have hl:(xs++[v]).length=xs.length+1:=by simp
 have e:ixN (xs++[v]).length (-1)=some xs.length:=by
  unfold ixN;rw[hl,if_neg #[1],if_pos #[0]]
  congr 1
  lia
 unfold atI;rw[e];show(xs++[v])[xs.length]?=some v;simp
def Jqc(b:Expr):Prop:=∀ o i,Ow b false o i=operate [o,i] (Ou o i)
def IxR(X:Cx)(r:R2):Prop :=
 ∀ (value aO:Expr) (aa:YP_) (s:VG) (σ:St) (H:Hp) (x y:V) (v u:Va) (Q:VK),Inv X aa σ H s->Qq x v->Qq y u->r x y H Q ->
  Ow aO false v u=operate [v,u] (Ou v u)->VV (VW X.prog X.w) X.A (subscriptTail value aO v u) (EP X aa σ Q) X.xe s
def MtR(X:Cx)(id:String)(r:V->List V->Hp->VK->Prop):Prop :=
 ∀ (aa:YP_) (s:VG) (σ:St) (H:Hp) (x:V) (xs:List V) (v:Va) (us:List Va) (Q:VK),Inv X aa σ H s->Qq x v->Qt xs us->r x xs H Q ->
  VV (VW X.prog X.w) X.A (Uy (.builtin id) (v::us)) (EP X aa σ Q) X.xe s
section
variable{X:Cx}{a b:Expr}{ta tb:TE}{pos:Pos}
theorem QO{r:R2}(hr:IxR X r)(ha:PE X a ta)(hb:PE X b tb)(hs:Jqc b):PE X (.Subscript a b pos) (tOp r ta tb):=by
 intro aa s σ H Q I h;exact Subscript_ (YWc ha hb I h λv u s2 x y H2 I2 rx ry q=>hr a b aa s2 σ H2 x y v u Q I2 rx ry q (hs _ _))
def Qcd(K:VC):R2:=λx y H Q=>∃ p xs i v,x=.ref p/\y=.int i/\SqL K H p xs/\atI xs i=some v/\Q v H
def X7b(K:VC):R2:=λx y H Q=>∃ p xs i v,x=.ref p/\y=.int i/\SqT K H p xs/\atI xs i=some v/\Q v H
def Qdd:R2:=λx y H Q=>∃ z i c,x=.str z/\y=.int i/\z.length<=Vr/\atI z.cps.toList i=some c/\Q (.str ⟨#[c]⟩) H
theorem Js:IxR X (Qcd X.K):=by
 intro value aO aa s σ H x y v u Q I rx ry h hs;obtain⟨p,xs,i,z,rfl,rfl,hq,he,q⟩:=h;cases rx;obtain⟨t,rfl⟩:=ry;obtain⟨ah,r,pl,hz⟩:=I.list hq;obtain⟨j,h1,h2,h3,h4,h5⟩:=XVa he;obtain⟨w,ew,aU⟩:=r.get h2;have hl:=r.length;have hn:=JHa;have fin:EP X aa σ Q w s:=⟨z,H,I,aU,q⟩
 by_cases h0:0<=i
 ·have hj:i.toNat=j:=by
   rw[seqIndex_of h0 h5]at h1;exact Vq h1
  exact item_listR pl.isList h0 #[0] (by rw[hj];simpa using ew) fin hs
 ·have hj:(i+(ah.toArray.size:Int)).toNat=j:=by
   rw[seqIndex_neg #[0] h4]at h1
   rw[UC,<- hl];exact Vq h1
  exact subscriptTail_builtinR (x:=w) pl.isList.typeIs slot_list_getitem.lookup
   (wpAny_getItem_list_neg (Q:=λr s'=>r=w/\EP X aa σ Q r s') pl.isList #[0] (by rw[UC] <;> lia) #[0] (by rw[hj];simpa using ew) ⟨rfl,fin⟩) hs
theorem QP:IxR X (X7b X.K):=by
 intro value aO aa s σ H x y v u Q I rx ry h hs;obtain⟨p,xs,i,z,rfl,rfl,hq,he,q⟩:=h;cases rx;obtain⟨t,rfl⟩:=ry;obtain⟨ah,r,pl,hz⟩:=I.tuple hq;obtain⟨j,h1,h2,h3,h4,h5⟩:=XVa he;obtain⟨w,ew,aU⟩:=r.get h2;have hl:=r.length;have hn:=JHa;have fin:EP X aa σ Q w s:=⟨z,H,I,aU,q⟩;exact subscriptTail_builtinR (x:=w) pl.typeIs slot_tuple_getitem.lookup
  (getItem_tuple (j:=j) (Q:=λr s'=>r=w/\EP X aa σ Q r s') pl #[0] #[0] (by rw[UC,<- hl];exact h1) (by simpa using ew) ⟨rfl,fin⟩) hs
theorem Y3c:IxR X Qdd:=by
 intro value aO aa s σ H x y v u Q I rx ry h hs;obtain⟨z,i,c,rfl,rfl,hz,he,q⟩:=h;obtain⟨t,rfl⟩:=rx;obtain⟨t',rfl⟩:=ry;obtain⟨j,h1,h2,h3,h4,h5⟩:=XVa he;have hl:z.cps.toList.length=z.length:=by simp[Str.length]
 rw[hl]at h1 h4 h5;have hn:=JHa;exact tail_any (typeIs_str s z t) slot_str_getitem.lookup (getItem_str (c:=c) (by
  have e1:decide (i < -(2 ^ 63:Int))=false:=decide_eq_false #[0]
  have e2:decide (i >= 2 ^ 63)=false:=decide_eq_false #[0]
  rw[e1,e2,Bool.or_false]) (by rw[h1];simpa using h2) ⟨.str ⟨#[c]⟩,H,I.tok _,⟨_,rfl⟩,q⟩) hs
theorem XWa(lo hi:Option Int)(n:Nat):(Ox lo hi Vo n).1=((HT.sIx n 0 lo:Nat):Int)/\(Ox lo hi Vo n).2.1=((HT.sIx n n hi:Nat):Int)/\(Ox lo hi Vo n).2.2=1:=by
 refine⟨?_,?_,rfl⟩
 ·cases lo with
  | none=>simp[Ox,HT.sIx]
  | some i =>
   simp only[Ox,HT.sIx,Option.getD_none,show(1:Int) > 0 by decide,if_true]
   by_cases h:i < 0
   ·simp only[h,if_true] <;> lia
   ·simp only[h,if_false] <;> lia
 ·cases hi with
  | none=>simp[Ox,HT.sIx]
  | some i =>
   simp only[Ox,HT.sIx,Option.getD_none,show(1:Int) > 0 by decide,if_true]
   by_cases h:i < 0
   ·simp only[h,if_true] <;> lia
   ·simp only[h,if_false] <;> lia
theorem YKa(ah:List Va)(lo hi:Option Int):slicePick ah.toArray lo hi Vo=((ah.drop (HT.sIx ah.length 0 lo)).take (HT.sIx ah.length ah.length hi - HT.sIx ah.length 0 lo)).toArray:=by
 obtain⟨h1,h2,h3⟩:=XWa lo hi ah.toArray.size;unfold slicePick;rw[h1,h2,h3];simp only[sliceRange_one,pick_run,UC] <;> rfl
def Z8b(K:VC):V->Option Int->Option Int->Hp->VK->Prop:=λx lo hi H Q=>∃ a xs,x=.ref a/\SqL K H a xs/\∀ p,H p=Vo->Q (.ref p) (upd H p (.lst (Qna xs lo hi)))
theorem Qea:SlR X (Z8b X.K):=by
 intro aa s σ H x v vl vu lo hi sl Q I rx hs pl pu h;obtain⟨a,xs,rfl,hx,q⟩:=h;cases rx;obtain⟨ah,r,ht,hz⟩:=I.list hx;have ar:=r.length;refine⟨"list",_,slot_list_getitem.lookup,ht.isList.typeIs,?_⟩
 refine wpAny_getItem_list_slice ht.isList hs pl pu .none #[2] ?_ (by rw[UC] <;> lia)
 rw[YKa,<- ar];refine⟨.ref s.heap.objs.size,_,I.laid (t':=s.toks) (o:=.lst (Qna xs lo hi)) (λb ob q=>Ur _ q) (Ut _) ?_,rfl,q _ (I.hok.fresh (Ut _))⟩
 exact⟨VI (QSb xs lo hi) hz,_,0,(r.drop (HT.sIx xs.length 0 lo)).take (HT.sIx xs.length xs.length hi - HT.sIx xs.length 0 lo),Us _ rfl⟩
def Qra:V->Bool
 | .non=>true
 | .bl _=>true
 | .int _=>true
 | .str _=>true
 | _=>false
def eqV:V->V->Bool
 | .non,.non=>true
 | .bl a,.bl b=>a == b
 | .bl a,.int b=>(if a then 1 else 0) == b
 | .int a,.bl b=>a == (if b then 1 else 0)
 | .int a,.int b=>a == b
 | .str a,.str b=>a == b
 | _,_=>false
theorem Z9b{A:VF}{s:VG}{y x:V}{u v:Va}(ry:Qq y u)(rx:Qq x v)(fy:Qra y=true)(fx:Qra x=true):Oq A s u v (eqV y x):=by
 cases y with
 | non =>
  cases ry;cases x with
  | non=>cases rx;exact SeqAt.EqAt.same _
  | bl b=>cases rx;exact SeqAt.EqAt.none_bool b
  | int b=>obtain⟨t,rfl⟩:=rx;exact SeqAt.EqAt.none_int b t
  | str b=>obtain⟨t,rfl⟩:=rx;exact SeqAt.EqAt.none_str b t
  | _=>exact absurd (show false=true from fx) Uc
 | bl a =>
  cases ry;cases x with
  | non=>cases rx;exact SeqAt.EqAt.bool_none a
  | bl b=>cases rx;exact SeqAt.EqAt.bool_bool a b
  | int b=>obtain⟨t,rfl⟩:=rx;exact SeqAt.EqAt.bool_int a b t
  | str b=>obtain⟨t,rfl⟩:=rx;exact SeqAt.EqAt.bool_str a b t
  | _=>exact absurd (show false=true from fx) Uc
 | int a =>
  obtain⟨t',rfl⟩:=ry;cases x with
  | non=>cases rx;exact SeqAt.EqAt.int_none a t'
  | bl b=>cases rx;exact SeqAt.EqAt.int_bool a t' b
  | int b=>obtain⟨t,rfl⟩:=rx;exact SeqAt.EqAt.int_int a t' b t
  | str b=>obtain⟨t,rfl⟩:=rx;exact SeqAt.EqAt.int_str a t' b t
  | _=>exact absurd (show false=true from fx) Uc
 | str a =>
  obtain⟨t',rfl⟩:=ry;cases x with
  | non=>cases rx;exact SeqAt.EqAt.str_none a t'
  | bl b=>cases rx;exact SeqAt.EqAt.str_bool a t' b
  | int b=>obtain⟨t,rfl⟩:=rx;exact SeqAt.EqAt.str_int a t' b t
  | str b=>obtain⟨t,rfl⟩:=rx;exact SeqAt.EqAt.str_str a t' b t
  | _=>exact absurd (show false=true from fx) Uc
 | _=>exact absurd (show false=true from fy) Uc
theorem QV:XB X (.builtin "len") (λxs H Q=>∃ p ys,xs=[.ref p]/\(SqL X.K H p ys\/SqT X.K H p ys)/\Q (.int ys.length) H):=by
 intro aa s σ H xs us Q I r h;obtain⟨p,ys,rfl,hq,q⟩:=h;obtain⟨u,rfl,rx⟩:=Qqa r;cases rx;have hn:=JHa
 rcases hq with hq | hq
 ·obtain⟨ah,r',pl,hz⟩:=I.list hq
  have ar:=r'.length;exact Calls.call_len_list pl.isList (by simp only[UC] <;> lia) ⟨.int ys.length,H,I.tok _,⟨s.toks+1,by rw[UC,ar]⟩,q⟩
 ·obtain⟨ah,r',pl,hz⟩:=I.tuple hq
  have ar:=r'.length;exact len_tuple pl (by simp only[UC] <;> lia) ⟨.int ys.length,H,I.tok _,⟨s.toks+1,by rw[UC,ar]⟩,q⟩
theorem Q7a:XB X (.type "list") (λxs H Q=>∃ p ys,xs=[.ref p]/\(SqL X.K H p ys\/SqT X.K H p ys)/\∀ l,H l=Vo->Q (.ref l) (upd H l (.lst ys))):=by
 intro aa s σ H xs us Q I r h;obtain⟨p,ys,rfl,hq,q⟩:=h;obtain⟨u,rfl,rx⟩:=Qqa r;cases rx;have fin:∀ (ah:List Va),Qt ys ah->ys.length<=Vr->∀ (h':Vp) (c':Nat),(∀ b o',s.heap.get? b=some o'->h'.get? b=some o') ->
  h'.get? s.heap.objs.size=some { cls:=.type "list",dict:=Vo,data:=.seq ah.toArray c',slots:=#[] }->EP X aa σ Q (.ref s.heap.objs.size) { s with heap:=h' }:=λah r' hz h' c' kp e =>
  ⟨.ref s.heap.objs.size,_,I.laid (t':=s.toks) kp (Ut _) (show QC X.prog X.w _ h' _ (.lst ys) from⟨hz,ah,c',r',e⟩),rfl,q _ (I.hok.fresh (Ut _))⟩
 rcases hq with hq | hq
 ·obtain⟨ah,r',pl,hz⟩:=I.list hq
  have ar:=r'.length;obtain⟨o,ho,hc,n,hd⟩:=pl.isList;exact call_list_seq p (.inl rfl) ho hc hd (λh' c' kp e=>fin ah r' hz h' c' kp e) (by simp only[UC] <;> lia)
 ·obtain⟨ah,r',pl,hz⟩:=I.tuple hq
  have ar:=r'.length;obtain⟨o,ho,hc,n,hd⟩:=pl;exact call_list_seq p (.inr rfl) ho hc hd (λh' c' kp e=>fin ah r' hz h' c' kp e) (by simp only[UC] <;> lia)
theorem Qsa:XB X (.type "tuple") (λxs H Q=>∃ p ys,xs=[.ref p]/\((SqL X.K H p ys/\∀ l,H l=Vo->Q (.ref l) (upd H l (.tup ys)))\/(SqT X.K H p ys/\Q (.ref p) H))):=by
 intro aa s σ H xs us Q I r h;obtain⟨p,ys,rfl,h⟩:=h;obtain⟨u,rfl,rx⟩:=Qqa r;cases rx
 rcases h with ⟨hq,q⟩ | ⟨hq,q⟩
 ·obtain⟨ah,r',pl,hz⟩:=I.list hq
  have ar:=r'.length;refine call_tuple_list pl.isList (λh' kp=>?_) (by simp only[UC] <;> lia)
  have I1:Inv X aa σ H { s with heap:=h' }:=I.kept (t':=s.toks) kp
  have I2:Inv X aa σ (upd H h'.objs.size (.tup ys)) { s with heap:=h'.push { cls:=.type "tuple",data:=.seq ah.toArray } } :=
   I1.laid (t':=s.toks) (λb o e=>Ur _ e) (Ut _) (show QC X.prog X.w _ _ _ (.tup ys) from⟨⟨hz,_,Us _ rfl,rfl⟩,ah,r',IsTup.new _ _⟩)
  exact⟨.ref h'.objs.size,_,I2,rfl,q _ (I1.hok.fresh (Ut _))⟩
 ·obtain⟨ah,r',pl,hz⟩:=I.tuple hq
  exact call_tuple_same pl ⟨.ref p,H,I,rfl,q⟩
def tyV(K:VC)(T:String)(x:V)(H:Hp):Prop:=match x with
 | .str _=>T="str"
 | .int _=>T="int"
 | .ref p=>(T="list"/\∃ xs,SqL K H p xs)\/(T="tuple"/\∃ o,K.lookup p=some o/\o.cls=.type "tuple"/\o.dict=Vo) \/
  (T="dict"/\((∃ ae,H p=some (.dK ae))\/∃ ae,H p=some (.dT ae)))\/(T="set"/\∃ S n,H p=some (.set S n))
 | _=>False
theorem X8b{aa:YP_}{σ:St}{H:Hp}{s:VG}{T:String}{x:V}{v:Va}(I:Inv X aa σ H s)(r:Qq x v)(ty:tyV X.K T x H) :
 s.TypeIs v T/\∀ a,v=.ref a->∃ ob,s.heap.get? a=some ob/\ob.dict=Vo:=by
 cases x with
 | str z =>
  obtain⟨t,rfl⟩:=r;cases (show T="str" from ty)
  exact⟨typeIs_str s z t,λ_ e=>nomatch e⟩
 | int i =>
  obtain⟨t,rfl⟩:=r;cases (show T="int" from ty)
  exact⟨typeIs_int s i t,λ_ e=>nomatch e⟩
 | ref p =>
  cases r
  rcases ty with ⟨rfl,xs,hq⟩ | ⟨rfl,o,hk,hc,hd⟩ | ⟨rfl,hk⟩ | ⟨rfl,S,n,hk⟩
  ·obtain⟨ah,_,pl,_⟩:=I.list hq
   refine⟨pl.isList.typeIs,λa e=>?_⟩
   cases e;obtain⟨o,n,e,c,hd,_⟩:=pl;exact⟨o,e,hd⟩
  ·refine⟨⟨o,I.kIn p o hk,hc⟩,λa e=>?_⟩
   cases e;exact⟨o,I.kIn _ o hk,hd⟩
  ·have z:∃ o,s.heap.get? p=some o/\o.ExactDict:=by
    rcases hk with ⟨ae,hk⟩ | ⟨ae,hk⟩
    ·obtain⟨_,_,_,_,o,_,_,e,ex,_⟩:=I.hok p _ hk
     exact⟨o,e,ex⟩
    ·obtain⟨_,_,_,_,o,_,_,e,ex,_⟩:=I.hok p _ hk
     exact⟨o,e,ex⟩
   obtain⟨o,e,ex⟩:=z;refine⟨⟨o,e,ex.1⟩,λa e2=>?_⟩
   cases e2;exact⟨o,e,ex.2.1⟩
  ·obtain⟨o,_,_,_,e,ex,_⟩:=I.hok p _ hk
   refine⟨⟨o,e,ex.1⟩,λa e2=>?_⟩
   cases e2;exact⟨o,e,ex.2.1⟩
 | _=>exact V8 ty
def Qed(K:VC)(T:String)(r:V->List V->Hp->VK->Prop)(to:TE):TE:=λσ H Q=>to σ H λx H1=>tyV K T x H1/\r x [] H1 Q
def tBM(K:VC)(T:String)(r:V->List V->Hp->VK->Prop)(to:TE)(t:TA):TE:=λσ H Q=>to σ H λx H1=>tyV K T x H1/\t σ H1 λxs H2=>r x xs H2 Q
variable{o e:Expr}{es:List Expr}{to:TE}{t:TA}{name:Str}{ai ak:Pos}{T id:String}{r:V->List V->Hp->VK->Prop}
theorem X9b(pa:PlainAttrs T)(slot:Slot T name id)(lU:typeOf (.builtin id)=pure (.type "method_descriptor"))(hm:MtR X id r)(ho:PE X o to)
 (bJ:US o name X.env (VX o X.env)=VX o X.env:=by rfl) (c8:(ai.endLine == ak.line)=true:=by rfl):PE X (.Call (.Attribute o name ai) [] [] ak) (Qed X.K T r to):=by
 intro aa s σ H Q I h;refine wpAny_Call_method0_late bJ c8 (thn (ho aa s σ H _ I h) λv s1 hZ=>?_)
 obtain⟨x,H1,I1,r1,ty,q1⟩:=hZ;obtain⟨h1,h2⟩:=X8b I1 r1 ty;exact⟨T,id,pa,slot,lU,h1,h2,Oy rfl (PySem.evalArgs_none (hm aa s1 σ H1 x [] v [] Q I1 r1 .nil q1))⟩
theorem XC(pa:PlainAttrs T)(slot:Slot T name id)(lU:typeOf (.builtin id)=pure (.type "method_descriptor"))(hm:MtR X id r)(ho:PE X o to)(ha:PA X (e::es) t)
 (bJ:US o name X.env (VX o X.env)=VX o X.env:=by rfl)
 (iC:((VY ak (VZ (e::es) X.env)).all (λx=>!x.1) && (U8 ak (U9 [] X.env)).all (λx=>x.1.isSome)
  && decide ((e::es).length+([]:List U7).length+(if ([]:List U7).isEmpty then 0 else 1) < 30))=true:=by rfl)
 (c8:(ai.endLine == ak.line)=true:=by rfl) (hs:VZ (e::es) X.env=(false,VX e X.env)::VZ es X.env:=by rfl) (fV:(VY ak (VZ es X.env)).any (·.1)=false:=by rfl) :
 PE X (.Call (.Attribute o name ai) (e::es) [] ak) (tBM X.K T r to t):=by
 intro aa s σ H Q I h;refine wpAny_Call_method_late bJ iC c8 rfl (thn (ho aa s σ H _ I h) λv s1 hZ=>?_)
 obtain⟨x,H1,I1,r1,ty,q1⟩:=hZ;obtain⟨h1,h2⟩:=X8b I1 r1 ty;refine⟨T,id,pa,slot,lU,h1,h2,?_⟩
 have hA:=ha ak aa s1 σ H1 _ I1 q1;rw[hs]at hA ⊢;refine Oy (by show(false || (VY ak (VZ es X.env)).any (·.1))=false;rw[fV] <;> rfl) (Oz ?_)
 exact thn hA λus s2 ⟨vs,H2,I2,r2,q2⟩=>hm aa s2 σ H2 x vs v us Q I2 r1 r2 q2
end
def MtM(X:Cx)(id:String)(r:V->List V->Hp->VK->Prop):Prop :=
 ∀ (aa:YP_) (s:VG) (σ:St) (H:Hp) (x:V) (xs:List V) (v:Va) (us:List Va) (Q:VK),Inv X aa σ H s->Qq x v->Qt xs us->r x xs H Q ->
  VV (VW X.prog X.w) X.A (Uy (.builtin id) (v::us)) (EP X aa σ Q) X.xe s
theorem Qt.one:∀ {x:V} {us:List Va},Qt [x] us->∃ u,us=[u]/\Qq x u
 | _,_,.cons r .nil=>⟨_,rfl,r⟩
theorem Qt.zero:∀ {us:List Va},Qt [] us->us=[]
 | _,.nil=>rfl
theorem Qt.dropLast{xs:List V}{us:List Va}(h:Qt xs us):Qt xs.dropLast us.dropLast:=by
 induction h with
 | nil=>exact .nil
 | cons r t ih =>
  cases t with
  | nil=>exact .nil
  | cons q t'=>exact .cons r ih
theorem Jab{α:Type}(l:List α):l.eraseIdx (l.length - 1)=l.dropLast:=by
 induction l with
 | nil=>rfl
 | cons a r ih =>
  cases r with
  | nil=>rfl
  | cons b r =>
   have e:(a::b::r).length - 1=((b::r).length - 1)+1:=by
    have h1:(a::b::r).length=r.length+2:=rfl;have h2:(b::r).length=r.length+1:=rfl
    lia
   rw[e,CB,ih]
   all_goals rfl
section
variable{X:Cx}{aa:YP_}{σ:St}{H:Hp}{s:VG}{l b:Vh}{xs ys zs:List V}
theorem Inv.lset{ah its':List Va}{n:Nat}{f:Array Va->Array Va}{t':Nat}(I:Inv X aa σ H s)(hH:H l=some (.lst xs))
 (e:s.heap.get? l=some { cls:=.type "list",data:=.seq ah.toArray n }) (hf:f ah.toArray=its'.toArray) (hv:Qt ys its') (hz:ys.length<=Vr) :
 Inv X aa σ (upd H l (.lst ys)) { s with heap:=s.heap.update l (OA f),toks:=t' }:=by
 have q:=PySem.IsL.update e f;rw[hf]at q;refine I.write (x:=l) (e:=l) (by rw[hH];exact trivial) (.inl rfl) (λb' u hb hu=>(OB s.heap (OA f) (VR hb)).trans hu) ⟨_,q⟩ ?_
 exact⟨hz,its',_,hv,q⟩
theorem Inv.lnew{ah:List Va}{t':Nat}(I:Inv X aa σ H s)(hv:Qt ys ah)(hz:ys.length<=Vr) :
 Inv X aa σ (upd H s.heap.objs.size (.lst ys)) { s with heap:=s.heap.push { cls:=.type "list",data:=.seq ah.toArray },toks:=t' } :=
 I.laid (λ_ _ q=>Ur _ q) (Ut _) ⟨hz,ah,0,hv,Us _ rfl⟩
theorem Inv.fresh(I:Inv X aa σ H s):H s.heap.objs.size=Vo:=I.hok.fresh (Ut _)
theorem Inv.lstM(I:Inv X aa σ H s)(hH:H l=some (.lst xs)):xs.length<=Vr/\∃ (ah:List Va) (n:Nat),Qt xs ah/\xs.length=ah.length/\s.heap.get? l=some { cls:=.type "list",data:=.seq ah.toArray n }:=by
 obtain⟨z,ah,n,r,e⟩:=I.hok l _ hH;exact⟨z,ah,n,r,r.length,e⟩
theorem Qac{n:Nat}(h:n<=Vr):OC n=false:=by
 unfold OC;exact decide_eq_false #[0]
end
section
variable{X:Cx}
def J8b:V->List V->Hp->VK->Prop:=λx vs H Q=>∃ l xs y,x=.ref l/\vs=[y]/\H l=some (.lst xs)/\xs.length < Vr/\Q .non (upd H l (.lst (xs++[y])))
theorem Zn:MtM X "list.append" J8b:=by
 intro aa s σ H x vs v us Q I rx rv h;obtain⟨l,xs,y,rfl,rfl,hH,hz,q⟩:=h;cases rx;obtain⟨u,rfl,ru⟩:=rv.one;obtain⟨z,ah,n,r,hl,e⟩:=I.lstM hH;refine call_meets F.slot_list_append ⟨_,e,rfl⟩ F.entry_list_append (F.args_list_append_2 _ _) (PySem.list_append l ah.toArray n u (by rw[UC];lia)) ⟨e,?_⟩
 refine⟨.non,_,I.lset (its':=ah++[u]) hH e #[2] (r.append (.cons ru .nil)) ?_,rfl,q⟩
 rw[On,OD]
 lia
def Qfd:V->List V->Hp->VK->Prop:=λx vs H Q=>∃ l xs y,x=.ref l/\vs=[]/\H l=some (.lst xs)/\xs[xs.length - 1]?=some y/\Q y (upd H l (.lst xs.dropLast))
theorem Y4c:MtM X "list.pop" Qfd:=by
 intro aa s σ H x vs v us Q I rx rv h;obtain⟨l,xs,y,rfl,rfl,hH,hy,q⟩:=h;cases rx;have lV:=rv.zero;subst lV;obtain⟨z,ah,n,r,hl,e⟩:=I.lstM hH;obtain⟨u,hu,ru⟩:=r.get hy;have tP:ah.toArray[ah.toArray.size - 1]?=some u:=by
  show ah.toArray[ah.length - 1]?=some u;rw[<- OE,<- hl]
  exact hu
 refine call_meets F.slot_list_pop ⟨_,e,rfl⟩ F.entry_list_pop (F.args_list_pop_1 _) (MeetsSeq.list_pop_last l ah.toArray n u tP (by rw[UC];lia)) ⟨e,?_⟩
 refine⟨y,_,I.lset (its':=ah.dropLast) hH e ?_ r.dropLast ?_,ru,q⟩
 ·show ah.toArray.eraseIdxIfInBounds (ah.toArray.size - 1)=ah.dropLast.toArray
  rw[UC,eraseIdxIfInBounds_toArray,Jab]
 ·rw[length_dropLast]
  lia
def Qbc:V->List V->Hp->VK->Prop:=λx vs H Q=>∃ l xs,x=.ref l/\vs=[]/\H l=some (.lst xs)/\Q .non (upd H l (.lst []))
theorem Qcc:MtM X "list.clear" Qbc:=by
 intro aa s σ H x vs v us Q I rx rv h;obtain⟨l,xs,rfl,rfl,hH,q⟩:=h;cases rx;have lV:=rv.zero;subst lV;obtain⟨z,ah,n,r,hl,e⟩:=I.lstM hH;refine call_meets F.slot_list_clear ⟨_,e,rfl⟩ F.entry_list_clear (F.args_list_clear_1 _) (AutoSeq1.list_clear_list_0 l ah.toArray n (by rw[UC];lia)) ⟨e,?_⟩
 exact⟨.non,_,I.lset (its':=[]) (ys:=[]) hH e rfl .nil (Ux _),rfl,q⟩
def Jbb:R2:=λx y H Q=>∃ l b xs zs,x=.ref l/\y=.ref b/\H l=some (.lst xs)/\H b=some (.lst zs)/\xs.length+zs.length<=Vr/\∀ p,H p=Vo->Q (.ref p) (upd H p (.lst (xs++zs)))
theorem XD:OpR X (Uz .Add) Jbb:=by
 intro aa s σ H x y v u Q I rx ry h;obtain⟨l,b,xs,zs,rfl,rfl,hH,hB,hz,q⟩:=h;cases rx;cases ry;obtain⟨z,ah,n,r,hl,e⟩:=I.lstM hH;obtain⟨z2,aQ,n2,r2,dX,e2⟩:=I.lstM hB;refine PySem.P.add_list e e2 ?_ (by rw[UC,UC];lia)
 have ea:ah.toArray++aQ.toArray=(ah++aQ).toArray:=by simp
 rw[ea];exact⟨.ref _,_,I.lnew (t':=s.toks) (r.append r2) (by rw[On];lia),rfl,q _ I.fresh⟩
end
section
variable{prog:Vg}{w:Vb}{A:VF}{E:YQ_}{s:VG}
end
section
variable{X:Cx}
end
end L2
namespace Att
open PySem PySem.W PySem.Calls PyProof.Rows
theorem Jfa{P:Params}{h:Vp}:∀ (ns:List Int) (vs:List Va),WellAll P h vs (ns.map OF)->IntsAre vs ns:=by
 intro ns
 induction ns with
 | nil =>
  intro vs w;rw[CF]at w;cases w;exact .nil
 | cons n ns ih =>
  intro vs w;rw[UM]at w;cases w with
  | cons a b =>
   cases a;exact .cons _ _ (ih _ b)
theorem Y0b{l:OpenLaw}{n:Nat}(hn:l.most=some n){P:Params}{h:Vp}{args:List WData}{fW:List Va}
 (dY:l.row.toRowW.claim.pre args=true) (lW:WellAll P h fW args) :
 ∃ a vs ns,fW=[Vk a]/\args=[WData.list (ns.map OF)]/\h.get? a=some { cls:=.type "list",data:=.seq vs.toArray }/\IntsAre vs ns/\ns.length<=n:=by
 have iD:WShape.hasAll [] args [.list .int]=true:=(pre_splitW dY).1;have hc:l.pre.holds [] { args:=args }=true:=(pre_splitW dY).2;obtain⟨d,r,rfl,h1,h2⟩:=hasAllW_cons iD;obtain rfl:=hasAllW_nil h2;obtain⟨xs,rfl,h3⟩:=hasW_list h1;obtain⟨ns,rfl⟩:=items_int h3;have ar:ns.length<=n:=by
  unfold OpenLaw.pre at hc;have h4:(WTm.not (.lt (.lit (.int (n:Int))) (.len (.arg 0)))).holds [] { args:=[.list (ns.map .int)] }=true:=by
   have h4:=(holds_andW hc).1;rw[hn]at h4;exact h4
  have h5:=condW_of h4 (w_not (w_lt w_lit (w_len_list (w_arg rfl))));rw[UO]at h5;refine Nat.le_of_not_lt λq=>?_
  have q':(n:Int) < ((ns.length:Nat):Int):=by lia
  first
   | (rw[decide_eq_true q']at h5;exact absurd h5 #[1])
   | (simp at h5;lia)
 cases lW with
 | cons w1 w2 =>
  cases w2;cases w1 with
  | list ho hall=>exact⟨_,_,ns,rfl,rfl,ho,Jfa ns _ hall,ar⟩
theorem Y1b(l:OpenLaw)(args:List WData):l.row.toRowW.claim.post args (.bool true) args=true :=
 postW_of (r:=l.row.toRowW) (X:=(true == true))
  (show WShape.has [] (.bool true) .bool=true by first | rfl | decide | simp[WShape.has,WShape.arms,WShape.armsAll])
  (show(WTm.eq .res (.lit (.bool true))).value [] { args:=args,res:=some (.bool true),after:=args }=some (.bool (true == true)) from w_eq_bool (w_res rfl) w_lit) rfl
section
variable{prog:Vg}{w:Vb}{A:VF}{E:YQ_}{s:VG}{K:VC}
end
end Att
namespace L2
open PySem PySem.Spec PyProof.Rows
theorem Xla:∀ {vs:List Va} {ns:List Int},IntsAre vs ns->Qt (ns.map V.int) vs
 | _,_,.nil=>.nil
 | _,_,.cons n t h=>.cons ⟨t,rfl⟩ (Xla h)
def Y5c(H:Hp):Prop:=∀ b,H b=Vo\/∃ o xs,H b=some (.frz o (.lst xs))
theorem Qdc{P:Vg}{w:Vb}{K:VC}{mg mb:Str->Option Va}{CX:CXT}{k:Nat}{fa a:Vh}{fd:UZ}{x:Str}{sp:Sp}{s₁:VG}{vs:List Va}{ns:List Int}
 (KX:K.In s₁.heap) (kB:s₁.heap.Ns VD mg) (hb:s₁.heap.Ns builtinsNs mb) (tQ:∀ x:Str,x≠"__name__"->mb x=VE x) (lX:s₁.heap.NoLimit) (hg:s₁.gens=#[])
 (ha:s₁.heap.get? a=some { cls:=.type "list",data:=.seq vs.toArray }) (hi:IntsAre vs ns) (hl:ns.length<=Vr) (hr:QX k OH)
 (F:∀ base:Vp,K.In base->base.Ns VD mg->QB P w K mg base CX k fa fd [x] sp) (iE:∀ (s:VG) (u:Va),BindsTo s fd ⟨[u],[]⟩ [(x,u)])
 (cC:∀ H:Hp,Y5c H->SqL K H a (ns.map V.int)->sp [.ref a] H (λv _=>v=.bl true) λ_ _ _=>False)
 (lY:∀ H e s',CX [] H s₁ (λ_ _ _=>False) e s'->False) :
 UJ (VW P w) OH (.call (.ref fa) ⟨[.ref a],[]⟩) (λr s'=>r=.ok (.ret (.bool true))/\OldK s₁.heap s'.heap/\s'.os=s₁.os/\VH s'.gens) s₁:=by
 have rv:=Xla hi;have lZ:=hi.length;have dZ:∀ H:Hp,Y5c H->SqL K H a (ns.map V.int)->HOk P w H s₁.heap->(∀ b,H b≠Vo->b=a)->(H a≠Vo->K.lookup a=Vo) ->
  UJ (VW P w) OH (.call (.ref fa) ⟨[.ref a],[]⟩) (λr s'=>r=.ok (.ret (.bool true))/\OldK s₁.heap s'.heap/\s'.os=s₁.os/\VH s'.gens) s₁:=by
  intro H hO hS hok hA hK;have cp:∀ {b:Vh} {o:Obj},s₁.heap.get? b=some o->H b=Vo->(XQa s₁.heap H).get? b=some o:=λe n=>XRb e n
  have iz:∀ {b:Vh} {o:Obj} {es:Array DictEntry} {ep:Nat},s₁.heap.get? b=some o->o.data=.dict es ep->H b=Vo:=λ{b o es ep} e d=>by
   cases q:H b with
   | none=>rfl
   | some u =>
    have e':b=a:=hA b (by rw[q];simp)
    subst e';rw[ha]at e;cases e;have d':Data.seq vs.toArray _=Data.dict es ep:=d;cases d'
  have kC:∀ {b:Vh} {m:Str->Option Va},s₁.heap.Ns b m->(XQa s₁.heap H).Ns b m:=λ{b m} ⟨o,es,ep,e,d,r⟩=>⟨o,es,ep,cp e (iz e d),d,r⟩
  have pN:K.In (XQa s₁.heap H):=λb o e=>cp (KX b o e) (by
   cases q:H b with
   | none=>rfl
   | some u =>
    have e':b=a:=hA b (by rw[q];simp)
    subst e';rw[hK (by rw[q];simp)]at e;cases e)
  have hM:Mod K mg (XQa s₁.heap H):=⟨pN,kC kB,⟨mb,kC hb,tQ⟩,let ⟨mc,h1,h2⟩:=lX;⟨mc,kC h1,h2⟩⟩
  have e0:Z7b P w K mg (XQa s₁.heap H) OH [] s₁ H:=⟨rfl,hM,λb o e=>ZYc e,Nat.le_of_eq (YRb _ _),trivial,λb hb=>absurd (show b∈([]:List Vh) from hb) #[2],hok,.of_eq hg⟩
  refine U2 ((F _ pN (kC kB)).run OH [] s₁ H ⟨[.ref a],[]⟩ [.ref a] [.ref a] _ _ hr e0 (iE s₁ (.ref a)) (.cons rfl .nil) (cC H hO hS)) λr s' h=>?_
  cases r with
  | error e=>exact(lY H e s' h).elim
  | ok fl =>
   cases fl with
   | next=>exact V8 h
   | brk=>exact V8 h
   | cont=>exact V8 h
   | ret u =>
    obtain⟨v,H',os,bare,un,l5,r',q⟩:=h;have q':v=.bl true:=q;subst q';obtain rfl:u=Vj true:=r';refine⟨rfl,OldK.of_keep λb o e=>?_,os,bare⟩
    cases q:H b with
    | none=>exact un.keep b o e q (by intro z;exact absurd (show b∈([]:List Vh) from z) #[2]) #[2]
    | some u =>
     rcases hO b with z | ⟨ob,xs,z⟩
     ·rw[q]at z;cases z
     ·have z2:=un.frzs b ob _ z
      obtain⟨e1,_⟩:=hok b _ z;obtain⟨e2,_⟩:=l5 b _ z2;rw[e]at e1;cases e1;exact e2
 cases hk:K.lookup a with
 | some o =>
  have e:=KX a o hk;rw[ha]at e;cases e;refine dZ (λ_=>Vo) (λ_=>.inl rfl) (.inr ⟨_,vs.toArray,_,hk,rfl,rfl,rfl,by rw[UC,lZ];exact hl,by simpa using rv⟩) (λb u z=>by have z':(Vo:Option HO)=some u:=z;cases z') (λb z=>absurd rfl z) λz=>absurd rfl z
 | none =>
  refine dZ (λb=>if b=a then some (.frz { cls:=.type "list",data:=.seq vs.toArray } (.lst (ns.map V.int))) else Vo) (λb=>?_) (.inl (.inr ⟨{ cls:=.type "list",data:=.seq vs.toArray },if_pos rfl⟩)) (λb u z=>?_) (λb z=>?_) λ_=>hk
  ·by_cases hb:b=a
   ·exact .inr ⟨_,_,if_pos hb⟩
   ·exact .inl (if_neg hb)
  ·by_cases hb:b=a
   ·have z':=(if_pos hb).symm.trans z
    cases z';subst hb;exact⟨ha,by rw[UO];exact hl,vs,_,rv,ha⟩
   ·have z':=(if_neg hb).symm.trans z
    cases z'
  ·by_cases hb:b=a
   ·exact hb
   ·exact absurd (if_neg hb) z
def Q8a(s:V0):Arguments:=match s with
 | .FunctionDef _ a _ _ _ _ _ _ _ _=>a
 | _=>{ posonlyargs:=[],args:=[],vararg:=Vo,kwonlyargs:=[],kw_defaults:=[],kwarg:=Vo,defaults:=[] }
def YX(s:V0):List V0:=match s with
 | .FunctionDef _ _ b _ _ _ _ _ _ _=>b
 | _=>[]
def Qi(s:V0):Scope:=match s with
 | .FunctionDef _ _ _ _ _ _ sc _ _ _=>sc
 | _=>{ kind:=.function,names:=[],isGenerator:=false,isCoroutine:=false }
abbrev CX0:CXT:=λ_ _ _ _ _ _=>False
abbrev E0:XK:=λ_ _ _=>False
theorem J9b{X:Cx}:ZHa CX0 X E0:=λ_ _ _ _ _ _ _ h=>h.elim
structure Fun(K:VC)(x qual:Str)(st:V0)(f:Vh)(fd:UZ):Prop where
 ex:∃ (oc:Va) (od:Option Vh) (kV bv pm:Va) (an:Option Vh) (am ct:Va) (cP:Array (Option Va)),
  fd=Oo x qual (Q8a st) (YX st) (Qi st) .none kV bv pm an am ct/\K.lookup f=some ⟨oc,od,.func fd,cP⟩/\W.codeIn K am qual=true
 kp:UN K (.ref f)=true
section
variable{P:Vg}{w:Vb}{K:VC}{mg:Str->Option Va}{base:Vp}
theorem Fun.ok{x qual:Str}{st:V0}{f:Vh}{fd:UZ}{N ps:List Str}{k:Nat}{sp:Sp}(F:Fun K x qual st f fd)(S:Qo N ps (Qi st))(len:∀ vs H Q E,sp vs H Q E->vs.length=ps.length)
 (bI:∀ (am:Va) (A:VF) (outer:List Env) (s:VG) (H:Hp) (vs:List V) (Q:VK) (E:XK),QX k (A.deeper (Oe qual (Qi st) s.heap.objs.size f am))->sp vs H Q E ->
  ∃ t,PSs (Q5a CX0 P w K mg base N qual (Qi st) f am A outer s H E).nox (YX st) t/\t { nx:=λ_ H'=>Q .non H',rt:=Q } (Q4a N vs) H):QB P w K mg base CX0 (k+1) f fd ps sp:=by
 obtain⟨oc,od,kV,bv,pm,an,am,ct,cP,rfl,lk,bG⟩:=F.ex;refine Ypc lk bG S len λA outer s H vs Q E hr cC=>?_
 obtain⟨t,h,q⟩:=bI am A outer s H vs Q E hr cC;exact⟨t,h.nox,q⟩
theorem Fun.binds{x qual:Str}{st:V0}{f:Vh}{fd:UZ}{ps:List Str}(F:Fun K x qual st f fd)
 (h:∀ (kV bv pm:Va) (an:Option Vh) (am ct:Va) (us:List Va),us.length=ps.length->bindArgs (Oo x qual (Q8a st) (YX st) (Qi st) .none kV bv pm an am ct) ⟨us,[]⟩=pure (ps.zip us)):Zv K fd ps []:=by
 obtain⟨oc,od,kV,bv,pm,an,am,ct,cP,rfl,lk,bG⟩:=F.ex;exact .all (h kV bv pm an am ct)
theorem Y6c{x qual:Str}{st:V0}{f:Vh}{oc:Va}{od an:Option Vh}{cP:Array (Option Va)}{kV bv pm am ct:Va}(l:K.lookup f=some ⟨oc,od,.func (Oo x qual (Q8a st) (YX st) (Qi st) .none kV bv pm an am ct),cP⟩)
 (c:W.codeIn K am qual=true) (k:UN K (.ref f)=true):Fun K x qual st f (Oo x qual (Q8a st) (YX st) (Qi st) .none kV bv pm an am ct):=⟨⟨oc,od,kV,bv,pm,an,am,ct,cP,rfl,l,c⟩,k⟩
end
theorem Qw{n:Nat}(h:n<=1000):n < Vr:=OI h #[1]
section
variable{X:Cx}
theorem pv(i:Nat){x:Str}{pos:Pos}(hN:X.N[i]?=some x:=by rfl)(hv:Vis X.env.scope x:=by first | exact OJ rfl | exact Or.inr (OJ rfl) | exact Or.inr (Or.inr rfl))(hd:(x == ("__debug__":Str))=false:=by decide)
 (bG:(x == ("__classdict__":Str))=false:=by decide):PE X (.Name x pos) (JC i):=YQc hN hv hd bG
end
theorem QMd{A B:Prop}(h:A):if true=true then A else B:=by
 rw[if_pos rfl];exact h
theorem Jo{c A B:Prop}[Decidable c](h1:c->A)(h2:¬ c->B):if c then A else B:=by
 by_cases h:c
 ·rw[if_pos h]
  exact h1 h
 ·rw[if_neg h]
  exact h2 h
def Ql(H H':Hp):Prop:=∀ b o,H b=some o->H' b=some o
theorem Ql.refl(H:Hp):Ql H H:=λ_ _ h=>h
theorem Ql.trans{H H1 H2:Hp}(a:Ql H H1)(b:Ql H1 H2):Ql H H2:=λc o h=>b c o (a c o h)
theorem Ql.seq{K:VC}{H H':Hp}{a:Vh}{xs:List V}(e:Ql H H')(h:SqL K H a xs):SqL K H' a xs:=by
 rcases h with (h | ⟨o,h⟩) | h
 ·exact .inl (.inl (e _ _ h))
 ·exact .inl (.inr ⟨o,e _ _ h⟩)
 ·exact .inr h
section
variable(P:Vg)(w:Vb)
end
section
variable{P:Vg}{w:Vb}{H H':Hp}{h h':Vp}{a:Vh}{o:HO}
end
section
variable{P:Vg}{w:Vb}{H:Hp}{h h':Vp}{x e:Vh}{o':HO}
end
section
variable{fs dF ex tI:List Vh}{H H1 H2:Hp}{h h1 h2 h':Vp}{a x e:Vh}{o:HO}
end
section
variable{X:Cx}{aa:YP_}{σ:List (Option V)}{H H':Hp}{s:VG}{h':Vp}
end
section
variable{X:Cx}
variable{a b:Expr}{ta tb:TE}{pos:Pos}
variable{tA ix:TT}{rest:List Expr}
end
section
variable{X:Cx}{aa:YP_}{σ:St}{H:Hp}{s:VG}{a:Vh}{xs ys:List V}
end
section
variable{X:Cx}{aa:YP_}{σ:St}{H:Hp}{s:VG}{E:YQ_}
end
section
variable{X:Cx}{st:V0}{rest:List V0}{t u:TS}{e:Expr}{te:TE}{pos:Pos}
end
section
variable{X:Cx}{pos:Pos}
end
section
variable{X:Cx}{pos:Pos}
end
section
variable{X:Cx}{tg:Expr}
end
section
variable{X:Cx}{a b c:Expr}{ta tb tc:TE}{pos:Pos}
end
section
variable{X:Cx}{a b c:Expr}{ta tb tc:TE}{pos:Pos}
end
section
variable{prog:Vg}{w:Vb}{A:VF}{E:YQ_}{s:VG}{K:VC}{x dx C f:Vh}{mA:Str->Option Va}{name:Str}{v:Va}
end
section
variable{P:Vg}{w:Vb}{H H':Hp}{h h':Vp}{a C dx:Vh}{fs dF:List (Str×V)}
end
section
variable{X:Cx}{aa:YP_}{σ:St}{H:Hp}{s:VG}{a C dx:Vh}{fs:List (Str×V)}{f:Str}{v:V}{A:VF}{E:YQ_}
end
section
variable{X:Cx}{o e value:Expr}{f:Str}{pos aI fU:Pos}{ta tv:TE}
end
section
variable{X:Cx}{aa:YP_}{σ:St}{H:Hp}{s:VG}{A:VF}{E:YQ_}{Q:YQ_}{c:Va}{b:Bool}
end
section
variable{X:Cx}{e:Expr}{es:List Expr}{te:TE}{t:TA}{pos:Pos}
end
section
variable{X:Cx}{aa:YP_}{σ:St}{H:Hp}{s s':VG}
end
section
variable{X:Cx}{CX:CXT}{k:Nat}{f C:Vh}{fd:UZ}{ps:List Str}{sp:Sp}{bB:List V}{ds:List Va}{E:XK}{x m:Str}{p pos ai:Pos}{e o:Expr}{es:List Expr}{ta:TE}{t:TA}
end
section
variable{X:Cx}{CX:CXT}{k:Nat}{f C:Vh}{fd:UZ}{ps ks:List Str}{sp:Sp}{E:XK}{x m:Str}{p pos ai c5:Pos}{e o:Expr}{es:List Expr}{gQ:List U7}{te ta:TE}{t tk:TA}{nm:Option Str}
variable{g:List Va->List Va->List Va}{gV:List V->List V->List V}
end
section
variable{X:Cx}{x:Str}{p pos:Pos}{e:Expr}{es:List Expr}{t:TA}{id T:String}{r:List V->Hp->VK->Prop}
end
section
variable{κ:Type}[DecidableEq κ]
def Q4(ae:List (κ×V))(k:κ):Option V:=(ae.find? λkv=>decide (kv.1=k)).map (·.2)
def ZX(ae:List (κ×V))(k:κ)(v:V):List (κ×V) :=
 if (ae.any λkv=>decide (kv.1=k))=true then ae.map (λkv=>if kv.1=k then (kv.1,v) else kv) else ae++[(k,v)]
def J3(ae:List (κ×V))(k:κ):List (κ×V):=ae.filter λkv=>decide (kv.1≠k)
theorem Zw{p:κ×V}{r:List (κ×V)}{k:κ}(e:p.1=k):Q4 (p::r) k=some p.2:=by simp[Q4,OL,e]
theorem Zx{p:κ×V}{r:List (κ×V)}{k:κ}(e:¬ p.1=k):Q4 (p::r) k=Q4 r k:=by simp[Q4,OL,e]
theorem XE(k:κ):∀ ae:List (κ×V),(ae.any λkv=>decide (kv.1=k))=(Q4 ae k).isSome
 | []=>rfl
 | p::r=>by
  rw[CI]
  by_cases e:p.1=k
  ·simp only[Zw e,decide_eq_true e,Bool.true_or,Option.isSome_some]
  ·rw[Zx e,decide_eq_false e,Bool.false_or];exact XE k r
theorem QTb(k j:κ)(y:V):∀ ae:List (κ×V),Q4 (ae.map λkv=>if kv.1=k then (kv.1,y) else kv) j=(Q4 ae j).map λx=>if j=k then y else x
 | []=>rfl
 | p::r=>by
  have ih:=QTb k j y r;rw[UM]
  by_cases h:p.1=k
  ·rw[if_pos h]
   by_cases e:p.1=j
   ·rw[Zw (p:=(p.1,y)) e,Zw e,OM,if_pos (e.symm.trans h)]
   ·rw[Zx (p:=(p.1,y)) e,Zx e,ih]
  ·rw[if_neg h]
   by_cases e:p.1=j
   ·rw[Zw (p:=p) e,Zw e,OM,if_neg (λz=>h (e.trans z))]
   ·rw[Zx (p:=p) e,Zx e,ih]
theorem Xma(k j:κ)(y:V):∀ ae:List (κ×V),Q4 ae k=Vo->Q4 (ae++[(k,y)]) j=if j=k then some y else Q4 ae j
 | [],_=>by
  by_cases e:k=j
  ·rw[if_pos e.symm];exact Zw (p:=(k,y)) e
  ·rw[if_neg (λz=>e z.symm)];exact Zx (p:=(k,y)) e
 | p::r,hn=>by
  rw[cons_append];have hk:¬ p.1=k:=λz=>by rw[Zw z]at hn;cases hn
  rw[Zx hk]at hn;have ih:=Xma k j y r hn
  by_cases e:p.1=j
  ·rw[Zw e,Zw e,if_neg (λz=>hk (e.trans z))]
  ·rw[Zx e,Zx e,ih]
theorem QUb(ae:List (κ×V))(k j:κ)(y:V):Q4 (ZX ae k y) j=if j=k then some y else Q4 ae j:=by
 unfold ZX
 by_cases a:(ae.any λkv=>decide (kv.1=k))=true
 ·rw[if_pos a,QTb]
  rw[XE]at a
  by_cases e:j=k
  ·obtain⟨x,hx⟩:=Option.isSome_iff_exists.mp a
   rw[if_pos e,e,hx,OM,if_pos rfl]
  ·rw[if_neg e]
   cases Q4 ae j with
   | none=>rfl
   | some x=>rw[OM,if_neg e]
 ·rw[if_neg a]
  refine Xma k j y ae ?_
  rw[XE]at a;cases q:Q4 ae k with
  | none=>rfl
  | some x=>rw[q]at a;exact(a rfl).elim
theorem Za(ae:List (κ×V))(k:κ)(v:V):(ZX ae k v).length<=ae.length+1:=by
 unfold ZX
 split
 ·rw[UO];lia
 ·rw[On,UG,ON];lia
theorem QVb{ae:List (κ×V)}{k:κ}(v:V)(h:Q4 ae k=Vo):ZX ae k v=ae++[(k,v)]:=by
 unfold ZX;rw[XE,h];exact if_neg #[1]
theorem JQ.isSome_eq{o:Option V}{u:Option Va}(r:JQ o u):o.isSome=u.isSome:=by
 cases o with
 | none=>cases u with
  | none=>rfl
  | some _=>exact(show False from r).elim
 | some _=>cases u with
  | none=>exact(show False from r).elim
  | some _=>rfl
theorem JQ.getD{o:Option V}{u:Option Va}{d:V}{d':Va}(r:JQ o u)(rd:Qq d d'):Qq (o.getD d) (u.getD d'):=by
 cases o with
 | none=>cases u with
  | none=>exact rd
  | some _=>exact(show False from r).elim
 | some _=>cases u with
  | none=>exact(show False from r).elim
  | some _=>exact r
theorem KV.val{ae:List (κ×V)}{vs:List (κ×Va)}(r:KV ae vs)(k:κ):JQ (Q4 ae k) (OO vs k):=by
 unfold KV at r
 induction r with
 | nil=>exact UP
 | @cons p q ps qs h t ih =>
  obtain⟨h1,h2⟩:=h
  by_cases e:p.1=k
  ·have e':q.1=k:=h1.symm.trans e
   have b:OO (q::qs) k=some q.2:=by simp[OO,OL,e']
   rw[Zw e,b];exact h2
  ·have e':¬ q.1=k:=λz=>e (h1.trans z)
   have b:OO (q::qs) k=OO qs k:=by simp[OO,OL,e']
   rw[Zx e,b];exact ih
theorem KV.any{ae:List (κ×V)}{vs:List (κ×Va)}(r:KV ae vs)(k:κ):(ae.any λkv=>decide (kv.1=k))=vs.any λkv=>decide (kv.1=k):=by
 unfold KV at r
 induction r with
 | nil=>rfl
 | cons h t ih=>rw[CI,CI,ih,h.1]
theorem KV.repl{ae:List (κ×V)}{vs:List (κ×Va)}(r:KV ae vs)(k:κ){y:V}{u:Va}(ry:Qq y u) :
 KV (ae.map λkv=>if kv.1=k then (kv.1,y) else kv) (vs.map λkv=>if kv.1=k then (kv.1,u) else kv):=by
 unfold KV at r ⊢
 induction r with
 | nil=>exact .nil
 | @cons p q ps qs h t ih =>
  rw[UM,UM];refine .cons ?_ ih
  obtain⟨h1,h2⟩:=h
  by_cases e:p.1=k
  ·rw[if_pos e,if_pos (h1.symm.trans e)];exact⟨h1,ry⟩
  ·rw[if_neg e,if_neg (λz=>e (h1.trans z))];exact⟨h1,h2⟩
theorem KV.put{ae:List (κ×V)}{vs:List (κ×Va)}(r:KV ae vs)(k:κ){y:V}{u:Va}(ry:Qq y u):KV (ZX ae k y) (stored vs k u):=by
 unfold ZX stored;rw[r.any k]
 by_cases e:(vs.any λkv=>decide (kv.1=k))=true
 ·rw[if_pos e,if_pos e];exact r.repl k ry
 ·rw[if_neg e,if_neg e];exact OP r ⟨rfl,ry⟩
theorem KV.drop{ae:List (κ×V)}{vs:List (κ×Va)}(r:KV ae vs)(k:κ):KV (J3 ae k) (without vs k):=by
 unfold KV at r ⊢;unfold J3 without
 induction r with
 | nil=>exact .nil
 | @cons p q ps qs h t ih =>
  obtain⟨h1,h2⟩:=h;rw[OQ,OQ]
  by_cases e:p.1=k
  ·have a:¬ decide (p.1≠k)=true:=by simp[e]
   have b:¬ decide (q.1≠k)=true:=by simp[h1.symm.trans e]
   rw[if_neg a,if_neg b];exact ih
  ·have e':¬ q.1=k:=λz=>e (h1.trans z)
   have a:decide (p.1≠k)=true:=by simp[e]
   have b:decide (q.1≠k)=true:=by simp[e']
   rw[if_pos a,if_pos b];exact .cons ⟨h1,h2⟩ ih
theorem KV.length{ae:List (κ×V)}{vs:List (κ×Va)}(r:KV ae vs):ae.length=vs.length:=Vn r
theorem QWb(ae:List (κ×V))(k:κ):(J3 ae k).length<=ae.length:=OR _ _
end
theorem Jba{P:Vg}{w:Vb}{k:Key}{u:Va}(r:Qq (kV k) u):(QA P w).is k u=true:=by
 cases k with
 | inl i=>obtain⟨t,e⟩:=(show ∃ t,u=Vd i t from r);subst e;exact QHb P w i t
 | inr x=>obtain⟨t,e⟩:=(show ∃ t,u=Vf x t from r);subst e;exact QIb P w x t
theorem Xna{P:Vg}{w:Vb}:∀ {ks:List Key} {us:List Va},Qt (ks.map kV) us->ItemsAre (QA P w) ks us
 | [],_,r=>by rw[CF]at r;cases r;exact .nil
 | k::ks,_,r=>by
  rw[UM]at r;cases r with
  | cons h t=>exact .cons (Jba h) (Xna t)
abbrev KT(H:Hp):List (List Key×V)->List (List Key×Vh×Va)->Prop:=Vm λp q=>p.1=q.1/\H q.2.1=some (.tup (p.1.map kV))/\Qq p.2 q.2.2
theorem KT.val{H:Hp}{ae:List (List Key×V)}{xs:List (List Key×Vh×Va)}(r:KT H ae xs)(k:List Key):JQ (Q4 ae k) ((OS xs k).map (·.2)):=by
 induction r with
 | nil=>exact UP
 | @cons p q ps qs h t ih =>
  obtain⟨h1,_,h2⟩:=h
  by_cases e:p.1=k
  ·have e':q.1=k:=h1.symm.trans e
   have b:OS (q::qs) k=some q.2:=by simp[OS,OL,e']
   rw[Zw e,b];exact h2
  ·have e':¬ q.1=k:=λz=>e (h1.trans z)
   have b:OS (q::qs) k=OS qs k:=by simp[OS,OL,e']
   rw[Zx e,b];exact ih
theorem KT.repl{H:Hp}{ae:List (List Key×V)}{xs:List (List Key×Vh×Va)}(r:KT H ae xs)(k:List Key){y:V}{u:Va}(ry:Qq y u) :
 KT H (ae.map λkv=>if kv.1=k then (kv.1,y) else kv) (xs.map (putAt k u)):=by
 induction r with
 | nil=>exact .nil
 | @cons p q ps qs h t ih =>
  rw[UM,UM];refine .cons ?_ ih
  obtain⟨h1,h2,h3⟩:=h;unfold putAt
  by_cases e:p.1=k
  ·rw[if_pos e,if_pos (h1.symm.trans e)];exact⟨h1,h2,ry⟩
  ·rw[if_neg e,if_neg (λz=>e (h1.trans z))];exact⟨h1,h2,h3⟩
theorem KT.put{H:Hp}{ae:List (List Key×V)}{xs:List (List Key×Vh×Va)}(r:KT H ae xs)(k:List Key){b:Vh}{y:V}{u:Va}(hb:H b=some (.tup (k.map kV)))(ry:Qq y u) :
 KT H (ZX ae k y) (storedH xs k b u):=by
 have e:(ae.any λkv=>decide (kv.1=k))=(OS xs k).isSome:=by
  rw[XE,(r.val k).isSome_eq,Option.isSome_map]
 unfold ZX storedH;rw[e]
 by_cases q:(OS xs k).isSome=true
 ·rw[if_pos q,if_pos q];exact r.repl k ry
 ·rw[if_neg q,if_neg q];exact OP r ⟨rfl,hb,ry⟩
theorem KT.keeps{H H':Hp}{ae:List (List Key×V)}{xs:List (List Key×Vh×Va)}(r:KT H ae xs)(ht:∀ b ys,H b=some (.tup ys)->H' b=some (.tup ys)):KT H' ae xs :=
 Paired.mapP r λ_ _ z=>⟨z.1,ht _ _ z.2.1,z.2.2⟩
section
variable{P:Vg}{w:Vb}{H:Hp}{h:Vp}{a:Vh}
theorem Yqc{u:HO}(ok:HOk P w H h)(e:Rd H a u):QC P w H h a u:=e.ok ok
theorem JJa{ae:List (Key×V)}(ok:HOk P w H h)(e:Rd H a (.dK ae)):ae.length<=Vr/\(a == Vt)=false/\∃ vs,KV ae vs/\h.DictOf (QA P w) a vs :=
 show QC P w H h a (.dK ae) from Yqc ok e
theorem Qec{ae:List (Key×V)}(ok:HOk P w H h)(e:H a=some (.dK ae)):ae.length<=Vr/\(a == Vt)=false/\∃ vs,KV ae vs/\h.DictOf (QA P w) a vs:=JJa ok (.inl e)
theorem YY{ks:List Key}(ok:HOk P w H h)(e:H a=some (.tup (ks.map kV))):(Vu (QA P w)).is h ks a:=by
 obtain⟨_,ah,r,o,h1,h2,n,h3⟩:=(show QC P w H h a (.tup (ks.map kV)) from ok a _ e)
 exact⟨o,ah.toArray,n,h1,h2,h3,by simpa using Xna r⟩
theorem JKa{ae:List (List Key×V)}(ok:HOk P w H h)(e:Rd H a (.dT ae)):ae.length<=Vr/\(a == Vt)=false /\
 ∃ xs,KT H ae xs/\h.DictOfH (Vu (QA P w)) a xs:=by
 obtain⟨z,y,xs,r,o,es,ep,h1,h2,h3,h4,h5⟩:=(show QC P w H h a (.dT ae) from Yqc ok e)
 refine⟨z,y,xs,r,o,es,ep,h1,h2,h3,h4,λx hx=>?_,h5⟩
 have all:∀ {l:List (List Key×V)} {m:List (List Key×Vh×Va)},KT H l m->∀ x∈m,(Vu (QA P w)).is h x.1 x.2.1:=by
  intro l m q
  induction q with
  | nil=>intro x hx;exact nomatch hx
  | @cons p q ps qs hq t ih =>
   intro x hx
   rcases mem_cons.mp hx with e | hx
   ·subst e
    exact YY ok (by rw[<- hq.1];exact hq.2.1)
   ·exact ih x hx
 exact all r x hx
theorem Qgd{ae:List (List Key×V)}(ok:HOk P w H h)(e:H a=some (.dT ae)):ae.length<=Vr/\(a == Vt)=false /\
 ∃ xs,KT H ae xs/\h.DictOfH (Vu (QA P w)) a xs:=JKa ok (.inl e)
end
def YD(H:Hp)(a:Vh)(y:V)(r:Option V):Prop :=
 (∃ ae k,Rd H a (.dK ae)/\y=kV k/\r=Q4 ae k)\/∃ ae k b,Rd H a (.dT ae)/\y=.ref b/\H b=some (.tup (k.map kV))/\r=Q4 ae k
def Jga(H:Hp)(a:Vh)(y v:V)(H':Hp):Prop :=
 (∃ ae k,H a=some (.dK ae)/\y=kV k/\ae.length < Vr/\H'=upd H a (.dK (ZX ae k v))) \/
 ∃ ae k b,H a=some (.dT ae)/\y=.ref b/\H b=some (.tup (k.map kV))/\ae.length < Vr/\H'=upd H a (.dT (ZX ae k v))
theorem YD.k{H:Hp}{a:Vh}{ae:List (Key×V)}{k:Key}(e:H a=some (.dK ae)):YD H a (kV k) (Q4 ae k):=.inl ⟨ae,k,.inl e,rfl,rfl⟩
theorem Jga.k{H:Hp}{a:Vh}{ae:List (Key×V)}{k:Key}{v:V}(e:H a=some (.dK ae))(hl:ae.length < Vr):Jga H a (kV k) v (upd H a (.dK (ZX ae k v))):=.inl ⟨ae,k,e,rfl,hl,rfl⟩
section
variable{X:Cx}{aa:YP_}{σ:St}{H:Hp}{s:VG}{a:Vh}{y v:V}{u r:Va}{o:Option V}{A:VF}{E:YQ_}
theorem Inv.big(I:Inv X aa σ H s):Vt < s.heap.objs.size:=by
 have h:VD < s.heap.objs.size:=(I.mod.glob.keeps I.bk).lt;exact Nat.lt_trans #[1] h
theorem Y2b{Q:YQ_}(hu:A.units+1 < UW)(I:Inv X aa σ H s)(g:YD H a y (some v))(ry:Qq y u)(h:∀ w' s',Inv X aa σ H s'->Qq v w'->Q w' s') :
 VV (VW X.prog X.w) A (Ou (.ref a) u) Q E s:=by
 rcases g with ⟨ae,k,e,ey,l⟩ | ⟨ae,k,b,e,ey,eb,l⟩
 ·subst ey
  obtain⟨z,hd,vs,aF,dd⟩:=JJa I.hok e;obtain⟨w',hw,aU⟩:=JQ.some_of (v:=v) (o:=OO vs k) (by rw[l];exact aF.val k)
  exact wpAny_getItem_of (Jba ry) dd.mapOf hw (h w' _ (I.tok _) aU)
 ·subst ey
  cases (show u=Vk b from ry)
  obtain⟨z,hd,xs,aF,dd⟩:=JKa I.hok e;obtain⟨w',hw,aU⟩:=JQ.some_of (v:=v) (o:=(OS xs k).map (·.2)) (by rw[l];exact aF.val k)
  obtain⟨p,hp,bD⟩:=Option.map_eq_some_iff.mp hw;refine wpAny_getItem_heap (OT hu) (YY I.hok eb) dd hp ?_
  rw[bD];exact h w' _ (I.tok _) aU
theorem Jrc{Q:YQ_}(hu:A.units+1 < UW)(I:Inv X aa σ H s)(g:YD H a y o)(ry:Qq y u)(h:∀ s',Inv X aa σ H s'->Q (.bool (!o.isSome)) s') :
 VV (VW X.prog X.w) A (V2 .NotIn u (.ref a)) Q E s:=by
 rcases g with ⟨ae,k,e,ey,l⟩ | ⟨ae,k,b,e,ey,eb,l⟩
 ·subst ey
  obtain⟨z,hd,vs,aF,dd⟩:=JJa I.hok e;refine wpAny_notIn_of (Jba ry) hd dd.mapOf ?_
  rw[<- (aF.val k).isSome_eq,<- l];exact h _ (I.tok _)
 ·subst ey
  cases (show u=Vk b from ry)
  obtain⟨z,hd,xs,aF,dd⟩:=JKa I.hok e;refine wpAny_notIn_heap (OT hu) (YY I.hok eb) hd dd ?_
  have q:=(aF.val k).isSome_eq;rw[Option.isSome_map]at q;rw[<- q,<- l];exact h _ (I.tok _)
theorem Q9a{h':Vp}{t':Nat}{ob:HO}(I:Inv X aa σ H s)(mu:Mut (H a))(hs:VU a s.heap h')(he:∃ q,h'.get? a=some q)(new:QC X.prog X.w (upd H a ob) h' a ob) :
 Inv X aa σ (upd H a ob) { s with heap:=h',toks:=t' } :=
 I.write (x:=a) (e:=a) mu (.inl rfl) (λb q hb z=>(hs.2 b hb).trans z) he new
theorem Qfc{P:Vg}{w:Vb}{H':Hp}{h':Vp}{ae:List (Key×V)}{vs:List (Key×Va)}(z:ae.length<=Vr)(hd:(a == Vt)=false)(aF:KV ae vs)(dd:h'.DictOf (QA P w) a vs) :
 QC P w H' h' a (.dK ae):=⟨z,hd,vs,aF,dd⟩
theorem Y3b{H':Hp}{Q:Unit->VG->Prop}(hu:A.units+1 < UW)(I:Inv X aa σ H s)(g:Jga H a y v H')(ry:Qq y u)(rv:Qq v r)(h:∀ s',Inv X aa σ H' s'->Q () s') :
 VV (VW X.prog X.w) A (setItem (.ref a) u r) Q E s:=by
 rcases g with ⟨ae,k,e,ey,l,eH⟩ | ⟨ae,k,b,e,ey,eb,l,eH⟩
 ·subst ey eH
  obtain⟨z,hd,vs,aF,dd⟩:=Qec I.hok e;have hz:vs.length<=Vr:=by rw[<- aF.length];exact z
  have hl:(ZX ae k v).length<=Vr:=by have:=Za ae k v;lia
  refine wpAny_setItem_pairs (hsz:=hz) (Jba ry) dd λh' cR hs=>h _ ?_
  have he:∃ q,h'.get? a=some q:=let ⟨q,_,_,hq,_⟩:=cR;⟨q,hq⟩
  exact Q9a I (by rw[e];exact UP) hs he (Qfc hl hd (aF.put k rv) cR)
 ·subst ey eH
  cases (show u=Vk b from ry)
  obtain⟨z,hd,xs,aF,dd⟩:=Qgd I.hok e;have hz:xs.length<=Vr:=by rw[<- Vn aF];exact z
  have hl:(ZX ae k v).length<=Vr:=by have:=Za ae k v;lia
  refine wpAny_setItem_heap (hsz:=hz) (OT hu) (YY I.hok eb) dd λh' cR hs=>h _ ?_
  obtain⟨q,es,ep,hq,h2,h3,h4,_,h5⟩:=cR;refine Q9a I (by rw[e];exact UP) hs ⟨q,hq⟩ ⟨hl,hd,_,(aF.put k eb rv).keeps λc ys ec=>?_,q,es,ep,hq,h2,h3,h4,h5⟩
  rw[Qf (JP ec e (λz=>nomatch z))]
  exact ec
end
section
variable{X:Cx}{aa:YP_}{σ:St}{H:Hp}{s:VG}{a:Vh}{ae:List (Key×V)}{k:Key}{u:Va}{A:VF}{E:YQ_}
theorem Yrc{v:V}{more:List Va}{Q:YQ_}(I:Inv X aa σ H s)(e:H a=some (.dK ae))(ry:Qq (kV k) u)(l:Q4 ae k=some v)(hm:more=[]\/∃ x,more=[x])
 (h:∀ w' s',Inv X aa σ (upd H a (.dK (J3 ae k))) s'->Qq v w'->Q w' s'):VV (VW X.prog X.w) A (Uy (.builtin "dict.pop") (.ref a::u::more)) Q E s:=by
 obtain⟨z,hd,vs,aF,dd⟩:=Qec I.hok e;obtain⟨w',hw,aU⟩:=JQ.some_of (v:=v) (o:=OO vs k) (by rw[<- l];exact aF.val k)
 have hp:(keyPart u).isSome=true:=by
  cases k with
  | inl i=>obtain⟨t,q⟩:=(show ∃ t,u=Vd i t from ry);subst q;rfl
  | inr x=>obtain⟨t,q⟩:=(show ∃ t,u=Vf x t from ry);subst q;rfl
 have ha:argsOk "dict.pop" ⟨.ref a::u::more,[]⟩:=by
  rcases hm with q | ⟨x,q⟩
  ·subst q;exact F.args_dict_pop_2 _ _
  ·subst q;exact F.args_dict_pop_3 _ _ _
 refine OU OV dd.typeIs F.entry_dict_pop ha (meets_dict_pop_there (QA X.prog X.w) a (Jba ry) more hm hp)
  ⟨vs,w',dd,by rw[<- aF.length];exact z,hw,λh' cR hs=>h w' _ ?_ aU⟩
 have he:∃ q,h'.get? a=some q:=let ⟨q,_,_,hq,_⟩:=cR;⟨q,hq⟩
 exact Q9a I (by rw[e];exact UP) hs he (Qfc (VI (QWb ae k) z) hd (aF.drop k) cR)
theorem Y7c{r:Va}{Q:YQ_}(I:Inv X aa σ H s)(e:H a=some (.dK ae))(ry:Qq (kV k) u)(l:Q4 ae k=Vo)(h:∀ s',Inv X aa σ H s'->Q r s') :
 VV (VW X.prog X.w) A (Uy (.builtin "dict.pop") [.ref a,u,r]) Q E s:=by
 obtain⟨z,hd,vs,aF,dd⟩:=Qec I.hok e;have hn:OO vs k=Vo:=JQ.none_of (by rw[<- l];exact aF.val k)
 have hp:(keyPart u).isSome=true:=by
  cases k with
  | inl i=>obtain⟨t,q⟩:=(show ∃ t,u=Vd i t from ry);subst q;rfl
  | inr x=>obtain⟨t,q⟩:=(show ∃ t,u=Vf x t from ry);subst q;rfl
 exact OU OV dd.typeIs F.entry_dict_pop (F.args_dict_pop_3 _ _ _) (meets_dict_pop_default (QA X.prog X.w) a (Jba ry) hd hp r) ⟨vs,dd,hn,h _ (I.tok _)⟩
end
def Y8c(i:Expr):Prop:=∀ ov iv,Ow i false ov iv=operate [ov,iv] (Ou ov iv)
theorem Yab{prog:Vg}{w:Vb}{A:VF}{E:YQ_}{s:VG}{env:Env}{value aO:Expr}{pos:Pos}{T id:String}{Q:YQ_}
 (hl:Ot (.type T) "__getitem__"=pure (some (.builtin id))) (hs:Y8c aO)
 (h:VV (VW prog w) A (VX value env) (λo s₁=>VV (VW prog w) A (VX aO env) (λi s₂=>s₂.TypeIs o T/\VV (VW prog w) A (Ou o i) Q E s₂) E s₁) E s) :
 VV (VW prog w) A (VX (.Subscript value aO pos) env) Q E s:=by
 refine Subscript_ (V1 h (λo s₁ h₁=>V1 h₁ (λi s₂ h₂=>?_) λ_ _ x=>x) λ_ _ x=>x)
 obtain⟨hT,h₂⟩:=h₂;unfold subscriptTail;refine Uj ?_
 rw[getitemInPython_of_ne hT.not_modules];refine Uj (wpAny_specialOf hT hl ?_)
 have fin:VV (VW prog w) A (Ow aO false o i) (λr s₃=>VV (VW prog w) A (letTemporaryGo value o r >>= λ_=>pure r) Q E s₃) E s₂:=by
  rw[hs o i];exact wpAny_operating (V1 h₂ (λr s₃ h₃=>Uj (wpAny_letTemporaryGo (Ui h₃))) λ_ _ x=>x)
 first
  | exact Ui (Uj fin)
  | exact Uj (Ui (Uj fin))
  | exact Uj fin
theorem QXb{X:Cx}{aa:YP_}{σ:St}{H:Hp}{s:VG}{a:Vh}{y:V}{o:Option V}(I:Inv X aa σ H s)(g:YD H a y o):s.TypeIs (.ref a) "dict":=by
 rcases g with ⟨ae,k,e,_,_⟩ | ⟨ae,k,b,e,_,_,_⟩
 ·obtain⟨_,_,vs,_,dd⟩:=JJa I.hok e
  exact dd.typeIs
 ·obtain⟨_,_,xs,_,dd⟩:=JKa I.hok e
  exact dd.typeIs
def Ysc(td ty:TE):TE:=λσ H Q=>td σ H λx H1=>ty σ H1 λy H2=>∃ a v,x=.ref a/\YD H2 a y (some v)/\Q v H2
def Ybb(ty td:TE):TE:=λσ H Q=>ty σ H λy H1=>td σ H1 λx H2=>∃ a o,x=.ref a/\YD H2 a y o/\Q (.bl (!o.isSome)) H2
def Ytc(td ty tv:TE):TS:=λD σ H=>tv σ H λv H1=>td σ H1 λx H2=>ty σ H2 λy H3=>∃ a H4,x=.ref a/\Jga H3 a y v H4/\D.nx σ H4
section
variable{X:Cx}{o i e value:Expr}{pos aI fU:Pos}{td ty tv:TE}
theorem Ycb(hu:X.A.units+1 < UW)(ho:PE X o td)(hi:PE X i ty)(hs:Y8c i):PE X (.Subscript o i pos) (Ysc td ty):=by
 intro aa s σ H Q I h;refine Yab F.slot_dict_getitem.lookup hs (thn (ho aa s σ H _ I h) λu s1 ⟨x,H1,I1,rx,q1⟩=>thn (hi aa s1 σ H1 _ I1 q1) λiv s2 hZ=>?_)
 obtain⟨y,H2,I2,ry,a,v,ex,g,q2⟩:=hZ;subst ex;obtain rfl:u=Vk a:=rx;exact⟨QXb I2 g,Y2b hu I2 g ry λw' s3 I3 aU=>⟨v,H2,I3,aU,q2⟩⟩
theorem Xoa(hu:X.A.units+1 < UW)(hi:PE X i ty)(ho:PE X o td):PC X .NotIn i o (Ybb ty td):=by
 intro aa s σ H Q I h;refine thn (hi aa s σ H _ I h) λiv s1 ⟨y,H1,I1,ry,q1⟩=>thn (ho aa s1 σ H1 _ I1 q1) λu s2 hZ=>?_
 obtain⟨x,H2,I2,rx,a,ov,ex,g,q2⟩:=hZ;subst ex;obtain rfl:u=Vk a:=rx;exact Jrc hu I2 g ry λs3 I3=>⟨.bl (!ov.isSome),H2,I3,rfl,q2⟩
theorem YZ(hu:X.A.units+1 < UW)(ho:PE X o td)(hi:PE X i ty)(hv:PE X value tv)(hs:Ua value (some (.Subscript o i aI)) pos.line X.env=pure false) :
 PS X (.Assign [.Subscript o i aI] value pos) (Ytc td ty tv):=by
 intro aa s σ H D I h;refine wpAny_Assign_Subscript (thn (hv aa s σ H _ I h) λr s1 ⟨v,H1,I1,rv,q1⟩=>thn (ho aa s1 σ H1 _ I1 q1) λu s2 ⟨x,H2,I2,rx,q2⟩=>thn (hi aa s2 σ H2 _ I2 q2) λiv s3 hZ=>?_) hs
 obtain⟨y,H3,I3,ry,a,H4,ex,g,q3⟩:=hZ;subst ex;obtain rfl:u=Vk a:=rx;exact Y3b hu I3 g ry rv λs4 I4=>⟨σ,H4,I4,q3⟩
end
theorem Qgc{P:Vg}{w:Vb}{H:Hp}(h:Vp)(hb:Vt < h.objs.size):QC P w H (h.push { cls:=.type "dict",data:=.dict #[] }) h.objs.size (.dK []) :=
 ⟨Ux _,beq_eq_false_iff_ne.mpr (VR (VA hb)),[],.nil,Heap.DictOf.new h⟩
def Qhc:TE:=λ_ H Q=>∀ p,H p=Vo->Q (.ref p) (upd H p (.dK []))
section
variable{X:Cx}{pos:Pos}
theorem Zaa:PE X (.Dict [] [] pos) Qhc:=λaa s σ H Q I h =>
 wpAny_Dict_empty ⟨.ref s.heap.objs.size,_,I.laid (a:=s.heap.objs.size) (o:=.dK []) (t':=s.toks) (λ_ _ q=>Ur _ q) (Ut _) (Qgc s.heap I.big),rfl,h _ (I.hok.fresh (Ut _))⟩
end
def Ym(ae more:List (Key×V)):List (Key×V):=more.foldl (λaz kv=>ZX az kv.1 kv.2) ae
theorem KV.merge:∀ {more:List (Key×V)} {rs:List (Key×Va)} {ae:List (Key×V)} {vs:List (Key×Va)},KV more rs->KV ae vs->KV (Ym ae more) (OW vs rs):=by
 intro more rs ae vs r;unfold KV at r
 induction r generalizing ae vs with
 | nil=>intro q;exact q
 | @cons p q ps qs h t ih =>
  intro r0;have e:KV (ZX ae p.1 p.2) (stored vs q.1 q.2):=by
   have:=r0.put p.1 h.2;rw[<- h.1];exact this
  exact ih e
theorem Qta:∀ (more ae:List (Key×V)),(Ym ae more).length<=ae.length+more.length
 | [],ae=>by show ae.length<=ae.length+0;lia
 | p::r,ae=>by
  have h1:=Qta r (ZX ae p.1 p.2);have h2:=Za ae p.1 p.2;show(Ym (ZX ae p.1 p.2) r).length<=_;rw[UG];lia
structure M1(X:Cx)(o:Expr)(m:Str)(ai:Pos)(e:Expr)(ak:Pos):Prop where
 base:US o m X.env (VX o X.env)=VX o X.env
 few:((VY ak (VZ [e] X.env)).all (λx=>!x.1) && (U8 ak (U9 [] X.env)).all (λx=>x.1.isSome)
  && decide (([e]:List Expr).length+([]:List U7).length+(if ([]:List U7).isEmpty then 0 else 1) < 30))=true
 line:(ai.endLine == ak.line)=true
 trees:VY ak (VZ [e] X.env)=[(false,VX e X.env)]
structure M2(X:Cx)(o:Expr)(m:Str)(ai:Pos)(e f:Expr)(ak:Pos):Prop where
 base:US o m X.env (VX o X.env)=VX o X.env
 few:((VY ak (VZ [e,f] X.env)).all (λx=>!x.1) && (U8 ak (U9 [] X.env)).all (λx=>x.1.isSome)
  && decide (([e,f]:List Expr).length+([]:List U7).length+(if ([]:List U7).isEmpty then 0 else 1) < 30))=true
 line:(ai.endLine == ak.line)=true
 trees:VY ak (VZ [e,f] X.env)=[(false,VX e X.env),(false,VX f X.env)]
def IsD(H:Hp)(a:Vh):Prop:=(∃ ae,Rd H a (.dK ae))\/∃ ae,Rd H a (.dT ae)
theorem XXa{X:Cx}{aa:YP_}{σ:St}{H:Hp}{s:VG}{a:Vh}(I:Inv X aa σ H s)(d:IsD H a) :
 s.TypeIs (.ref a) "dict"/\(∀ b,Vk a=.ref b->∃ ob,s.heap.get? b=some ob/\ob.dict=Vo)/\(a == Vt)=false:=by
 rcases d with ⟨ae,e⟩ | ⟨ae,e⟩
 ·obtain⟨_,hd,vs,_,dd⟩:=JJa I.hok e
  refine⟨dd.typeIs,λb q=>?_,hd⟩
  cases q;obtain⟨ob,_,_,h1,h2,_⟩:=dd;exact⟨ob,h1,h2.2.1⟩
 ·obtain⟨_,hd,xs,_,dd⟩:=JKa I.hok e
  refine⟨dd.typeIs,λb q=>?_,hd⟩
  cases q;obtain⟨ob,_,_,h1,h2,_⟩:=dd;exact⟨ob,h1,h2.2.1⟩
section
variable{X:Cx}{aa:YP_}{σ:St}{H:Hp}{s:VG}{a:Vh}{y d:V}{u r:Va}{o:Option V}{A:VF}{E:YQ_}
theorem Y9c{Q:YQ_}(hu:A.units+1 < UW)(I:Inv X aa σ H s)(g:YD H a y o)(ry:Qq y u)(h:∀ w' s',Inv X aa σ H s'->Qq (o.getD .non) w'->Q w' s') :
 VV (VW X.prog X.w) A (Uy (.builtin "dict.get") [.ref a,u]) Q E s:=by
 rcases g with ⟨ae,k,e,ey,l⟩ | ⟨ae,k,b,e,ey,eb,l⟩
 ·subst ey
  obtain⟨z,hd,vs,aF,dd⟩:=JJa I.hok e;refine OU OX dd.typeIs OY (F.args_dict_get_2 _ _) (meets_dict_get (QA X.prog X.w) a (Jba ry) hd) ⟨_,dd.mapOf,h _ _ (I.tok _) ?_⟩
  rw[l];exact(aF.val k).getD rfl
 ·subst ey
  cases (show u=Vk b from ry)
  obtain⟨z,hd,xs,aF,dd⟩:=JKa I.hok e;refine OU OX dd.typeIs OY (F.args_dict_get_2 _ _) (meetsH_dict_get (Vu (QA X.prog X.w)) a b hd) ⟨OT hu,k,xs,YY I.hok eb,dd,h _ _ (I.tok _) ?_⟩
  rw[l];exact(aF.val k).getD rfl
theorem Xac{Q:YQ_}(hu:A.units+1 < UW)(I:Inv X aa σ H s)(g:YD H a y o)(ry:Qq y u)(rd:Qq d r)(h:∀ w' s',Inv X aa σ H s'->Qq (o.getD d) w'->Q w' s') :
 VV (VW X.prog X.w) A (Uy (.builtin "dict.get") [.ref a,u,r]) Q E s:=by
 rcases g with ⟨ae,k,e,ey,l⟩ | ⟨ae,k,b,e,ey,eb,l⟩
 ·subst ey
  obtain⟨z,hd,vs,aF,dd⟩:=JJa I.hok e;refine OU OX dd.typeIs OY (F.args_dict_get_3 _ _ _) (meets_dict_get_default (QA X.prog X.w) a (Jba ry) hd r) ⟨_,dd.mapOf,h _ _ (I.tok _) ?_⟩
  rw[l];exact(aF.val k).getD rd
 ·subst ey
  cases (show u=Vk b from ry)
  obtain⟨z,hd,xs,aF,dd⟩:=JKa I.hok e;refine OU OX dd.typeIs OY (F.args_dict_get_3 _ _ _) (meetsH_dict_get_default (Vu (QA X.prog X.w)) a b hd r) ⟨OT hu,k,xs,YY I.hok eb,dd,h _ _ (I.tok _) ?_⟩
  rw[l];exact(aF.val k).getD rd
end
def Qic(td ty:TE):TE:=λσ H Q=>td σ H λx H1=>∃ a,x=.ref a/\IsD H1 a/\ty σ H1 λy H2=>∃ o,YD H2 a y o/\Q (o.getD .non) H2
def Qjc(td ty tx:TE):TE:=λσ H Q=>td σ H λx H1=>∃ a,x=.ref a/\IsD H1 a/\ty σ H1 λy H2=>tx σ H2 λz H3=>∃ o,YD H3 a y o/\Q (o.getD z) H3
def Qkc(td ty:TE):TE:=λσ H Q=>td σ H λx H1=>∃ a,x=.ref a/\IsD H1 a/\ty σ H1 λy H2=>∃ ae k v,H2 a=some (.dK ae)/\y=kV k/\Q4 ae k=some v/\Q v (upd H2 a (.dK (J3 ae k)))
def Qlc(td ty tx:TE):TE:=λσ H Q=>td σ H λx H1=>∃ a,x=.ref a/\IsD H1 a/\ty σ H1 λy H2=>tx σ H2 λz H3=>∃ ae k,H3 a=some (.dK ae)/\y=kV k /\
 (∀ v,Q4 ae k=some v->Q v (upd H3 a (.dK (J3 ae k))))/\(Q4 ae k=Vo->Q z H3)
section
variable{X:Cx}{o e f:Expr}{ai ak:Pos}{td ty tx:TE}
theorem Zba(hu:X.A.units+1 < UW)(ho:PE X o td)(he:PE X e ty)(m:M1 X o "get" ai e ak):PE X (.Call (.Attribute o "get" ai) [e] [] ak) (Qic td ty):=by
 intro aa s σ H Q I h;refine OZ m.base m.few m.line O8 OX F.type_dict_get (thn (ho aa s σ H _ I h) λu s1 hZ=>?_)
 obtain⟨x,H1,I1,rx,a,ex,d,q1⟩:=hZ;subst ex;obtain rfl:u=Vk a:=rx;obtain⟨t1,t2,_⟩:=XXa I1 d;refine⟨t1,t2,?_⟩
 rw[m.trees];refine Oy rfl (Oz (UY (thn (he aa s1 σ H1 _ I1 q1) λiv s2 ⟨y,H2,I2,ry,ov,g,q2⟩=>UX ?_)))
 exact Y9c hu I2 g ry λw' s3 I3 aU=>⟨_,H2,I3,aU,q2⟩
theorem Qmc(hu:X.A.units+1 < UW)(ho:PE X o td)(he:PE X e ty)(hf:PE X f tx)(m:M2 X o "get" ai e f ak):PE X (.Call (.Attribute o "get" ai) [e,f] [] ak) (Qjc td ty tx):=by
 intro aa s σ H Q I h;refine OZ m.base m.few m.line O8 OX F.type_dict_get (thn (ho aa s σ H _ I h) λu s1 hZ=>?_)
 obtain⟨x,H1,I1,rx,a,ex,d,q1⟩:=hZ;subst ex;obtain rfl:u=Vk a:=rx;obtain⟨t1,t2,_⟩:=XXa I1 d;refine⟨t1,t2,?_⟩
 rw[m.trees];refine Oy rfl (Oz (UY (thn (he aa s1 σ H1 _ I1 q1) λiv s2 ⟨y,H2,I2,ry,q2⟩ =>
  UY (thn (hf aa s2 σ H2 _ I2 q2) λfv s3 ⟨z,H3,I3,rz,ov,g,q3⟩=>UX ?_))))
 exact Xac hu I3 g ry rz λw' s4 I4 aU=>⟨_,H3,I4,aU,q3⟩
theorem Qnc(ho:PE X o td)(he:PE X e ty)(m:M1 X o "pop" ai e ak):PE X (.Call (.Attribute o "pop" ai) [e] [] ak) (Qkc td ty):=by
 intro aa s σ H Q I h;refine OZ m.base m.few m.line O8 OV F.type_dict_pop (thn (ho aa s σ H _ I h) λu s1 hZ=>?_)
 obtain⟨x,H1,I1,rx,a,ex,d,q1⟩:=hZ;subst ex;obtain rfl:u=Vk a:=rx;obtain⟨t1,t2,_⟩:=XXa I1 d;refine⟨t1,t2,?_⟩
 rw[m.trees];refine Oy rfl (Oz (UY (thn (he aa s1 σ H1 _ I1 q1) λiv s2 ⟨y,H2,I2,ry,ae,k,v,ea,ey,l,q2⟩=>UX ?_)))
 subst ey;exact Yrc I2 ea ry l (.inl rfl) λw' s3 I3 aU=>⟨v,_,I3,aU,q2⟩
theorem Qoc(ho:PE X o td)(he:PE X e ty)(hf:PE X f tx)(m:M2 X o "pop" ai e f ak):PE X (.Call (.Attribute o "pop" ai) [e,f] [] ak) (Qlc td ty tx):=by
 intro aa s σ H Q I h;refine OZ m.base m.few m.line O8 OV F.type_dict_pop (thn (ho aa s σ H _ I h) λu s1 hZ=>?_)
 obtain⟨x,H1,I1,rx,a,ex,d,q1⟩:=hZ;subst ex;obtain rfl:u=Vk a:=rx;obtain⟨t1,t2,_⟩:=XXa I1 d;refine⟨t1,t2,?_⟩
 rw[m.trees];refine Oy rfl (Oz (UY (thn (he aa s1 σ H1 _ I1 q1) λiv s2 ⟨y,H2,I2,ry,q2⟩ =>
  UY (thn (hf aa s2 σ H2 _ I2 q2) λfv s3 ⟨z,H3,I3,rz,ae,k,ea,ey,q3,q4⟩=>UX ?_))))
 subst ey;cases l:Q4 ae k with
 | some v=>exact Yrc I3 ea ry l (.inr ⟨fv,rfl⟩) λw' s4 I4 aU=>⟨v,_,I4,aU,q3 v l⟩
 | none=>exact Y7c I3 ea ry l λs4 I4=>⟨z,H3,I4,rz,q4 l⟩
end
section
variable{X:Cx}{aa:YP_}{σ:St}{H:Hp}{s:VG}{a:Vh}{ae:List (Key×V)}{A:VF}{E:YQ_}
end
section
variable{X:Cx}{aa:YP_}{σ:St}{H:Hp}{s:VG}{a:Vh}{y:V}{u:Va}{A:VF}{E:YQ_}
end
end L2
namespace Att
open PySem PySem.W PySem.Calls PyProof.Rows
section
variable{prog:Vg}{w:Vb}{A:VF}{E:YQ_}{s:VG}{K:VC}
end
end Att
namespace L2
open PySem PySem.Spec PyProof.Rows
section
variable{P:Vg}{w:Vb}{K:VC}{mg:Str->Option Va}{base:Vp}
end
section
variable{X:Cx}
end
section
variable{κ:Type}[DecidableEq κ]
end
theorem XF(env:Env):∀ (l:List (Str×Ob)) (x:Str),
 (l.map λ(n,k)=>if (k == O9 && env.scope.kind == .function && env.kindOf n == some .cell) then (n,Ia) else (n,k)).lookup x
  = (l.lookup x).map λk=>if (k == O9 && env.scope.kind == .function && env.kindOf x == some .cell) then Ia else k
 | [],_=>rfl
 | (n,k)::r,x=>by
  have ih:=XF env r x;show UL x ((if (k == O9 && env.scope.kind == .function && env.kindOf n == some .cell)=true then (n,Ia) else (n,k))::_)=_
  cases hx:x == n with
  | true =>
   have e:x=n:=by simpa using hx
   subst e
   by_cases hc:(k == O9 && env.scope.kind == .function && env.kindOf x == some .cell)=true
   ·rw[if_pos hc];simp only[Ib,hx,OM,hc,if_true]
   ·rw[if_neg hc];simp only[Ib,hx,OM,if_neg hc]
  | false =>
   by_cases hc:(k == O9 && env.scope.kind == .function && env.kindOf n == some .cell)=true
   ·rw[if_pos hc];simp only[Ib,hx];exact ih
   ·rw[if_neg hc];simp only[Ib,hx];exact ih
theorem QGa{env:Env}:∀ (l:List (Str×Ob)) (az:List (Str×Vh)),(∀ y∈l,y.2=.free->∃ c,env.cells.lookup y.1=some c)->(∀ y c,az.lookup y=some c->env.cells.lookup y=some c) ->
 ∃ cl,(forIn l az λx (cs:List (Str×Vh))=>(if (x.2 == O9)=true then (do let a <- cellOf env x.1;pure (Ic ((x.1,a)::cs))) else pure (Ic cs):Sem (ForInStep (List (Str×Vh)))))=pure cl/\(∀ y c,cl.lookup y=some c->env.cells.lookup y=some c)/\(∀ y c,az.lookup y=some c->∃ c',cl.lookup y=some c') /\
  ∀ y∈l,y.2=.free->∃ c,cl.lookup y.1=some c
 | [],az,_,h2=>⟨az,rfl,h2,λ_ c h=>⟨c,h⟩,λ_ h=>nomatch h⟩
 | (n,k)::r,az,h1,h2=>by
  by_cases hk:k=.free
  ·subst hk
   obtain⟨c,hc⟩:=h1 (n,.free) VM rfl;have bU:∀ y c',((n,c)::az).lookup y=some c'->env.cells.lookup y=some c':=λy c' h=>by
    rw[Ib]at h;cases hy:y == n with
    | true=>rw[hy]at h;have e:y=n:=by simpa using hy
            subst e;cases h;exact hc
    | false=>rw[hy]at h;exact h2 y c' h
   obtain⟨cl,e,q1,q2,q3⟩:=QGa r ((n,c)::az) (λy hy=>h1 y (VN _ hy)) bU
   refine⟨cl,?_,q1,λy c' h=>?_,λy hy hf=>?_⟩
   ·rw[forIn_cons]
    simp only[beq_self_eq_true,if_true];unfold cellOf;rw[hc];exact e
   ·cases hy:y == n with
    | true=>exact q2 y c (by rw[Ib,hy])
    | false=>exact q2 y c' (by rw[Ib,hy];exact h)
   ·rcases mem_cons.mp hy with e' | hy
    ·subst e'
     exact q2 n c (by simp[Ib])
    ·exact q3 y hy hf
  ·have hb:(k == O9)=false:=by simpa using hk
   obtain⟨cl,e,q1,q2,q3⟩:=QGa r az (λy hy=>h1 y (VN _ hy)) h2
   refine⟨cl,?_,q1,q2,λy hy hf=>?_⟩
   ·rw[forIn_cons]
    simp only[hb,Ie,if_false];exact e
   ·rcases mem_cons.mp hy with e' | hy
    ·subst e';exact absurd hf hk
    ·exact q3 y hy hf
theorem JLa(env:Env)(sc:Scope)(h:∀ y∈sc.names,y.2=.free->∃ c,env.cells.lookup y.1=some c) :
 ∃ cl,closureFor sc env=pure cl/\(∀ y c,cl.lookup y=some c->env.cells.lookup y=some c)/\∀ y∈sc.names,y.2=.free->∃ c,cl.lookup y.1=some c:=by
 obtain⟨cl,e,q1,_,q3⟩:=QGa (env:=env) sc.names [] h (λy c z=>by simp at z)
 refine⟨cl,?_,q1,q3⟩
 unfold closureFor;rw[<- e];simp only[bind_pure]
def blk(X:Cx)(sc:Scope)(x:Str)(M:List Str)(cl:List (Str×Vh))(C:Vh)(s:VG)(H:Hp)(fp:List Vh):Cx :=
 { X with N:=x::M,s₀:=s,H₀:=H,env:=compEnvC sc cl C X.env,outer:=X.stack,ex:=fp,fn:=λ_=>false,pn:=[],xe:=λ_ _=>False }
structure QYb(X:Cx)(sc:Scope)(x:Str)(M:List Str):Prop where
 kind:sc.kind=.function
 nocell:∀ y∈sc.names,y.2≠.cell
 names:∀ y∈sc.names,y.2=.local->sc.names.lookup y.1=some .local
 own:sc.names.lookup x=some .local
 nd:(x::M).Nodup
 len:M.length=X.N.length
 free:∀ y∈sc.names,y.2=.free->X.env.kindOf y.1=some .cell\/X.env.kindOf y.1=some .free
 same:∀ (i:Nat) (y:Str),M[i]?=some y->sc.names.lookup y=some .free->X.N[i]?=some y
 noloc:∀ y∈M,sc.names.lookup y≠some .local
section
variable{X:Cx}
theorem Inv.toBlk{aa:YP_}{σ:St}{H:Hp}{s:VG}{sc:Scope}{x:Str}{M:List Str}{cl:List (Str×Vh)}{fp:List Vh}{h₁:Vp}{tk:Nat}
 (I:Inv X aa σ H s) (B:QYb X sc x M) (q1:∀ y c,cl.lookup y=some c->X.env.cells.lookup y=some c) (q3:∀ y∈sc.names,y.2=.free->∃ c,cl.lookup y.1=some c)
 (iF:∀ b∈fp,J1 X aa H b) (kD:∀ b∈fp,b < s.heap.objs.size) {m:Str->Option Va} (hn:h₁.Ns s.heap.objs.size m) (keep:∀ b o,s.heap.get? b=some o->h₁.get? b=some o) :
 Inv (blk X sc x M cl s.heap.objs.size s H fp) [] (Vo::σ) H { s with heap:=h₁,toks:=tk }:=by
 have bw:∀ y,(blk X sc x M cl s.heap.objs.size s H fp).env.kindOf y=(sc.names.lookup y).map λk=>if (k == O9 && X.env.scope.kind == .function && X.env.kindOf y == some .cell) then Ia else k:=λy=>XF X.env sc.names y
 have bV:∀ y,((blk X sc x M cl s.heap.objs.size s H fp).env.kindOf y=some .cell\/(blk X sc x M cl s.heap.objs.size s H fp).env.kindOf y=some .free)->sc.names.lookup y=some .free:=λy hy=>by
  rw[bw]at hy;cases e:sc.names.lookup y with
  | none=>rw[e]at hy;simp at hy
  | some k =>
   rw[e]at hy
   by_cases hk:k=.free
   ·rw[hk]
   ·exfalso
    have hb:(k == O9)=false:=by simpa using hk
    simp only[hb,Bool.false_and,OM,Ie,if_false,Ig]at hy
    rcases hy with z | z
    ·exact B.nocell (y,k) (Og e) z
    ·exact hk z
 have ncell:∀ y c,X.env.cells.lookup y=some c->c < s.heap.objs.size:=λy c e=>by
  obtain⟨v,o,ho,_⟩:=I.cell y c e;exact Vx ho
 have below:∀ b∈fp,J1 X aa H b:=iF;refine⟨⟨I.ok.mod,B.kind,I.ok.glob,I.ok.blt,Ut _,λy z c h1 h2=>I.ok.inj y z c (q1 y c h1) (q1 z c h2),λy hy=>q3 _ (Og (bV y hy)) rfl,λy c h _=>absurd (show false=true from h) Uc,I.ok.hd,I.ok.frames,.inl rfl,
  λb hb=>?_,I.bs,VI I.ok.bsz I.sz,λb o e hb=>?_,λb hb z=>?_,I.stack,I.stkFree⟩,rfl,I.bare,Un.kept keep,⟨_,hn,λi y v e1 e2 e3=>?_⟩,λy c h=>?_,I.hok.fresh (Ut _),λy c h=>I.freeC y c (q1 y c h),λp hp=>absurd (show p∈([]:YP_) from hp) #[2],I.hok.kept keep,?_⟩
 ·exact⟨VA (kD b hb),λy c h=>(iF b hb).2.2.2.2.1 y c (q1 y c h)⟩
 ·rcases(iF b hb).2.2.2.1 with z | z
  ·exact I.ok.noex b o e z
  ·exact absurd (Vy (Vx e) (VI I.ok.bsz z)) (Vz _)
 ·rcases mem_cons.mp (I.stkSub b z) with e | z
  ·exact(iF b hb).2.1 e
  ·exact(iF b hb).2.2.1 z
 ·cases i with
  | zero=>simp at e2
  | succ i =>
   have pO:M[i]?=some y:=e1;have tR:σ[i]?=some (some v):=e2;have hy:sc.names.lookup y=some .free:=by
    rcases e3 with z | z | z
    ·exfalso
     have z':(blk X sc x M cl s.heap.objs.size s H fp).env.kindOf y=some .local:=z;rw[bw]at z';cases e:sc.names.lookup y with
     | none=>rw[e]at z';simp at z'
     | some k =>
      rw[e]at z';simp only[OM,Ig]at z'
      split at z'
      ·cases z'
      ·subst z'
       exact B.noloc y (Om pO) e
    ·exact bV y (.inl z)
    ·exact bV y (.inr z)
   have hk:=B.free _ (Og hy) rfl;obtain⟨m0,hn0,hl⟩:=I.loc;obtain⟨u,r,l⟩:=hl i y v (B.same i y pO hy) tR (hk.elim (λz=>.inr (.inl z)) λz=>.inr (.inr z))
   refine⟨u,r,.inr ⟨?_,?_⟩⟩
   ·rcases e3 with z | z | z
    ·exfalso
     have z':(blk X sc x M cl s.heap.objs.size s H fp).env.kindOf y=some .local:=z;rw[bw,hy]at z';simp only[OM,Ig]at z'
     split at z' <;> cases z'
    ·exact .inl z
    ·exact .inr z
   ·rcases l with ⟨k,_⟩ | ⟨_,c,e,hc⟩
    ·rcases hk with z | z <;> (have z':X.env.kindOf y=_:=z;rw[k]at z';cases z')
    ·obtain⟨c',e'⟩:=q3 _ (Og hy) rfl
     have pP:=q1 y c' e';rw[e]at pP;cases pP;obtain⟨o,ho,hd⟩:=hc;exact⟨c,e',o,keep c o ho,hd⟩
 ·obtain⟨v,o,ho,hd⟩:=I.cell y c (q1 y c h)
  exact⟨v,o,keep c o ho,hd⟩
 ·show(Vo::σ).length=(x::M).length
  rw[UG,UG,I.len,B.len]
end
def QY(X:Cx)(bK:List Expr)(t:TT):Prop :=
 ∀ (aa:YP_) (s:VG) (σ:St) (H:Hp) (Q:Bool->Hp->Prop),Inv X aa σ H s->t σ H Q ->
  VV (VW X.prog X.w) X.A (forIn bK true λc r=>if r=true then do let ok <- isTrue c X.env (VX c X.env);pure (Ic ok) else pure (Ic r)) (TP X aa σ Q) X.xe s
def Y4b:TT:=λ_ H Q=>Q true H
theorem Jqa{X:Cx}:QY X [] Y4b:=λ_ _ _ H _ I h=>wpAny_tests_nil ⟨H,I,h⟩
theorem XYa{X:Cx}{c:Expr}{t:TT}(h:PT X c t):QY X [c] t:=λaa s σ H Q I q=>wpAny_tests_one (h aa s σ H Q I q)
section
variable{prog:Vg}{w:Vb}{A:VF}{E:YQ_}{R:UH->VG->Prop}{s:VG}
theorem QZb{bW aT Uh:Expr}{bK:List Expr}{scope:Scope}{pos:Pos}{it az:Va}{env:Env}(I:Nat->VG->Prop)
 (turn:∀ n s,I n s->VV (VW prog w) A (Ue it) (λr s₁=>match r with
  | none=>R (.ok .next) s₁
  | some v=>VV (VW prog w) A (Uf aT it v) (λ_ s₁=>VV (VW prog w) A (assign aT env v) (λ_ s₂ =>
   VV (VW prog w) A (forIn bK true λc r=>if r=true then do let ok <- isTrue c env (VX c env);pure (Ic ok) else pure (Ic r)) (λok s₃ =>
    if ok=true then VV (VW prog w) A (VX bW env) (λx s₄ =>
     VV (VW prog w) A (Uy (.builtin "list.append") [az,x]) (λ_ s₅=>∃ m,m < n/\I m s₅) (λ_ _=>False) s₄) (λ_ _=>False) s₃
    else ∃ m,m < n/\I m s₃) (λ_ _=>False) s₂) (λ_ _=>False) s₁) (λ_ _=>False) s₁) (λ_ _=>False) s)
 (n:Nat) (h:I n s) :
 UJ (VW prog w) A (.compLoop (.ListComp bW [⟨aT,Uh,bK,0⟩] scope pos) 0 it az env) R s:=by
 refine codeAny_loop rfl I (λn s hI=>?_) n h
 show VV _ A ((compTurn (.ListComp bW [⟨aT,Uh,bK,0⟩] scope pos) 0 it az env).onRaise (λx=>do noteFrame x env;theTreesLotGoes x)) _ _ s
 refine wpAny_noted ?_
 rw[compTurn_list];refine Uj (Oa (Uj (V1 (turn n s hI) (λr s₁ h₁=>?_) λ_ _ h'=>h'.elim)))
 cases r with
 | none=>exact Ui h₁
 | some v =>
  refine Uj (V1 h₁ (λ_ s₁ h₁=>?_) λ_ _ h'=>h'.elim)
  refine Uj (V1 h₁ (λ_ s₂ h₂=>Uj (V1 h₂ (λok s₃ h₃=>?_) λ_ _ h'=>h'.elim)) λ_ _ h'=>h'.elim)
  cases ok with
  | false=>exact Ui ⟨rfl,h₃⟩
  | true =>
   exact Uj (Uj (V1 h₃ (λx s₄ h₄=>Uj (V1 h₄ (λ_ s₅ h₅=>Ui (Ui ⟨rfl,h₅⟩)) λ_ _ h'=>h'.elim)) λ_ _ h'=>h'.elim))
end
def tLc(wi:TI)(tt:TT)(te:TE):TE:=λσ H Q=>wi σ H λJ H1=>∀ D,H1 D=Vo->∃ W:Nat->Nat->List V->Hp->Prop,(∃ m,W 0 m [] (upd H1 D (.lst [])))/\∀ i m ys H,W i m ys H ->
 H D=some (.lst ys)/\((J.stop i H/\Q (.ref D) H)\/(J.go i H/\ys.length < Vr/\∀ x H',J.yld i H x H'->tt (some x::σ) H' λb H2=>if b=true then te (some x::σ) H2 λv H3 =>
  H3 D=some (.lst ys)/\∃ m',m' < m/\W (i+1) m' (ys++[v]) (upd H3 D (.lst (ys++[v]))) else ∃ m',m' < m/\W (i+1) m' ys H2))
section
variable{X:Cx}
theorem JMa{sc:Scope}{x:Str}{px pos:Pos}{Uh bW:Expr}{bK:List Expr}{M:List Str}{wi:TI}{tt:TT}{te:TE}{cl:List (Str×Vh)}{RR:Va->Vh->UH->VG->Prop}{aa:YP_}{s:VG}{σ:St}{H:Hp}{Q:VK}
 (hc:X.calm=true) (B:QYb X sc x M) (hi:PI X (.Name x px) Uh wi) (ht:∀ C s H fp,QY (blk X sc x M cl C s H fp) bK tt) (he:∀ C s H fp,PE (blk X sc x M cl C s H fp) bW te)
 (q1:∀ y c,cl.lookup y=some c->X.env.cells.lookup y=some c) (q3:∀ y∈sc.names,y.2=.free->∃ c,cl.lookup y.1=some c)
 (I:Inv X aa σ H s) (h:tLc wi tt te σ H Q)
 (tS:∀ (D C:Vh) (s':VG) (m:Str->Option Va) (H':Hp),Inv X aa σ H' s'->s'.heap.Ns C m->J1 X aa H' C->Q (.ref D) H'->RR (.ref D) C (.ok .next) s') :
 VV (VW X.prog X.w) X.A (VX Uh X.env) (λxv s₁=>VV (VW X.prog X.w) X.A (Ug xv) (λit s₂=>VV (VW X.prog X.w) X.A (newList []) (λaz s₃ =>
  VV (VW X.prog X.w) X.A (newFunctionEnv sc X.env.globals cl [] X.env.qual Vo .none (some X.env)) (λiG s₄ =>
   UJ (VW X.prog X.w) X.A (.compStart (.ListComp bW [⟨.Name x px,Uh,bK,0⟩] sc pos) 0 it az { iG with scope:=relabel sc X.env }) (RR az iG.locals) s₄) X.xe s₃) X.xe s₂) X.xe s₁) X.xe s:=by
 refine thn (hi aa s σ H _ I h) λv s1 h1=>thn h1 λlO s2 h2=>?_
 obtain⟨it,fp,tn,J,H2,rfl,I2,T,cm,f2,q2⟩:=h2;refine Ih (wpAny_newFunctionEnv B.nocell (by intro y hy;simp at hy) (λh₁ fX fY=>?_) B.kind)
 dsimp only at fX fY ⊢;obtain⟨W,⟨m0,w0⟩,turn⟩:=q2 s2.heap.objs.size I2.fresh;have I3:Inv X aa σ (upd H2 s2.heap.objs.size (.lst [])) { s2 with heap:=s2.heap.push { cls:=.type "list",data:=.seq ([]:List Va).toArray },toks:=s2.toks }:=I2.lnew .nil (Ux _)
 generalize iH:({ s2 with heap:=s2.heap.push { cls:=.type "list",data:=.seq ([]:List Va).toArray },toks:=s2.toks }:VG)=s3 at I3
 have eh:s2.heap.push { cls:=.type "list",dict:=Vo,data:=.seq ([]:List Va).toArray }=s3.heap:=by rw[<- iH]
 have kD:∀ b∈fp,b < s2.heap.objs.size:=λb hb=>by
  obtain⟨o,e,_⟩:=T.obj _ _ cm b hb;exact Vx e
 have sz:s3.heap.objs.size=s2.heap.objs.size+1:=by rw[<- eh,UQ]
 have iI:∀ b∈fp,b < s3.heap.objs.size:=λb hb=>by rw[sz];exact Ii (kD b hb)
 have fZ:∀ b∈fp,J1 X aa (upd H2 s2.heap.objs.size (.lst [])) b:=λb hb=>⟨by rw[Qf (VA (kD b hb))];exact(f2 b hb).1,(f2 b hb).2⟩
 rw[eh]at fX fY ⊢;have keep:∀ b o,s3.heap.get? b=some o->h₁.get? b=some o:=λb o e=>fY.extBut b o (VA (Vx e)) (Ur _ e)
 have IB:=I3.toBlk (tk:=s2.toks+([]:List (Str×Va)).length) B q1 q3 fZ iI fX keep;have cS:tn 0 h₁:=T.keep _ _ _ cm λb hb o e=>keep b o (by rw[<- eh];exact Ur _ e)
 have es:({ s3 with heap:=h₁,toks:=s2.toks+([]:List (Str×Va)).length }:VG)={ s2 with heap:=h₁,toks:=s2.toks+([]:List (Str×Va)).length }:=by rw[<- iH]
 rw[es]at IB;have bp:(blk X sc x M cl s3.heap.objs.size s3 (upd H2 s2.heap.objs.size (.lst [])) fp).env.scope.names.lookup x=some .local:=lookup_relabel_local B.own;have hg:PG (blk X sc x M cl s3.heap.objs.size s3 (upd H2 s2.heap.objs.size (.lst [])) fp) (.Name x px) (QMb 0):=Zc B.nd rfl (.inl bp) (.inr bp);have iJ:=he s3.heap.objs.size s3 (upd H2 s2.heap.objs.size (.lst [])) fp;have l8:=ht s3.heap.objs.size s3 (upd H2 s2.heap.objs.size (.lst [])) fp;have iK:∀ s₄:VG,s₄={ s2 with heap:=h₁,toks:=s2.toks+([]:List (Str×Va)).length } ->
  UJ (VW X.prog X.w) X.A (.compLoop (.ListComp bW [⟨.Name x px,Uh,bK,0⟩] sc pos) 0 (.ref it) (.ref s2.heap.objs.size) (compEnvC sc cl s3.heap.objs.size X.env)) (RR (.ref s2.heap.objs.size) s3.heap.objs.size) s₄:=by
  rintro s₄ rfl;refine QZb (λn s'=>∃ i ys o H',Inv (blk X sc x M cl s3.heap.objs.size s3 (upd H2 s2.heap.objs.size (.lst [])) fp) [] (o::σ) H' s'/\tn i s'.heap/\(∀ b∈fp,H' b=Vo)/\W i n ys H') ?_ m0
   ⟨0,[],Vo,_,IB,cS,λb hb=>(fZ b hb).1,w0⟩
  rintro n s' ⟨i,ys,o,H',I',ag,pQ,w'⟩;have l9:∀ {H':Hp} {pl:YP_},(∀ b∈fp,H' b=Vo)->∀ b∈fp,J1 (blk X sc x M cl s3.heap.objs.size s3 (upd H2 s2.heap.objs.size (.lst [])) fp) [] H' b:=λ{H' pl} hn b hb =>
   ⟨hn b hb,VA (iI b hb),λz=>I'.ok.exfs b hb z,.inl hb,λy c hy=>(fZ b hb).2.2.2.2.1 y c (q1 y c hy),λp hp=>absurd (show p∈([]:YP_) from hp) #[2]⟩
  obtain⟨hD,⟨stop,q⟩ | ⟨go,ar,step⟩⟩:=turn i n ys H' w'
  ·refine V1 (T.done (blk X sc x M cl s3.heap.objs.size s3 (upd H2 s2.heap.objs.size (.lst [])) fp) rfl rfl rfl hc i [] s' (o::σ) H' (λ_ _=>False) I' (l9 (pl:=[]) pQ) ag stop) (λr s4 hZ=>?_) λ_ _ f=>f.elim
   obtain⟨hr,I4⟩:=hZ;subst hr;obtain⟨m,hn,_⟩:=I4.loc;refine tS _ _ s4 m H' (I3.call' (ch:=fp) I4.os I4.base I4.hok I4.bare λb hb=>⟨(fZ b hb).2.2.2.1,(fZ b hb).2.1,(fZ b hb).2.2.2.2.1,(fZ b hb).2.2.2.2.2⟩) hn (I3.fpOk (Ut _) I4.free) q
  ·refine V1 (T.item (blk X sc x M cl s3.heap.objs.size s3 (upd H2 s2.heap.objs.size (.lst [])) fp) rfl rfl rfl hc i [] s' (o::σ) H' (λ_ _=>False) I' (l9 (pl:=[]) pQ) ag go) (λr s4 hZ=>?_) λ_ _ f=>f.elim
   obtain⟨u,hr,h4⟩:=hZ;subst hr;refine V1 h4 (λ_ s5 hZ=>?_) λ_ _ f=>f.elim
   obtain⟨y,H5,I5,r5,y5,fS,lP⟩:=hZ;have lQ:=I5.pinned (l9 (pl:=[]) lP) (T.obj _ _ fS);refine V1 (hg _ s5 (o::σ) H5 y u (λσ' H'=>σ'=some y::σ/\H'=H5) lQ r5 ⟨rfl,rfl⟩) (λ_ s6 hZ=>?_) λ_ _ f=>f.elim
   obtain⟨σ6,H6,I6,e6,tT⟩:=hZ;subst e6 tT;have again:∀ {H7:Hp} {s7:VG} {zs:List V} {m':Nat},Inv (blk X sc x M cl s3.heap.objs.size s3 (upd H2 s2.heap.objs.size (.lst [])) fp) ([]++JEa fp s5.heap) (some y::σ) H7 s7->m' < n->W (i+1) m' zs H7 ->
    ∃ m,m < n/\∃ i ys o H',Inv (blk X sc x M cl s3.heap.objs.size s3 (upd H2 s2.heap.objs.size (.lst [])) fp) [] (o::σ) H' s7/\tn i s7.heap/\(∀ b∈fp,H' b=Vo)/\W i m ys H':=λ{H7 s7 zs m'} I7 hm w7=>by
    refine⟨m',hm,i+1,zs,some y,H7,I7.unpinned,T.keep _ _ _ fS λb hb o e=>(I7.pin (b,o) (Uw _ (Uw _ (YT hb e)))).1,λb hb=>?_,w7⟩
    obtain⟨o,e,d⟩:=T.obj _ _ fS b hb;exact(I7.pin (b,o) (Uw _ (Uw _ (YT hb e)))).2.1
   refine V1 (l8 _ s6 (some y::σ) H6 _ I6 (step y H6 y5)) (λb s7 hZ=>?_) λ_ _ f=>f.elim
   obtain⟨H7,I7,q7⟩:=hZ;cases b with
   | false =>
    rw[if_neg Uc]at q7 ⊢;obtain⟨m',hm,w7⟩:=q7;exact again I7 hm w7
   | true =>
    rw[if_pos rfl]at q7 ⊢;refine V1 (iJ _ s7 (some y::σ) H7 _ I7 q7) (λu8 s8 hZ=>?_) λ_ _ f=>f.elim
    obtain⟨v8,H8,I8,r8,tU,m',hm,w8⟩:=hZ;refine V1 (Zn (X:=blk X sc x M cl s3.heap.objs.size s3 (upd H2 s2.heap.objs.size (.lst [])) fp) _ s8 (some y::σ) H8 (.ref s2.heap.objs.size) [v8] (.ref s2.heap.objs.size) [u8] (λ_ H9=>H9=upd H8 s2.heap.objs.size (.lst (ys++[v8]))) I8 rfl (.cons r8 .nil) ⟨_,ys,v8,rfl,rfl,tU,ar,rfl⟩) (λ_ s9 hZ=>?_) λ_ _ f=>f.elim
    obtain⟨_,H9,I9,_,e9⟩:=hZ;subst e9;exact again I9 hm w8
 exact codeAny_compStart_list (iK _ rfl) (T.self X.A 0 _ _ _ cS (iK _ rfl))
theorem YE{sc:Scope}{x:Str}{px pos:Pos}{Uh bW:Expr}{bK:List Expr}(M:List Str){wi:TI}{tt:TT}{te:TE}(hc:X.calm=true)(B:QYb X sc x M)(hi:PI X (.Name x px) Uh wi)
 (ht:∀ cl C s H fp,QY (blk X sc x M cl C s H fp) bK tt) (he:∀ cl C s H fp,PE (blk X sc x M cl C s H fp) bW te) (hs:∀ x,foldedSetIterable Uh X.env x=pure x:=by intro _;rfl) :
 PE X (.ListComp bW [⟨.Name x px,Uh,bK,0⟩] sc pos) (tLc wi tt te):=by
 intro aa s σ H Q I h;obtain⟨cl,gc,q1,q3⟩:=JLa X.env sc (λy hy hf=>I.ok.has y.1 (B.free y hy hf))
 rw[eval_ListComp];refine wpAny_comprehension_free (use:=Vo) rfl hs gc B.kind B.names (JMa (RR:=λaz C=>compPost (VW X.prog X.w) X.A X.xe Vo (EP X aa σ Q) az C) hc B hi (ht cl) (he cl) q1 q3 I h ?_)
 intro D C s' m H' I' hn cE q;exact⟨m,hn,λh' sb=>⟨.ref D,H',I'.turned (t':=s'.toks) (λb o hb e=>sb.extBut b o hb e) cE.1 cE.2.1 cE.2.2.2.1 cE.2.2.2.2.1 cE.2.2.2.2.2,rfl,q⟩⟩
def Qpc(j:Nat)(wi:TI)(tt:TT)(te:TE):TS:=λD σ H=>tLc wi tt te σ H λv H'=>D.nx (σ.set j (some v)) H'
theorem Qqc{sc:Scope}{x y:Str}{px py pos iL:Pos}{Uh bW:Expr}{bK:List Expr}{j:Nat}(M:List Str){wi:TI}{tt:TT}{te:TE}(hc:X.calm=true)(hN:X.N.Nodup)(hj:X.N[j]?=some y)(hy:X.env.scope.names.lookup y=some .local)
 (B:QYb X sc x M) (hi:PI X (.Name x px) Uh wi)
 (ht:∀ cl C s H fp,QY (blk X sc x M cl C s H fp) bK tt) (he:∀ cl C s H fp,PE (blk X sc x M cl C s H fp) bW te)
 (tV:Ua (.ListComp bW [⟨.Name x px,Uh,bK,0⟩] sc pos) (some (.Name y py)) iL.line X.env=pure true:=by rfl) (hs:∀ x,foldedSetIterable Uh X.env x=pure x:=by intro _;rfl) :
 PS X (.Assign [.Name y py] (.ListComp bW [⟨.Name x px,Uh,bK,0⟩] sc pos) iL) (Qpc j wi tt te):=by
 intro aa s σ H D I h;obtain⟨cl,gc,q1,q3⟩:=JLa X.env sc (λy hy hf=>I.ok.has y.1 (B.free y hy hf))
 rw[exec_Assign_Name_used _ _ _ _ tV];refine Uj (Oa (Uj ?_))
 show VV _ X.A (do let _ <- comprehension (.ListComp bW [⟨.Name x px,Uh,bK,0⟩] sc pos) sc X.env _ (newList []) false (VX Uh X.env) (some (assign (.Name y py) X.env))) _ _ s
 refine Uj (V1 (wpAny_comprehension_free (use:=some (assign (.Name y py) X.env)) (Q:=λ_ s'=>SP X aa D .next s') rfl hs gc B.kind B.names
  (JMa (RR:=λaz C=>compPost (VW X.prog X.w) X.A X.xe (some (assign (.Name y py) X.env)) (λ_ s'=>SP X aa D .next s') az C) hc B hi (ht cl) (he cl) q1 q3 I h ?_)) (λ_ s' hq=>Ui (Ui hq)) λ_ _ e=>e)
 intro A C s' m H' I' hn cE q;show VV _ X.A (assign (.Name y py) X.env (.ref A)) _ _ s';refine wpAny_assign_Name (Xca I' hN hj (.inl hy) (v:=.ref A) rfl (λbH ma hZ=>?_) (.inr hy))
 obtain⟨a,sb,ha⟩:=hZ;have ay:C≠a:=by
  rcases ha with e | e
  ·rw[e];exact cE.2.1
  ·exact λz=>cE.2.2.2.2.1 y a e z.symm
 exact⟨m,hn.sameBut sb ay,λh' tW=>⟨_,H',ma.turned (t':=bH.toks) (λb o hb e=>tW.extBut b o hb e) cE.1 cE.2.1 cE.2.2.2.1 cE.2.2.2.2.1 cE.2.2.2.2.2,q⟩⟩
end
end L2
end
section
namespace HT
open PySem PyProof.Rows L2
def JD:List V->List V->Option Bool
 | [],[]=>some false
 | [],_::_=>some true
 | _::_,[]=>some false
 | .int i::xs,.int j::ys=>if i=j then JD xs ys else some (decide (i < j))
 | .str i::xs,.str j::ys=>if i=j then JD xs ys else some (decide (i.cps.toList < j.cps.toList))
 | _::_,_::_=>Vo
theorem Zca:JD [] []=some false:=rfl
theorem Qua(y:V)(ys:List V):JD [] (y::ys)=some true:=rfl
theorem Qva(x:V)(xs:List V):JD (x::xs) []=some false:=by cases x <;> rfl
theorem Qrc(A:VF)(s:VG)(a:Str)(t:Tok)(c:Str)(u:Tok)(prog:Vg)(w:Vb)(E:YQ_)(Q:YQ_)(h:Q (.bool (decide (a.cps.toList < c.cps.toList))) s) :
 VV (VW prog w) A (richCompare .Lt (.str a t) (.str c u)) Q E s :=
 (CM h:VV (VW prog w) A (V2 .Lt (.str a t) (.str c u)) Q E s)
section
open PySem.SeqAt
open PySem.AutoSeq1 (wpAny_loadPart')
open PySem.MeetsSeq PySem.MeetsSeq2 PySem.MeetsSeq3
theorem Jcb(l b:Vh)(aB au:Array Va)(n n2:Nat)(dd cD:Option Vh)(sl eZ:Array (Option Va))(xs ys:List V)(hi:Qt xs aB.toList)(hj:Qt ys au.toList)(r:Bool)(hr:JD xs ys=some r) :
 Meets (Ij.«tuple.__lt__» ⟨[.ref l,.ref b],[]⟩)
  (λ_ R s=>s.heap.get? l=some { cls:=.type "tuple",dict:=dd,data:=.seq aB n,slots:=sl }/\s.heap.get? b=some { cls:=.type "tuple",dict:=cD,data:=.seq au n2,slots:=eZ } /\
   R (.ok (.ret (.bool r))) s) :=
 .of_wp λprog w A R s h=>by
  obtain⟨hp,g,d,tk,os⟩:=s;obtain⟨hl,hb,h⟩:=h;have f2:=AutoSeq1.sub_tuple_tuple;have z1:aB.size=xs.length:=by rw[hi.length];simp
  have z2:au.size=ys.length:=by rw[hj.length];simp
  wp_walk using wpAny_loadPart' hl,wpAny_loadPart' hb,Ik _ (λrest b s'=>b.1=Vo/\s'=⟨hp,g,d,tk,os⟩/\∃ (vs ws:List Va) (cF eA:List V),rest=vs.zip ws /\
   Qt cF vs/\Qt eA ws/\cF.length+au.size=eA.length+aB.size/\JD cF eA=some r) _
  case turn =>
   rintro⟨y,x⟩ rest b s' ⟨bE,rfl,vs,ws,cF,eA,hz,gf,kE,ar,hR⟩;cases gf with
   | nil=>rw[zip_nil_left]at hz;cases hz
   | cons ra iM =>
    cases kE with
    | nil=>rw[zip_nil_right]at hz;cases hz
    | cons rb iN =>
     rename_i a1 v1 l1 l2 a2 v2 l3 l4;rw[zip_cons_cons]at hz;injection hz with hyx e7
     injection hyx with hy hx
     subst hy hx;simp only[UG]at ar;cases a1 with
     | int i =>
      cases a2 with
      | int j =>
       obtain⟨t,rfl⟩:=ra;obtain⟨u,rfl⟩:=rb;simp only[JD]at hR;obtain⟨e,he,iO⟩:=X5b A.in1 ⟨hp,g,d,tk,os⟩ i t j u;refine Uj (he prog w _ _ ?_)
       cases e with
       | true =>
        rw[if_pos (iO.mp rfl)]at hR
        wp_walk
        exact⟨rfl,rfl,_,_,_,_,e7,iM,iN,by lia,hR⟩
       | false =>
        rw[if_neg (λq=>absurd (iO.mpr q) Uc)]at hR
        cases hR;have md:=X6b A.in1 ⟨hp,g,d,tk,os⟩ i t j u prog w
        wp_walk using md
        exact⟨_,rfl,by simpa using h⟩
      | _=>simp[JD]at hR
     | str i =>
      cases a2 with
      | str j =>
       obtain⟨t,rfl⟩:=ra;obtain⟨u,rfl⟩:=rb;simp only[JD]at hR;refine Uj (SeqAt.EqAt.str_str (A:=A.in1) (s:=⟨hp,g,d,tk,os⟩) i t j u prog w _ _ ?_)
       cases e:(i == j) with
       | true =>
        rw[if_pos (by simpa using e)]at hR
        wp_walk
        exact⟨rfl,rfl,_,_,_,_,e7,iM,iN,by lia,hR⟩
       | false =>
        rw[if_neg (by simpa using e)]at hR
        cases hR;have md:=Qrc A.in1 ⟨hp,g,d,tk,os⟩ i t j u prog w
        wp_walk using md
        exact⟨_,rfl,by simpa using h⟩
      | _=>simp[JD]at hR
     | _=>cases a2 <;> simp[JD]at hR
  case fin =>
   rintro⟨b1,b2⟩ s' ⟨bE,rfl,vs,ws,cF,eA,hz,gf,kE,ar,hR⟩;simp only at bE;subst bE;have hv:r=decide (aB.size < au.size):=by
    cases gf with
    | nil =>
     cases kE with
     | nil =>
      simp only[ON]at ar;rw[Zca]at hR;cases hR;exact(decide_eq_false #[0]).symm
     | cons c hw =>
      simp only[ON,UG]at ar;rw[Qua]at hR;cases hR;exact(decide_eq_true #[0]).symm
    | cons a hv =>
     cases kE with
     | nil =>
      simp only[ON,UG]at ar;rw[Qva]at hR;cases hR;exact(decide_eq_false #[0]).symm
     | cons c hw =>
      rw[zip_cons_cons]at hz;cases hz
   rw[hv]at h
   wp_walk
   exact⟨_,rfl,by simpa[Builtin.Tuple.tupleCompareSizes]using h⟩
  case h =>
   exact⟨rfl,rfl,aB.toList,au.toList,xs,ys,rfl,hi,hj,by lia,hr⟩
end
section
variable{prog:Vg}{w:Vb}{A:VF}{E:YQ_}{s:VG}
theorem Jsc{l b:Vh}{aB au:Array Va}{xs ys:List V}{r:Bool}{Q:YQ_}(hl:Vs s.heap l aB)(hb:Vs s.heap b au)(hi:Qt xs aB.toList)(hj:Qt ys au.toList)(hr:JD xs ys=some r)
 (hu:A.units < UW) (h:Q (.bool r) s):VV (VW prog w) A (V2 .Lt (.ref l) (.ref b)) Q E s:=by
 obtain⟨⟨cls,dd,data,sl⟩,ho,hc,n,hd⟩:=id hl;obtain⟨⟨iB,cD,CL,eZ⟩,cQ,bC,n2,dG⟩:=id hb;simp only at hc hd bC dG;subst hc hd bC dG;exact richCompare_meets_room (op:=.Lt) ⟨_,ho,rfl⟩ ⟨_,cQ,rfl⟩ F.slot_tuple_lt F.entry_tuple_lt (F.args_tuple_lt_2 _ _) (Jcb l b aB au n n2 dd cD sl eZ xs ys hi hj r hr)
  ⟨ho,cQ,show Vj r≠Value.notImplemented/\Q (.bool r) s from⟨(λx=>nomatch x),h⟩⟩ hu
end
end HT
namespace L2
open PySem PySem.Spec PyProof.Rows
section
variable{X:Cx}
def Qhd:V->Option Va
 | .ty n=>some (.type n)
 | .ref a=>some (.ref a)
 | _=>Vo
def Y5b(K:VC):List V->Hp->VK->Prop:=λxs H Q=>∃ x c t cv b,xs=[x,c]/\Qhd c=some cv/\Q3a K H x t/\UU K t cv=some b/\Q (.bl b) H
theorem ZS:XB X (.builtin "isinstance") (Y5b X.K):=by
 intro aa s σ H xs us Q I r h;obtain⟨x,c,t,cv,b,rfl,hc,ty,e,q⟩:=h;obtain⟨u,w',rfl,rx,rc⟩:=X7c r;have ec:w'=cv:=by
  cases c <;> simp[Qhd]at hc
  ·subst hc;exact rc
  ·subst hc;exact rc
 subst ec;exact YYb I rx ty e λtk=>⟨.bl b,H,I.tok tk,rfl,q⟩
def Qid(K:VC):R2:=λx y H Q=>∃ a b xs ys r,x=.ref a/\y=.ref b/\SqT K H a xs/\SqT K H b ys/\HT.JD xs ys=some r/\Q (.bl r) H
theorem Xbc(hu:X.A.units < UW):OpR X (V2 .Lt) (Qid X.K):=by
 intro aa s σ H x y v u Q I rx ry h;obtain⟨a,b,xs,ys,r,rfl,rfl,ha,hb,e,q⟩:=h;cases rx;cases ry;obtain⟨ah,r1,p1,_⟩:=I.tuple ha;obtain⟨aQ,r2,p2,_⟩:=I.tuple hb;exact HT.Jsc p1 p2 (by simpa using r1) (by simpa using r2) e hu ⟨.bl r,H,I,rfl,q⟩
def Its(z:Str):It:=⟨λi _=>i < z.length,λi H x H'=>H'=H/\∃ c,z.cps[i]?=some c/\x=.str ⟨#[c]⟩,λi _=>z.length<=i⟩
theorem Y6b{P:Vg}{w:Vb}{K:VC}{tg:Expr}(it:Vh)(z:Str)(t:Tok):QNb P w K tg (Its z) [it] it (λi h=>h.IsStrIter it "str_ascii_iterator" z t i) where
 mem:=by simp
 obj:=λi h st b hb=>by
  have e:b=it:=by simpa using hb
  subst e;obtain⟨o,e,c,d⟩:=st;exact⟨o,e,λv z=>by rw[d]at z;cases z⟩
 keep:=λi h h' st k=>let ⟨o,ho,r⟩:=st;⟨o,k it #[2] o ho,r⟩
 item:=by
  intro X hP hw hK hc i aa s σ H E I hf st hg;subst hP hw hK;obtain⟨f0,f1,f2,f3,f4,f5⟩:=hf it #[2]
  have W:=Walks.strAscii (prog:=X.prog) (w:=X.w) (I.ok.hd hc) it z t;refine W.item i s _ _ hg st λv h' tk hv ag kk=>?_
  obtain⟨c,u,mh,rfl⟩:=hv;have I1:Inv X aa σ H { s with heap:=h',toks:=tk }:=I.turned (λb o hb e=>kk b o (by simpa using hb) e) f0 f1 f3 f4 f5
  obtain⟨o,e,c',d⟩:=id ag;exact⟨_,rfl,JCa (s:={ s with heap:=h',toks:=tk }) e c' d #[1] ⟨.str ⟨#[c]⟩,H,I1,⟨_,rfl⟩,⟨rfl,c,mh,rfl⟩,ag,λb hb=>(hf b hb).1⟩⟩
 done:=by
  intro X hP hw hK hc i aa s σ H E I hf st hg;subst hP hw hK;obtain⟨f0,f1,f2,f3,f4,f5⟩:=hf it #[2]
  have mn:z.length<=i:=hg;exact wpAny_pyNext_ascii_end (I.ok.hd hc) st (by simpa[Str.length]using mn) λh' eb=>⟨rfl,I.turned (t':=s.toks) (λb o hb e=>eb b o hb e) f0 f1 f3 f4 f5⟩
 self:=λ_ _ _ _ _ st h=>wpAny_pyIter_striter_ascii st h
theorem Y7b{P:Vg}{w:Vb}{K:VC}{tg:Expr}(it:Vh)(z:Str)(t:Tok):QNb P w K tg (Its z) [it] it (λi h=>h.IsStrIter it "str_iterator" z t i) where
 mem:=by simp
 obj:=λi h st b hb=>by
  have e:b=it:=by simpa using hb
  subst e;obtain⟨o,e,c,d⟩:=st;exact⟨o,e,λv z=>by rw[d]at z;cases z⟩
 keep:=λi h h' st k=>let ⟨o,ho,r⟩:=st;⟨o,k it #[2] o ho,r⟩
 item:=by
  intro X hP hw hK hc i aa s σ H E I hf st hg;subst hP hw hK;obtain⟨f0,f1,f2,f3,f4,f5⟩:=hf it #[2]
  have W:=Walks.strWide (prog:=X.prog) (w:=X.w) (I.ok.hd hc) it z t;refine W.item i s _ _ hg st λv h' tk hv ag kk=>?_
  obtain⟨c,u,mh,rfl⟩:=hv;have I1:Inv X aa σ H { s with heap:=h',toks:=tk }:=I.turned (λb o hb e=>kk b o (by simpa using hb) e) f0 f1 f3 f4 f5
  obtain⟨o,e,c',d⟩:=id ag;exact⟨_,rfl,JCa (s:={ s with heap:=h',toks:=tk }) e c' d #[1] ⟨.str ⟨#[c]⟩,H,I1,⟨_,rfl⟩,⟨rfl,c,mh,rfl⟩,ag,λb hb=>(hf b hb).1⟩⟩
 done:=by
  intro X hP hw hK hc i aa s σ H E I hf st hg;subst hP hw hK;obtain⟨f0,f1,f2,f3,f4,f5⟩:=hf it #[2]
  have mn:z.length<=i:=hg;exact wpAny_pyNext_wide_end (I.ok.hd hc) st (by simpa[Str.length]using mn) λh' eb=>⟨rfl,I.turned (t':=s.toks) (λb o hb e=>eb b o hb e) f0 f1 f3 f4 f5⟩
 self:=λ_ _ _ _ _ st h=>wpAny_pyIter_striter_wide st h
end
section
variable{X:Cx}
def Xcc(tl:TE):TI:=λσ H R=>tl σ H λx H1=>∃ z,x=.str z/\R (Its z) H1
theorem Xdc{tg l:Expr}{tl:TE}(hl:PE X l tl):PI X tg l (Xcc tl):=by
 intro aa s σ H R I h;refine thn (hl aa s σ H _ I h) λv s1 hZ=>?_
 obtain⟨x,H1,I1,r1,q1⟩:=hZ;obtain⟨z,e,q⟩:=q1;subst e;obtain⟨t,rfl⟩:=r1;cases ha:z.cps.all (· < 128)
 ·refine wpAny_pyIter_wide ha ?_
  refine⟨s1.heap.objs.size,[s1.heap.objs.size],_,_,H1,rfl,I1.kept (t':=s1.toks) λb o e=>Ur _ e,Y7b _ z t,⟨_,Us _ rfl,rfl,rfl⟩,λb hb=>?_,q⟩
  have e:b=s1.heap.objs.size:=by simpa using hb
  subst e;exact I1.fpOk (Ut _) (I1.hok.fresh (Ut _))
 ·refine wpAny_pyIter_ascii ha ?_
  refine⟨s1.heap.objs.size,[s1.heap.objs.size],_,_,H1,rfl,I1.kept (t':=s1.toks) λb o e=>Ur _ e,Y6b _ z t,⟨_,Us _ rfl,rfl,rfl⟩,λb hb=>?_,q⟩
  have e:b=s1.heap.objs.size:=by simpa using hb
  subst e;exact I1.fpOk (Ut _) (I1.hok.fresh (Ut _))
theorem Jtc{z:Str}{g:TG}{tb:TS}{D:Jg}{σ:St}{H:Hp}(Pv:Nat->St->Hp->Prop)(h0:Pv 0 σ H)
 (hs:∀ i c σ H,z.cps.toList[i]?=some c->Pv i σ H->g (.str ⟨#[c]⟩) σ H λσ2 H2=>tb { D with nx:=Pv (i+1),ct:=Pv (i+1),bk:=D.nx } σ2 H2) (hd:∀ σ H,Pv z.length σ H->D.nx σ H) :
 ∃ W:Nat->Nat->St->Hp->Prop,(∃ m,W 0 m σ H)/\∀ i m σ H,W i m σ H ->
  ((Its z).stop i H/\D.nx σ H)\/((Its z).go i H/\∃ N:St->Hp->Prop,(∀ σ' H',N σ' H'->∃ m',m' < m/\W (i+1) m' σ' H')/\∀ x H',(Its z).yld i H x H'->g x σ H' λσ2 H2=>tb { D with nx:=N,ct:=N,bk:=D.nx } σ2 H2):=by
 refine⟨λi m σ H=>m=z.length - i/\i<=z.length/\Pv i σ H,⟨z.length,by simp,Ux _,h0⟩,?_⟩
 rintro i m σ H ⟨rfl,hi,p⟩
 by_cases aA:i < z.length
 ·refine .inr ⟨aA,Pv (i+1),λσ' H' p'=>⟨z.length - (i+1),by lia,rfl,aA,p'⟩,λx H' y=>?_⟩
  obtain⟨e,c,hc,e2⟩:=y;subst e e2;exact hs i c σ _ (by simpa using hc) p
 ·have e:i=z.length:=by lia
  subst e;exact .inl ⟨Ut _,hd σ H p⟩
theorem Qsc{x:V}(f:Qra x=true):eqV x x=true:=by cases x <;> simp[eqV,Qra]at *
end
theorem Yn:VE "len"=some (.builtin "len"):=by decide +kernel
theorem Zo:VE "isinstance"=some (.builtin "isinstance"):=by decide +kernel
theorem Xec:VE "ord"=some (.builtin "ord"):=by decide +kernel
theorem XZa:VE "str"=some (.type "str"):=by decide +kernel
theorem Xfc:VE "int"=some (.type "int"):=by decide +kernel
theorem Zda:VE "list"=some (.type "list"):=by decide +kernel
theorem JNa:VE "tuple"=some (.type "tuple"):=by decide +kernel
def Qjd(dsc sc:Scope)(x:Str)(N M:List Str):Bool :=
 decide (sc.kind=.function) && sc.names.all (λy=>decide (y.2≠.cell)) && sc.names.all (λy=>decide (y.2=.local->sc.names.lookup y.1=some .local)) && decide (sc.names.lookup x=some .local) && decide ((x::M).Nodup) &&
 decide (M.length=N.length) && sc.names.all (λy=>decide (y.2=.free->dsc.names.lookup y.1=some .cell\/dsc.names.lookup y.1=some .free)) &&
 (VB M.length).all (λi=>match M[i]? with | some y=>decide (sc.names.lookup y=some .free->N[i]?=some y) | none=>true) && M.all (λy=>decide (sc.names.lookup y≠some .local))
theorem JOa{X:Cx}{sc dsc:Scope}{x:Str}{N M:List Str}(hN:X.N=N)(hs:X.env.scope=dsc)(h:Qjd dsc sc x N M=true):QYb X sc x M:=by
 unfold Qjd at h;simp only[Il,decide_eq_true_eq,Im]at h;obtain⟨⟨⟨⟨⟨⟨⟨⟨h1,h2⟩,h3⟩,h4⟩,h5⟩,h6⟩,h7⟩,h8⟩,h9⟩:=h;refine⟨h1,h2,h3,h4,h5,by rw[hN];exact h6,λy hy hf=>?_,λi y hi hf=>?_,h9⟩
 ·have:=h7 y hy hf
  rw[<- hs]at this;exact this
 ·have hl:i < M.length:=(List.getElem?_eq_some_iff.mp hi).1
  have:=h8 i (mem_range.mpr hl);rw[hi]at this;rw[hN];exact(decide_eq_true_eq.mp this) hf
def Cal(P:Vg)(w:Vb)(K:VC)(mg:Str->Option Va)(base:Vp)(k:Nat)(x:Str)(ps:List Str)(sp:Sp):Prop :=
 ∃ f fd,QB P w K mg base CX0 k f fd ps sp/\Zv K fd ps []/\UN K (.ref f)=true/\mg x=some (.ref f)
section
variable{X:Cx}{e:Expr}{es:List Expr}{t:TA}{p pos:Pos}
theorem Xgc{j k:Nat}{x:Str}{ps:List Str}{sp:Sp}(G:Cal X.prog X.w X.K X.mg X.base j x ps sp)(hr:QX k X.A)(hj:j<=k)(hg:Gl X x)(ha:PA X (e::es) t)(aP:(x == ("__debug__":Str))=false:=by decide)
 (he:VZ (e::es) X.env=(false,VX e X.env)::VZ es X.env:=by rfl) (aN:(VY pos (VZ es X.env)).any (·.1)=false:=by rfl):PE X (.Call (.Name x p) (e::es) [] pos) (QPb sp [] E0 t):=by
 obtain⟨f,fd,F,b,kp,m⟩:=G;exact Jkc F (hr.mono hj) hg m kp b .nil J9b ha aP he aN
theorem Jra{x:Str}{i:Int}(h:∃ t,X.mg x=some (.int i t))(hg:Gl X x)(hd:(x == ("__debug__":Str))=false:=by decide):PE X (.Name x pos) (tC (.int i)):=by
 obtain⟨t,h⟩:=h;exact JZb hg h ⟨t,rfl⟩ hd
end
theorem Yo{K:VC}{H:Hp}{Q:VK}{x:V}{n:String}{t:Va}{b:Bool}(ty:Q3a K H x t)(e:UU K t (.type n)=some b)(q:Q (.bl b) H):Y5b K [x,.ty n] H Q:=⟨x,.ty n,t,.type n,b,rfl,rfl,ty,e,q⟩
section
variable{K:VC}
end
theorem Qkd{c:Bool}{p:Bool->Prop}:(∃ k,V.bl c=V.bl k/\p k)=p c:=propext ⟨λ⟨_,e,q⟩=>by cases e;exact q,λq=>⟨c,rfl,q⟩⟩
theorem Xhc{c:Int}{p:Int->Prop}:(∃ k,V.int c=V.int k/\p k)=p c:=propext ⟨λ⟨_,e,q⟩=>by cases e;exact q,λq=>⟨c,rfl,q⟩⟩
theorem Xic{c:Str}{p:Str->Prop}:(∃ k,V.str c=V.str k/\p k)=p c:=propext ⟨λ⟨_,e,q⟩=>by cases e;exact q,λq=>⟨c,rfl,q⟩⟩
theorem Xjc{c:Vh}{p:Vh->Prop}:(∃ k,V.ref c=V.ref k/\p k)=p c:=propext ⟨λ⟨_,e,q⟩=>by cases e;exact q,λq=>⟨c,rfl,q⟩⟩
theorem Juc{a b:Int}{p:Int->Int->Prop}:(∃ i j,V.int a=V.int i/\V.int b=V.int j/\p i j)=p a b:=propext ⟨λ⟨_,_,e,f,q⟩=>by cases e;cases f;exact q,λq=>⟨a,b,rfl,rfl,q⟩⟩
theorem Qn{t:TS}{D:Jg}{σ σ':St}{H:Hp}(e:σ'=σ)(h:t D σ H):t D σ' H:=by rw[e];exact h
end L2
end
section
namespace Att
open PySem PySem.W PySem.Calls PyProof.Rows
theorem Q0b:∀ (ns:List Int),Io (ns.map OF)<=2 ^ 20->∀ n∈ns,Ip n<=2 ^ 20
 | [],_,_,h=>nomatch h
 | m::ns,hw,n,h=>by
  rw[UM]at hw;have e:Io (OF m::ns.map OF)=Iq (.int m)+1+Io (ns.map OF):=by simp only[Io]
  rw[e]at hw
  rcases mem_cons.mp h with rfl | h
  ·have:Iq (.int n)<=2 ^ 20:=by lia
   simpa only[Iq,Ip]using this
  ·exact Q0b ns #[0] n h
theorem X0a{l:OpenLaw}{n:Nat}{q:Vg}{cq:List Str}{XP:(Str->Option Va)->Vp->Prop}{YP:Vb->Vp->Prop}{d:DefRec}
 (hn:l.most=some n) (mq:d.params.defaults=[])
 (Uy:∀ (w:Vb) (s₀ s₁:VG) (mg mb:Str->Option Va) (fa:Vh) (o:Obj) (pm cd bv:Va) (a:Vh) (vs:List Va) (ns:List Int),
  Ground q cq [] XP w s₀ mg mb s₁.heap->YP w s₁.heap ->
  s₁.heap.get? fa=some o->o.data=.func (docDef d.name d.params d.body d.scope pm cd bv)->s₁.heap.CodeRec cd d.name->mg d.name=some (.ref fa) ->
  s₁.heap.get? a=some { cls:=.type "list",data:=.seq vs.toArray }->IntsAre vs ns->ns.length<=n->(∀ i∈ns,Ip i<=2 ^ 20)->s₁.gens=#[] ->
  UJ (VW l.prog w) OH (.call (.ref fa) ⟨[.ref a],[]⟩) (λr s'=>r=.ok (.ret (.bool true))/\OldK s₁.heap s'.heap/\s'.os=s₁.os/\VH s'.gens) s₁) :
 WalkO q cq XP YP l.row.toRowW d [] (λf vs=>PySem.call f vs):=by
 intro w s₀ s₁ mg mb G Y fa o pm cd bv dV kV ho hd bG hD iP hg args fW as dY mv hrd lW iQ;obtain rfl:dV=.none:=Dflts.none hD mq;obtain rfl:kV=.none:=Dflts.noKw hD;obtain⟨a,vs,ns,rfl,rfl,gh,c9,ar⟩:=Y0b hn dY lW;have hb:∀ i∈ns,Ip i<=2 ^ 20:=by
  have h1:WData.layable (.list (ns.map OF))=true:=by
   have:=mv;unfold WData.layableAll at this;exact all_eq_true.mp this _ VM
  have h2:Iq (.list (ns.map OF))<=2 ^ 20:=of_decide_eq_true (Bool.and_eq_true_iff.mp h1).2;exact Q0b ns (by simpa only[Iq]using h2)
 refine enter_call (U2 (Uy w s₀ s₁ mg mb fa o pm cd bv a vs ns G Y ho (fd_plain hd) bG iP gh c9 ar hb hg) λr s' hq=>?_)
 obtain⟨rfl,h2,h3,h4⟩:=hq;exact⟨.inl ⟨.bool true,.bool true,[],rfl,λ_=>rfl,.bool true,Y1b l _,λ_=>⟨Ir,λ_ hm=>(nomatch hm)⟩⟩,h2,h3,h4⟩
end Att
namespace L2
open PySem PySem.Spec PyProof.Rows
theorem Qtc{l:W.OpenLaw}{n k:Nat}{q:Vg}{cq:List Str}{XP:(Str->Option Va)->Vp->Prop}{YP:Vb->Vp->Prop}{d:DefRec}{K:Params->VC}{CX:Vb->CXT}{sp:VC->Sp}{x:Str}
 (hn:l.most=some n) (cO:n<=Vr) (mq:d.params.defaults=[]) (hr:QX k OH)
 (hY:∀ (w:Vb) (h:Vp),YP w h->(K w.params).In h)
 (F:∀ (w:Vb) (mg:Str->Option Va) (fa:Vh) (h:Vp),(K w.params).In h->h.Ns VD mg->mg d.name=some (.ref fa) ->
  ∃ fd:UZ,(∀ (s:VG) (u:Va),BindsTo s fd ⟨[u],[]⟩ [(x,u)]) /\
   ∀ base:Vp,(K w.params).In base->base.Ns VD mg->QB l.prog w (K w.params) mg base (CX w) k fa fd [x] (sp (K w.params)))
 (cC:∀ (K:VC) (H:Hp) (a:Vh) (ns:List Int),ns.length<=n->(∀ i∈ns,Ip i<=2 ^ 20)->Y5c H->SqL K H a (ns.map V.int)->sp K [.ref a] H (λv _=>v=.bl true) λ_ _ _=>False)
 (lY:∀ (w:Vb) (H:Hp) (s:VG) (e:Va) (s':VG),CX w [] H s (λ_ _ _=>False) e s'->False) :
 W.WalkO q cq XP YP l.row.toRowW d [] (λf vs=>PySem.call f vs):=by
 refine Att.X0a hn mq λw s₀ s₁ mg mb fa o pm cd bv a vs ns G Y ho hd bG iP gh c9 ar hb hg=>?_
 have KX:=hY w _ Y;obtain⟨fd,tX,hF⟩:=F w mg fa _ KX G.T.g iP;exact Qdc KX G.T.g G.T.b G.T.builtins G.T.nolimit hg gh c9 (VI ar cO) hr hF tX (λH hO hS=>cC _ H a ns ar hb hO hS) λH e s'=>lY w H s₁ e s'
section
variable{X:Cx}
theorem Z1:OpR X (Uz .Mult) (rI IntMulOk λi j=>.int (i * j)):=opI λ_ _ _ _ _ _ _ hc q=>mul_int q hc
end
section
variable{X:Cx}
end
theorem Qh{H:Hp}{p:Vh}(h:H p=Vo)(o:HO):Ql H (upd H p o):=λb u q=>by rw[Qf (Qr q h)];exact q
theorem Ql.updL{H H':Hp}{p:Vh}(s:Ql H H')(h:H p=Vo)(o:HO):Ql H (upd H' p o):=λb u q=>by rw[Qf (Qr q h)];exact s b u q
theorem Ql.seqT{K:VC}{H H':Hp}{a:Vh}{xs:List V}(e:Ql H H')(h:SqT K H a xs):SqT K H' a xs:=by
 rcases h with (h | ⟨o,h⟩) | h
 ·exact .inl (.inl (e _ _ h))
 ·exact .inl (.inr ⟨o,e _ _ h⟩)
 ·exact .inr h
theorem Q1b{α:Type}(f:α->V)(ns:List α)(lo hi:Option Int):∃ ms:List α,Qna (ns.map f) lo hi=ms.map f/\ms.length<=ns.length/\∀ m∈ms,m∈ns:=by
 refine⟨(ns.drop (HT.sIx ns.length 0 lo)).take (HT.sIx ns.length ns.length hi - HT.sIx ns.length 0 lo),?_,?_,λm h=>Iu (Iv h)⟩
 ·unfold Qna
  rw[UO,<- map_drop,<- map_take]
 ·rw[Of,Ov]
  lia
def FoR(J:It)(g:TG)(tb:TS)(D:Jg)(σ:St)(H1:Hp):Prop:=∃ W:Nat->Nat->St->Hp->Prop,(∃ m,W 0 m σ H1)/\∀ i m σ H,W i m σ H ->
 (J.stop i H/\D.nx σ H)\/(J.go i H/\∃ N:St->Hp->Prop,(∀ σ' H',N σ' H'->∃ m',m' < m/\W (i+1) m' σ' H')/\∀ x H',J.yld i H x H'->g x σ H' λσ2 H2=>tb { D with nx:=N,ct:=N,bk:=D.nx } σ2 H2)
def LcR(J:It)(tt:TT)(te:TE)(σ:St)(Q:VK)(H1:Hp):Prop:=∀ D,H1 D=Vo->∃ W:Nat->Nat->List V->Hp->Prop,(∃ m,W 0 m [] (upd H1 D (.lst [])))/\∀ i m ys H,W i m ys H ->
 H D=some (.lst ys)/\((J.stop i H/\Q (.ref D) H)\/(J.go i H/\ys.length < Vr/\∀ x H',J.yld i H x H'->tt (some x::σ) H' λb H2=>if b=true then te (some x::σ) H2 λv H3 =>
  H3 D=some (.lst ys)/\∃ m',m' < m/\W (i+1) m' (ys++[v]) (upd H3 D (.lst (ys++[v]))) else ∃ m',m' < m/\W (i+1) m' ys H2))
theorem Y8b{ta:TA}{g:TG}{tb:TS}{D:Jg}{σ:St}{H:Hp}:XSa (XVb ta) g tb D σ H=ta σ H λvs H1=>∃ j:Int,vs=[.int j] /\ -(2 ^ 62)<=j/\j < 2 ^ 62/\FoR (Itr 0 j.toNat) g tb D σ H1:=rfl
theorem Y9b{ta:TA}{g:TG}{tb:TS}{D:Jg}{σ:St}{H:Hp}:XSa (XWb ta) g tb D σ H=ta σ H λvs H1=>∃ i j:Int,vs=[.int i,.int j]/\(-(2 ^ 62)<=i/\i < 2 ^ 62 /\ -(2 ^ 62)<=j/\j < 2 ^ 62)/\FoR (Itr i (j - i).toNat) g tb D σ H1:=rfl
theorem Xab{K:VC}{tl:TE}{g:TG}{tb:TS}{D:Jg}{σ:St}{H:Hp}:XSa (XUb K tl) g tb D σ H=tl σ H λx H1=>∃ a,x=.ref a/\(∃ xs,SqL K H1 a xs)/\FoR (Itl K a) g tb D σ H1:=rfl
theorem Quc{K:VC}{tl:TE}{g:TG}{tb:TS}{D:Jg}{σ:St}{H:Hp}:XSa (YUc K tl) g tb D σ H=tl σ H λx H1=>∃ a,x=.ref a/\(∃ xs,SqT K H1 a xs)/\FoR (Itt K a) g tb D σ H1:=rfl
theorem Qvc{tl:TE}{g:TG}{tb:TS}{D:Jg}{σ:St}{H:Hp}:XSa (Xcc tl) g tb D σ H=tl σ H λx H1=>∃ z,x=.str z/\FoR (Its z) g tb D σ H1:=rfl
theorem Qwc{ta:TA}{tt:TT}{te:TE}{σ:St}{H:Hp}{Q:VK}:tLc (XVb ta) tt te σ H Q=ta σ H λvs H1=>∃ j:Int,vs=[.int j] /\ -(2 ^ 62)<=j/\j < 2 ^ 62/\LcR (Itr 0 j.toNat) tt te σ Q H1:=rfl
theorem Qxc{K:VC}{tl:TE}{tt:TT}{te:TE}{σ:St}{H:Hp}{Q:VK}:tLc (XUb K tl) tt te σ H Q=tl σ H λx H1=>∃ a,x=.ref a/\(∃ xs,SqL K H1 a xs)/\LcR (Itl K a) tt te σ Q H1:=rfl
theorem Jvc{K:VC}{tl:TE}{tt:TT}{te:TE}{σ:St}{H:Hp}{Q:VK}:tLc (YUc K tl) tt te σ H Q=tl σ H λx H1=>∃ a,x=.ref a/\(∃ xs,SqT K H1 a xs)/\LcR (Itt K a) tt te σ Q H1:=rfl
theorem Jwc{tl:TE}{tt:TT}{te:TE}{σ:St}{H:Hp}{Q:VK}:tLc (Xcc tl) tt te σ H Q=tl σ H λx H1=>∃ z,x=.str z/\LcR (Its z) tt te σ Q H1:=rfl
theorem ZIa{lo:Int}{n:Nat}{g:TG}{tb:TS}{D:Jg}{σ:St}{H:Hp}(Pv:Nat->St->Hp->Prop)(h0:Pv 0 σ H)
 (hs:∀ i σ H,i < n->Pv i σ H->g (.int (lo+i)) σ H λσ2 H2=>tb { D with nx:=Pv (i+1),ct:=Pv (i+1),bk:=D.nx } σ2 H2) (hd:∀ σ H,Pv n σ H->D.nx σ H):FoR (Itr lo n) g tb D σ H:=YUb Pv h0 hs hd
theorem ZJ{K:VC}{a:Vh}(xs:List V){g:TG}{tb:TS}{D:Jg}{σ:St}{H:Hp}(Pv:Nat->St->Hp->Prop)(h0:Pv 0 σ H)(hl:∀ i σ H,i<=xs.length->Pv i σ H->SqL K H a xs)
 (hs:∀ i x σ H,xs[i]?=some x->Pv i σ H->g x σ H λσ2 H2=>tb { D with nx:=Pv (i+1),ct:=Pv (i+1),bk:=D.nx } σ2 H2) (hd:∀ σ H,Pv xs.length σ H->D.nx σ H):FoR (Itl K a) g tb D σ H:=XXb Pv h0 hl hs hd
theorem Jxc{K:VC}{a:Vh}(xs:List V){g:TG}{tb:TS}{D:Jg}{σ:St}{H:Hp}(Pv:Nat->St->Hp->Prop)(h0:Pv 0 σ H)(hl:∀ i σ H,i<=xs.length->Pv i σ H->SqT K H a xs)
 (hs:∀ i x σ H,xs[i]?=some x->Pv i σ H->g x σ H λσ2 H2=>tb { D with nx:=Pv (i+1),ct:=Pv (i+1),bk:=D.nx } σ2 H2) (hd:∀ σ H,Pv xs.length σ H->D.nx σ H):FoR (Itt K a) g tb D σ H:=Z1c Pv h0 hl hs hd
theorem Jyc{z:Str}{g:TG}{tb:TS}{D:Jg}{σ:St}{H:Hp}(Pv:Nat->St->Hp->Prop)(h0:Pv 0 σ H)
 (hs:∀ i c σ H,z.cps.toList[i]?=some c->Pv i σ H->g (.str ⟨#[c]⟩) σ H λσ2 H2=>tb { D with nx:=Pv (i+1),ct:=Pv (i+1),bk:=D.nx } σ2 H2) (hd:∀ σ H,Pv z.length σ H->D.nx σ H):FoR (Its z) g tb D σ H:=Jtc Pv h0 hs hd
end L2
end
section
namespace SortT
open PySem PySem.W PyProof.Rows
def K(r:Nat->Nat)(p:Array Nat)(i:Nat):Nat:=r (p.getD i 0)
structure Ok(n:Nat)(p:Array Nat):Prop where
 size:p.size=n
 perm:p.Perm (VB n).toArray
theorem Ok.lt{n:Nat}{p:Array Nat}(h:Ok n p)(hn:0 < n)(i:Nat):p.getD i 0 < n:=by
 rw[Iw];cases e:p[i]? with
 | none=>exact hn
 | some x =>
  have hx:x∈p:=Array.mem_of_getElem? e;have:=(h.perm.mem_iff (a:=x)).mp hx
  simpa using this
def Up(r:Nat->Nat)(p:Array Nat)(m:Nat):Prop:=∀ i j,i<=j->j < m->K r p i<=K r p j
variable{n:Nat}{r:Nat->Nat}
end SortT
end
section
namespace SortB
open PySem PySem.W PyProof.Rows
def X1a:Bool->Ix->Array Ix->Nat->Nat->Nat->StateT Iy Sem (Option Nat):=sortPriv% PySem.Builtin.gallop
def Qyc:Array Ix->Array Ix->StateT Iy Sem (Array Ix):=sortPriv% PySem.Builtin.mergeLo
def Qzc:Array Ix->Array Ix->StateT Iy Sem (Array Ix):=sortPriv% PySem.Builtin.mergeHi
def K(rk:Ix->Nat)(a:Array Ix)(i:Nat):Nat:=match a[i]? with | some p=>rk p | none=>0
theorem Q0{rk:Ix->Nat}{a:Array Ix}{i:Nat}(h:i < a.size):K rk a i=rk a[i]:=by unfold K;rw[getElem?_pos a i h]
theorem Jdb{rk:Ix->Nat}{a b:Array Ix}{i j:Nat}(h:a[i]?=b[j]?):K rk a i=K rk b j:=by unfold K;rw[h]
section
variable{prog:Vg}{w:Vb}{A:VF}{E:YQ_}{s:VG}{κ:Iz}{rk:Ix->Nat}{S:Ix->Prop}
def Zea(prog:Vg)(w:Vb)(A:VF)(E:YQ_)(s:VG)(κ:Iz)(rk:Ix->Nat)(S:Ix->Prop):Prop :=
 ∀ x y (st:Iy) (Q:Option Bool->Iy->Prop),kindOf st=κ->S x->S y->Q (some (decide (rk x < rk y))) st->wpS (VW prog w) A E s (lt' x y) Q st
theorem QE{a:Array Ix}{i:Nat}{st:Iy}{Q:Ix->Iy->Prop}(hi:i < a.size)(h:Q a[i] st):wpS (VW prog w) A E s (elem' a i) Q st:=by
 rw[elem'_eq,getElem?_pos a i hi];exact IA h
theorem Xkc(L:Zea prog w A E s κ rk S){st:Iy}{i j:Nat}{Q:Option Bool->Iy->Prop}(hk:kindOf st=κ)(hS:∀ x∈IC st,S x)(hi:i < (IC st).size)(hj:j < (IC st).size)
 (h:Q (some (decide (K rk (IC st) i < K rk (IC st) j))) st):wpS (VW prog w) A E s (ltAt' i j) Q st:=by
 rw[ltAt'_eq];refine ID (IE (ID (QE hi (ID (QE hj ?_)))))
 rw[Q0 hi,Q0 hj]at h;exact L _ _ st Q hk (hS _ (IF hi)) (hS _ (IF hj)) h
def bey(rk:Ix->Nat)(left:Bool)(key:Ix)(aw:Array Ix)(bs i:Nat):Bool:=if left=true then decide (K rk aw (bs+i) < rk key) else !decide (rk key < K rk aw (bs+i))
theorem JPa(L:Zea prog w A E s κ rk S){st:Iy}{left:Bool}{key:Ix}{aw:Array Ix}{bs i:Nat}{Q:Option Bool->Iy->Prop}(hk:kindOf st=κ)(hS:∀ x∈aw,S x)(ap:S key)(hi:bs+i < aw.size)
 (h:Q (some (bey rk left key aw bs i)) st):wpS (VW prog w) A E s (elem' aw (bs+i) >>= λx=>if left=true then lt' x key else (lt' key x >>= λr=>pure (Option.map (λb=>!b) r))) Q st:=by
 refine ID (QE hi ?_)
 have hx:=hS _ (IF hi);unfold bey at h;rw[Q0 hi]at h;cases left with
 | true =>
  simp only[if_true]at h ⊢;exact L _ _ st Q hk hx ap h
 | false =>
  simp only[Ie,if_false]at h ⊢;exact ID (L _ _ st _ hk ap hx (IA h))
theorem Xpa(L:Zea prog w A E s κ rk S){st:Iy}{left:Bool}{key:Ix}{aw:Array Ix}{bs n aj:Nat}{Q:Option Nat->Iy->Prop}(hk:kindOf st=κ)(hS:∀ x∈aw,S x)(ap:S key)(hb:bs+n<=aw.size)(hh:aj < n)
 (mono:∀ i j,i<=j->j < n->bey rk left key aw bs j=true->bey rk left key aw bs i=true)
 (h:∀ k,k<=n->(∀ i,i < k->bey rk left key aw bs i=true)->(∀ i,k<=i->i < n->bey rk left key aw bs i=false)->Q (some k) st):wpS (VW prog w) A E s (X1a left key aw bs n aj) Q st:=by
 have eB:∀ i j,i<=j->j < n->bey rk left key aw bs i=false->bey rk left key aw bs j=false:=λi j cr hj e=>by
  cases q:bey rk left key aw bs j with
  | false=>rfl
  | true=>rw[mono i j cr hj q]at e;cases e
 refine ID (JPa L hk hS ap #[0] ?_)
 dsimp only;cases e0:bey rk left key aw bs aj with
 | true =>
  rw[if_pos rfl];refine ID (IG (IH (I:=λx c ag=>ag=st/\∃ l o,c=(Vo,l,o)/\l < o/\x < o/\l+1<=n - aj/\bey rk left key aw bs (aj+l)=true)
   (Q:=λc ag=>ag=st/\∃ l o,c=(Vo,l,o)/\l < o/\l+1<=n - aj/\bey rk left key aw bs (aj+l)=true/\(o < n - aj->bey rk left key aw bs (aj+o)=false)) ?step ?fin ⟨rfl,0,1,rfl,by lia,by lia,by lia,e0⟩) ?post)
  case step =>
   rintro x c ag _ hx ⟨rfl,l,o,rfl,h1,h2,h3,h4⟩;dsimp only
   by_cases hge:o >= n - aj
   ·rw[if_pos hge]
    exact IA ⟨rfl,l,o,rfl,h1,h3,h4,λz=>absurd z #[0]⟩
   ·rw[if_neg hge]
    refine ID (JPa L hk hS ap #[0] ?_)
    cases e1:bey rk left key aw bs (aj+o) with
    | true=>exact IA ⟨rfl,o,2 * o+1,rfl,by lia,by lia,by lia,e1⟩
    | false=>exact IA ⟨rfl,l,o,rfl,h1,h3,h4,λ_=>e1⟩
  case fin =>
   rintro c ag ⟨rfl,l,o,rfl,h1,h2,h3,h4⟩;exact⟨rfl,l,o,rfl,h1,h3,h4,λz=>absurd z #[0]⟩
  case post =>
   rintro c de ⟨rfl,l,o,rfl,h1,h3,h4,h5⟩;have a1:∀ i,i < aj+l+1->bey rk left key aw bs i=true:=λi hi=>mono i (aj+l) #[0] #[0] h4
   have a2:∀ i,aj+min o (n - aj)<=i->i < n->bey rk left key aw bs i=false:=λi hi hn=>eB (aj+o) i #[0] hn (h5 #[0])
   have a3:aj+l+1<=aj+min o (n - aj):=by lia
   have a4:aj+min o (n - aj)<=n:=by lia
   dsimp only;generalize aj+l+1=lo at a1 a2 a3 a4 ⊢;generalize aj+min o (n - aj)=hi at a1 a2 a3 a4 ⊢;refine ID (IG (IH (I:=λx c ag=>ag=de/\∃ lo hi,c=(Vo,lo,hi)/\lo<=hi/\hi<=n/\hi - lo<=n - x/\(∀ i,i < lo->bey rk left key aw bs i=true)/\∀ i,hi<=i->i < n->bey rk left key aw bs i=false)
    (Q:=λc ag=>ag=de/\∃ hi,c=(Vo,hi,hi)/\hi<=n/\(∀ i,i < hi->bey rk left key aw bs i=true)/\∀ i,hi<=i->i < n->bey rk left key aw bs i=false) ?_ ?_ ⟨rfl,lo,hi,rfl,a3,a4,by lia,a1,a2⟩) ?_)
   ·rintro x c ag _ hx ⟨rfl,lo,hi,rfl,b1,b2,b3,b4,b5⟩
    dsimp only
    by_cases hge:lo >= hi
    ·rw[if_pos hge]
     have:lo=hi:=by lia
     subst this;exact IA ⟨rfl,lo,rfl,b2,b4,b5⟩
    ·rw[if_neg hge]
     refine ID (JPa L hk hS ap #[0] ?_)
     cases e1:bey rk left key aw bs (lo+(hi - lo) / 2) with
     | true=>exact IA ⟨rfl,_,hi,rfl,by lia,b2,by lia,λi bx=>mono i _ #[0] #[0] e1,b5⟩
     | false=>exact IA ⟨rfl,lo,_,rfl,by lia,by lia,by lia,b4,λi h1 h2=>eB _ i h1 h2 e1⟩
   ·rintro c ag ⟨rfl,lo,hi,rfl,b1,b2,b3,b4,b5⟩
    have:lo=hi:=by lia
    subst this;exact⟨rfl,lo,rfl,b2,b4,b5⟩
   ·rintro c ag ⟨rfl,hi,rfl,b2,b4,b5⟩
    exact IA (h hi b2 b4 b5)
 | false =>
  rw[if_neg #[2]]
  refine ID (IG (IH (I:=λx c ag=>ag=st/\∃ l o,c=(Vo,l,o)/\l < o/\x < o/\l<=aj/\bey rk left key aw bs (aj - l)=false)
   (Q:=λc ag=>ag=st/\∃ l o,c=(Vo,l,o)/\l < o/\l<=aj/\bey rk left key aw bs (aj - l)=false/\(o < aj+1->bey rk left key aw bs (aj - o)=true)) ?step ?fin ⟨rfl,0,1,rfl,by lia,by lia,by lia,e0⟩) ?post)
  case step =>
   rintro x c ag _ hx ⟨rfl,l,o,rfl,h1,h2,h3,h4⟩;dsimp only
   by_cases hge:o >= aj+1
   ·rw[if_pos hge]
    exact IA ⟨rfl,l,o,rfl,h1,h3,h4,λz=>absurd z #[0]⟩
   ·rw[if_neg hge]
    refine ID (JPa L hk hS ap #[0] ?_)
    cases e1:bey rk left key aw bs (aj - o) with
    | true=>exact IA ⟨rfl,l,o,rfl,h1,h3,h4,λ_=>e1⟩
    | false=>exact IA ⟨rfl,o,2 * o+1,rfl,by lia,by lia,by lia,e1⟩
  case fin =>
   rintro c ag ⟨rfl,l,o,rfl,h1,h2,h3,h4⟩;exact⟨rfl,l,o,rfl,h1,h3,h4,λz=>absurd z #[0]⟩
  case post =>
   rintro c de ⟨rfl,l,o,rfl,h1,h3,h4,h5⟩;have a1:∀ i,i < aj+1 - min o (aj+1)->bey rk left key aw bs i=true:=λi hi=>mono i (aj - o) #[0] #[0] (h5 #[0])
   have a2:∀ i,aj - l<=i->i < n->bey rk left key aw bs i=false:=λi hi hn=>eB (aj - l) i hi hn h4
   have a3:aj+1 - min o (aj+1)<=aj - l:=by lia
   have a4:aj - l<=n:=by lia
   dsimp only;generalize aj+1 - min o (aj+1)=lo at a1 a2 a3 a4 ⊢;generalize aj - l=hi at a1 a2 a3 a4 ⊢;refine ID (IG (IH (I:=λx c ag=>ag=de/\∃ lo hi,c=(Vo,lo,hi)/\lo<=hi/\hi<=n/\hi - lo<=n - x/\(∀ i,i < lo->bey rk left key aw bs i=true)/\∀ i,hi<=i->i < n->bey rk left key aw bs i=false)
    (Q:=λc ag=>ag=de/\∃ hi,c=(Vo,hi,hi)/\hi<=n/\(∀ i,i < hi->bey rk left key aw bs i=true)/\∀ i,hi<=i->i < n->bey rk left key aw bs i=false) ?_ ?_ ⟨rfl,lo,hi,rfl,a3,a4,by lia,a1,a2⟩) ?_)
   ·rintro x c ag _ hx ⟨rfl,lo,hi,rfl,b1,b2,b3,b4,b5⟩
    dsimp only
    by_cases hge:lo >= hi
    ·rw[if_pos hge]
     have:lo=hi:=by lia
     subst this;exact IA ⟨rfl,lo,rfl,b2,b4,b5⟩
    ·rw[if_neg hge]
     refine ID (JPa L hk hS ap #[0] ?_)
     cases e1:bey rk left key aw bs (lo+(hi - lo) / 2) with
     | true=>exact IA ⟨rfl,_,hi,rfl,by lia,b2,by lia,λi bx=>mono i _ #[0] #[0] e1,b5⟩
     | false=>exact IA ⟨rfl,lo,_,rfl,by lia,by lia,by lia,b4,λi h1 h2=>eB _ i h1 h2 e1⟩
   ·rintro c ag ⟨rfl,lo,hi,rfl,b1,b2,b3,b4,b5⟩
    have:lo=hi:=by lia
    subst this;exact⟨rfl,lo,rfl,b2,b4,b5⟩
   ·rintro c ag ⟨rfl,hi,rfl,b2,b4,b5⟩
    exact IA (h hi b2 b4 b5)
end
end SortB
end
section
namespace SortB
open PySem PySem.W PyProof.Rows
abbrev Rs(rk:Ix->Nat)(l:List Ix):Prop:=l.Pairwise λx y=>rk x<=rk y
structure Mg(rk:Ix->Nat)(la lb out:List Ix)(ia ib:Nat):Prop where
 perm:out.Perm (la.take ia++lb.take ib)
 pw:Rs rk out
 ra:∀ x∈out,∀ y∈la.drop ia,rk x<=rk y
 rb:∀ x∈out,∀ y∈lb.drop ib,rk x<=rk y
section
variable{rk:Ix->Nat}{la lb out:List Ix}{ia ib k:Nat}
theorem JQa(l:List Ix)(i k:Nat):l.drop i=(l.drop i).take k++l.drop (i+k):=by
 rw[<- drop_drop,II]
theorem Mg.takeA(m:Mg rk la lb out ia ib)(pa:Rs rk la)(k:Nat)(h:∀ x∈(la.drop ia).take k,∀ y∈lb.drop ib,rk x<=rk y):Mg rk la lb (out++(la.drop ia).take k) (ia+k) ib:=by
 have pd:Rs rk (la.drop ia):=pa.sublist (drop_sublist _ _);have ps:=JQa la ia k;refine⟨?_,?_,?_,?_⟩
 ·have e:la.take (ia+k)=la.take ia++(la.drop ia).take k:=by rw[take_add]
  rw[e];refine(m.perm.append_right _).trans ?_
  rw[IJ,IJ];exact(IK).append_left _
 ·refine pairwise_append.mpr ⟨m.pw,pd.sublist (Ol _ _),λx hx y hy=>m.ra x hx y (Iv hy)⟩
 ·intro x hx y hy
  rcases mem_append.mp hx with hx | hx
  ·exact m.ra x hx y (by rw[ps];exact Uw _ hy)
  ·rw[ps]at pd
   exact(pairwise_append.mp pd).2.2 x hx y hy
 ·intro x hx y hy
  rcases mem_append.mp hx with hx | hx
  ·exact m.rb x hx y hy
  ·exact h x hx y hy
theorem Mg.swap(m:Mg rk la lb out ia ib):Mg rk lb la out ib ia:=⟨m.perm.trans IK,m.pw,m.rb,m.ra⟩
theorem Mg.takeB(m:Mg rk la lb out ia ib)(pb:Rs rk lb)(k:Nat)(h:∀ x∈(lb.drop ib).take k,∀ y∈la.drop ia,rk x<=rk y):Mg rk la lb (out++(lb.drop ib).take k) ia (ib+k):=(m.swap.takeA pb k h).swap
theorem Mg.done(m:Mg rk la lb out ia ib)(pa:Rs rk la)(pb:Rs rk lb)(h:∀ x∈la.drop ia,∀ y∈lb.drop ib,rk x<=rk y):(out++la.drop ia++lb.drop ib).Perm (la++lb)/\Rs rk (out++la.drop ia++lb.drop ib):=by
 have e1:(la.drop ia).take la.length=la.drop ia:=IL (by rw[Ov];lia)
 have e2:(lb.drop ib).take lb.length=lb.drop ib:=IL (by rw[Ov];lia)
 have m1:=m.takeA pa la.length (by rw[e1];exact h)
 rw[e1]at m1;have z:la.drop (ia+la.length)=[]:=drop_eq_nil_of_le #[0]
 have m2:=m1.takeB pb lb.length (by rw[z];intro _ _ _ q;cases q)
 rw[e2]at m2;refine⟨?_,m2.pw⟩
 have:=m2.perm
 rwa [IL #[0],IL #[0]]at this
theorem Mg.doneB(m:Mg rk la lb out ia ib)(pa:Rs rk la)(pb:Rs rk lb)(h:∀ x∈lb.drop ib,∀ y∈la.drop ia,rk x<=rk y):(out++lb.drop ib++la.drop ia).Perm (la++lb)/\Rs rk (out++lb.drop ib++la.drop ia):=by
 obtain⟨a,b⟩:=m.swap.done pb pa h;exact⟨a.trans IK,b⟩
end
section
variable{rk:Ix->Nat}{a:Array Ix}{i j k n:Nat}{x:Ix}
theorem Jsa(a:Array Ix)(i:Nat):(a.extract i a.size).toList=a.toList.drop i:=by
 rw[IM,extract_eq_take_drop];exact IL #[2]
theorem JE(a:Array Ix)(i j:Nat):(a.extract i j).toList=(a.toList.drop i).take (j - i):=by
 rw[IM,extract_eq_take_drop]
theorem YF(h:i < a.size):(a.toList.drop i).take 1=[a[i]]:=by
 rw[IN (by simpa using h)]
 simp
theorem Y0(h:x∈(a.toList.drop i).take k):∃ j,j < k/\i+j < a.size/\rk x=K rk a (i+j):=by
 obtain⟨j,hj,e⟩:=IP h;have h1:j < k/\i+j < a.size:=by
  rw[Of,Ov,V7]at hj
  lia
 refine⟨j,h1.1,h1.2,?_⟩
 rw[Q0 h1.2,<- e];simp
theorem Zfa(h:x∈a.toList.drop i):∃ j,i<=j/\j < a.size/\rk x=K rk a j:=by
 obtain⟨j,hj,e⟩:=IP h;have h1:i+j < a.size:=by
  rw[Ov,V7]at hj
  lia
 refine⟨i+j,by lia,h1,?_⟩
 rw[Q0 h1,<- e];simp
theorem Rs.le(h:Rs rk a.toList)(cr:i<=j)(hj:j < a.size):K rk a i<=K rk a j:=by
 by_cases e:i=j
 ·rw[e];exact Ut _
 ·rw[Q0 (show i < a.size by lia),Q0 hj]
  have:=pairwise_iff_getElem.mp h i j (by simp;lia) (by simp;lia) #[0]
  simpa using this
end
abbrev Jh(st:Iy)(g:Nat):Iy:=IQ (kindOf st) (IC st) (IR st) g (IS st)
section
variable{prog:Vg}{w:Vb}{A:VF}{E:YQ_}{s:VG}{κ:Iz}{rk:Ix->Nat}{S:Ix->Prop}
theorem Xlc(L:Zea prog w A E s κ rk S){st:Iy}{key:Ix}{aw:Array Ix}{bs n aj:Nat}{Q:Option Nat->Iy->Prop}(hk:kindOf st=κ)(hS:∀ x∈aw,S x)(ap:S key)(hb:bs+n<=aw.size)(hh:aj < n)
 (up:∀ i j,bs<=i->i<=j->j < bs+n->K rk aw i<=K rk aw j)
 (h:∀ k,k<=n->(∀ i,i < k->K rk aw (bs+i)<=rk key)->(∀ i,k<=i->i < n->rk key < K rk aw (bs+i))->Q (some k) st):wpS (VW prog w) A E s (X1a false key aw bs n aj) Q st:=by
 have e:∀ i,bey rk false key aw bs i=!decide (rk key < K rk aw (bs+i)):=λi=>by unfold bey;rw[if_neg #[2]]
 refine Xpa L hk hS ap hb hh (λi j cr hj=>?_) λk gR h1 h2=>h k gR (λi hi=>?_) λi hi hn=>?_
 ·rw[e,e]
  have:=up (bs+i) (bs+j) #[0] #[0] #[0]
  simp only[Bool.not_eq_true',decide_eq_false_iff_not]
  lia
 ·have:=h1 i hi
  rw[e]at this;simp only[Bool.not_eq_true',decide_eq_false_iff_not]at this
  lia
 ·have:=h2 i hi hn
  rw[e]at this
  simpa using this
theorem Xmc(L:Zea prog w A E s κ rk S){st:Iy}{key:Ix}{aw:Array Ix}{bs n aj:Nat}{Q:Option Nat->Iy->Prop}(hk:kindOf st=κ)(hS:∀ x∈aw,S x)(ap:S key)(hb:bs+n<=aw.size)(hh:aj < n)
 (up:∀ i j,bs<=i->i<=j->j < bs+n->K rk aw i<=K rk aw j)
 (h:∀ k,k<=n->(∀ i,i < k->K rk aw (bs+i) < rk key)->(∀ i,k<=i->i < n->rk key<=K rk aw (bs+i))->Q (some k) st):wpS (VW prog w) A E s (X1a true key aw bs n aj) Q st:=by
 have e:∀ i,bey rk true key aw bs i=decide (K rk aw (bs+i) < rk key):=λi=>by unfold bey;rw[if_pos rfl]
 refine Xpa L hk hS ap hb hh (λi j cr hj=>?_) λk gR h1 h2=>h k gR (λi hi=>?_) λi hi hn=>?_
 ·rw[e,e]
  have:=up (bs+i) (bs+j) #[0] #[0] #[0]
  simp only[decide_eq_true_eq]
  lia
 ·have:=h1 i hi
  rw[e]at this
  simpa using this
 ·have:=h2 i hi hn
  rw[e]at this
  simpa using this
theorem Ydb{α:Type}{m:StateT Iy Sem α}{Q:α->Iy->Prop}{st:Iy}(h:∀ QQ:α->Iy->Prop,(∀ r s,Q r s->QQ r s)->wpS (VW prog w) A E s m QQ st):wpS (VW prog w) A E s m Q st:=h Q λ_ _ z=>z
theorem Y1{α:Type}{c:Prop}[Decidable c]{m n:StateT Iy Sem α}{Q:α->Iy->Prop}{st:Iy}(h1:c->wpS (VW prog w) A E s m Q st)(h2:¬ c->wpS (VW prog w) A E s n Q st):wpS (VW prog w) A E s (if c then m else n) Q st:=by
 by_cases h:c
 ·rw[if_pos h];exact h1 h
 ·rw[if_neg h];exact h2 h
theorem Jt{α:Type}{x y:Nat}{m n:StateT Iy Sem α}{Q:α->Iy->Prop}{st:Iy}(h1:x=y->wpS (VW prog w) A E s m Q st)(h2:¬ x=y->wpS (VW prog w) A E s n Q st):wpS (VW prog w) A E s (if (x == y)=true then m else n) Q st :=
 Y1 (λh=>h1 (eq_of_beq h)) λh=>h2 λe=>h (by rw[e];exact beq_self_eq_true _)
theorem Jeb(L:Zea prog w A E s κ rk S){st:Iy}{a b:Array Ix}{Q:Array Ix->Iy->Prop}(hk:kindOf st=κ)(dH:∀ x∈a,S x)(gn:∀ x∈b,S x)(na:0 < a.size)(nb:0 < b.size)(pa:Rs rk a.toList)(pb:Rs rk b.toList)
 (h0:K rk b 0<=K rk a 0) (hl:∀ i,i < b.size->K rk b i < K rk a (a.size - 1)) (h:∀ out g,out.toList.Perm (a.toList++b.toList)->Rs rk out.toList->Q out (Jh st g)):wpS (VW prog w) A E s (Qyc a b) Q st:=by
 have ua:∀ i j,i<=j->j < a.size->K rk a i<=K rk a j:=λi j h1 h2=>pa.le h1 h2
 have ub:∀ i j,i<=j->j < b.size->K rk b i<=K rk b j:=λi j h1 h2=>pb.le h1 h2
 have m0:Mg rk a.toList b.toList (#[b[0]]:Array Ix).toList 0 1:=by
  have e1:b.toList.take 1=[b[0]]:=by have:=YF nb;simpa using this
  refine⟨by rw[e1];simp,by simp,λx hx y hy=>?_,λx hx y hy=>?_⟩
  ·obtain⟨j,_,hj,e⟩:=Zfa (rk:=rk) hy
   have:x=b[0]:=by simpa using hx
   rw[this,e,<- Q0 (rk:=rk) nb];exact VI h0 (ua 0 j #[0] hj)
  ·obtain⟨j,_,hj,e⟩:=Zfa (rk:=rk) hy
   have:x=b[0]:=by simpa using hx
   rw[this,e,<- Q0 (rk:=rk) nb];exact ub 0 j #[0] hj
 have done:∀ (out:Array Ix) (ia ib:Nat),Mg rk a.toList b.toList out.toList ia ib->ib=b.size->(out++a.extract ia a.size++b.extract ib b.size).toList.Perm (a.toList++b.toList)/\Rs rk (out++a.extract ia a.size++b.extract ib b.size).toList:=λout ia ib m e=>by
  rw[IT,IT,Jsa,Jsa];exact m.done pa pb λx _ y hy=>by
   obtain⟨j,h1,h2,_⟩:=Zfa (rk:=rk) hy
   lia
 have cu:∀ (out:Array Ix) (ia ib:Nat),Mg rk a.toList b.toList out.toList ia ib->ia+1=a.size->(out++b.extract ib b.size++a.extract ia a.size).toList.Perm (a.toList++b.toList)/\Rs rk (out++b.extract ib b.size++a.extract ia a.size).toList:=λout ia ib m e=>by
  rw[IT,IT,Jsa,Jsa];exact m.doneB pa pb λx hx y hy=>by
   obtain⟨j,h1,h2,e1⟩:=Zfa (rk:=rk) hx;obtain⟨i,h3,h4,e2⟩:=Zfa (rk:=rk) hy;have:i=a.size - 1:=by lia
   rw[e1,e2,this];exact VJ (hl j h2)
 have be:∀ (out:Array Ix) (ia ib:Nat) (hi:ia < a.size),Mg rk a.toList b.toList out.toList ia ib->(ib < b.size->K rk a ia<=K rk b ib)->Mg rk a.toList b.toList (out.push a[ia]).toList (ia+1) ib:=λout ia ib hi m gq=>by
  have:=m.takeA pa 1 λx hx y hy=>by
   obtain⟨j,h1,h2,e1⟩:=Y0 (rk:=rk) hx;obtain⟨i,h3,h4,e2⟩:=Zfa (rk:=rk) hy;have:j=0:=by lia
   subst this;rw[e1,e2];exact VI (gq #[0]) (ub ib i h3 h4)
  rwa [YF hi,<- IU]at this
 have bf:∀ (out:Array Ix) (ia ib:Nat) (hi:ib < b.size),Mg rk a.toList b.toList out.toList ia ib->(ia < a.size->K rk b ib<=K rk a ia)->Mg rk a.toList b.toList (out.push b[ib]).toList ia (ib+1):=λout ia ib hi m gq=>by
  have:=m.takeB pb 1 λx hx y hy=>by
   obtain⟨j,h1,h2,e1⟩:=Y0 (rk:=rk) hx;obtain⟨i,h3,h4,e2⟩:=Zfa (rk:=rk) hy;have:j=0:=by lia
   subst this;rw[e1,e2];exact VI (gq #[0]) (ua ia i h3 h4)
  rwa [YF hi,<- IU]at this
 refine ID (IV (IW ⟨rfl,?_⟩))
 refine ID (QE nb ?_)
 dsimp -zeta only
 by_cases cT:1=b.size
 ·rw[if_pos (by simpa using cT)]
  obtain⟨p,r⟩:=done _ 0 1 m0 cT;exact IA (h _ (IX st) p r)
 rw[if_neg (by simpa using cT)]
 by_cases br:0+1=a.size
 ·rw[if_pos (by simpa using br)]
  obtain⟨p,r⟩:=cu _ 0 1 m0 br;exact IA (h _ (IX st) p r)
 rw[if_neg (by simpa using br)]
 refine ID (IE (ID (IG (IH
  (I:=λx c ag=>∃ out ia ib g g',c=(Vo,out,ia,ib,g)/\ag=Jh st g'/\Mg rk a.toList b.toList (out:Array Ix).toList ia ib/\ia+1 < a.size/\ib < b.size/\x<=ia+ib)
  (Q:=λc ag=>∃ r g' z,c=(some r,z)/\ag=Jh st g'/\(r:Array Ix).toList.Perm (a.toList++b.toList)/\Rs rk r.toList) ?step ?fin ⟨_,0,1,_,IX st,rfl,rfl,m0,by lia,by lia,by lia⟩) ?post)))
 case post =>
  rintro c ag ⟨r,g',z,rfl,rfl,p,q⟩;exact IA (h r g' p q)
 case fin =>
  rintro c ag ⟨out,ia,ib,g,g',rfl,rfl,m,h1,h2,h3⟩
  lia
 case step =>
  rintro x c ag _ hx ⟨out,ia,ib,g,g',rfl,rfl,m,h1,h2,h3⟩;dsimp -zeta only;refine ID (IG (IH
   (I:=λy c ag=>ag=Jh st g'/\∃ out ja jb ac bc,c=(Vo,out,ja,jb,ac,bc)/\Mg rk a.toList b.toList (out:Array Ix).toList ja jb/\ja+1 < a.size/\jb < b.size/\y+(ia+ib)<=ja+jb)
   (Q:=λc ag=>ag=Jh st g'/\((∃ out ja jb ac bc,c=(Vo,out,ja,jb,ac,bc)/\Mg rk a.toList b.toList (out:Array Ix).toList ja jb/\ja+1 < a.size/\jb < b.size/\ia+ib<=ja+jb)\/∃ r z,c=(some r,z)/\(r:Array Ix).toList.Perm (a.toList++b.toList)/\Rs rk r.toList)) ?istep ?ifin ⟨rfl,out,ia,ib,0,0,rfl,m,h1,h2,by lia⟩) ?ipost)
  case ifin =>
   rintro c ag ⟨rfl,out,ja,jb,ac,bc,rfl,m,h4,h5,h6⟩
   lia
  case istep =>
   rintro y c ag _ hy ⟨rfl,out,ja,jb,ac,bc,rfl,m,h4,h5,h6⟩;dsimp -zeta only;refine ID (QE h5 (ID (QE (show ja < a.size by lia) (ID (L _ _ _ _ hk (gn _ (IF h5)) (dH _ (IF _)) ?_)))))
   by_cases hw:rk b[jb] < rk a[ja]
   ·have m1:=bf out ja jb h5 m λ_=>by rw[Q0 h5,Q0 (show ja < a.size by lia)];exact VJ hw
    simp only[hw,decide_true,if_true];refine ID (QE h5 ?_)
    by_cases he:jb+1=b.size
    ·rw[if_pos (by simpa using he)]
     exact IA ⟨rfl,.inr ⟨_,_,rfl,done _ ja (jb+1) m1 he⟩⟩
    ·rw[if_neg (by simpa using he)]
     by_cases hc:bc+1 >= g
     ·rw[if_pos hc]
      exact IA ⟨rfl,.inl ⟨_,_,_,_,_,rfl,m1,h4,by lia,by lia⟩⟩
     ·rw[if_neg hc]
      exact IA ⟨rfl,_,_,_,_,_,rfl,m1,h4,by lia,by lia⟩
   ·have m1:=be out ja jb #[0] m λ_=>by rw[Q0 h5,Q0 (show ja < a.size by lia)];lia
    simp only[hw,decide_false,Ie,if_false];refine ID (QE (show ja < a.size by lia) ?_)
    by_cases he:ja+1+1=a.size
    ·rw[if_pos (by simpa using he)]
     exact IA ⟨rfl,.inr ⟨_,_,rfl,cu _ (ja+1) jb m1 he⟩⟩
    ·rw[if_neg (by simpa using he)]
     by_cases hc:ac+1 >= g
     ·rw[if_pos hc]
      exact IA ⟨rfl,.inl ⟨_,_,_,_,_,rfl,m1,by lia,h5,by lia⟩⟩
     ·rw[if_neg hc]
      exact IA ⟨rfl,_,_,_,_,_,rfl,m1,by lia,h5,by lia⟩
  case ipost =>
   rintro c ag ⟨rfl,⟨out,ja,jb,ac,bc,rfl,m,h4,h5,h6⟩ | ⟨r,z,rfl,p,q⟩⟩
   ·dsimp -zeta only
    refine ID (IV (IW ⟨rfl,?_⟩))
    refine ID (IG (IH
     (I:=λy c ag=>∃ out ka kb g g' ac bc,c=(Vo,out,ka,kb,g,ac,bc)/\ag=Jh st g'/\Mg rk a.toList b.toList (out:Array Ix).toList ka kb/\ka+1 < a.size/\kb < b.size/\y+(ja+jb)<=ka+kb)
     (Q:=λc ag=>(∃ out ka kb g g' ac bc,c=(Vo,out,ka,kb,g,ac,bc)/\ag=Jh st g'/\Mg rk a.toList b.toList (out:Array Ix).toList ka kb/\ka+1 < a.size/\kb < b.size/\ja+jb+1<=ka+kb)\/∃ r z g',c=(some r,z)/\ag=Jh st g'/\(r:Array Ix).toList.Perm (a.toList++b.toList)/\Rs rk r.toList) ?jstep ?jfin ⟨out,ja,jb,_,g',ac,bc,rfl,rfl,m,h4,h5,by lia⟩) ?jpost)
    case jfin =>
     rintro c ag ⟨out,ka,kb,g,g',ac,bc,rfl,rfl,m,h7,h8,h9⟩
     lia
    case jpost =>
     rintro c ag (⟨out,ka,kb,g,g',ac,bc,rfl,rfl,m,h7,h8,h9⟩ | ⟨r,z,g',rfl,rfl,p,q⟩)
     ·dsimp -zeta only
      refine ID (IY (IA ⟨out,ka,kb,_,g+1,rfl,rfl,m,h7,h8,by lia⟩))
     ·exact IA ⟨r,g',_,rfl,rfl,p,q⟩
    case jstep =>
     intro y c ag _ hy hZ;obtain⟨out,ka,kb,g,g',ac,bc,rfl,rfl,m,h7,h8,h9⟩:=hZ;refine Ydb λQQ hQ=>?_
     have qd:∀ (r:Array Ix) z g',r.toList.Perm (a.toList++b.toList)/\Rs rk r.toList->QQ (.done (some r,z)) (Jh st g'):=λr z g' p=>hQ _ _ (.inr ⟨r,z,g',rfl,rfl,p.1,p.2⟩)
     have qn:∀ (o:Array Ix) bL bM g g' ac bc,Mg rk a.toList b.toList o.toList bL bM->bL+1 < a.size->bM < b.size->ka+kb+1<=bL+bM->QQ (.done (Vo,o,bL,bM,g,ac,bc)) (Jh st g')/\QQ (.yield (Vo,o,bL,bM,g,ac,bc)) (Jh st g'):=λo bL bM g g' ac bc m z1 z2 z3=>⟨hQ _ _ (.inl ⟨o,bL,bM,g,g',ac,bc,rfl,rfl,m,z1,z2,by lia⟩),hQ _ _ ⟨o,bL,bM,g,g',ac,bc,rfl,rfl,m,z1,z2,by lia⟩⟩
     clear hQ h9 hy h4 h5 h6 h1 h2 h3 hx;dsimp -zeta only
     extract_lets -underBinder c0 o1 c1 i1 c2 i2 c3 g2 c4 a2 b2 jp mg
     have hj:∀ u g1,wpS (VW prog w) A E s (jp u g1) QQ (Jh st g'):=by
      intro u g1;dsimp -zeta only [jp,b2,a2,c4,g2,c3,i2,c2,i1,c1,o1,c0];clear mg jp b2 a2 c4 g2 c3 i2 c2 i1 c1 o1 c0;refine ID (IY ?_)
      refine ID (QE h8 (ID (Xlc L hk dH (gn _ (IF h8)) #[0] #[0] (λi j h1 h2 h3=>ua i j h2 #[0]) λk iR q1 q2=>?_)))
      dsimp -zeta only;rw[<- Q0 (rk:=rk) h8]at q1 q2;have aA:ka+k < a.size:=by
       by_cases hz:ka+k < a.size
       ·exact hz
       ·have z1:=q1 (a.size - 1 - ka) #[0]
        rw[show ka+(a.size - 1 - ka)=a.size - 1 by lia]at z1
        have z2:=hl kb h8
        lia
      have m1:Mg rk a.toList b.toList (out++a.extract ka (ka+k)).toList (ka+k) kb:=by
       rw[IT,JE,show ka+k - ka=k by lia]
       refine m.takeA pa k λx hx y hy=>?_
       obtain⟨j,dg,dh,e1⟩:=Y0 (rk:=rk) hx;obtain⟨i,dI,iS,e2⟩:=Zfa (rk:=rk) hy;rw[e1,e2];exact VI (q1 j dg) (ub kb i dI iS)
      have q3:K rk b kb<=K rk a (ka+k):=VJ (q2 k (Ut _) #[0])
      have q4:k=0->out++a.extract ka (ka+k)=out:=λe=>by
       subst e;rw[IZ,Array.extract_empty_of_stop_le_start (Ut _)];simp
      extract_lets -underBinder ac1 jp1 o1 i1
      have dg:∀ u (o:Array Ix) aJ,Mg rk a.toList b.toList o.toList aJ kb->ka<=aJ->aJ+1 < a.size->K rk b kb<=K rk a aJ->wpS (VW prog w) A E s (jp1 u o aJ) QQ (Jh st g1):=by
       intro u o aJ m1 tY pR q3;dsimp -zeta only [jp1];clear o1 i1 jp1 q4 m q1 q2 aA;clear_value ac1;have br:aJ < a.size:=by lia
       refine ID (QE h8 ?_)
       have m2:=bf o aJ kb h8 m1 λ_=>q3
       clear m1 q3;generalize o.push b[kb]=o2 at m2 ⊢
       extract_lets -underBinder ib2
       refine Jt (λcw=>IA (qd _ _ _ (done _ aJ (kb+1) m2 cw))) λcw=>?_
       replace cw:¬ kb+1=b.size:=cw;dsimp -zeta only [ib2];clear ib2;refine ID (QE br (ID (Xmc L hk gn (dH _ (IF br)) #[0] #[0] (λi j h1 h2 h3=>ub i j h2 #[0]) λk2 gy q5 q6=>?_)))
       dsimp -zeta only;rw[<- Q0 (rk:=rk) br]at q5 q6;have m3:Mg rk a.toList b.toList (o2++b.extract (kb+1) (kb+1+k2)).toList aJ (kb+1+k2):=by
        rw[IT,JE,show kb+1+k2 - (kb+1)=k2 by lia]
        refine m2.takeB pb k2 λx hx y hy=>?_
        obtain⟨j,dg,dh,e1⟩:=Y0 (rk:=rk) hx;obtain⟨i,dI,iS,e2⟩:=Zfa (rk:=rk) hy;rw[e1,e2];exact VI (VJ (q5 j dg)) (ua aJ i dI iS)
       extract_lets -underBinder bc1 jp2 o3 ib3
       have dh:∀ u (o:Array Ix) bX,Mg rk a.toList b.toList o.toList aJ bX->kb < bX->bX < b.size->K rk a aJ<=K rk b bX->wpS (VW prog w) A E s (jp2 u o bX) QQ (Jh st g1):=by
        intro u o bX m3 pS mw q7;dsimp -zeta only [jp2];clear o3 ib3 jp2;clear_value bc1;refine ID (QE br ?_)
        have m4:=be o aJ bX br m3 λ_=>q7
        refine Jt (λdi=>IA (qd _ _ _ (cu _ (aJ+1) bX m4 di))) λdi=>?_
        replace di:¬ aJ+1+1=a.size:=di;have:=λg gg ac bc=>qn _ _ _ g gg ac bc m4 #[0] mw #[0]
        exact Y1 (λ_=>IA (this _ _ _ _).1) λ_=>IA (this _ _ _ _).2
       refine Y1 (λgz=>Jt (λeC=>IA (qd _ _ _ (done _ aJ (kb+1+k2) m3 eC))) λeC=>?_) λgz=>?_
       ·replace eC:¬ kb+1+k2=b.size:=eC
        exact dh () _ _ m3 (show kb < kb+1+k2 by lia) (show kb+1+k2 < b.size by lia) (q6 k2 (Ut _) #[0])
       ·exact dh () _ _ m2 (UR _) #[0] (q6 0 #[0] #[0])
      refine Y1 (λgA=>Jt (λhe=>IA (qd _ _ _ (cu _ (ka+k) kb m1 he))) λhe=>Jt (λiJ=>?_) λ_=>?_) λgA=>?_
      ·exact absurd (show ka+k=a.size from iJ) #[0]
      ·replace he:¬ ka+k+1=a.size:=he
       exact dg () _ _ m1 #[0] (show ka+k+1 < a.size by lia) q3
      ·have tZ:k=0:=by lia
       rw[tZ]at q3;exact dg () _ _ m (Ut _) h7 q3
     exact Y1 (λ_=>hj () _) λ_=>hj () _
   ·exact IA ⟨r,g',_,rfl,rfl,p,q⟩
end
end SortB
end
section
namespace SortB
open PySem PySem.W PyProof.Rows
structure Mh(rk:Ix->Nat)(la lb R:List Ix)(na nb:Nat):Prop where
 perm:R.Perm (la.drop na++lb.drop nb)
 pw:Rs rk R
 ra:∀ x∈la.take na,∀ y∈R,rk x<=rk y
 rb:∀ x∈lb.take nb,∀ y∈R,rk x<=rk y
section
variable{rk:Ix->Nat}{la lb R:List Ix}{na nb k:Nat}
theorem Mh.swap(m:Mh rk la lb R na nb):Mh rk lb la R nb na:=⟨m.perm.trans IK,m.pw,m.rb,m.ra⟩
theorem Q2b{l:List Ix}{k n:Nat}(h:k<=n):l.drop k=(l.drop k).take (n - k)++l.drop n:=by
 have e:l.drop n=(l.drop k).drop (n - k):=by rw[drop_drop];congr 1;lia
 rw[e,II]
theorem QAc{l:List Ix}{k n:Nat}(h:k<=n):l.take n=l.take k++(l.drop k).take (n - k):=by
 have e:n=k+(n - k):=by lia
 rw[e,take_add]
 congr 2
 lia
theorem Mh.takeA(m:Mh rk la lb R na nb)(pa:Rs rk la)(k:Nat)(hk:k<=na)(h:∀ x∈lb.take nb,∀ y∈(la.drop k).take (na - k),rk x<=rk y):Mh rk la lb ((la.drop k).take (na - k)++R) k nb:=by
 have pt:Rs rk (la.take na):=pa.sublist (Ol _ _);have ps:=QAc (l:=la) hk;rw[ps]at pt;obtain⟨_,p2,p3⟩:=pairwise_append.mp pt;have sub:∀ y∈(la.drop k).take (na - k),y∈la.take na:=λy hy=>by rw[ps];exact Uw _ hy
 refine⟨?_,?_,?_,?_⟩
 ·refine(m.perm.append_left _).trans (List.Perm.of_eq ?_)
  rw[<- IJ,<- Q2b hk]
 ·exact pairwise_append.mpr ⟨p2,m.pw,λx hx y hy=>m.ra x (sub x hx) y hy⟩
 ·intro x hx y hy
  rcases mem_append.mp hy with hy | hy
  ·exact p3 x hx y hy
  ·exact m.ra x (by rw[ps];exact VS _ hx) y hy
 ·intro x hx y hy
  rcases mem_append.mp hy with hy | hy
  ·exact h x hx y hy
  ·exact m.rb x hx y hy
theorem Mh.takeB(m:Mh rk la lb R na nb)(pb:Rs rk lb)(k:Nat)(hk:k<=nb)(h:∀ x∈la.take na,∀ y∈(lb.drop k).take (nb - k),rk x<=rk y):Mh rk la lb ((lb.drop k).take (nb - k)++R) na k:=(m.swap.takeA pb k hk h).swap
theorem Mh.doneB(m:Mh rk la lb R na nb)(pa:Rs rk la)(pb:Rs rk lb)(h:∀ x∈lb.take nb,∀ y∈la.take na,rk x<=rk y):(lb.take nb++la.take na++R).Perm (la++lb)/\Rs rk (lb.take nb++la.take na++R):=by
 have m1:=m.takeA pa 0 (Ux _) (by simpa using h)
 have m2:=m1.takeB pb 0 (Ux _) #[2]
 have e:((lb.drop 0).take (nb - 0)++((la.drop 0).take (na - 0)++R))=lb.take nb++la.take na++R:=by simp
 rw[e]at m2;exact⟨by simpa using m2.perm,m2.pw⟩
theorem Mh.done(m:Mh rk la lb R na nb)(pa:Rs rk la)(pb:Rs rk lb)(h:∀ x∈la.take na,∀ y∈lb.take nb,rk x<=rk y):(la.take na++lb.take nb++R).Perm (la++lb)/\Rs rk (la.take na++lb.take nb++R):=by
 obtain⟨a,b⟩:=m.swap.doneB pb pa h;exact⟨a.trans IK,b⟩
end
section
variable{rk:Ix->Nat}{a:Array Ix}{i j k n:Nat}{x:Ix}
theorem Jta(a:Array Ix)(n:Nat):(a.extract 0 n).toList=a.toList.take n:=by rw[JE];simp
theorem Zga(h:x∈a.toList.take n):∃ j,j < n/\j < a.size/\rk x=K rk a j:=by
 obtain⟨j,h1,h2,e⟩:=Y0 (rk:=rk) (i:=0) (a:=a) (k:=n) (by simpa using h)
 exact⟨j,h1,by lia,by rw[e];congr 1;lia⟩
end
section
variable{prog:Vg}{w:Vb}{A:VF}{E:YQ_}{s:VG}{κ:Iz}{rk:Ix->Nat}{S:Ix->Prop}
theorem Jfb(L:Zea prog w A E s κ rk S){st:Iy}{a b:Array Ix}{Q:Array Ix->Iy->Prop}(hk:kindOf st=κ)(dH:∀ x∈a,S x)(gn:∀ x∈b,S x)(na:0 < a.size)(nb:0 < b.size)(pa:Rs rk a.toList)(pb:Rs rk b.toList)
 (h0:K rk b 0 < K rk a 0) (hl:∀ i,i < b.size->K rk b i < K rk a (a.size - 1)) (h:∀ out g,out.toList.Perm (a.toList++b.toList)->Rs rk out.toList->Q out (Jh st g)):wpS (VW prog w) A E s (Qzc a b) Q st:=by
 have ua:∀ i j,i<=j->j < a.size->K rk a i<=K rk a j:=λi j h1 h2=>pa.le h1 h2
 have ub:∀ i j,i<=j->j < b.size->K rk b i<=K rk b j:=λi j h1 h2=>pb.le h1 h2
 have nl:a.size - 1 < a.size:=by lia
 have m0:Mh rk a.toList b.toList (#[a[a.size - 1]]:Array Ix).toList.reverse (a.size - 1) b.size:=by
  have e1:a.toList.drop (a.size - 1)=[a[a.size - 1]]:=by
   have:=YF nl
   rwa [IL (by simp;lia)]at this
  refine⟨by rw[e1];simp,by simp,λx hx y hy=>?_,λx hx y hy=>?_⟩
  ·obtain⟨j,_,hj,e⟩:=Zga (rk:=rk) hx
   have:y=a[a.size - 1]:=by simpa using hy
   rw[this,e,<- Q0 (rk:=rk) nl];exact ua j _ #[0] #[0]
  ·obtain⟨j,_,hj,e⟩:=Zga (rk:=rk) hx
   have:y=a[a.size - 1]:=by simpa using hy
   rw[this,e,<- Q0 (rk:=rk) nl];exact VJ (hl j hj)
 have done:∀ (out:Array Ix) (ia ib:Nat),Mh rk a.toList b.toList out.toList.reverse ia ib->ia=0->(a.extract 0 ia++b.extract 0 ib++out.reverse).toList.Perm (a.toList++b.toList)/\Rs rk (a.extract 0 ia++b.extract 0 ib++out.reverse).toList:=λout ia ib m e=>by
  rw[IT,IT,Jta,Jta,I0];exact m.done pa pb λx hx y _=>by
   obtain⟨j,h1,h2,_⟩:=Zga (rk:=rk) hx
   lia
 have cx:∀ (out:Array Ix) (ia ib:Nat),Mh rk a.toList b.toList out.toList.reverse ia ib->ib=1->(b.extract 0 ib++a.extract 0 ia++out.reverse).toList.Perm (a.toList++b.toList)/\Rs rk (b.extract 0 ib++a.extract 0 ia++out.reverse).toList:=λout ia ib m e=>by
  rw[IT,IT,Jta,Jta,I0];exact m.doneB pa pb λx hx y hy=>by
   obtain⟨j,h1,h2,e1⟩:=Zga (rk:=rk) hx;obtain⟨i,h3,h4,e2⟩:=Zga (rk:=rk) hy;have:j=0:=by lia
   rw[e1,e2,this];exact VI (VJ h0) (ua 0 i #[0] h4)
 have be:∀ (out:Array Ix) (ia ib:Nat) (hi:ia < a.size),Mh rk a.toList b.toList out.toList.reverse (ia+1) ib->ib<=b.size->(0 < ib->K rk b (ib - 1)<=K rk a ia)->Mh rk a.toList b.toList (out.push a[ia]).toList.reverse ia ib:=λout ia ib hi m pT gq=>by
  have:=m.takeA pa ia #[0] λx hx y hy=>by
   obtain⟨j,h1,h2,e1⟩:=Zga (rk:=rk) hx;obtain⟨i,h3,h4,e2⟩:=Y0 (rk:=rk) hy;have:i=0:=by lia
   subst this;rw[e1,e2];exact VI (ub j (ib - 1) #[0] #[0]) (gq #[0])
  rw[show ia+1 - ia=1 by lia,YF hi]at this
  rw[IU,La];exact this
 replace be:∀ (out:Array Ix) (ia ib:Nat) (hi:ia - 1 < a.size),0 < ia->Mh rk a.toList b.toList out.toList.reverse ia ib->ib<=b.size->(0 < ib->K rk b (ib - 1)<=K rk a (ia - 1))->Mh rk a.toList b.toList (out.push a[ia - 1]).toList.reverse (ia - 1) ib:=λout ia ib hi h0 m h1 h2=>be out (ia - 1) ib hi (by rw[Nat.sub_add_cancel h0];exact m) h1 h2
 have bf:∀ (out:Array Ix) (ia ib:Nat) (hi:ib < b.size),Mh rk a.toList b.toList out.toList.reverse ia (ib+1)->ia<=a.size->(0 < ia->K rk a (ia - 1)<=K rk b ib)->Mh rk a.toList b.toList (out.push b[ib]).toList.reverse ia ib:=λout ia ib hi m hia gq=>by
  have:=m.takeB pb ib #[0] λx hx y hy=>by
   obtain⟨j,h1,h2,e1⟩:=Zga (rk:=rk) hx;obtain⟨i,h3,h4,e2⟩:=Y0 (rk:=rk) hy;have:i=0:=by lia
   subst this;rw[e1,e2];exact VI (ua j (ia - 1) #[0] #[0]) (gq #[0])
  rw[show ib+1 - ib=1 by lia,YF hi]at this
  rw[IU,La];exact this
 replace bf:∀ (out:Array Ix) (ia ib:Nat) (hi:ib - 1 < b.size),0 < ib->Mh rk a.toList b.toList out.toList.reverse ia ib->ia<=a.size->(0 < ia->K rk a (ia - 1)<=K rk b (ib - 1))->Mh rk a.toList b.toList (out.push b[ib - 1]).toList.reverse ia (ib - 1):=λout ia ib hi h0 m h1 h2=>bf out ia (ib - 1) hi (by rw[Nat.sub_add_cancel h0];exact m) h1 h2
 refine ID (IV (IW ⟨rfl,?_⟩))
 refine ID (QE nl ?_)
 dsimp -zeta only
 by_cases br:a.size - 1=0
 ·rw[if_pos (by simpa using br)]
  obtain⟨p,r⟩:=done _ _ b.size m0 br;exact IA (h _ (IX st) p r)
 rw[if_neg (by simpa using br)]
 by_cases cT:b.size=1
 ·rw[if_pos (by simpa using cT)]
  obtain⟨p,r⟩:=cx _ (a.size - 1) b.size m0 cT;exact IA (h _ (IX st) p r)
 rw[if_neg (by simpa using cT)]
 refine ID (IE (ID (IG (IH
  (I:=λx c ag=>∃ ia ib out g g',c=(Vo,ia,ib,out,g)/\ag=Jh st g'/\Mh rk a.toList b.toList (out:Array Ix).toList.reverse ia ib/\0 < ia/\ia < a.size/\1 < ib/\ib<=b.size/\x+(ia+ib)<=a.size+b.size)
  (Q:=λc ag=>∃ r g' z,c=(some r,z)/\ag=Jh st g'/\(r:Array Ix).toList.Perm (a.toList++b.toList)/\Rs rk r.toList) ?step ?fin ⟨_,_,_,_,IX st,rfl,rfl,m0,by lia,by lia,by lia,by lia,by lia⟩) ?post)))
 case post =>
  rintro c ag ⟨r,g',z,rfl,rfl,p,q⟩;exact IA (h r g' p q)
 case fin =>
  rintro c ag ⟨ia,ib,out,g,g',rfl,rfl,m,h1,h2,h3,h4,h5⟩
  lia
 case step =>
  rintro x c ag _ hx ⟨ia,ib,out,g,g',rfl,rfl,m,h1,h2,h3,pU,uc⟩;dsimp -zeta only;refine ID (IG (IH
   (I:=λy c ag=>ag=Jh st g'/\∃ ja jb out ac bc,c=(Vo,ja,jb,out,ac,bc)/\Mh rk a.toList b.toList (out:Array Ix).toList.reverse ja jb/\0 < ja/\ja < a.size/\1 < jb/\jb<=b.size/\y+(ja+jb)<=ia+ib)
   (Q:=λc ag=>ag=Jh st g'/\((∃ ja jb out ac bc,c=(Vo,ja,jb,out,ac,bc)/\Mh rk a.toList b.toList (out:Array Ix).toList.reverse ja jb/\0 < ja/\ja < a.size/\1 < jb/\jb<=b.size/\ja+jb<=ia+ib)\/∃ r z,c=(some r,z)/\(r:Array Ix).toList.Perm (a.toList++b.toList)/\Rs rk r.toList)) ?istep ?ifin ⟨rfl,ia,ib,out,0,0,rfl,m,h1,h2,h3,pU,by lia⟩) ?ipost)
  case ifin =>
   rintro c ag ⟨rfl,ja,jb,out,ac,bc,rfl,m,h4,h5,h6,gB,mx⟩
   lia
  case istep =>
   rintro y c ag _ hy ⟨rfl,ja,jb,out,ac,bc,rfl,m,h4,h5,h6,gB,mx⟩;dsimp -zeta only;have gS:ja - 1 < a.size:=by lia
   have gT:jb - 1 < b.size:=by lia
   refine ID (QE gT (ID (QE gS (ID (L _ _ _ _ hk (gn _ (IF gT)) (dH _ (IF gS)) ?_)))))
   by_cases hw:rk b[jb - 1] < rk a[ja - 1]
   ·have m1:=be out ja jb gS h4 m gB λ_=>by rw[Q0 gT,Q0 gS];exact VJ hw
    simp only[hw,decide_true,if_true];refine ID (QE gS ?_)
    by_cases he:ja - 1=0
    ·rw[if_pos (by simpa using he)]
     exact IA ⟨rfl,.inr ⟨_,_,rfl,done _ (ja - 1) jb m1 he⟩⟩
    ·rw[if_neg (by simpa using he)]
     by_cases hc:ac+1 >= g
     ·rw[if_pos hc]
      exact IA ⟨rfl,.inl ⟨_,_,_,_,_,rfl,m1,by lia,by lia,h6,gB,by lia⟩⟩
     ·rw[if_neg hc]
      exact IA ⟨rfl,_,_,_,_,_,rfl,m1,by lia,by lia,h6,gB,by lia⟩
   ·have m1:=bf out ja jb gT #[0] m #[0] λ_=>by rw[Q0 gT,Q0 gS];lia
    simp only[hw,decide_false,Ie,if_false];refine ID (QE gT ?_)
    by_cases he:jb - 1=1
    ·rw[if_pos (by simpa using he)]
     exact IA ⟨rfl,.inr ⟨_,_,rfl,cx _ ja (jb - 1) m1 he⟩⟩
    ·rw[if_neg (by simpa using he)]
     by_cases hc:bc+1 >= g
     ·rw[if_pos hc]
      exact IA ⟨rfl,.inl ⟨_,_,_,_,_,rfl,m1,h4,h5,by lia,by lia,by lia⟩⟩
     ·rw[if_neg hc]
      exact IA ⟨rfl,_,_,_,_,_,rfl,m1,h4,h5,by lia,by lia,by lia⟩
  case ipost =>
   rintro c ag ⟨rfl,⟨ja,jb,out,ac,bc,rfl,m,h4,h5,h6,gB,mx⟩ | ⟨r,z,rfl,p,q⟩⟩
   ·dsimp -zeta only
    refine ID (IV (IW ⟨rfl,?_⟩))
    refine ID (IG (IH
     (I:=λy c ag=>∃ ka kb out g g' ac bc,c=(Vo,ka,kb,out,g,ac,bc)/\ag=Jh st g'/\Mh rk a.toList b.toList (out:Array Ix).toList.reverse ka kb/\0 < ka/\ka < a.size/\1 < kb/\kb<=b.size/\y+(ka+kb)<=ja+jb)
     (Q:=λc ag=>(∃ ka kb out g g' ac bc,c=(Vo,ka,kb,out,g,ac,bc)/\ag=Jh st g'/\Mh rk a.toList b.toList (out:Array Ix).toList.reverse ka kb/\0 < ka/\ka < a.size/\1 < kb/\kb<=b.size/\ka+kb+1<=ja+jb)\/∃ r z g',c=(some r,z)/\ag=Jh st g'/\(r:Array Ix).toList.Perm (a.toList++b.toList)/\Rs rk r.toList) ?jstep ?jfin ⟨ja,jb,out,_,g',ac,bc,rfl,rfl,m,h4,h5,h6,gB,by lia⟩) ?jpost)
    case jfin =>
     rintro c ag ⟨ka,kb,out,g,g',ac,bc,rfl,rfl,m,h7,h8,h9,mC,mD⟩
     lia
    case jpost =>
     rintro c ag (⟨ka,kb,out,g,g',ac,bc,rfl,rfl,m,h7,h8,h9,mC,mD⟩ | ⟨r,z,g',rfl,rfl,p,q⟩)
     ·dsimp -zeta only
      refine ID (IY (IA ⟨ka,kb,out,_,g+1,rfl,rfl,m,h7,h8,h9,mC,by lia⟩))
     ·exact IA ⟨r,g',_,rfl,rfl,p,q⟩
    case jstep =>
     intro y c ag _ hy hZ;obtain⟨ka,kb,out,g,g',ac,bc,rfl,rfl,m,h7,h8,h9,mC,mD⟩:=hZ;refine Ydb λQQ hQ=>?_
     have qd:∀ (r:Array Ix) z g',r.toList.Perm (a.toList++b.toList)/\Rs rk r.toList->QQ (.done (some r,z)) (Jh st g'):=λr z g' p=>hQ _ _ (.inr ⟨r,z,g',rfl,rfl,p.1,p.2⟩)
     have qn:∀ bL bM (o:Array Ix) g g' ac bc,Mh rk a.toList b.toList o.toList.reverse bL bM->0 < bL->1 < bM->bL < ka->bM < kb->QQ (.done (Vo,bL,bM,o,g,ac,bc)) (Jh st g')/\QQ (.yield (Vo,bL,bM,o,g,ac,bc)) (Jh st g'):=λbL bM o g g' ac bc m z1 z2 z3 z4=>⟨hQ _ _ (.inl ⟨bL,bM,o,g,g',ac,bc,rfl,rfl,m,z1,by lia,z2,by lia,by lia⟩),hQ _ _ ⟨bL,bM,o,g,g',ac,bc,rfl,rfl,m,z1,by lia,z2,by lia,by lia⟩⟩
     clear hQ mD hy h4 h5 h6 gB mx h1 h2 h3 pU uc hx;have bX:kb - 1 < b.size:=by lia
     dsimp -zeta only
     extract_lets -underBinder c0 i1 c1 i2 c2 o1 c3 g2 c4 a2 b2 jp mg
     have hj:∀ u g1,wpS (VW prog w) A E s (jp u g1) QQ (Jh st g'):=by
      intro u g1;dsimp -zeta only [jp,b2,a2,c4,g2,c3,o1,c2,i2,c1,i1,c0];clear mg jp b2 a2 c4 g2 c3 o1 c2 i2 c1 i1 c0;refine ID (IY ?_)
      refine ID (QE bX (ID (Xlc L hk dH (gn _ (IF bX)) #[0] #[0] (λi j h1 h2 h3=>ua i j h2 #[0]) λat1 iR q1 q2=>?_)))
      dsimp -zeta only;rw[<- Q0 (rk:=rk) bX]at q1 q2;simp only[Lb]at q1 q2;have m1:Mh rk a.toList b.toList (out++(a.extract at1 ka).reverse).toList.reverse at1 kb:=by
       rw[IT,La,I0,Cz,JE];refine m.takeA pa at1 iR λx hx y hy=>?_
       obtain⟨j,dg,dh,e1⟩:=Zga (rk:=rk) hx;obtain⟨i,dI,iS,e2⟩:=Y0 (rk:=rk) hy;rw[e1,e2];exact VI (ub j (kb - 1) #[0] bX) (VJ (q2 (at1+i) #[0] #[0]))
      have q3:0 < at1->K rk a (at1 - 1)<=K rk b (kb - 1):=λhz=>q1 (at1 - 1) #[0]
      extract_lets -underBinder k ac1 jp1 o1 i1
      have dg:∀ u aJ (o:Array Ix),Mh rk a.toList b.toList o.toList.reverse aJ kb->0 < aJ->aJ<=ka->K rk a (aJ - 1)<=K rk b (kb - 1)->wpS (VW prog w) A E s (jp1 u aJ o) QQ (Jh st g1):=by
       intro u aJ o m5 pR tY q9;dsimp -zeta only [jp1]
       clear_value ac1
       clear o1 i1 jp1 k m1 q1 q2 m iR q3;have br:aJ - 1 < a.size:=by lia
       extract_lets -underBinder nb1
       refine ID (QE bX ?_)
       have m2:=bf o aJ kb bX #[0] m5 #[0] λ_=>q9
       clear m5 q9;dsimp -zeta only [nb1];generalize o.push b[kb - 1]=o2 at m2 ⊢;refine Jt (λcw=>IA (qd _ _ _ (cx _ aJ (kb - 1) m2 cw))) λcw=>?_
       refine ID (QE br (ID (Xmc L hk gn (dH _ (IF br)) #[0] #[0] (λi j h1 h2 h3=>ub i j h2 #[0]) λcU gy q5 q6=>?_)))
       dsimp -zeta only;rw[<- Q0 (rk:=rk) br]at q5 q6;simp only[Lb]at q5 q6;have mE:1<=cU:=by
        by_cases hz:1<=cU
        ·exact hz
        ·have z1:=q6 0 #[0] #[0]
         have z2:=ua 0 (aJ - 1) #[0] br
         lia
       have m3:Mh rk a.toList b.toList (o2++(b.extract cU (kb - 1)).reverse).toList.reverse aJ cU:=by
        rw[IT,La,I0,Cz,JE];refine m2.takeB pb cU gy λx hx y hy=>?_
        obtain⟨j,dg,dh,e1⟩:=Zga (rk:=rk) hx;obtain⟨i,dI,iS,e2⟩:=Y0 (rk:=rk) hy;rw[e1,e2];exact VI (ua j (aJ - 1) #[0] br) (q6 (cU+i) #[0] #[0])
       extract_lets -underBinder k bc1 jp2 o3 ib3
       have dh:∀ u e8 (o:Array Ix),Mh rk a.toList b.toList o.toList.reverse aJ e8->e8 < kb->1 < e8->K rk b (e8 - 1)<=K rk a (aJ - 1)->wpS (VW prog w) A E s (jp2 u e8 o) QQ (Jh st g1):=by
        intro u e8 o m3 pS mw q7;dsimp -zeta only [jp2]
        clear_value bc1
        clear o3 ib3 jp2 k q5 q6 mE cw m2 gy
        extract_lets -underBinder na1
        refine ID (QE br ?_)
        have m4:=be o aJ e8 br pR m3 #[0] λ_=>q7
        refine Jt (λdi=>IA (qd _ _ _ (done _ (aJ - 1) e8 m4 di))) λdi=>?_
        replace di:¬ aJ - 1=0:=di;have:=λg gg ac bc=>qn _ _ _ g gg ac bc m4 #[0] mw #[0] pS
        exact Y1 (λ_=>IA (this _ _ _ _).1) λ_=>IA (this _ _ _ _).2
       have q7:=q5 (cU - 1) #[0]
       refine Y1 (λgz=>Jt (λeC=>IA (qd _ _ _ (cx _ aJ cU m3 eC))) λeC=>Jt (λdi=>absurd (show cU=0 from di) #[0]) λ_=>?_) λgz=>?_
       ·replace eC:¬ cU=1:=eC
        exact dh () _ _ m3 #[0] #[0] (VJ q7)
       ·replace gz:¬ kb - 1 - cU > 0:=gz
        rw[show cU=kb - 1 by lia]at q7
        exact dh () _ _ m2 #[0] #[0] (VJ q7)
      refine Y1 (λgA=>Jt (λhe=>IA (qd _ _ _ (done _ at1 kb m1 he))) λhe=>?_) λgA=>?_
      ·replace he:¬ at1=0:=he
       exact dg () _ _ m1 #[0] iR (q3 #[0])
      ·replace gA:¬ ka - at1 > 0:=gA
       have q3:=q3 #[0]
       rw[show at1=ka by lia]at q3
       exact dg () _ _ m h7 (Ut _) q3
     exact Y1 (λ_=>hj () _) λ_=>hj () _
   ·exact IA ⟨r,g',_,rfl,rfl,p,q⟩
end
end SortB
end
section
namespace SortB
open PySem PySem.W PyProof.Rows
def Up(rk:Ix->Nat)(a:Array Ix)(lo hi:Nat):Prop:=∀ i j,lo<=i->i<=j->j < hi->K rk a i<=K rk a j
structure Ch(rk:Ix->Nat)(lo hi:Nat)(a b:Array Ix):Prop where
 perm:b.Perm a
 out:∀ j,j < lo\/hi<=j->K rk b j=K rk a j
section
variable{rk:Ix->Nat}{a b c:Array Ix}{lo hi pV bx i j k n:Nat}
theorem Ch.refl:Ch rk lo hi a a:=⟨Array.Perm.refl _,λ_ _=>rfl⟩
theorem Ch.size(h:Ch rk lo hi a b):b.size=a.size:=h.perm.size_eq
theorem Ch.trans(h:Ch rk lo hi a b)(h':Ch rk lo hi b c):Ch rk lo hi a c:=⟨h'.perm.trans h.perm,λj hj=>(h'.out j hj).trans (h.out j hj)⟩
theorem Ch.mono(h:Ch rk lo hi a b)(h1:pV<=lo)(h2:hi<=bx):Ch rk pV bx a b:=⟨h.perm,λj hj=>h.out j #[0]⟩
theorem Ch.all{S:Ix->Prop}(h:Ch rk lo hi a b)(hS:∀ x∈a,S x):∀ x∈b,S x:=λx hx=>hS x (h.perm.mem_iff.mp hx)
theorem Yeb(hj:j<=a.size)(k:Nat):K rk (mirror a i j ((j - i) / 2)) k=if i<=k/\k < j then K rk a (i+j - 1 - k) else K rk a k:=by
 have e:=getElem?_mirror_all (i:=i) hj k
 split at e
 ·rename_i h;rw[if_pos h];exact Jdb e
 ·rename_i h;rw[if_neg h];exact Jdb e
theorem QBc{bS d:Nat}(hs:bS < a.size)(hd:d<=bS)(k:Nat):K rk (bubble a bS d) k=if k=bS - d then K rk a bS else if bS - d < k/\k<=bS then K rk a (k - 1) else K rk a k:=by
 have e:=getElem?_bubble hs d hd k
 by_cases h1:k=bS - d
 ·rw[if_pos h1]at e ⊢;exact Jdb e
 ·rw[if_neg h1]at e ⊢
  by_cases h2:bS - d < k/\k<=bS
  ·rw[if_pos h2]at e ⊢;exact Jdb e
  ·rw[if_neg h2]at e ⊢;exact Jdb e
theorem Ch.rev(hj:j<=a.size)(h1:lo<=i)(h2:j<=hi):Ch rk lo hi a (mirror a i j ((j - i) / 2)) :=
 ⟨mirror_perm _ _ _ _,λk hk=>by rw[Yeb hj,if_neg #[0]]⟩
theorem Ch.bub{bS d:Nat}(hs:bS < a.size)(hd:d<=bS)(h1:lo<=bS - d)(h2:bS < hi):Ch rk lo hi a (bubble a bS d) :=
 ⟨bubble_perm _ _ _,λk hk=>by rw[QBc hs hd,if_neg #[0],if_neg #[0]]⟩
theorem Up.ext(u:Up rk a lo hi)(h:∀ i,lo<=i->i < hi->K rk b i=K rk a i):Up rk b lo hi:=λi j h1 h2 h3=>by
 rw[h i h1 #[0],h j #[0] h3];exact u i j h1 h2 h3
theorem Up.rs(u:Up rk a lo hi)(hh:hi<=a.size):Rs rk (a.extract lo hi).toList:=by
 refine pairwise_iff_getElem.mpr ?_
 intro i j bx gC cr;simp only[V7,Lc]at bx gC;have:=u (lo+i) (lo+j) #[0] #[0] #[0]
 rw[Q0 #[0],Q0 #[0]]at this
 simpa using this
theorem Yfb(h:lo+i < hi)(hh:hi<=a.size):K rk (a.extract lo hi) i=K rk a (lo+i):=by
 have e:i < (a.extract lo hi).size:=by rw[Lc];lia
 rw[Q0 e,Q0 #[0]]
 simp
theorem Ygb{x:Ix}(h:x∈a.extract lo hi):x∈a:=by
 have:=Array.mem_toList_iff.mpr h;rw[JE]at this;exact Array.mem_toList_iff.mp (Iu (Iv this))
theorem Yhb(m:List Ix):∀ (a:Array Ix) (sa n:Nat),sa+n+m.length<=a.size->∀ i:Nat,((m.zipIdx n).foldl (λa (x:Ix×Nat)=>a.setIfInBounds (sa+x.2) x.1) a)[i]?=if sa+n<=i/\i < sa+n+m.length then m[i - (sa+n)]? else a[i]?:=by
 induction m with
 | nil=>intro a sa n _ i;rw[if_neg #[2]];simp
 | cons x m ih =>
  intro a sa n hs i;rw[UG]at hs ⊢;rw[zipIdx_cons,Ld,ih (a.setIfInBounds (sa+n) x) sa (n+1) (by simp;lia)]
  by_cases h1:i=sa+n
  ·subst h1
   rw[if_neg #[0],if_pos #[0]]
   simp[show sa+n < a.size by lia]
  ·by_cases h2:sa+n<=i/\i < sa+n+(m.length+1)
   ·rw[if_pos h2,if_pos #[0],show i - (sa+n)=(i - (sa+(n+1)))+1 by lia,getElem?_cons_succ]
   ·rw[if_neg h2,if_neg #[0],Le #[0]]
theorem QCc(m:List Ix)(a:Array Ix)(sa:Nat)(h:sa+m.length<=a.size):(m.zipIdx.foldl (λa (x:Ix×Nat)=>a.setIfInBounds (sa+x.2) x.1) a).toList=a.toList.take sa++m++a.toList.drop (sa+m.length):=by
 apply Lf
 intro i;have e:=Yhb m a sa 0 #[0] i
 rw[OE,e]
 simp only[IZ];rw[IJ]
 by_cases h1:i < sa
 ·rw[if_neg #[0],Oi (by simp;lia),getElem?_take_of_lt h1];simp
 ·rw[Oh (by simp;lia)]
  have e2:(a.toList.take sa).length=sa:=by simp;lia
  rw[e2]
  by_cases h2:i < sa+m.length
  ·rw[if_pos #[0],Oi #[0]]
  ·rw[if_neg #[0],Oh #[0],getElem?_drop,OE]
   congr 1;lia
end
section
variable{prog:Vg}{w:Vb}{A:VF}{E:YQ_}{s:VG}{κ:Iz}{rk:Ix->Nat}{S:Ix->Prop}
theorem Jzc{M:VT}{σ:Type}{v st:σ}{Q:PUnit->σ->Prop}(h:Q ⟨⟩ v):wpS M A E s (set v:StateT σ Sem PUnit) Q st:=by
 unfold wpS;rw[StateT.run_set];exact Ui ⟨rfl,h⟩
theorem Jgb(L:Zea prog w A E s κ rk S){st:Iy}{i sa na p nb q:Nat}{Q:Bool->Iy->Prop}(hk:kindOf st=κ)(hf:IS st=Vo)(hS:∀ x∈IC st,S x)(aZ:(IR st)[i]?=some (sa,na,p))(bD:(IR st)[i+1]?=some (sa+na,nb,q))
 (ud:0 < na) (nb0:0 < nb) (hsz:sa+na+nb<=(IC st).size) (uA:Up rk (IC st) sa (sa+na)) (uB:Up rk (IC st) (sa+na) (sa+na+nb))
 (h:∀ a' g,Ch rk sa (sa+na+nb) (IC st) a'->Up rk a' sa (sa+na+nb)->Q true (IQ κ a' (((IR st).setIfInBounds i (sa,na+nb,p)).eraseIdxIfInBounds (i+1)) g Vo)):wpS (VW prog w) A E s (mergeAt' i) Q st:=by
 rcases st with ⟨kd,a,gU,g0,f0⟩
 change kd=κ at hk;change f0=Vo at hf;change ∀ x∈a,S x at hS;change gU[i]?=some (sa,na,p) at aZ;change gU[i+1]?=some (sa+na,nb,q) at bD;change sa+na+nb<=a.size at hsz;change Up rk a sa (sa+na) at uA;change Up rk a (sa+na) (sa+na+nb) at uB;change ∀ a' g,Ch rk sa (sa+na+nb) a a'->Up rk a' sa (sa+na+nb)->Q true (IQ κ a' ((gU.setIfInBounds i (sa,na+nb,p)).eraseIdxIfInBounds (i+1)) g Vo) at h;subst hk hf;refine ID (IE ?_)
 have e1:(gU[i]?,gU[i+1]?)=(some (sa,na,p),some (sa+na,nb,q)):=by rw[aZ,bD]
 dsimp only;rw[e1];dsimp only;generalize (gU.setIfInBounds i (sa,na+nb,p)).eraseIdxIfInBounds (i+1)=pd at h ⊢;have gW:sa+na < a.size:=by lia
 have kk:∀ (x:Array Ix) (pd:Array (Nat×Nat×Nat)) (g:Nat) (f:Option Va),kindOf (IQ kd x pd g f)=kd:=λ_ _ _ _=>rfl
 refine ID (Jzc (ID (QE gW (ID (Xlc L (kk _ _ _ _) hS (hS _ (IF gW)) #[0] ud (λi j h1 h2 h3=>uA i j h1 h2 h3) λk iR q1 q2=>?_)))))
 rw[<- Q0 (rk:=rk) gW]at q1 q2;dsimp only
 by_cases hn:na - k=0
 ·rw[if_pos (by simpa using hn)]
  refine IA (h a _ Ch.refl λi j h1 h2 h3=>?_)
  by_cases hj:j < sa+na
  ·exact uA i j h1 h2 hj
  ·by_cases hi:i < sa+na
   ·have z:=q1 (i - sa) #[0]
    rw[show sa+(i - sa)=i by lia]at z
    exact VI z (uB (sa+na) j (Ut _) #[0] h3)
   ·exact uB i j #[0] h2 h3
 rw[if_neg (by simpa using hn)]
 have mF:sa+k+(na - k) - 1 < a.size:=by lia
 refine ID (QE mF (ID (Xmc L (kk _ _ _ _) hS (hS _ (IF mF)) #[0] #[0] (λi j h1 h2 h3=>uB i j h1 h2 h3) λbg hkn' q3 q4=>?_)))
 rw[<- Q0 (rk:=rk) mF,show sa+k+(na - k) - 1=sa+na - 1 by lia]at q3 q4
 dsimp only
 by_cases eX:bg=0
 ·rw[if_pos (by simpa using eX)]
  refine IA (h a _ Ch.refl λi j h1 h2 h3=>?_)
  by_cases hj:j < sa+na
  ·exact uA i j h1 h2 hj
  ·by_cases hi:i < sa+na
   ·have z:=q4 (j - (sa+na)) #[0] #[0]
    rw[show sa+na+(j - (sa+na))=j by lia]at z
    exact VI (uA i (sa+na - 1) h1 #[0] #[0]) z
   ·exact uB i j #[0] h2 h3
 rw[if_neg (by simpa using eX)]
 have xs:(a.extract (sa+k) (sa+na)).size=na - k:=by rw[Lc];lia
 have ys:(a.extract (sa+na) (sa+na+bg)).size=bg:=by rw[Lc];lia
 have px:Rs rk (a.extract (sa+k) (sa+na)).toList:=Up.rs (λi j h1 h2 h3=>uA i j #[0] h2 h3) #[0]
 have py:Rs rk (a.extract (sa+na) (sa+na+bg)).toList:=Up.rs (λi j h1 h2 h3=>uB i j h1 h2 #[0]) #[0]
 have sx:∀ x∈a.extract (sa+k) (sa+na),S x:=λx hx=>hS x (Ygb hx)
 have sy:∀ x∈a.extract (sa+na) (sa+na+bg),S x:=λx hx=>hS x (Ygb hx)
 have h0:K rk (a.extract (sa+na) (sa+na+bg)) 0 < K rk (a.extract (sa+k) (sa+na)) 0:=by
  rw[Yfb #[0] #[0],Yfb #[0] #[0]]
  exact q2 k (Ut _) #[0]
 have hl:∀ i,i < (a.extract (sa+na) (sa+na+bg)).size->K rk (a.extract (sa+na) (sa+na+bg)) i < K rk (a.extract (sa+k) (sa+na)) ((a.extract (sa+k) (sa+na)).size - 1):=λi hi=>by
  rw[ys]at hi;rw[xs,Yfb #[0] #[0],Yfb #[0] #[0],show sa+k+(na - k - 1)=sa+na - 1 by lia]
  exact q3 i hi
 have fin:∀ (m:Array Ix) (g:Nat),m.toList.Perm ((a.extract (sa+k) (sa+na)).toList++(a.extract (sa+na) (sa+na+bg)).toList)->Rs rk m.toList ->
  Q true (IQ kd (m.toList.zipIdx.foldl (λa (x:Ix×Nat)=>a.setIfInBounds (sa+k+x.2) x.1) a) pd g Vo):=λm g pm rm=>by
  have ml:m.toList.length=na - k+bg:=by rw[pm.length_eq,On,V7,V7,xs,ys]
  have gl:=QCc m.toList a (sa+k) #[0]
  have gg:=Yhb m.toList a (sa+k) 0 #[0]
  simp only[IZ]at gg;generalize hb:m.toList.zipIdx.foldl (λa (x:Ix×Nat)=>a.setIfInBounds (sa+k+x.2) x.1) a=b at gl gg ⊢
  have out:∀ j,j < sa+k\/sa+na+bg<=j->K rk b j=K rk a j:=λj hj=>Jdb (by rw[gg j,if_neg #[0]])
  have ins:∀ j,sa+k<=j->j < sa+na+bg->K rk b j=K rk m (j - (sa+k)):=λj h1 h2=>Jdb (by rw[gg j,if_pos #[0],OE])
  have pW:∀ j,sa+k<=j->j < sa+na+bg->K rk a (sa+na)<=K rk b j/\K rk b j<=K rk a (sa+na - 1):=λj h1 h2=>by
   have hm:j - (sa+k) < m.size:=by rw[<- V7,ml];lia
   rw[ins j h1 h2,Q0 hm];have uf:=pm.mem_iff.mp (Array.mem_toList_iff.mpr (IF hm))
   rcases mem_append.mp uf with hx | hx
   ·obtain⟨t,ht,e⟩:=IP hx
    rw[V7,xs]at ht;have e':rk m[j - (sa+k)]=K rk a (sa+k+t):=by
     rw[<- e,Q0 #[0]];simp
    rw[e'];exact⟨VJ (by have:=q2 (k+t) #[0] #[0];rwa [<- Lg]at this),uA _ _ #[0] #[0] #[0]⟩
   ·obtain⟨t,ht,e⟩:=IP hx
    rw[V7,ys]at ht;have e':rk m[j - (sa+k)]=K rk a (sa+na+t):=by
     rw[<- e,Q0 #[0]];simp
    rw[e'];exact⟨uB _ _ #[0] #[0] #[0],VJ (q3 t ht)⟩
  refine h b g ⟨Array.perm_iff_toList_perm.mpr ?_,λj hj=>out j #[0]⟩ λi j h1 h2 h3=>?_
  ·rw[gl,ml]
   have ea:a.toList=a.toList.take (sa+k)++((a.extract (sa+k) (sa+na)).toList++(a.extract (sa+na) (sa+na+bg)).toList)++a.toList.drop (sa+k+(na - k+bg)):=by
    rw[JE,JE,IJ,IJ];rw[show sa+na+bg - (sa+na)=bg by lia,show sa+k+(na - k+bg)=sa+na+bg by lia,<- JQa a.toList (sa+na) bg,<- Q2b (show sa+k<=sa+na by lia),II]
   exact((pm.append_left _).append_right _).trans (List.Perm.of_eq ea.symm)
  ·by_cases ci:i < sa+k
   ·rw[out i #[0]]
    have z:=q1 (i - sa) #[0]
    rw[show sa+(i - sa)=i by lia]at z
    by_cases cj:j < sa+k
    ·rw[out j #[0]];exact uA i j h1 h2 #[0]
    ·by_cases cj2:j < sa+na+bg
     ·exact VI z (pW j #[0] cj2).1
     ·rw[out j #[0]]
      exact VI z (uB _ _ #[0] #[0] h3)
   ·by_cases ci2:i < sa+na+bg
    ·by_cases cj2:j < sa+na+bg
     ·rw[ins i #[0] ci2,ins j #[0] cj2]
      exact rm.le #[0] (by rw[<- V7,ml];lia)
     ·rw[out j #[0]]
      have z:=q4 (j - (sa+na)) #[0] #[0]
      rw[show sa+na+(j - (sa+na))=j by lia]at z
      exact VI (pW i #[0] ci2).2 z
    ·rw[out i #[0],out j #[0]]
     exact uB i j #[0] h2 h3
 split
 ·refine ID (Jeb L (kk _ _ _ _) sx sy #[0] #[0] px py (VJ h0) hl λm g pm rm=>?_)
  exact ID (IY (ID (IE (IA (fin m g pm rm)))))
 ·refine ID (Jfb L (kk _ _ _ _) sx sy #[0] #[0] px py h0 hl λm g pm rm=>?_)
  exact ID (IY (ID (IE (IA (fin m g pm rm)))))
end
end SortB
end
section
namespace SortB
open PySem PySem.W PyProof.Rows
section
variable{prog:Vg}{w:Vb}{A:VF}{E:YQ_}{s:VG}{κ:Iz}{rk:Ix->Nat}{S:Ix->Prop}
abbrev mk(κ:Iz)(a:Array Ix)(pd:Array (Nat×Nat×Nat))(g:Nat):Iy:=IQ κ a pd g Vo
theorem Xbb(L:Zea prog w A E s κ rk S){a:Array Ix}{pd:Array (Nat×Nat×Nat)}{g i j:Nat}{Q:Option Bool->Iy->Prop}(hS:∀ x∈a,S x)(hi:i < a.size)(hj:j < a.size)
 (h:Q (some (decide (K rk a i < K rk a j))) (mk κ a pd g)):wpS (VW prog w) A E s (ltAt' i j) Q (mk κ a pd g):=Xkc L rfl hS hi hj h
theorem X2a{a:Array Ix}{pd:Array (Nat×Nat×Nat)}{g i j:Nat}{Q:Unit->Iy->Prop}(h:Q () (mk κ (mirror a i j ((j - i) / 2)) pd g)):wpS (VW prog w) A E s (reverseSlice' i j) Q (mk κ a pd g):=IY h
def Dn(rk:Ix->Nat)(a:Array Ix)(lo hi:Nat):Prop:=∀ i j,lo<=i->i<=j->j < hi->K rk a j<=K rk a i
theorem Up.step{a:Array Ix}{lo n:Nat}(u:Up rk a lo (lo+n))(hn:1<=n)(h:¬ K rk a (lo+n) < K rk a (lo+n - 1)):Up rk a lo (lo+(n+1)):=λi j h1 h2 h3=>by
 by_cases hj:j < lo+n
 ·exact u i j h1 h2 hj
 ·have:j=lo+n:=by lia
  subst this
  by_cases hi:i=lo+n
  ·rw[hi];exact Ut _
  ·have:=u i (lo+n - 1) h1 #[0] #[0];lia
theorem Dn.step{a:Array Ix}{lo n:Nat}(u:Dn rk a lo (lo+n))(hn:1<=n)(h:K rk a (lo+n)<=K rk a (lo+n - 1)):Dn rk a lo (lo+(n+1)):=λi j h1 h2 h3=>by
 by_cases hj:j < lo+n
 ·exact u i j h1 h2 hj
 ·have:j=lo+n:=by lia
  subst this
  by_cases hi:i=lo+n
  ·rw[hi];exact Ut _
  ·have:=u i (lo+n - 1) h1 #[0] #[0];lia
theorem JRa{a:Array Ix}{i j:Nat}(hj:j<=a.size)(e:∀ k,i<=k->k < j->K rk a k=K rk a (j - 1))(k:Nat):K rk (mirror a i j ((j - i) / 2)) k=K rk a k:=by
 rw[Yeb hj]
 by_cases h:i<=k/\k < j
 ·rw[if_pos h,e _ #[0] #[0],e k h.1 h.2]
 ·rw[if_neg h]
theorem Q3b(L:Zea prog w A E s κ rk S){a:Array Ix}{pd:Array (Nat×Nat×Nat)}{g lo aK:Nat}{Q:Option Nat->Iy->Prop}(hS:∀ x∈a,S x)(h1:1<=aK)(hsz:lo+aK<=a.size)
 (h:∀ m b,1<=m->m<=aK->Ch rk lo (lo+aK) a b->Up rk b lo (lo+m)->Q (some m) (mk κ b pd g)):wpS (VW prog w) A E s (countRun' lo aK) Q (mk κ a pd g):=by
 have ll:lo+1 - 1=lo:=by lia
 refine ID (IG (IH (I:=λx c ag=>ag=mk κ a pd g/\c=(Vo,x)/\Up rk a lo (lo+x))
  (Q:=λc ag=>ag=mk κ a pd g/\∃ n,c=(Vo,n)/\1<=n/\n<=aK/\Up rk a lo (lo+n)/\(n=aK\/K rk a (lo+n) < K rk a (lo+n - 1))) ?step ?fin ⟨rfl,rfl,λi j h1 h2 h3=>by rw[show i=j by lia];exact Ut _⟩) ?post)
 case step =>
  rintro x c ag gX mG ⟨rfl,rfl,u⟩;dsimp only;refine ID (Xbb L hS #[0] #[0] ?_)
  by_cases hw:K rk a (lo+x) < K rk a (lo+x - 1)
  ·simp only[hw,decide_true,if_true]
   exact IA ⟨rfl,x,rfl,gX,by lia,u,.inr hw⟩
  ·simp only[hw,decide_false,Ie,if_false]
   exact IA ⟨rfl,rfl,u.step gX hw⟩
 case fin =>
  rintro c ag ⟨rfl,rfl,u⟩;have e:max 1 aK=aK:=by lia
  exact⟨rfl,_,rfl,by lia,by lia,u,.inl e⟩
 case post =>
  rintro c ag ⟨rfl,n,rfl,gY,cO,u,ug⟩;dsimp only
  by_cases hnn:n=aK
  ·rw[if_pos (by simpa using hnn)]
   exact IA (h n a gY cO Ch.refl u)
  rw[if_neg (by simpa using hnn)]
  have aA:=ug.resolve_left hnn
  suffices D:∀ b:Array Ix,Ch rk lo (lo+aK) a b->Dn rk b lo (lo+(n+1))->wpS (VW prog w) A E s _ Q (mk κ b pd g) by
   by_cases hg:n > 1
   ·rw[if_pos hg]
    refine ID (Xbb L hS #[0] #[0] ?_)
    by_cases hr:K rk a lo < K rk a (lo+n - 1)
    ·simp only[hr,decide_true,if_true]
     exact IA (h n a gY cO Ch.refl u)
    ·simp only[hr,decide_false,Ie,if_false]
     have eq:∀ k,lo<=k->k < lo+n->K rk a k=K rk a (lo+n - 1):=λk h1 h2=>by
      have a1:=u lo k (Ut _) h1 h2;have a2:=u k (lo+n - 1) h1 #[0] #[0]
      lia
     have rs:=JRa (rk:=rk) (a:=a) (i:=lo) (j:=lo+n) #[0] eq
     refine ID (X2a (D _ (Ch.rev #[0] (Ut _) #[0]) ?_))
     refine Dn.step (λi j h1 h2 h3=>?_) gY ?_
     ·rw[rs,rs,eq i h1 #[0],eq j #[0] h3];exact Ut _
     ·rw[rs,rs];exact VJ aA
   ·rw[if_neg hg]
    have:n=1:=by lia
    subst this;exact D a Ch.refl (Dn.step (λi j h1 h2 h3=>by rw[show i=j by lia];exact Ut _) (Ut _) (VJ aA))
  intro b cb db;refine ID (IV (IW ⟨rfl,?_⟩))
  refine ID (IG (IH (I:=λx c ag=>∃ b' q,c=(Vo,x,q)/\ag=mk κ b' pd g/\Ch rk lo (lo+aK) a b'/\Dn rk b' lo (lo+x)/\q+1<=x/\∀ i,lo+x - (q+1)<=i->i < lo+x->K rk b' i=K rk b' (lo+x - 1))
   (Q:=λc ag=>∃ b' n' q,c=(Vo,n',q)/\ag=mk κ b' pd g/\n'<=aK/\Ch rk lo (lo+aK) a b'/\Dn rk b' lo (lo+n')/\q+1<=n'/\∀ i,lo+n' - (q+1)<=i->i < lo+n'->K rk b' i=K rk b' (lo+n' - 1)) ?dstep ?dfin ⟨b,0,rfl,rfl,cb,db,by lia,λi h1 h2=>by congr 1;lia⟩) ?dpost)
  case dfin =>
   rintro c ag ⟨b',q,rfl,rfl,cb,db,hq,he⟩;exact⟨b',_,q,rfl,rfl,by lia,cb,db,hq,he⟩
  case dstep =>
   rintro x c ag gX mG ⟨b',q,rfl,rfl,cb,db,hq,he⟩;dsimp only;have bs:=cb.size;have aS:=cb.all hS;refine ID (Xbb L aS #[0] #[0] ?_)
   by_cases hw:K rk b' (lo+x) < K rk b' (lo+x - 1)
   ·simp only[hw,decide_true,if_true]
    have one:∀ (y:Array Ix) i,lo+(x+1) - (0+1)<=i->i < lo+(x+1)->K rk y i=K rk y (lo+(x+1) - 1):=λy i h1 h2=>by congr 1;lia
    by_cases hq0:q > 0
    ·rw[if_pos hq0]
     have rs:=JRa (rk:=rk) (a:=b') (i:=lo+x - (q+1)) (j:=lo+x) #[0] he
     refine ID (X2a (IA ⟨_,0,rfl,rfl,cb.trans (Ch.rev #[0] #[0] #[0]),?_,by lia,one _⟩))
     refine Dn.step (λi j h1 h2 h3=>?_) #[0] ?_
     ·rw[rs,rs];exact db i j h1 h2 h3
     ·rw[rs,rs];exact VJ hw
    ·rw[if_neg hq0]
     exact IA ⟨b',0,rfl,rfl,cb,db.step #[0] (VJ hw),by lia,one _⟩
   ·simp only[hw,decide_false,Ie,if_false]
    refine ID (Xbb L aS #[0] #[0] ?_)
    by_cases hv:K rk b' (lo+x - 1) < K rk b' (lo+x)
    ·simp only[hv,decide_true,if_true]
     exact IA ⟨b',x,q,rfl,rfl,by lia,cb,db,hq,he⟩
    ·simp only[hv,decide_false,Ie,if_false]
     have e2:K rk b' (lo+x)=K rk b' (lo+x - 1):=by lia
     refine IA ⟨b',q+1,rfl,rfl,cb,db.step #[0] #[0],by lia,λi h1 h2=>?_⟩
     rw[show lo+(x+1) - 1=lo+x by lia]
     by_cases hi:i=lo+x
     ·rw[hi]
     ·rw[e2];exact he i #[0] #[0]
  case dpost =>
   rintro c ag ⟨b',n',q,rfl,rfl,eX,cb,db,hq,he⟩;dsimp only;have bs:=cb.size
   suffices T:∀ c:Array Ix,Ch rk lo (lo+aK) a c->Dn rk c lo (lo+n')->wpS (VW prog w) A E s _ Q (mk κ c pd g) by
    by_cases hq0:q > 0
    ·rw[if_pos hq0]
     have rs:=JRa (rk:=rk) (a:=b') (i:=lo+n' - (q+1)) (j:=lo+n') #[0] he
     refine ID (X2a (T _ (cb.trans (Ch.rev #[0] #[0] #[0])) λi j h1 h2 h3=>?_))
     rw[rs,rs];exact db i j h1 h2 h3
    ·rw[if_neg hq0]
     exact T b' cb db
   intro c cc dc;have cs:=cc.size;refine ID (X2a ?_)
   have ce:Ch rk lo (lo+aK) a (mirror c lo (lo+n') ((lo+n' - lo) / 2)):=cc.trans (Ch.rev #[0] (Ut _) #[0])
   have ue:Up rk (mirror c lo (lo+n') ((lo+n' - lo) / 2)) lo (lo+n'):=λi j h1 h2 h3=>by
    rw[Yeb #[0],Yeb #[0],if_pos #[0],if_pos #[0]]
    exact dc _ _ #[0] #[0] #[0]
   generalize mirror c lo (lo+n') ((lo+n' - lo) / 2)=e at ce ue ⊢;have es:=ce.size;refine ID (IG (IH (I:=λx c ag=>ag=mk κ e pd g/\c=(Vo,x)/\Up rk e lo (lo+x))
    (Q:=λc ag=>ag=mk κ e pd g/\∃ n,c=(Vo,n)/\1<=n/\n<=aK/\Up rk e lo (lo+n)) ?estep ?efin ⟨rfl,rfl,ue⟩) ?epost)
   case estep =>
    rintro x c ag gX mG ⟨rfl,rfl,u⟩;dsimp only;refine ID (Xbb L (ce.all hS) #[0] #[0] ?_)
    by_cases hw:K rk e (lo+x) < K rk e (lo+x - 1)
    ·simp only[hw,decide_true,if_true]
     exact IA ⟨rfl,x,rfl,by lia,by lia,u⟩
    ·simp only[hw,decide_false,Ie,if_false]
     exact IA ⟨rfl,rfl,u.step #[0] hw⟩
   case efin =>
    rintro c ag ⟨rfl,rfl,u⟩;exact⟨rfl,_,rfl,by lia,by lia,u⟩
   case epost =>
    rintro c ag ⟨rfl,m,rfl,pY,cV,u⟩;exact IA (h m e pY cV ce u)
theorem YLa(L:Zea prog w A E s κ rk S){a:Array Ix}{pd:Array (Nat×Nat×Nat)}{g lo n ok:Nat}{Q:Bool->Iy->Prop}(hS:∀ x∈a,S x)(hsz:lo+n<=a.size)(hok:1<=ok)(hn:ok<=n)(u:Up rk a lo (lo+ok))
 (h:∀ b,Ch rk lo (lo+n) a b->Up rk b lo (lo+n)->Q true (mk κ b pd g)):wpS (VW prog w) A E s (binarySort' lo n ok) Q (mk κ a pd g):=by
 refine ID (IG (IH (I:=λx c ag=>c=(Vo,())/\∃ b,ag=mk κ b pd g/\Ch rk lo (lo+n) a b/\Up rk b lo (lo+x)) (Q:=λc ag=>c=(Vo,())/\∃ b,ag=mk κ b pd g/\Ch rk lo (lo+n) a b/\Up rk b lo (lo+n)) ?step ?fin ⟨rfl,a,rfl,Ch.refl,by rw[show max ok 1=ok by lia];exact u⟩) ?post)
 case fin =>
  rintro c ag ⟨rfl,b,rfl,cb,ub⟩;rw[show max (max ok 1) n=n by lia]at ub
  exact⟨rfl,b,rfl,cb,ub⟩
 case post =>
  rintro c ag ⟨rfl,b,rfl,cb,ub⟩;exact IA (h b cb ub)
 case step =>
  rintro k c ag gR gz ⟨rfl,b,rfl,cb,ub⟩;have bs:=cb.size;dsimp only;refine ID (IG (IH (I:=λx c ag=>ag=mk κ b pd g/\∃ l r,c=(Vo,l,r)/\l<=r/\r<=k/\r - l<=k - x/\(∀ i,lo<=i->i < lo+l->K rk b i<=K rk b (lo+k))/\∀ i,lo+r<=i->i < lo+k->K rk b (lo+k) < K rk b i)
   (Q:=λc ag=>ag=mk κ b pd g/\∃ l r,c=(Vo,l,r)/\l<=k/\(∀ i,lo<=i->i < lo+l->K rk b i<=K rk b (lo+k))/\∀ i,lo+l<=i->i < lo+k->K rk b (lo+k) < K rk b i) ?istep ?ifin ⟨rfl,0,k,rfl,by lia,by lia,by lia,λi h1 h2=>by lia,λi h1 h2=>by lia⟩) ?ipost)
  case ifin =>
   rintro c ag ⟨rfl,l,r,rfl,h1,h2,h3,h4,h5⟩;have:l=r:=by lia
   subst this;exact⟨rfl,l,l,rfl,h2,h4,h5⟩
  case istep =>
   rintro x c ag _ hx ⟨rfl,l,r,rfl,h1,h2,h3,h4,h5⟩;dsimp only
   by_cases hge:l >= r
   ·rw[if_pos hge]
    have:l=r:=by lia
    subst this;exact IA ⟨rfl,l,l,rfl,h2,h4,h5⟩
   ·rw[if_neg hge]
    refine ID (Xbb L (cb.all hS) #[0] #[0] ?_)
    by_cases hw:K rk b (lo+k) < K rk b (lo+(l+r) / 2)
    ·simp only[hw,decide_true,if_true]
     exact IA ⟨rfl,l,_,rfl,by lia,by lia,by lia,h4,λi a1 a2=>Vy hw (ub _ i #[0] a1 a2)⟩
    ·simp only[hw,decide_false,Ie,if_false]
     exact IA ⟨rfl,_,r,rfl,by lia,by lia,by lia,λi a1 a2=>VI (ub i (lo+(l+r) / 2) a1 #[0] #[0]) (Nat.not_lt.mp hw),h5⟩
  case ipost =>
   rintro c ag ⟨rfl,l,r,rfl,h1,h4,h5⟩;have e:lo+k - (lo+k - (lo+l))=lo+l:=by lia
   refine ID (IY (IA ⟨rfl,bubble b (lo+k) (lo+k - (lo+l)),rfl,cb.trans (Ch.bub #[0] #[0] #[0] #[0]),λi j a1 a2 a3=>?_⟩))
   rw[QBc #[0] #[0],QBc #[0] #[0],e]
   by_cases i1:i=lo+l
   ·rw[if_pos i1]
    by_cases j1:j=lo+l
    ·rw[if_pos j1];exact Ut _
    ·rw[if_neg j1,if_pos #[0]]
     exact VJ (h5 _ #[0] #[0])
   ·rw[if_neg i1]
    by_cases i2:lo+l < i/\i<=lo+k
    ·rw[if_pos i2,if_neg #[0],if_pos #[0]]
     exact ub _ _ #[0] #[0] #[0]
    ·rw[if_neg i2]
     by_cases j1:j=lo+l
     ·rw[if_pos j1];exact h4 i a1 #[0]
     ·rw[if_neg j1]
      by_cases j2:lo+l < j/\j<=lo+k
      ·rw[if_pos j2];exact ub _ _ #[0] #[0] #[0]
      ·rw[if_neg j2];exact ub _ _ #[0] #[0] #[0]
end
end SortB
end
section
namespace SortB
open PySem PySem.W PyProof.Rows
def Cov(rk:Ix->Nat)(a:Array Ix):List (Nat×Nat×Nat)->Nat->Nat->Prop
 | [],lo,hi=>lo=hi
 | (s,n,_)::r,lo,hi=>s=lo/\0 < n/\Up rk a lo (lo+n)/\Cov rk a r (lo+n) hi
section
variable{rk:Ix->Nat}{a b:Array Ix}{l r:List (Nat×Nat×Nat)}{lo hi gE:Nat}
theorem Cov.le:∀ {l:List (Nat×Nat×Nat)} {lo hi:Nat},Cov rk a l lo hi->lo+l.length<=hi
 | [],lo,hi,h=>by have:lo=hi:=h;simp;lia
 | (s,n,p)::r,lo,hi,h=>by
  obtain⟨_,h1,_,h2⟩:=h;have:=Cov.le h2;rw[UG];lia
theorem Cov.app:∀ {l:List (Nat×Nat×Nat)} {lo:Nat},Cov rk a (l++r) lo hi↔∃ gE,Cov rk a l lo gE/\Cov rk a r gE hi
 | [],lo=>⟨λh=>⟨lo,rfl,h⟩,λ⟨m,e,h⟩=>by have:lo=m:=e;subst this;exact h⟩
 | (s,n,p)::l,lo=>by
  show(s=lo/\0 < n/\Up rk a lo (lo+n)/\Cov rk a (l++r) (lo+n) hi)↔∃ gE,(s=lo/\0 < n/\Up rk a lo (lo+n)/\Cov rk a l (lo+n) gE)/\Cov rk a r gE hi;rw[Cov.app];exact⟨λ⟨a1,a2,a3,m,a4,a5⟩=>⟨m,⟨a1,a2,a3,a4⟩,a5⟩,λ⟨m,⟨a1,a2,a3,a4⟩,a5⟩=>⟨a1,a2,a3,m,a4,a5⟩⟩
theorem Cov.ext:∀ {l:List (Nat×Nat×Nat)} {lo:Nat},Cov rk a l lo hi->(∀ j,lo<=j->j < hi->K rk b j=K rk a j)->Cov rk b l lo hi
 | [],_,h,_=>h
 | (s,n,p)::l,lo,h,e=>by
  obtain⟨a1,a2,a3,a4⟩:=h;have:=Cov.le a4;exact⟨a1,a2,a3.ext λi h1 h2=>e i h1 #[0],a4.ext λj h1 h2=>e j #[0] h2⟩
theorem Cov.pow:∀ {l l':List (Nat×Nat×Nat)} {lo:Nat},l.map (λx=>(x.1,x.2.1))=l'.map (λx=>(x.1,x.2.1))->Cov rk a l lo hi->Cov rk a l' lo hi
 | [],[],_,_,h=>h
 | [],_::_,_,e,_=>by simp at e
 | _::_,[],_,e,_=>by simp at e
 | (s,n,p)::l,(s',n',p')::l',lo,e,h=>by
  simp only[UM,Lh,Prod.mk.injEq]at e;obtain⟨⟨rfl,rfl⟩,e⟩:=e;obtain⟨a1,a2,a3,a4⟩:=h;exact⟨a1,a2,a3,Cov.pow e a4⟩
theorem Xnc{l:List (Nat×Nat×Nat)}{i:Nat}(h:i+1 < l.length):l=l.take i++l[i]::l[i+1]::l.drop (i+2):=by
 have e1:l.drop i=l[i]::l.drop (i+1):=IN #[0]
 have e2:l.drop (i+1)=l[i+1]::l.drop (i+1+1):=IN h;rw[<- e2,<- e1,II]
theorem Qld{pd:Array (Nat×Nat×Nat)}{i:Nat}{v:Nat×Nat×Nat}(h:i+1 < pd.size):((pd.setIfInBounds i v).eraseIdxIfInBounds (i+1)).toList=pd.toList.take i++v::pd.toList.drop (i+2):=by
 have hs:i+1 < (pd.setIfInBounds i v).size:=by simpa using h
 rw[Array.eraseIdxIfInBounds_eq,dif_pos hs,Array.toList_eraseIdx,Array.toList_setIfInBounds,eraseIdx_eq_take_drop_succ];rw[set_eq_take_append_cons_drop,if_pos (by simp;lia)]
 have e1:(pd.toList.take i).length=i:=by simp;lia
 rw[take_append,drop_append,e1,IL #[0],drop_of_length_le (by lia:(pd.toList.take i).length<=i+1+1)]
 rw[show i+1 - i=1 by lia,show i+1+1 - i=2 by lia]
 simp
end
section
variable{prog:Vg}{w:Vb}{A:VF}{E:YQ_}{s:VG}{κ:Iz}{rk:Ix->Nat}{S:Ix->Prop}
theorem JSa(L:Zea prog w A E s κ rk S){b:Array Ix}{pd:Array (Nat×Nat×Nat)}{g i hi:Nat}{Q:Bool->Iy->Prop}(hS:∀ x∈b,S x)(hsz:hi<=b.size)(cv:Cov rk b pd.toList 0 hi)(dI:i+1 < pd.size)
 (h:∀ c gF g',Ch rk 0 hi b c->Cov rk c gF.toList 0 hi->gF.size+1=pd.size->Q true (mk κ c gF g')):wpS (VW prog w) A E s (mergeAt' i) Q (mk κ b pd g):=by
 have hl:i+1 < pd.toList.length:=by simpa using dI
 have sp:=Xnc hl;rw[sp]at cv;obtain⟨gE,c1,c2⟩:=Cov.app.mp cv;have g1:pd[i]?=some pd.toList[i]:=by simp[show i < pd.size by lia]
 have g2:pd[i+1]?=some pd.toList[i+1]:=by simp[dI]
 generalize pd.toList[i]=u at c2 g1 sp;generalize pd.toList[i+1]=v at c2 g2 sp;obtain⟨sa,na,p⟩:=u;obtain⟨sb,nb,q⟩:=v;obtain⟨rfl,n1,u1,rfl,n2,u2,c3⟩:=c2;have le3:=c3.le;refine Jgb L rfl rfl hS g1 g2 n1 n2 (by show sa+na+nb<=b.size;lia) u1 u2 λc g' ch up=>h c _ g' (ch.mono (Ux _) #[0]) ?_ ?_
 ·show Cov rk c ((pd.setIfInBounds i (sa,na+nb,p)).eraseIdxIfInBounds (i+1)).toList 0 hi
  rw[Qld dI];have pZ:=c1.le;refine Cov.app.mpr ⟨sa,c1.ext λj h1 h2=>ch.out j #[0],rfl,by lia,?_,?_⟩
  ·rw[<- Lg];exact up
  ·rw[<- Lg];exact c3.ext λj h1 h2=>ch.out j #[0]
 ·show((pd.setIfInBounds i (sa,na+nb,p)).eraseIdxIfInBounds (i+1)).size+1=pd.size
  rw[<- V7,Qld dI];simp
  lia
theorem Q4b(L:Zea prog w A E s κ rk S){a:Array Ix}{g:Nat}{Q:Unit->Iy->Prop}(hS:∀ x∈a,S x)(h2:2<=a.size)
 (h:∀ b pd g,b.Perm a->Up rk b 0 a.size->Q () (mk κ b pd g)):wpS (VW prog w) A E s sortRuns' Q (mk κ a #[] g):=by
 have gG:∀ b pd g,IR (mk κ b pd g)=pd:=λ_ _ _=>rfl
 rw[sortRuns'_eq];refine ID (IE ?_)
 dsimp only;rw[show IC (mk κ a #[] g)=a from rfl]
 generalize minRun' a.size a.size 0=mr;refine ID (IG (IH (I:=λx c ag=>∃ lo b pd g,c=(Vo,lo)/\ag=mk κ b pd g/\b.Perm a/\lo<=a.size/\x<=lo/\Cov rk b pd.toList 0 lo)
  (Q:=λc ag=>∃ b pd g,c=(Vo,a.size)/\ag=mk κ b pd g/\b.Perm a/\Cov rk b pd.toList 0 a.size) ?step ?fin ⟨0,a,#[],g,rfl,rfl,Array.Perm.refl _,by lia,by lia,rfl⟩) ?post)
 case fin =>
  rintro c ag ⟨lo,b,pd,g,rfl,rfl,pb,h1,h3,cv⟩;have:lo=a.size:=by lia
  subst this;exact⟨b,pd,g,rfl,rfl,pb,cv⟩
 case post =>
  rintro c ag ⟨b,pd,g,rfl,rfl,pb,cv⟩;dsimp only;have ar:pd.size<=a.size:=by have:=cv.le;simpa using this
  refine ID (IG (IH (I:=λx c ag=>c=(Vo,())/\∃ b pd g,ag=mk κ b pd g/\b.Perm a/\Cov rk b pd.toList 0 a.size/\pd.size+x<=a.size) (Q:=λc ag=>c=(Vo,())/\∃ b pd g,ag=mk κ b pd g/\b.Perm a/\Cov rk b pd.toList 0 a.size/\pd.size<=1) ?lstep ?lfin ⟨rfl,b,pd,g,rfl,pb,cv,ar⟩) ?lpost)
  case lfin =>
   rintro c ag ⟨rfl,b,pd,g,rfl,pb,cv,hx⟩;exact⟨rfl,b,pd,g,rfl,pb,cv,by lia⟩
  case lpost =>
   rintro c ag ⟨rfl,b,pd,g,rfl,pb,cv,hx⟩;refine IA (h b pd g pb ?_)
   have bp:pd.toList.length<=1:=by simpa using hx
   match cG:pd.toList,bp,cv with
   | [],_,cv=>have:0=a.size:=cv;lia
   | [(s0,n0,p0)],_,cv =>
    obtain⟨e1,_,u,e2⟩:=cv;have e2:0+n0=a.size:=e2;rw[<- e2];exact u
   | _::_::_,bp,_=>simp at bp
  case lstep =>
   rintro x c ag _ hx ⟨rfl,b,pd,g,rfl,pb,cv,mG⟩;refine ID (IE ?_)
   rw[gG]
   by_cases hs:pd.size<=1
   ·rw[if_pos hs]
    exact IA ⟨rfl,b,pd,g,rfl,pb,cv,hs⟩
   rw[if_neg hs];refine ID (JSa L (λx hx=>hS x (pb.mem_iff.mp hx)) (by rw[pb.size_eq];exact Ut _) cv ?_ λc gF g' ch mH hsz=>?_)
   ·have ui:∀ (c:Bool) (i:Nat),(if c=true then i - 1 else i)<=i:=λc i=>by cases c <;> simp
    exact OI (Nat.add_le_add_right (ui _ _) 1) #[0]
   ·exact IA ⟨rfl,c,gF,g',rfl,ch.perm.trans pb,mH,by lia⟩
 case step =>
  rintro x c ag _ hx ⟨lo,b,pd,g,rfl,rfl,pb,h1,h3,cv⟩;dsimp only
  by_cases hge:lo >= a.size
  ·rw[if_pos hge]
   have:lo=a.size:=by lia
   subst this;exact IA ⟨b,pd,g,rfl,rfl,pb,cv⟩
  rw[if_neg hge];have bsz:=pb.size_eq
  suffices T:∀ (n:Nat) (b:Array Ix),1<=n->lo+n<=a.size->b.Perm a->Cov rk b pd.toList 0 lo->Up rk b lo (lo+n)->wpS (VW prog w) A E s _ _ (mk κ b pd g) by
   refine ID (Q3b L (λx hx=>hS x (pb.mem_iff.mp hx)) #[0] #[0] λdm b1 f1 f2 p5 up1=>?_)
   dsimp only;have kF:b1.Perm a:=p5.perm.trans pb;have p6:Cov rk b1 pd.toList 0 lo:=cv.ext λj _ h=>p5.out j #[0]
   by_cases hm:¬ dm < mr
   ·rw[if_neg hm]
    exact T dm b1 f1 #[0] kF p6 up1
   ·have hm:dm < mr:=by lia
    rw[if_pos hm];refine ID (IV (IW ⟨rfl,?_⟩))
    have bsz1:=kF.size_eq;refine ID (YLa L (λx hx=>hS x (kF.mem_iff.mp hx)) #[0] f1 #[0] up1 λb2 p7 uj=>?_)
    rw[if_neg #[2]]
    exact T _ b2 #[0] #[0] (p7.perm.trans kF) (p6.ext λj _ h=>p7.out j #[0]) uj
  clear cv pb bsz;intro n b gY cO pb cv up;have bsz:=pb.size_eq;refine ID (IE ?_)
  rw[gG];cases hb:pd.back? with
  | none =>
   dsimp only;refine ID (IY (IA ⟨lo+n,b,pd.push (lo,n,0),g,rfl,rfl,pb,cO,by lia,?_⟩))
   rw[IU];exact Cov.app.mpr ⟨lo,cv,rfl,gY,up,rfl⟩
  | some q =>
   obtain⟨s1,n1,p1⟩:=q;dsimp only;generalize power' a.size (2 * s1+n1) (2 * s1+n1+n1+n) a.size=pw;refine ID (IG (IH (I:=λy c ag=>c=(Vo,())/\∃ b pd g,ag=mk κ b pd g/\b.Perm a/\Cov rk b pd.toList 0 lo/\Up rk b lo (lo+n)) (Q:=λc ag=>c=(Vo,())/\∃ b pd g,ag=mk κ b pd g/\b.Perm a/\Cov rk b pd.toList 0 lo/\Up rk b lo (lo+n)) ?mstep (λ_ _ z=>z) ⟨rfl,b,pd,g,rfl,pb,cv,up⟩) ?mpost)
   case mstep =>
    rintro y c ag _ _ ⟨rfl,b,pd,g,rfl,pb,cv,up⟩;refine ID (IE ?_)
    rw[gG];have bsz:=pb.size_eq
    by_cases hs:pd.size > 1
    ·rw[if_pos hs]
     cases hq:pd[pd.size - 2]? with
     | none=>exact IA ⟨rfl,b,pd,g,rfl,pb,cv,up⟩
     | some q =>
      obtain⟨s2,n2,p2⟩:=q;dsimp only
      by_cases ho:p2<=pw
      ·rw[if_pos ho]
       exact IA ⟨rfl,b,pd,g,rfl,pb,cv,up⟩
      ·rw[if_neg ho]
       refine ID (JSa L (λx hx=>hS x (pb.mem_iff.mp hx)) #[0] cv #[0] λc gF g' ch mH hsz=>?_)
       rw[if_neg #[2]]
       exact IA ⟨rfl,c,gF,g',rfl,ch.perm.trans pb,mH,up.ext λi h1 h2=>ch.out i #[0]⟩
    ·rw[if_neg hs]
     exact IA ⟨rfl,b,pd,g,rfl,pb,cv,up⟩
   case mpost =>
    rintro c ag ⟨rfl,b,pd,g,rfl,pb,cv,up⟩;dsimp only;refine ID (IY (ID (IY (IA ⟨lo+n,b,_,g,rfl,rfl,pb,cO,by lia,?_⟩))))
    show Cov rk b ((pd.modify (pd.size - 1) λx=>(x.1,x.2.1,pw)).push (lo,n,0)).toList 0 (lo+n)
    rw[IU];refine Cov.app.mpr ⟨lo,Cov.pow ?_ cv,rfl,gY,up,rfl⟩
    rw[Array.toList_modify]
    apply Lf
    intro i;rw[Oj,Oj,getElem?_modify]
    cases pd.toList[i]? with
    | none=>rfl
    | some v=>simp only[OM];split <;> rfl
end
end SortB
end
section
namespace SortB
open PySem PySem.W PyProof.Rows
theorem Xcb{α β:Type}{f:α->β}{l' m:List β}(p:l'.Perm m):∀ l:List α,m=l.map f->∃ q:List α,q.Perm l/\l'=q.map f:=by
 induction p with
 | nil=>intro l e;exact⟨[],by rw[map_eq_nil_iff.mp e.symm],rfl⟩
 | cons x p ih =>
  intro l e;cases l with
  | nil=>simp at e
  | cons a l =>
   simp only[UM,Lh]at e;obtain⟨q,hq,rfl⟩:=ih l e.2;exact⟨a::q,hq.cons a,by rw[UM,e.1]⟩
 | swap x y l0 =>
  intro l e
  match l,e with
  | a::b::l,e =>
   simp only[UM,Lh]at e;exact⟨b::a::l,Li a b l,by rw[UM,UM,e.1,e.2.1,e.2.2]⟩
 | trans p1 p2 ih1 ih2 =>
  intro l e;obtain⟨q2,h2,e2⟩:=ih2 l e;obtain⟨q1,h1,e1⟩:=ih1 q2 e2;exact⟨q1,h1.trans h2,e1⟩
open Classical in
noncomputable def JAc (it:Nat->Ix) (n:Nat) (r:Nat->Nat) (x:Ix):Nat:=if h:∃ i,i < n/\it i=x then r h.choose else 0
theorem X3a{it:Nat->Ix}{n:Nat}{r:Nat->Nat}(hw:∀ i j,i < n->j < n->it i=it j->r i=r j){i:Nat}(hi:i < n):JAc it n r (it i)=r i:=by
 unfold JAc;have h:∃ j,j < n/\it j=it i:=⟨i,hi,rfl⟩;rw[dif_pos h];exact hw _ _ h.choose_spec.1 hi h.choose_spec.2
section
variable{prog:Vg}{w:Vb}{A:VF}{E:YQ_}{s:VG}{κ:Iz}{ks vs:List Va}{r:Nat->Nat}
theorem X4a(hl:ks.length=vs.length)(h2:2<=vs.length)(hc:∀ i j (C:Bool->VG->Prop),i < vs.length->j < vs.length->C (decide (r i < r j)) s->Lj prog w A κ ks i j C s)
 (hw:∀ i j,i < vs.length->j < vs.length->ks.getD i Vi=ks.getD j Vi->r i=r j) :
 VV (VW prog w) A (sortRuns'.run (IQ κ (ks.toArray.zip vs.toArray) #[] 7 Vo)) (λx s'=>∃ p:Array Nat,IC x.2=p.map (Lk (ks.toArray.zip vs.toArray))/\IS x.2=Vo/\s'=s/\SortT.Ok vs.length p/\SortT.Up r p vs.length) E s:=by
 have it:∀ i,Lk (ks.toArray.zip vs.toArray) i=(ks.getD i Vi,vs.getD i Vi):=kat_item hl;have sz:(ks.toArray.zip vs.toArray).size=vs.length:=by simp[hl]
 have rng:=kas_range (ks.toArray.zip vs.toArray);rw[sz]at rng;have al:(ks.toArray.zip vs.toArray).toList=(VB vs.length).map (Lk (ks.toArray.zip vs.toArray)):=by
  have:=congrArg Array.toList rng;rw[Ll]at this;exact this.symm
 have mI:∀ i j,i < vs.length->j < vs.length->Lk (ks.toArray.zip vs.toArray) i=Lk (ks.toArray.zip vs.toArray) j->r i=r j:=λi j hi hj e=>by
  rw[it,it]at e;exact hw i j hi hj (Prod.mk.inj e).1
 have L:Zea prog w A E s κ (JAc (Lk (ks.toArray.zip vs.toArray)) vs.length r) (λx=>∃ i,i < vs.length/\Lk (ks.toArray.zip vs.toArray) i=x):=by
  rintro x y st Q hk ⟨i,hi,rfl⟩ ⟨j,hj,rfl⟩ hq;rw[X3a mI hi,X3a mI hj]at hq;rw[lt'_eq];refine ID (IE ?_)
  rw[hk,it,it];have:=hc i j (λb s'=>s'=s/\b=decide (r i < r j)) hi hj ⟨rfl,rfl⟩
  unfold Lj at this;refine ID (IV (Lm (V1 this (λb s' hb=>?_) λ_ _ z=>z.elim)))
  obtain⟨e1,e2⟩:=hb;subst e1 e2;exact⟨rfl,IA hq⟩
 have run:=Q4b L (a:=ks.toArray.zip vs.toArray) (g:=7) (Q:=λ_ ag=>∃ p:Array Nat,IC ag=p.map (Lk (ks.toArray.zip vs.toArray))/\IS ag=Vo/\SortT.Ok vs.length p/\SortT.Up r p vs.length) (λx hx=>?_) #[0] λb pd g pb up=>?_
 ·unfold wpS at run
  refine V1 run (λx s' hx=>?_) λ_ _ z=>z
  obtain⟨e,p,a1,a2,a3,a4⟩:=hx;exact⟨p,a1,a2,e,a3,a4⟩
 ·have:=Array.mem_toList_iff.mpr hx
  rw[al]at this;obtain⟨i,hi,e⟩:=mem_map.mp this;exact⟨i,mem_range.mp hi,e⟩
 ·have pl:=Array.perm_iff_toList_perm.mp pb
  obtain⟨q,hq,eq⟩:=Xcb pl _ al;have ql:q.length=vs.length:=by rw[hq.length_eq,Ln]
  have hb:b=q.toArray.map (Lk (ks.toArray.zip vs.toArray)):=by
   apply Array.toList_inj.mp
   rw[Ll,eq]
  refine⟨q.toArray,hb,rfl,⟨by rw[UC,ql],Array.perm_iff_toList_perm.mpr (by simpa using hq)⟩,λi j cr hj=>?_⟩
  have hu:=up i j (Ux _) cr #[0]
  have kk:∀ i,i < vs.length->K (JAc (Lk (ks.toArray.zip vs.toArray)) vs.length r) b i=SortT.K r q.toArray i:=λi hi=>by
   have bx:i < q.length:=by lia
   have pT:i < b.size:=by rw[hb];simp;lia
   rw[Q0 pT];have e1:b[i]=Lk (ks.toArray.zip vs.toArray) q[i]:=by simp[hb]
   have e2:q[i] < vs.length:=mem_range.mp (hq.mem_iff.mp (Lo bx));rw[e1,X3a mI e2];unfold SortT.K;simp[Array.getD,bx]
  rw[kk i #[0],kk j hj]at hu
  exact hu
end
end SortB
end
section
namespace L2
open PySem PySem.Spec PyProof.Rows PySem.W
theorem QDc{prog:Vg}{w:Vb}{A:VF}{s:VG}{Q:Bool->VG->Prop}{b:Bool}{r:Bool}(q:Q r s):∀ (xs ys:List V) (us ws:List Va) (i:Nat) (fin:Bool),Qt xs us->Qt ys ws->HT.JD xs ys=some r ->
 fin=decide (xs.length < ys.length)->(b=true->i=0->∀ x∈xs.head?,∃ n,x=V.int n)->KatLex prog w A b fin Q (us.zip ws) i s:=by
 intro xs
 induction xs with
 | nil =>
  intro ys us ws i fin rx ry hl hf hb;cases rx;cases ry with
  | nil=>rw[HT.Zca]at hl;cases hl;rw[hf];exact kat_nil q
  | cons c d=>rw[HT.Qua]at hl;cases hl;rw[hf];exact kat_nil (by simpa using q)
 | cons x xs ih =>
  intro ys us ws i fin rx ry hl hf hb;cases rx with
  | cons r1 rt =>
   rename_i u us;cases ry with
   | nil=>rw[HT.Qva]at hl;cases hl;rw[hf];exact kat_nil (by simpa using q)
   | cons r2 rt2 =>
    rename_i y w2 ys ws;rw[zip_cons_cons];have p8:fin=decide (xs.length < ys.length):=by rw[hf];simp
    cases x with
    | int m =>
     cases y with
     | int n =>
      obtain⟨t,rfl⟩:=r1;obtain⟨t2,rfl⟩:=r2;simp only[HT.JD]at hl;refine kat_cons (wpAny_eqBool_int ?_)
      by_cases e:m=n
      ·rw[if_pos e]at hl
       rw[show(m == n)=true by simpa using e]
       exact kat_yes (ih ys _ _ (i+1) fin rt rt2 hl p8 λ_ z=>absurd z #[0])
      ·rw[if_neg e]at hl
       cases hl;rw[show(m == n)=false by simpa using e]
       refine kat_no ?_
       cases eb:(b && i == 0) with
       | true=>exact oneLt_int q
       | false=>exact kat_one _ _ (lt_int (show W.BoolBack Q (.bool _) s from q))
     | _=>simp[HT.JD]at hl
    | str m =>
     cases y with
     | str n =>
      obtain⟨t,rfl⟩:=r1;obtain⟨t2,rfl⟩:=r2;simp only[HT.JD]at hl;refine kat_cons (PyProof.Rows.eqBool_str ?_)
      by_cases e:m=n
      ·rw[if_pos e]at hl
       rw[show(m == n)=true by simpa using e]
       exact kat_yes (ih ys _ _ (i+1) fin rt rt2 hl p8 λ_ z=>absurd z #[0])
      ·rw[if_neg e]at hl
       cases hl;rw[show(m == n)=false by simpa using e]
       refine kat_no ?_
       cases eb:(b && i == 0) with
       | true =>
        rw[Il]at eb;obtain⟨n',z⟩:=hb eb.1 (by simpa using eb.2) _ rfl
        cases z
       | false=>exact kat_one _ _ (CM (show W.BoolBack Q (.bool _) s from q))
     | _=>simp[HT.JD]at hl
    | _=>cases y <;> simp[HT.JD]at hl
theorem Inv.adopt{X:Cx}{aa:YP_}{σ:St}{H:Hp}{s:VG}{h':Vp}{D:Vh}{o:HO}{t':Nat}(I:Inv X aa σ H s)(f:J1 X aa H D)(k:∀ b u,b≠D->s.heap.get? b=some u->h'.get? b=some u)
 (new:QC X.prog X.w (upd H D o) h' D o):Inv X aa σ (upd H D o) { s with heap:=h',toks:=t' }:=by
 obtain⟨f0,f1,f2,f3,f4,f5⟩:=f;have dS:∀ b u,H b=some u->b≠D:=λb u e z=>by rw[z,f0]at e;cases e
 refine I.step (g':=s.gens) (d':=s.drawn) (ch:=[D]) (λb hb=>?_) (λb o _ _ hc e _=>k b o (λz=>hc (by simp[z])) e) (λb o _ _ hc e _=>⟨o.slots,k b o (λz=>hc (by simp[z])) e⟩) (λb _ hc _ n=>by rw[Qf (λz=>hc (by simp[z]))];exact n)
  (λb o hc e=>⟨o,k b o (λz=>hc (by simp[z])) e⟩) (λb _ e=>by rw[Qf (dS _ _ e)];exact e) (λb _ _ e=>by rw[Qf (dS _ _ e)];exact e) (λb ps e=>⟨#[],by rw[Qf (dS _ _ e),e];simp⟩) (λm hm=>?_) (λb u e=>?_) I.bare
 ·have e:b=D:=by simpa using hb
  subst e;exact⟨f3,f1,f4,f5⟩
 ·obtain⟨o,es,ep,ho,r⟩:=hm
  exact⟨o,es,ep,k _ o (VR f1) ho,r⟩
 ·by_cases hb:b=D
  ·subst hb;rw[Qa]at e;cases e;exact new
  ·rw[Qf hb]at e
   refine(I.hok b u e).stay (λc v hc q=>k c v ?_ q) (λc q=>by rw[Qf (dS _ _ q)];exact q) λc xs q=>by rw[Qf (dS _ _ q)];exact q
   rcases hc with z | z
   ·rw[z];exact hb
   ·exact dS c _ z
theorem Qt.getD:∀ {xs:List V} {us:List Va},Qt xs us->∀ i,Qq (xs.getD i .non) (us.getD i Vi):=λ{xs us} r i=>by
 cases e:xs[i]? with
 | none =>
  have e2:=r.none_of e;rw[Lp,Lp,e,e2]
  rfl
 | some x =>
  obtain⟨u,e2,ru⟩:=r.get e;rw[Lp,Lp,e,e2]
  exact ru
theorem Qt.pick{xs:List V}{us:List Va}(r:Qt xs us):∀ l:List Nat,Qt (l.map λi=>xs.getD i .non) (l.map λi=>us.getD i Vi)
 | []=>.nil
 | i::l=>.cons (r.getD i) (r.pick l)
theorem Xqa{α:Type}{p q:α->Bool}:∀ {l:List α} {a:α},(∀ x∈l,p x=true->q x=true)->a∈l->q a=true->p a=false->l.countP p < l.countP q
 | x::l,a,h,hm,hq,hp=>by
  have mono:l.countP p<=l.countP q:=countP_mono_left λy hy=>h y (VN _ hy)
  rw[countP_cons,countP_cons]
  rcases mem_cons.mp hm with e | e
  ·subst e
   rw[hq,hp];simp only[Ie,if_false,if_true]
   lia
  ·have ih:=Xqa (λy hy=>h y (VN _ hy)) e hq hp
   have hx:=h x VM;cases hpx:p x with
   | false=>simp only[Ie,if_false];split <;> lia
   | true=>rw[hx hpx];simp only[if_true];lia
structure Swo{α:Type}(xs:List α)(lt:α->α->Bool):Prop where
 irr:∀ a∈xs,lt a a=false
 tr:∀ a∈xs,∀ b∈xs,∀ c∈xs,lt a b=true->lt b c=true->lt a c=true
 neg:∀ a∈xs,∀ b∈xs,∀ c∈xs,lt a c=true->lt a b=true\/lt b c=true
theorem Swo.rank{α:Type}{xs:List α}{lt:α->α->Bool}(w:Swo xs lt){a b:α}(ha:a∈xs)(hb:b∈xs):decide (xs.countP (lt · a) < xs.countP (lt · b))=lt a b:=by
 cases e:lt a b with
 | true=>exact decide_eq_true (Xqa (λx hx h=>w.tr x hx a ha b hb h e) ha e (w.irr a ha))
 | false =>
  refine decide_eq_false λh=>?_
  have:xs.countP (lt · b)<=xs.countP (lt · a):=countP_mono_left λx hx h=>(w.neg x hx a ha b hb h).elim id λz=>by rw[e]at z;cases z
  lia
theorem Zha{α:Type}{xs:List α}{i:Nat}{d:α}(h:i < xs.length):xs.getD i d∈xs:=by
 rw[Lp,Lq h]
 exact Lo h
theorem QHa{α:Type}{xs:List α}{d:α}{p:Array Nat}(h:SortT.Ok xs.length p):(p.toList.map λi=>xs.getD i d).Perm xs:=by
 have h1:p.toList.Perm (VB xs.length):=by
  have:=Array.perm_iff_toList_perm.mp h.perm
  simpa using this
 have h2:=h1.map (λi=>xs.getD i d)
 have h3:(VB xs.length).map (λi=>xs.getD i d)=xs:=by
  apply Lr
  ·simp
  ·intro i h1 h2
   simp[h2]
 rw[h3]at h2;exact h2
theorem JTa{xs:List V}{lt:V->V->Bool}(w:Swo xs lt){p:Array Nat}(h:SortT.Ok xs.length p)(hn:0 < xs.length)(u:SortT.Up (λi=>xs.countP (lt · (xs.getD i .non))) p xs.length) :
 (p.toList.map λi=>xs.getD i V.non).Pairwise λa b=>lt b a=false:=by
 rw[pairwise_iff_getElem];intro i j hi hj cr;have bx:i < p.size:=by simpa using hi
 have gC:j < p.size:=by simpa using hj
 have uk:j < xs.length:=by rw[<- h.size];exact gC
 have:=u i j #[0] uk
 unfold SortT.K at this;have gi:p.getD i 0=p[i]:=by simp[Array.getD,bx]
 have gj:p.getD j 0=p[j]:=by simp[Array.getD,gC]
 have li:=h.lt hn i;have lj:=h.lt hn j;rw[gi]at this li;rw[gj]at this lj;have e1:(p.toList.map λi=>xs.getD i V.non)[i]=xs.getD p[i] .non:=by simp
 have e2:(p.toList.map λi=>xs.getD i V.non)[j]=xs.getD p[j] .non:=by simp
 rw[e1,e2,<- w.rank (Zha lj) (Zha li)];dsimp only at this;exact decide_eq_false #[0]
section
variable{X:Cx}{aa:YP_}{σ:St}{H:Hp}{s:VG}{k:Nat}{f:Vh}{fd:UZ}{p0:Str}{sp:Sp}{A:VF}{E:YQ_}
structure Jhb(K:VC)(sp:Sp)(H:Hp)(xs:List V)(rk:V->List V)(lt:V->V->Bool):Prop where
 hd:∀ v∈xs,∃ n r,rk v=.int n::r
 key:∀ v∈xs,∀ H2,Ql H H2->∀ R:VK,(∀ p H3,Ql H2 H3->SqT K H3 p (rk v)->R (.ref p) H3)->sp [v] H2 R E0
 lex:∀ v∈xs,∀ u∈xs,HT.JD (rk v) (rk u)=some (lt v u)
 swo:Swo xs lt
def X5a(K:VC)(H:Hp)(rk:V->List V)(xs:List V)(ks:List Va):Prop :=
 ∃ ps:List Vh,ks=ps.map Vk/\∀ (j:Nat) p v,ps[j]?=some p->xs[j]?=some v->SqT K H p (rk v)
theorem QEc(F:QB X.prog X.w X.K X.mg X.base CX0 k f fd [p0] sp)(hb:Zv X.K fd [p0] [])(hr:QX k A)(cW:A.frames=some X.stack)(I:Inv X aa σ H s){v:V}{u:Va}(r:Qq v u){R:VK}(h:sp [v] H R E0) :
 VV (VW X.prog X.w) A (Uy (.ref f) [u]) (EP X aa σ R) (λ_ _=>False) s:=by
 have e0:=I.env0;refine U1 (U2 (F.run A X.stack s H ⟨[u],[]⟩ [u] [v] R E0 hr ⟨cW,e0.mod,e0.bs,e0.bsz,e0.funs,e0.frf,e0.hok,e0.bare⟩ (hb s [u] I.kIn rfl) (.cons r .nil) h) λr s' hq=>?_)
 cases r with
 | error e=>exact hq
 | ok fl =>
  cases fl with
  | ret u=>exact I.after hq
  | next=>exact V8 hq
  | brk=>exact V8 hq
  | cont=>exact V8 hq
theorem Xra{D kS:Vh}{e e1:Nat}{ks:List Va}{out:List Va}{ys:List V}{st:Iy}{P:PySem.Fin->VG->Prop}(I:Inv X (aa++[(D,Ls "list" #[] e1)]) σ H s)(fD:J1 X aa H D)(fK:J1 X (aa++[(D,Ls "list" #[] e1)]) H kS)
 (hk:s.heap.get? kS=some (Ls "list" ks.toArray e)) (hkl:ks.length < 1000) (bh:(IC st).map (·.2)=Lu out) (hf:IS st=Vo) (rv:Qt ys out) (hl:ys.length < 1000)
 (h:∀ s',Inv X aa σ (upd H D (.lst ys)) s'->P (.done (.ret .none)) s'):VV (VW X.prog X.w) A (ksk_tail D false e1 (.ref kS) st) P E s:=by
 have hD:=(I.pin (D,Ls "list" #[] e1) (Uw _ (Uw _ #[2]))).1
 have hDk:D≠kS:=fK.2.2.2.2.2 (D,Ls "list" #[] e1) (Uw _ (Uw _ #[2]))
 have s1:=Lv s.heap kS (OA λ_=>(#[]:Array Va))
 have I1:Inv X (aa++[(D,Ls "list" #[] e1)]) σ H { s with heap:=s.heap.update kS (OA λ_=>(#[]:Array Va)) } :=
  I.turned (t':=s.toks) (λb o hb q=>(s1.2 b hb).trans q) fK.1 fK.2.1 fK.2.2.2.1 fK.2.2.2.2.1 fK.2.2.2.2.2
 have mJ:=(I1.pin (D,Ls "list" #[] e1) (Uw _ (Uw _ #[2]))).1
 have s2:=Lv (s.heap.update kS (OA λ_=>(#[]:Array Va))) D (OA λ_=>Lu out)
 obtain⟨c2,bC⟩:∃ c2,((s.heap.update kS (OA λ_=>(#[]:Array Va))).update D (OA λ_=>Lu out)).get? D=some (Ls "list" (Lu out) c2):=⟨_,Lw mJ λ_=>Lu out⟩
 have ho:out.length < 1000:=by rw[<- rv.length];exact hl
 unfold ksk_tail
 try dsimp only
 rw[bh];simp only[Ie,if_false];refine Uj (Lx hk rfl ?_ (by rw[UC];exact VJ (Qw #[0])) (Ux _))
 refine Uj (wpAny_letGo ?_)
 refine Uj (Ly mJ rfl ?_)
 refine Uj (Lx mJ rfl ?_ (Ux _) (by rw[UC];exact Lz (VJ (Qw #[0]))))
 rw[hf];simp only[bne_self_eq_false,Ie,if_false];refine Ui (h _ ?_)
 exact(I1.unpinned).adopt (t':=s.toks) fD (λb u hb q=>(s2.2 b hb).trans q) ⟨VJ (Qw #[0]),out,c2,rv,bC⟩
theorem Xdb{rk:V->List V}{xs:List V}:∀ {ks:List Va},(I:Inv X aa σ H s)->(∀ v∈xs,∃ n r,rk v=.int n::r)->ks.length=xs.length->X5a X.K H rk xs ks ->
 ∃ fs,KatTups s.heap ks fs/\fs.length=ks.length/\∀ g∈fs,∃ n t,g=Vd n t:=by
 induction xs with
 | nil =>
  intro ks I hd hl hk
  match ks,hl with
  | [],_=>exact⟨[],KatTups.nil,rfl,λ_ h=>nomatch h⟩
 | cons x xs ih =>
  intro ks I hd hl hk;obtain⟨ps,rfl,hp⟩:=hk
  match ps,hl,hp with
  | p::ps,hl,hp =>
   rw[UM,UG,UG]at hl;obtain⟨fs,h1,h2,h3⟩:=ih (ks:=ps.map Vk) I (λv hv=>hd v (VN _ hv)) #[0] ⟨ps,rfl,λj p' v e1 e2=>hp (j+1) p' v (by simpa using e1) (by simpa using e2)⟩
   have ht:=hp 0 p x rfl rfl;obtain⟨ah,r,⟨ob,e,c,n,d⟩,_⟩:=I.tuple ht;obtain⟨m,rs,em⟩:=hd x VM;rw[em]at r;cases r with
   | cons ra rt =>
    obtain⟨t,rfl⟩:=ra;exact⟨Vd m t::fs,KatTups.cons e c d #[2] h1,by simp[h2],λg hg=>(mem_cons.mp hg).elim (λz=>⟨m,t,z⟩) (h3 g)⟩
theorem QFc{rk:V->List V}{lt:V->V->Bool}{xs:List V}{ks:List Va}(I:Inv X aa σ H s)(hK:Jhb X.K sp H xs rk lt)(hl:ks.length=xs.length)(hk:X5a X.K H rk xs ks){i j:Nat}(hi:i < xs.length)(hj:j < xs.length)
 {C:Bool->VG->Prop} (h:C (lt (xs.getD i .non) (xs.getD j .non)) s):Lj X.prog X.w A (tuples' true) ks i j C s:=by
 obtain⟨ps,rfl,hp⟩:=hk;rw[UO]at hl;have gi:(ps.map Vk).getD i Vi=Vk (ps[i]'#[0]):=by simp[show i < ps.length by lia]
 have gj:(ps.map Vk).getD j Vi=Vk (ps[j]'#[0]):=by simp[show j < ps.length by lia]
 have xi:xs.getD i V.non=xs[i]:=by simp[hi]
 have xj:xs.getD j V.non=xs[j]:=by simp[hj]
 unfold Lj;rw[gi,gj];rw[xi,xj]at h;obtain⟨ah,r,⟨ob,e,c,n,d⟩,_⟩:=I.tuple (hp i _ xs[i] (Lq #[0]) (Lq hi))
 obtain⟨aQ,r2,⟨p9,e2,c2,n2,d2⟩,_⟩:=I.tuple (hp j _ xs[j] (Lq #[0]) (Lq hj))
 refine kat_lt e d e2 d2 (QDc (b:=true) h _ _ _ _ 0 _ (by simpa using r) (by simpa using r2) (hK.lex _ (Lo hi) _ (Lo hj)) ?_ λ_ _ x hx=>?_)
 ·rw[UC,UC,r.length,r2.length]
 ·obtain⟨m,rs,em⟩:=hK.hd xs[i] (Lo hi)
  rw[em]at hx;exact⟨m,(Vq hx).symm⟩
theorem JUa{α:Type}{R:α->α->Prop}:∀ {xs:List α},xs.length < 2->xs.Pairwise R
 | [],_=>Ir
 | [a],_=>pairwise_singleton _ _
theorem QGc{D kS:Vh}{e e1:Nat}{ks:List Va}{vs:List Va}{xs:List V}{rk:V->List V}{lt:V->V->Bool}{P:PySem.Fin->VG->Prop}(I:Inv X (aa++[(D,Ls "list" #[] e1)]) σ H s)(fD:J1 X aa H D)(fK:J1 X (aa++[(D,Ls "list" #[] e1)]) H kS)
 (hk:s.heap.get? kS=some (Ls "list" ks.toArray e)) (dJ:xs.length < 1000) (hl:ks.length=xs.length) (hK:Jhb X.K sp H xs rk lt) (gH:X5a X.K H rk xs ks) (rv:Qt xs vs)
 (h:∀ ys s',Inv X aa σ (upd H D (.lst ys)) s'->ys.Perm xs->ys.Pairwise (λa b=>lt b a=false)->P (.done (.ret .none)) s'):VV (VW X.prog X.w) A (ksk_end D false vs.toArray e1 (.ref kS) ks.toArray) P E s:=by
 have bz:=rv.length;unfold ksk_end;simp only[Ie,if_false]
 by_cases h2:vs.toArray.size < 2
 ·rw[if_pos h2,if_pos h2]
  refine Uj (Ui ?_)
  rw[StateT.run_pure];refine Uj (Ui ?_)
  try dsimp only
  refine Xra (st:=IQ general' (ks.toArray.zip vs.toArray) #[] 7 Vo) I fD fK hk #[0] (out:=vs) ?_ rfl rv #[0] λs' I'=>h xs s' I' (List.Perm.refl _) ?_
  ·apply Array.toList_inj.mp
   show(LA (·.2) (ks.toArray.zip vs.toArray)).toList=_;rw[Ll,ksk_zip];show List.map (·.2) (ks.zip vs)=vs;exact map_snd_zip #[0]
  ·rw[UC]at h2
   exact JUa #[0]
 ·rw[if_neg h2,if_neg h2]
  rw[UC]at h2;obtain⟨fs,t1,t2,t3⟩:=Xdb I hK.hd hl gH;refine Uj (kat_kind (T:=.type "int") t1 #[0] (λv hv=>?_) #[1] ?_)
  ·obtain⟨n,t,rfl⟩:=t3 v hv
   exact Looks.of_pure rfl
  have et:(Vl "int" != Vl "tuple")=true:=by decide
  rw[et];have hn:0 < xs.length:=by lia
  have run:=SortB.X4a (prog:=X.prog) (w:=X.w) (A:=A) (E:=E) (κ:=tuples' true) (ks:=ks) (vs:=vs) (s:=s) (r:=λi=>xs.countP (lt · (xs.getD i .non))) #[0] #[0]
   (λi j C hi hj hC=>by
    rw[<- bz]at hi hj;rw[hK.swo.rank (Zha hi) (Zha hj)]at hC;exact QFc I hK hl gH hi hj hC)
   (λi j hi hj e=>by
    rw[<- bz]at hi hj;obtain⟨ps,rfl,hp⟩:=gH;rw[UO]at hl;have gi:(ps.map Vk).getD i Vi=Vk (ps[i]'#[0]):=by simp[show i < ps.length by lia]
    have gj:(ps.map Vk).getD j Vi=Vk (ps[j]'#[0]):=by simp[show j < ps.length by lia]
    rw[gi,gj]at e;have ti:=hp i _ xs[i] (Lq #[0]) (Lq hi)
    have tj:=hp j _ xs[j] (Lq #[0]) (Lq hj)
    rw[Value.ref.inj e]at ti;have same:=I.tuple_inj ti tj;have xi:xs.getD i V.non=xs[i]:=by simp[hi]
    have xj:xs.getD j V.non=xs[j]:=by simp[hj]
    have mi:=Lo hi;have mj:=Lo hj;have l1:lt xs[i] xs[j]=false:=by
     have a1:=hK.lex _ mi _ mj;rw[same,hK.lex _ mj _ mj,hK.swo.irr _ mj]at a1;exact(Vq a1).symm
    have l2:lt xs[j] xs[i]=false:=by
     have a1:=hK.lex _ mj _ mi;rw[same,hK.lex _ mj _ mj,hK.swo.irr _ mj]at a1;exact(Vq a1).symm
    have r1:=hK.swo.rank mi mj;have r2:=hK.swo.rank mj mi;rw[l1]at r1;rw[l2]at r2;have r1:=of_decide_eq_false r1;have r2:=of_decide_eq_false r2;show xs.countP (lt · (xs.getD i .non))=xs.countP (lt · (xs.getD j .non));rw[xi,xj]
    lia)
  rw[<- bz]at run;refine Uj (V1 run ?_ λ_ _ x=>x)
  rintro⟨⟨⟩,ag⟩ s' ⟨p,iT,hf,es,ok,up⟩;subst es;have bh:=kat_snds #[0] iT
  exact Xra I fD fK hk #[0] bh hf (rv.pick p.toList) (by rw[UO,V7,ok.size];lia) λs' I'=>h _ s' I' (QHa ok) (JTa hK.swo ok hn up)
theorem Xeb{D kS:Vh}{e1:Nat}{vs:List Va}{xs:List V}{rk:V->List V}{lt:V->V->Bool}{P:PySem.Fin->VG->Prop}(F:QB X.prog X.w X.K X.mg X.base CX0 k f fd [p0] sp)(hb:Zv X.K fd [p0] [])(hr:QX k A)(cW:A.frames=some X.stack)
 (I:Inv X (aa++[(D,Ls "list" #[] e1)]) σ H s) (fD:J1 X aa H D) (fK:J1 X (aa++[(D,Ls "list" #[] e1)]) H kS)
 (hk:s.heap.get? kS=some (Ls "list" #[] 0)) (dJ:xs.length < 1000) (hK:Jhb X.K sp H xs rk lt) (rv:Qt xs vs)
 (h:∀ H' ys s',Ql H H'->Inv X aa σ (upd H' D (.lst ys)) s'->H' D=Vo->ys.Perm xs->ys.Pairwise (λa b=>lt b a=false)->P (.done (.ret .none)) s'):VV (VW X.prog X.w) A (ksk_rest D (.ref f) false vs.toArray e1 (.ref kS)) P E s:=by
 have bz:=rv.length;unfold ksk_rest;refine Uj (IW ?_)
 first
  | rw[forIn_toArray]
  | (rw[<- LB];simp only[toList_toArray])
  | rw[<- LB]
 refine Uj (ksk_fold (λi s'=>∃ (H':Hp) (ks:List Va) (e:Nat),Inv X (aa++[(D,Ls "list" #[] e1)]) σ H' s'/\Ql H H'/\H' kS=Vo/\s'.heap.get? kS=some (Ls "list" ks.toArray e)/\ks.length=i/\X5a X.K H' rk xs ks)
  vs 0 s ⟨H,[],0,I,Ql.refl _,fK.1,hk,rfl,[],rfl,λj p v e1 _=>by simp at e1⟩ (λj x s' hx hJ=>?_) λs' hJ=>?_)
 ·rw[Lb]at hJ
  obtain⟨H',ks,e,I',sm,hn,cy,hl,ps,rfl,hp⟩:=hJ;rw[UO]at hl;have hj:j < xs.length:=by rw[bz];exact(List.getElem?_eq_some_iff.mp hx).1
  obtain⟨u,hu,ru⟩:=rv.get (Lq hj)
  rw[hx]at hu;cases hu;have I2:Inv X ((aa++[(D,Ls "list" #[] e1)])++[(kS,Ls "list" (ps.map Vk).toArray e)]) σ H' s':=I'.pins_of λp hp=>(mem_append.mp hp).elim (λz=>I'.pin p (Uw _ z)) λz=>by
   have z:p=(kS,Ls "list" (ps.map Vk).toArray e):=by simpa using z
   subst z;exact⟨cy,hn,fK.2.1,fK.2.2.1,λv q=>by cases q⟩
  refine Uj (Lm (V1 (QEc F hb hr cW I2 ru (hK.key xs[j] (Lo hj) H' sm (λv H3=>∃ p,v=.ref p/\Ql H' H3/\SqT X.K H3 p (rk xs[j])) λp H3 s3 t3=>⟨p,rfl,s3,t3⟩)) (λu bH hu=>?_) λ_ _ hF=>hF.elim))
  obtain⟨v,H3,I3,r3,p,rfl,s3,t3⟩:=hu;cases r3;have fb:=(I3.pin (kS,Ls "list" (ps.map Vk).toArray e) (Uw _ (Uw _ #[2])))
  have s1:=Lv bH.heap kS (OA (·.push (Vk p)));have ea:(Lu (ps.map Vk)).push (Vk p)=Lu ((ps++[p]).map Vk):=by simp
  obtain⟨c2,bC⟩:∃ c2,(bH.heap.update kS (OA (·.push (Vk p)))).get? kS=some (Ls "list" (Lu ((ps++[p]).map Vk)) c2):=⟨_,by rw[<- ea];exact Lw fb.1 (·.push (Vk p))⟩
  try dsimp only
  refine Uj (Lx fb.1 rfl ?_ (by rw[UC,UO];exact VJ (Qw #[0])) (by rw[Array.size_push,UC,UO];exact Nat.succ_le_succ (VJ (Qw #[0]))))
  refine Ui ⟨rfl,H3,_,c2,I3.unpinned.turned (t':=bH.toks) (λb o hb q=>(s1.2 b hb).trans q) fb.2.1 fK.2.1 fK.2.2.2.1 fK.2.2.2.2.1 fK.2.2.2.2.2,sm.trans s3,fb.2.1,bC,by rw[UO,On,hl];simp,ps++[p],rfl,λi q v e1 e2=>?_⟩
  by_cases hi:i < ps.length
  ·rw[Oi hi]at e1
   exact s3.seqT (hp i q v e1 e2)
  ·rw[Oh #[0]]at e1
   have hz:i - ps.length=0:=by
    cases q':i - ps.length with
    | zero=>rfl
    | succ m=>rw[q']at e1;simp at e1
   rw[hz]at e1;have:i=j:=by lia
   subst this;rw[Lq hj]at e2
   simp at e1;cases e1;cases e2;exact t3
 ·rw[Lb]at hJ
  obtain⟨H',ks,e,I',sm,hn,cy,hl,gH⟩:=hJ;refine Uj (LC cy rfl ?_)
  have iU:=(I'.pin (D,Ls "list" #[] e1) (Uw _ (Uw _ #[2]))).2.1
  exact QGc I' ⟨iU,fD.2⟩ ⟨hn,fK.2⟩ cy dJ #[0] ⟨hK.hd,λv hv H2 s2=>hK.key v hv H2 (sm.trans s2),hK.lex,hK.swo⟩ gH rv λys bH ma p1 p2=>h H' ys bH sm ma iU p1 p2
end
theorem YG:VE "sorted"=some (.builtin "sorted"):=by decide +kernel
theorem QHc(h:Vp)(vs:List Va):((h.push (Ls "list" #[] 0)).update h.objs.size (OA (·++vs.toArray))).objs.size=h.objs.size+1 /\
 ∀ b o,h.get? b=some o->((h.push (Ls "list" #[] 0)).update h.objs.size (OA (·++vs.toArray))).get? b=some o:=by
 constructor
 ·simp only[Heap.size_update,size_push']
 ·intro b o q
  have nb:b≠h.objs.size:=VA (Vx q);exact((Lv (h.push (Ls "list" #[] 0)) h.objs.size _).2 b nb).trans (Ur _ q)
section
variable{X:Cx}{aa:YP_}{σ:St}{H:Hp}{s:VG}{k:Nat}{f:Vh}{fd:UZ}{p0:Str}{sp:Sp}
theorem Jib{l:Vh}{xs:List V}{rk:V->List V}{lt:V->V->Bool}{Q:VK}(F:QB X.prog X.w X.K X.mg X.base CX0 k f fd [p0] sp)(hb:Zv X.K fd [p0] [])(hr:QX (k+2) X.A)
 (I:Inv X aa σ H s) (hl:SqL X.K H l xs) (dJ:xs.length < 1000) (hK:Jhb X.K sp H xs rk lt)
 (h:∀ D H' ys,Ql H H'->H D=Vo->H' D=some (.lst ys)->ys.Perm xs->ys.Pairwise (λa b=>lt b a=false)->Q (.ref D) H') :
 VV (VW X.prog X.w) X.A (Uy (.builtin "sorted") [.ref l] [(LD "key",.ref f)]) (EP X aa σ Q) X.xe s:=by
 obtain⟨vs,rv,pl,hz⟩:=I.list hl;have bz:=rv.length;have cH:vs.length<=Vr:=by rw[<- bz];exact hz
 refine call_function_entry_kw kind_sorted plain_sorted entry_sorted (ksk_s1 _ _) ?_
 unfold Ij.«sorted»;refine Uj (m:=checkCount "sorted" 1 1 _) (Ui ?_)
 refine Uj (collect_list pl.isList ?_ cH)
 refine Uj (LF ?_ cH)
 obtain⟨hsz,dq⟩:=QHc s.heap vs;have a8:=Us ((s.heap.push (Ls "list" #[] 0)).update s.heap.objs.size (OA (·++vs.toArray))) (o:=Ls "list" vs.toArray 0) rfl
 rw[hsz]at a8;have keep:=λb o q=>Ur (Ls "list" vs.toArray 0) (dq b o q)
 have I1:Inv X aa σ H { s with heap:=((s.heap.push (Ls "list" #[] 0)).update s.heap.objs.size (OA (·++vs.toArray))).push (Ls "list" vs.toArray 0) }:=I.kept (t':=s.toks) keep
 have fD:J1 X aa H (s.heap.objs.size+1):=I.fpOk (U5 _) (I.hok.fresh (U5 _));show VV _ _ _ _ _ { s with heap:=((s.heap.push (Ls "list" #[] 0)).update s.heap.objs.size (OA (·++vs.toArray))).push (Ls "list" vs.toArray 0) }
 rw[hsz];generalize ((s.heap.push (Ls "list" #[] 0)).update s.heap.objs.size (OA (·++vs.toArray))).push (Ls "list" vs.toArray 0)=h1 at a8 I1;generalize s.heap.objs.size+1=D at a8 fD;refine Uj (LG (wpAny_call_entry_kw slot_list_sort ⟨_,a8,rfl⟩ entry_list_sort ?body (ksk_l1 _ _)))
 case body =>
  rw[ksk_t1];unfold ksk_tree;have s1:=Lv h1 D (OA λ_=>(#[]:Array Va))
  obtain⟨e1,bN⟩:∃ e1,(h1.update D (OA λ_=>(#[]:Array Va))).get? D=some (Ls "list" #[] e1):=⟨_,Lw a8 λ_=>#[]⟩
  have I2:Inv X aa σ H { s with heap:=h1.update D (OA λ_=>(#[]:Array Va)) }:=I1.turned (t':=s.toks) (λb o hb q=>(s1.2 b hb).trans q) fD.1 fD.2.1 fD.2.2.2.1 fD.2.2.2.2.1 fD.2.2.2.2.2
  have I3:Inv X (aa++[(D,Ls "list" #[] e1)]) σ H { s with heap:=h1.update D (OA λ_=>(#[]:Array Va)) }:=I2.pins_of λp hp=>(mem_append.mp hp).elim (λz=>I2.pin p (Uw _ z)) λz=>by
   have z:p=(D,Ls "list" #[] e1):=by simpa using z
   subst z;exact⟨bN,fD.1,fD.2.1,fD.2.2.1,λv q=>by cases q⟩
  have I4:Inv X (aa++[(D,Ls "list" #[] e1)]) σ H { s with heap:=(h1.update D (OA λ_=>(#[]:Array Va))).push (Ls "tuple" vs.toArray 0) }:=I3.kept (t':=s.toks) λb u q=>Ur _ q
  have fK:J1 X (aa++[(D,Ls "list" #[] e1)]) H ((h1.update D (OA λ_=>(#[]:Array Va))).push (Ls "tuple" vs.toArray 0)).objs.size:=I4.fpOk (Ut _) (I4.hok.fresh (Ut _))
  have I5:Inv X (aa++[(D,Ls "list" #[] e1)]) σ H { s with heap:=((h1.update D (OA λ_=>(#[]:Array Va))).push (Ls "tuple" vs.toArray 0)).push (Ls "list" #[] 0) }:=I4.kept (t':=s.toks) λb u q=>Ur _ q
  refine Uj (LC a8 rfl ?_)
  refine Uj (Lx a8 rfl ?_ (by rw[UC];exact cH) (Ux _))
  refine Uj (Ly bN rfl ?_)
  refine Uj (LH ?_ (by show vs.length<=_;exact cH))
  refine Uj (LF ?_ (Ux _))
  refine LG ?_
  refine Xeb (s:={ s with heap:=((h1.update D (OA λ_=>(#[]:Array Va))).push (Ls "tuple" vs.toArray 0)).push (Ls "list" #[] 0) }) F hb hr.in1.in1 I.ok.frames I5 fD fK (Us _ rfl) dJ hK rv λH' ys s' sm I' hD p1 p2=>?_
  exact⟨_,rfl,Ui ⟨_,rfl,.ref D,_,I',rfl,h D _ ys (sm.updL fD.1 _) fD.1 Qa p1 p2⟩⟩
def Yib(K:VC)(sp:Sp)(te:TE):TE:=λσ H Q=>te σ H λx H1=>∃ a xs rk lt,x=.ref a/\SqL K H1 a xs/\xs.length < 1000/\Jhb K sp H1 xs rk lt /\
 ∀ D H' ys,Ql H1 H'->H1 D=Vo->H' D=some (.lst ys)->ys.Perm xs->ys.Pairwise (λa b=>lt b a=false)->Q (.ref D) H'
theorem Q5b{j:Nat}{fx:Str}{e:Expr}{te:TE}{p kp c5 pos:Pos}(G:Cal X.prog X.w X.K X.mg X.base j fx [p0] sp)(hr:QX k X.A)(hj:j+2<=k)(hs:Gl X "sorted")(hm:X.mg "sorted"=Vo)(hf:Gl X fx)(he:PE X e te)
 (aP:(fx == ("__debug__":Str))=false:=by decide) (cI:VZ [e] X.env=[(false,VX e X.env)]:=by rfl) :
 PE X (.Call (.Name "sorted" p) [e] [⟨some "key",.Name fx kp,c5⟩] pos) (Yib X.K sp te):=by
 obtain⟨f,fd,F,b,kpt,m⟩:=G;intro aa s σ H Q I h;refine U3 (YS I hs hm YG ?_)
 refine callWith_kw (thn (J5b he Qd cI pos aa s σ H (λvs H1=>∃ x,vs=[x]/\∃ a xs rk lt,x=.ref a/\SqL X.K H1 a xs/\xs.length < 1000/\Jhb X.K sp H1 xs rk lt /\
  ∀ D H' ys,Ql H1 H'->H1 D=Vo->H' D=some (.lst ys)->ys.Perm xs->ys.Pairwise (λa b=>lt b a=false)->Q (.ref D) H') I ?_) λus s1 ⟨vs,H1,I1,r1,x,ex,a,xs,rk,lt,ea,hl,dJ,hK,q⟩=>?_) (by rw[cI];rfl) (by rw[cI];rfl)
 ·show te σ H _
  exact(show(te σ H λx H1=>_) from h) |> λz=>by
   refine(?_:te σ H _)
   have:=z
   simpa only[Jea,exists_eq_left',Lh,and_true]using this
 ·subst ex ea
  obtain⟨u,rfl,ru⟩:=Qqa r1;obtain rfl:u=Vk a:=ru;refine thn (Jmc (nm:=some "key") (JZb hf m (v:=.ref f) rfl aP) Y2c pos aa s1 σ H1 (λzs H2=>zs=[.ref f]/\H2=H1) I1 ⟨rfl,rfl⟩) λws s2 hZ=>?_
  obtain⟨zs,H2,I2,rz,ez,eH⟩:=hZ;subst ez eH;obtain⟨u2,rfl,ul⟩:=Qqa rz;obtain rfl:u2=Vk f:=ul;exact Jib F b (hr.mono hj) I2 hl dJ hK q
end
end L2
end
section
namespace L2
open PySem PySem.Spec PyProof.Rows
section
variable{X:Cx}{e:Expr}{es:List Expr}{te:TE}{pos:Pos}
end
theorem Xfb(z:Str):Str.empty++z=z:=by
 apply PyProof.Rows.ext_toList
 rw[W.KT.app_list];rfl
end L2
end
section
namespace Pl
open PySem L2
def QU:V->Prop
 | .non=>True
 | .int i => -(10 ^ 30) < i/\i < 10 ^ 30
 | .str z=>z.length<=40
 | _=>False
def rk:V->List V
 | .non=>[.int 0,.int 0]
 | .str z=>[.int 2,.str z]
 | v=>[.int 1,v]
def ltV(a b:V):Bool:=(HT.JD (rk a) (rk b)).getD false
theorem QIc{a b:V}(ha:QU a)(hb:QU b):HT.JD (rk a) (rk b)=some (ltV a b):=by
 unfold ltV;cases a <;> first | exact ha.elim | skip
 all_goals (cases b <;> first | exact hb.elim | skip)
 all_goals (simp only[rk,HT.JD];repeat' (first | rfl | split))
theorem Yuc:ltV .non .non=false:=rfl
theorem Yvc(i:Int):ltV .non (.int i)=true:=rfl
theorem Ywc(z:Str):ltV .non (.str z)=true:=rfl
theorem Yxc(i:Int):ltV (.int i) .non=false:=rfl
theorem Yyc(z:Str):ltV (.str z) .non=false:=rfl
theorem QJc(i:Int)(z:Str):ltV (.int i) (.str z)=true:=rfl
theorem Yzc(i:Int)(z:Str):ltV (.str z) (.int i)=false:=rfl
theorem Yjb(i j:Int):ltV (.int i) (.int j)=decide (i < j):=by
 unfold ltV;simp only[rk,HT.JD,if_true]
 by_cases e:i=j
 ·rw[if_pos e];subst e;simp
 ·rw[if_neg e];rfl
theorem Ykb(x y:Str):ltV (.str x) (.str y)=decide (x.cps.toList < y.cps.toList):=by
 unfold ltV;simp only[rk,HT.JD,if_true]
 by_cases e:x=y
 ·rw[if_pos e];subst e
  have:¬ (x.cps.toList < x.cps.toList):=List.lt_irrefl _;simp[this]
 ·rw[if_neg e];rfl
theorem irr{a:V}(ha:QU a):ltV a a=false:=by
 cases a <;> first | exact ha.elim | skip
 ·rfl
 ·rw[Yjb];simp
 ·rw[Ykb];exact decide_eq_false (List.lt_irrefl _)
theorem tr{a b c:V}(ha:QU a)(hb:QU b)(hc:QU c)(h1:ltV a b=true)(h2:ltV b c=true):ltV a c=true:=by
 cases a <;> first | exact ha.elim | skip
 all_goals (cases b <;> first | exact hb.elim | skip)
 all_goals (cases c <;> first | exact hc.elim | skip)
 all_goals first | rfl | (exfalso;rw[Yuc]at h1;cases h1;done) | (exfalso;rw[Yxc]at h1;cases h1;done) | (exfalso;rw[Yyc]at h1;cases h1;done) | (exfalso;rw[Yzc]at h1;cases h1;done) | (exfalso;rw[Yuc]at h2;cases h2;done) | (exfalso;rw[Yxc]at h2;cases h2;done) | (exfalso;rw[Yyc]at h2;cases h2;done) | (exfalso;rw[Yzc]at h2;cases h2;done) | skip
 ·rw[Yjb,decide_eq_true_eq]at *;lia
 ·rw[Ykb,decide_eq_true_eq]at *;exact List.lt_trans h1 h2
theorem tri{a b:V}(ha:QU a)(hb:QU b)(h1:ltV a b=false)(h2:ltV b a=false):a=b:=by
 cases a <;> first | exact ha.elim | skip
 all_goals (cases b <;> first | exact hb.elim | skip)
 all_goals first | rfl | (exfalso;rw[Yvc]at h1;cases h1;done) | (exfalso;rw[Ywc]at h1;cases h1;done) | (exfalso;rw[QJc]at h1;cases h1;done) | (exfalso;rw[Yvc]at h2;cases h2;done) | (exfalso;rw[Ywc]at h2;cases h2;done) | (exfalso;rw[QJc]at h2;cases h2;done) | skip
 ·rw[Yjb,decide_eq_false_iff_not]at *
  congr 1;lia
 ·rw[Ykb,decide_eq_false_iff_not]at *
  congr 1
  exact PyProof.Rows.ext_toList (List.le_antisymm (List.not_lt.mp h2) (List.not_lt.mp h1))
theorem neg{a b c:V}(ha:QU a)(hb:QU b)(hc:QU c)(h:ltV a c=true):ltV a b=true\/ltV b c=true:=by
 cases e:ltV a b with
 | true=>exact .inl rfl
 | false =>
  cases e2:ltV b a with
  | true=>exact .inr (tr hb ha hc e2 h)
  | false=>rw[tri ha hb e e2]at h;exact .inr h
theorem swo{xs:List V}(h:∀ v∈xs,QU v):Swo xs ltV:=⟨λa ha=>irr (h a ha),λa ha b hb c hc=>tr (h a ha) (h b hb) (h c hc),λa ha b hb c hc=>neg (h a ha) (h b hb) (h c hc)⟩
theorem Qmd(v:V):∃ n r,rk v=.int n::r:=by cases v <;> exact⟨_,_,rfl⟩
structure Qnd(xs ys:List V):Prop where
 up:ys.Pairwise λa b=>ltV a b=true
 mem:∀ v,v∈ys↔v∈xs
structure ZJa(ys:List V)(i:Nat)(fs:List V):Prop where
 up:fs.Pairwise λa b=>ltV a b=true
 mem:∀ v,v∈fs↔v∈ys.take i
 last:∀ v,fs.getLast?=some v->∃ k,k < i/\ys[k]?=some v
 len:fs.length<=i
theorem ZJa.start(ys:List V):ZJa ys 0 []:=⟨Ir,λv=>by simp,λv h=>by simp at h,Ux _⟩
theorem Qwa{ys:List V}{i:Nat}{x v:V}(hx:ys[i]?=some x):v∈ys.take (i+1)↔v∈ys.take i\/v=x:=by
 rw[LI,hx];simp
theorem ZJa.put{ys fs:List V}{i:Nat}{x:V}(g:ZJa ys i fs)(p:∀ v∈ys,QU v)(so:ys.Pairwise λa b=>ltV b a=false)(hx:ys[i]?=some x)(h:∀ l,fs.getLast?=some l->ltV l x=true):ZJa ys (i+1) (fs++[x]):=by
 have px:=p x (Om hx);refine⟨pairwise_append.mpr ⟨g.up,pairwise_singleton _ _,λa ha b hb=>?_⟩,λv=>?_,λv hv=>?_,by have:=g.len;rw[On,OD];lia⟩
 ·have e:b=x:=by simpa using hb
  subst e;obtain⟨l,hl⟩:∃ l,fs.getLast?=some l:=by
   cases q:fs.getLast? with
   | none=>rw[getLast?_eq_none_iff]at q;rw[q]at ha;cases ha
   | some l=>exact⟨l,rfl⟩
  have pl:QU l:=p l (Iv ((g.mem l).mp (LJ hl)));have pa:QU a:=p a (Iv ((g.mem a).mp ha));obtain⟨dF,rfl⟩:=getLast?_eq_some_iff.mp hl
  rcases mem_append.mp ha with h' | h'
  ·exact tr pa pl px ((pairwise_append.mp g.up).2.2 a h' l #[2]) (h l hl)
  ·have e:a=l:=by simpa using h'
   subst e;exact h a hl
 ·rw[Qwa hx,LK,g.mem v];simp
 ·rw[getLast?_append]at hv
  simp at hv;subst hv;exact⟨i,UR _,hx⟩
theorem ZJa.skip{ys fs:List V}{i:Nat}{x l:V}(g:ZJa ys i fs)(p:∀ v∈ys,QU v)(so:ys.Pairwise λa b=>ltV b a=false)(hx:ys[i]?=some x)(hl:fs.getLast?=some l)(h:ltV l x=false):ZJa ys (i+1) fs:=by
 have px:=p x (Om hx);have pl:QU l:=p l (Iv ((g.mem l).mp (LJ hl)));have um:ltV x l=false:=by
  obtain⟨k,hk,e⟩:=g.last l hl;obtain⟨k1,e1⟩:=List.getElem?_eq_some_iff.mp e
  obtain⟨i1,e2⟩:=List.getElem?_eq_some_iff.mp hx
  have:=(pairwise_iff_getElem.mp so) k i k1 i1 hk;rw[e1,e2]at this;exact this
 have e:l=x:=tri pl px h um;refine⟨g.up,λv=>?_,λv hv=>?_,Lz g.len⟩
 ·rw[Qwa hx,g.mem v]
  constructor
  ·exact λh=>.inl h
  ·rintro(h | h)
   ·exact h
   ·rw[h,<- e];exact(g.mem l).mp (LJ hl)
 ·obtain⟨k,hk,e⟩:=g.last v hv
  exact⟨k,by lia,e⟩
theorem ZJa.rise{xs ys fs:List V}(g:ZJa ys ys.length fs)(hp:ys.Perm xs):Qnd xs fs:=⟨g.up,λv=>by rw[g.mem v,LL];exact hp.mem_iff⟩
end Pl
end
section
namespace L2
open PySem PySem.Spec PyProof.Rows
def Zb(H H':Hp):Prop:=∀ b xs,H b=some (.tup xs)->H' b=some (.tup xs)
theorem Ql.t{H H':Hp}(s:Ql H H'):Zb H H':=λb xs e=>s b _ e
theorem Zb.refl(H:Hp):Zb H H:=λ_ _ e=>e
theorem Zb.trans{H H1 H2:Hp}(a:Zb H H1)(b:Zb H1 H2):Zb H H2:=λc xs e=>b c xs (a c xs e)
theorem J0{H:Hp}{D:Vh}{ys zs:List V}(h:H D=some (.lst ys)):Zb H (upd H D (.lst zs)):=λb xs e=>by
 rw[Qf (JP e h (by intro z;cases z))];exact e
theorem JBc{J:It}{te:TE}{σ:St}{H1:Hp}{Q:VK}(n:Nat)(item:Nat->V->Prop)(P:Hp->Nat->V->Prop)(mono:∀ H H' i v,Zb H H'->P H i v->P H' i v)(hz:n<=Vr)
 (iV:∀ i H2,i < n->Ql H1 H2->J.go i H2/\∀ x H',J.yld i H2 x H'->H'=H2/\item i x) (cI:∀ H2,Ql H1 H2->J.stop n H2)
 (he:∀ i x H2 (R:VK),item i x->Ql H1 H2->(∀ v H3,P H3 i v->Ql H2 H3->R v H3)->te (some x::σ) H2 R)
 (hq:∀ D H2 ys,H1 D=Vo->Ql H1 H2->H2 D=some (.lst ys)->ys.length=n->(∀ i y,ys[i]?=some y->P H2 i y)->Q (.ref D) H2):LcR J Y4b te σ Q H1:=by
 intro D hD;refine⟨λi m ys H2=>m=n - i/\i<=n/\ys.length=i/\H2 D=some (.lst ys)/\Ql H1 H2/\∀ j y,ys[j]?=some y->P H2 j y,⟨_,rfl,Ux _,rfl,Qa,Qh hD _,λj y h=>by simp at h⟩,?_⟩
 rintro i m ys H2 ⟨rfl,hi,hl,hd,sm,hp⟩;refine⟨hd,?_⟩
 by_cases aA:i < n
 ·obtain⟨go,yl⟩:=iV i H2 aA sm
  refine .inr ⟨go,by lia,λx H' y=>?_⟩
  obtain⟨e,hx⟩:=yl x H' y;subst e;unfold Y4b;refine QMd ?_
  refine he i x _ _ hx sm λv H3 pv s3=>⟨s3 _ _ hd,n - (i+1),by lia,rfl,aA,by rw[On,hl];rfl,Qa,(sm.trans s3).updL hD _,λj y h=>?_⟩
  have st:=J0 (zs:=ys++[v]) (s3 _ _ hd)
  by_cases hj:j < ys.length
  ·rw[Oi hj]at h
   exact mono _ _ _ _ (s3.t.trans st) (hp j y h)
  ·rw[Oh #[0]]at h
   have dh:j=i:=by
    have:=(List.getElem?_eq_some_iff.mp h).1
    simp at this
    lia
   subst dh;rw[hl]at h;simp at h;subst h;exact mono _ _ _ _ st pv
 ·have e:i=n:=by lia
  subst e;exact .inl ⟨cI H2 sm,hq D H2 ys hD sm hd hl hp⟩
theorem Xsa{K:VC}{a:Vh}(xs:List V){te:TE}{σ:St}{H1:Hp}{Q:VK}(P:Hp->Nat->V->Prop)(mono:∀ H H' i v,Zb H H'->P H i v->P H' i v)(hx:SqL K H1 a xs)(hz:xs.length<=Vr)
 (he:∀ i x H2 (R:VK),xs[i]?=some x->Ql H1 H2->(∀ v H3,P H3 i v->Ql H2 H3->R v H3)->te (some x::σ) H2 R)
 (hq:∀ D H2 ys,H1 D=Vo->Ql H1 H2->H2 D=some (.lst ys)->ys.length=xs.length->(∀ i y,ys[i]?=some y->P H2 i y)->Q (.ref D) H2):LcR (Itl K a) Y4b te σ Q H1 :=
 JBc xs.length (λi x=>xs[i]?=some x) P mono hz (λi H2 hi s=>⟨⟨xs,xs[i],s.seq hx,by simp[hi]⟩,λx H' y=>⟨y.1,y.2 xs (s.seq hx)⟩⟩) (λH2 s=>⟨xs,s.seq hx,Ut _⟩) he hq
theorem Jjb{J:It}{tt:TT}{σ:St}{H1:Hp}{Q:VK}(xs:List V)(p:V->Bool)(hz:xs.length<=Vr)
 (iV:∀ i H2,i < xs.length->Ql H1 H2->J.go i H2/\∀ x H',J.yld i H2 x H'->H'=H2/\xs[i]?=some x) (cI:∀ H2,Ql H1 H2->J.stop xs.length H2)
 (he:∀ (i:Nat) x H2 (R:Bool->Hp->Prop),xs[i]?=some x->Ql H1 H2->(∀ H3,Ql H2 H3->R (p x) H3)->tt (some x::σ) H2 R)
 (hq:∀ D H2,H1 D=Vo->Ql H1 H2->H2 D=some (.lst (xs.filter p))->Q (.ref D) H2):LcR J tt (JC 0) σ Q H1:=by
 intro D hD;refine⟨λi m ys H2=>m=xs.length - i/\i<=xs.length/\ys=(xs.take i).filter p/\H2 D=some (.lst ys)/\Ql H1 H2,⟨_,rfl,Ux _,by simp,Qa,Qh hD _⟩,?_⟩
 rintro i m ys H2 ⟨rfl,hi,hy,hd,sm⟩;refine⟨hd,?_⟩
 by_cases aA:i < xs.length
 ·obtain⟨go,yl⟩:=iV i H2 aA sm
  have hl:ys.length<=i:=by
   rw[hy];exact VI (OR _ _) (by rw[Of];lia)
  refine .inr ⟨go,by lia,λx H' y=>?_⟩
  obtain⟨e,hx⟩:=yl x H' y;subst e;have ht:(xs.take (i+1)).filter p=if p x=true then ys++[x] else ys:=by
   rw[LI,hx,CH,<- hy];cases hp:p x <;> simp[hp]
  refine he i x _ _ hx sm λH3 s3=>?_
  cases hp:p x with
  | true =>
   rw[if_pos rfl];refine⟨s3 _ _ hd,xs.length - (i+1),by lia,rfl,aA,?_,Qa,(sm.trans s3).updL hD _⟩
   rw[ht,hp,if_pos rfl]
  | false =>
   rw[if_neg Uc];refine⟨xs.length - (i+1),by lia,rfl,aA,?_,s3 _ _ hd,sm.trans s3⟩
   rw[ht,hp,if_neg Uc]
 ·have e:i=xs.length:=by lia
  subst e;rw[LL]at hy;exact .inl ⟨cI H2 sm,hq D H2 hD sm (by rw[hd,hy])⟩
theorem Xoc{i:Int}(h : -(10 ^ 40) < i/\i < 10 ^ 40):i.natAbs.log2 < 1920:=by
 by_cases e:i.natAbs=0
 ·rw[e];decide
 ·rw[Nat.log2_lt e]
  have:i.natAbs < 10 ^ 40:=by lia
  exact Vy this (VI (by decide:10 ^ 40<=2 ^ 200) (Nat.pow_le_pow_right #[1] #[1]))
def QKc:Expr->Bool
 | .Starred _ _=>false
 | _=>true
theorem Xgb{e:Expr}{es:List Expr}{env:Env}(h:QKc e=true):VZ (e::es) env=(false,VX e env)::VZ es env:=by
 cases e <;> first | rfl | (exact absurd h Uc)
theorem Qg{X:Cx}{e:Expr}{es:List Expr}{te:TE}{t:TA}(ha:PE X e te)(hr:PA X es t)(hn:QKc e=true:=by rfl):PA X (e::es) (Xga te t):=J5b ha hr (Xgb hn)
section
variable{prog:Vg}{w:Vb}{A:VF}{E:YQ_}{s:VG}
variable{z TI TO i1 i2:Vh}{fp1 qb:List Vh}{n1 n2 i:Nat}{P1 P2:Nat->Va->Prop}{S1 S2:Nat->Vp->Prop}
end
section
variable{prog:Vg}{w:Vb}{A:VF}{E:YQ_}{s:VG}
end
section
variable{X:Cx}{ea eb:Expr}{ua ub:TE}{p pos fU:Pos}{elts:List Expr}{kk:Nat}
end
section
variable{X:Cx}
end
section
variable{X:Cx}
theorem QLc{ta:TA}{tt:TT}{te:TE}{σ:St}{H:Hp}{Q:VK}:tLc (XWb ta) tt te σ H Q=ta σ H λvs H1=>∃ i j:Int,vs=[.int i,.int j]/\(-(2 ^ 62)<=i/\i < 2 ^ 62 /\ -(2 ^ 62)<=j/\j < 2 ^ 62)/\LcR (Itr i (j - i).toNat) tt te σ Q H1:=rfl
end
end L2
namespace Th
open PySem L2 Pl
def YAc(c:Nat):Bool:=decide (32<=c/\c<=126/\c≠37)
def QMc(z:Str):Prop:=z.length<=60/\∀ c∈z.cps.toList,YAc c=true\/c=9\/c=10
def Q6b:V->Prop
 | .non=>True
 | .bl _=>True
 | .int _=>True
 | .str z=>QMc z
 | _=>False
def TT:Nat->Hp->V->Prop
 | 0,H,v=>Q6b v\/∃ a,v=.ref a/\((∃ xs,H a=some (.lst xs))\/H a=some (.dK [])\/∃ xs,H a=some (.tup xs)/\xs.length<=60)
 | n+1,H,v=>Q6b v\/∃ a,v=.ref a/\((∃ xs,H a=some (.lst xs))\/H a=some (.dK [])\/∃ xs,H a=some (.tup xs)/\xs.length<=60/\∀ u∈xs,TT n H u)
end Th
end
section
namespace L2
open PySem PySem.Spec PyProof.Rows
def Xpc(h:Vp)(Y:Vh->Prop)(e:Vh)(vs:Array Va):Option Va->Prop
 | none=>vs[1]?=some .none
 | some v=>∃ T oT ts,vs[1]?=some (.ref T)/\T≠e/\(Y T/\oT.cls=.type "traceback")/\h.get? T=some oT/\oT.data=.fields ts/\ts[3]?=some v
def QNc:YP_->Va->Prop
 | [],c=>c=.none
 | p::r,c=>c=.ref p.1/\∃ va c',p.2.data=.fields va/\va[2]?=some c'/\QNc r c'
def Lie(h:Vp)(Y:Vh->Prop)(e:Vh)(ch:YP_):Prop:=(e::ch.map (·.1)).Nodup/\∀ p∈ch,h.get? p.1=some p.2/\p.2.cls≠.type "traceback"/\(∃ va,p.2.data=.fields va)/\Y p.1
def Exc(h:Vp)(Y:Vh->Prop)(e:Vh)(cls:Va)(dx:Option Vh)(ch:YP_)(fl:Option Va):Prop :=
 ∃ oe vs,h.get? e=some oe/\oe.cls=cls/\oe.dict=dx/\oe.data=.fields vs/\((∃ c,vs[2]?=some c/\QNc ch c)/\Lie h Y e ch)/\Xpc h Y e vs fl
structure QIa(Y:Vh->Prop)(e:Vh)(fs:List Vh)(h h':Vp):Prop where
 keep:∀ b o,h.get? b=some o->b≠e->¬ (Y b/\o.cls=.type "traceback")->b∉fs->h'.get? b=some o
 slot:∀ b o,h.get? b=some o->(∀ vs,o.data≠.fields vs)->∃ sl,h'.get? b=some { o with slots:=sl }
 size:h.objs.size<=h'.objs.size
theorem QIa.trans{Y:Vh->Prop}{e:Vh}{fs:List Vh}{h₁ h₂ h₃:Vp}(x:QIa Y e fs h₁ h₂)(y:QIa Y e fs h₂ h₃):QIa Y e fs h₁ h₃ :=
 ⟨λb o q a c d=>y.keep b o (x.keep b o q a c d) a c d,λb o q n=>let ⟨_,e1⟩:=x.slot b o q n;let ⟨sl,e2⟩:=y.slot b _ e1 n;⟨sl,e2⟩,VI x.size y.size⟩
theorem QIa.funs{Y:Vh->Prop}{e:Vh}{fs:List Vh}{h h' base:Vp}{l:List Env}(x:QIa Y e fs h h')(f:h.FunFrames base l):h'.FunFrames base l :=
 f.of_keeps λb o q n=>let ⟨sl,e1⟩:=x.slot b o q n;⟨_,e1,rfl⟩
theorem Lie.stay{Y:Vh->Prop}{e:Vh}{fs:List Vh}{h h':Vp}{ch:YP_}(l:Lie h Y e ch)(st:QIa Y e fs h h')(nf:∀ b∈fs,∃ o,h.get? b=some o/\∀ vs,o.data≠.fields vs):Lie h' Y e ch :=
 ⟨l.1,λp hp=>by
  obtain⟨q,c,⟨va,d⟩,y⟩:=l.2 p hp;refine⟨st.keep p.1 p.2 q (λz=>?_) (λz=>c z.2) (λz=>?_),c,⟨va,d⟩,y⟩
  ·exact(nodup_cons.mp l.1).1 (by rw[<- z];exact LM hp)
  ·obtain⟨o,q',n⟩:=nf _ z
   rw[q]at q';cases q';exact n va d⟩
theorem Xhb(o:Obj)(f):(o.mapFields f).dict=o.dict:=by
 obtain⟨c,d,dt,sl⟩:=o;cases dt <;> rfl
theorem JVa{Y:Vh->Prop}{e a:Vh}{fs:List Vh}{h:Vp}{o:Obj}{vs:Array Va}(i:Nat)(x:Va)(ho:h.get? a=some o)(hd:o.data=.fields vs)(ha:a=e\/(Y a/\o.cls=.type "traceback")) :
 QIa Y e fs h (h.update a (LN (·.setIfInBounds i x))) where
 keep b u q n1 n2 _:=by
  rw[OB _ _ (λz=>by subst z;rw[ho]at q;cases q;exact ha.elim n1 n2)];exact q
 slot b u q n:=⟨u.slots,by
  rw[OB _ _ (λz=>by subst z;rw[ho]at q;cases q;exact n vs hd)];exact q⟩
 size:=by rw[Heap.size_update];exact Ut _
theorem Ylb{a:Vh}{h:Vp}{o:Obj}{vs:Array Va}(i:Nat)(x:Va)(ho:h.get? a=some o)(hd:o.data=.fields vs) :
 (h.update a (LN (·.setIfInBounds i x))).get? a=some (o.mapFields (·.setIfInBounds i x)):=LO _ ho (Obj.isFreed_of_fields (Obj.data_mapFields hd _))
section
variable{M:VT}{A:VF}{E:YQ_}{s:VG}{Y:Vh->Prop}{base:Vp}{env:Env}{outer:List Env}{L e:Vh}{cls:Va}{dx:Option Vh}{ch:YP_}{fl:Option Va}{Q:Unit->VG->Prop}
theorem JCc{fs:List Vh}{v:Va}(nf:∀ b∈fs,∃ o,s.heap.get? b=some o/\∀ vs,o.data≠.fields vs)(x:Exc s.heap Y e cls dx ch (some v))(q:∀ h',QIa Y e fs s.heap h'->Exc h' Y e cls dx ch (some .none)->Q () { s with heap:=h' }):VV M A (setFlight (.ref e) Vo) Q E s:=by
 obtain⟨oe,vs,he,hc,a9,hd,⟨lk,ll⟩,T,oT,ts,h1,kG,hY,hT,fc,h3⟩:=x;unfold setFlight;refine Uj (LP he hd h1 ?_)
 rw[if_pos (show(Vk T != Vi)=true from by simp)]
 have hsz:3 < ts.size:=(Array.getElem?_eq_some_iff.mp h3).1
 have st:=JVa (Y:=Y) (e:=e) (fs:=fs) 3 ((Vo:Option Vh).elim Vi λf=>Uk f) hT fc (.inr hY)
 refine LQ hT fc hsz (q _ st ⟨oe,vs,?_,hc,a9,hd,⟨lk,ll.stay st nf⟩,T,_,_,h1,kG,⟨hY.1,(Obj.cls_mapFields _ _).trans hY.2⟩,Ylb 3 _ hT fc,Obj.data_mapFields fc _,?_⟩)
 ·rw[OB _ _ kG];exact he
 ·simp[hsz]
theorem Q7b{head:Va}{eD:Bool}(cW:A.frames=some (env::outer))(hl:s.heap.FunFrames base (env::outer))(hf:env.frame=some L)(hy:∀ b,s.heap.objs.size<=b->Y b){oe:Obj}{vs:Array Va}
 (he:s.heap.get? e=some oe) (hc:oe.cls=cls) (a9:oe.dict=dx) (hd:oe.data=.fields vs) (hsz:1 < vs.size) (lk:∃ c,vs[2]?=some c/\QNc ch c) (ll:Lie s.heap Y e ch)
 (q:∀ h',QIa Y e (frs (env::outer)) s.heap h'->Exc h' Y e cls dx ch (some (Uk L))->Q () { s with heap:=h' }) :
 VV M A (do let a <- frameOf env;let pl <- entryPlaceOf L eD;let b <- EntryCells.newEntry head a .none (Uk L) .none pl;setField (.ref e) 1 b) Q E s:=by
 refine Uj (wpAny_frameOf_fun cW hl hf λh₁ hs=>?_)
 refine Uj (wpAny_entryPlaceOf λpl aN=>?_)
 unfold EntryCells.newEntry newFields;refine Uj (Ih ?_ (aN.sizeOk5 _ _ _ _ _))
 have uo:e∉frs (env::outer):=λhm=>by
  obtain⟨_,o,ho,hn⟩:=hl.mem hm;rw[he]at ho;cases ho;exact hn vs hd
 have gZ:h₁.get? e=some oe:=(hs.2.1 e uo).trans he;have ay:h₁.objs.size≠e:=Ud (Vx gZ);generalize htb:({ cls:=.type "traceback",dict:=Vo,data:=.fields ([head,.ref L,.none,Uk L,.none]++(if pl.isEmpty then List.replicate 6 Vi else pl)).toArray }:Obj)=tb
 have kH:tb.data=.fields ([head,.ref L,.none,Uk L,.none]++(if pl.isEmpty then List.replicate 6 Vi else pl)).toArray:=by rw[<- htb]
 have mK:tb.isFreed=false:=Obj.isFreed_of_fields kH;have cw:(h₁.push tb).get? e=some oe:=Ur _ gZ
 have hY:Y h₁.objs.size:=hy _ (by rw[hs.1];exact Ut _)
 have uq:tb.cls=.type "traceback":=by rw[<- htb]
 have st:QIa Y e (frs (env::outer)) s.heap ((h₁.push tb).update e (LN (·.setIfInBounds 1 (Vk h₁.objs.size)))):=by
  refine QIa.trans ?_ (JVa 1 _ cw hd (.inl rfl))
  refine⟨λb o g _ _ n=>Ur _ ((hs.2.1 b n).trans g),λb o g _=>?_,?_⟩
  ·obtain⟨sl,g1⟩:=hs.2.2 b o g
   exact⟨sl,Ur _ g1⟩
  ·rw[<- hs.1];cases h₁;simp[Heap.push]
 refine LQ cw hd hsz (q _ st ⟨_,_,Ylb 1 _ cw hd,(Obj.cls_mapFields _ _).trans hc,(Xhb _ _).trans a9,Obj.data_mapFields hd _,⟨?_,ll.stay st λb hb=>(hl.mem hb).2⟩,h₁.objs.size,tb,_,by simp[hsz],ay,⟨hY,uq⟩,?_,kH,?_⟩)
 ·obtain⟨c,h2,l⟩:=lk
  exact⟨c,by rw[Le #[1]];exact h2,l⟩
 ·rw[OB _ _ (VR ay)];exact Us _ mK
 ·first | (simp;done) | (rcases aN with rfl | ⟨_,_,_,_,_,_,_,rfl⟩ <;> simp)
theorem JDc(cW:A.frames=some (env::outer))(hl:s.heap.FunFrames base (env::outer))(hf:env.frame=some L)(hy:∀ b,s.heap.objs.size<=b->Y b)(x:Exc s.heap Y e cls dx ch fl)(iW:fl=Vo\/fl=some .none)
 (q:∀ h',QIa Y e (frs (env::outer)) s.heap h'->Exc h' Y e cls dx ch (some (Uk L))->Q () { s with heap:=h' }):VV M A (noteFrame (.ref e) env) Q E s:=by
 obtain⟨oe,vs,he,hc,a9,hd,⟨lk,ll⟩,hh⟩:=x;unfold noteFrame;simp only[hf]
 rcases iW with rfl | rfl
 ·have h1:vs[1]?=some .none:=hh
  refine Uj (LP he hd h1 ?_)
  rw[if_neg #[1]]
  exact Q7b cW hl hf hy he hc a9 hd (Array.getElem?_eq_some_iff.mp h1).1 lk ll q
 ·obtain⟨T,oT,ts,h1,kG,hY,hT,fc,h3⟩:=hh
  refine Uj (LP he hd h1 ?_)
  rw[if_pos (show(Vk T != Vi)=true from by simp)]
  refine Uj (LP hT fc h3 ?_)
  rw[if_neg (show ¬ ((Vi == Uk L)=true) from by simp[Uk])]
  refine Uj (LQ hT fc (Array.getElem?_eq_some_iff.mp h3).1 ?_)
  have st:QIa Y e (frs (env::outer)) s.heap (s.heap.update T (LN (·.setIfInBounds 3 Vi))):=JVa 3 _ hT fc (.inr hY);refine Q7b (s:={ s with heap:=s.heap.update T (LN (·.setIfInBounds 3 Vi)) }) cW (st.funs hl) hf (λb hb=>hy b (VI st.size hb)) ((OB _ _ kG).trans he) hc a9 hd (Array.getElem?_eq_some_iff.mp h1).1 lk (ll.stay st λb hb=>(hl.mem hb).2) λh' t x'=>q h' (st.trans t) x'
theorem QOc(cW:A.frames=some (env::outer))(hl:s.heap.FunFrames base (env::outer))(hf:env.frame=some L)(hy:∀ b,s.heap.objs.size<=b->Y b)(x:Exc s.heap Y e cls dx ch fl)(iW:fl=Vo\/fl=some .none)
 (q:∀ h',QIa Y e (frs (env::outer)) s.heap h'->Exc h' Y e cls dx ch (some .none)->Q () { s with heap:=h' }):VV M A (leaving env (.ref e)) Q E s:=by
 unfold leaving;refine Uj (JDc cW hl hf hy x iW λh₁ st x1=>?_)
 exact JCc (s:={ s with heap:=h₁ }) (fs:=frs (env::outer)) (λb hb=>((st.funs hl).mem hb).2) x1 λh₂ cm x2=>q h₂ (st.trans cm) x2
end
theorem Exc.mono{h:Vp}{Y Y':Vh->Prop}{e:Vh}{cls:Va}{dx:Option Vh}{ch:YP_}{fl:Option Va}(x:Exc h Y e cls dx ch fl)(k:∀ b,Y b->Y' b):Exc h Y' e cls dx ch fl:=by
 obtain⟨oe,vs,he,hc,a9,hd,⟨lk,l1,l2⟩,hh⟩:=x;refine⟨oe,vs,he,hc,a9,hd,⟨lk,l1,λp hp=>let ⟨a,b,c,d⟩:=l2 p hp;⟨a,b,c,k _ d⟩⟩,?_⟩
 cases fl with
 | none=>exact hh
 | some v=>obtain⟨T,oT,ts,h1,h2,h3,r⟩:=hh;exact⟨T,oT,ts,h1,h2,⟨k T h3.1,h3.2⟩,r⟩
def Yg(old:Vp)(H:Hp)(b:Vh):Prop:=old.get? b=Vo/\H b=Vo
def CX1(P:Vg)(w:Vb):CXT:=λouter H s E e s'=>∃ ea cls dx ch H',e=.ref ea/\s'.os=s.os/\VH s'.gens/\Un (frs outer) [] H H' s.heap s'.heap/\HOk P w H' s'.heap /\
 Exc s'.heap (Yg s.heap H') ea cls dx ch (some .none)/\s.heap.get? ea=Vo/\H' ea=Vo/\E cls dx H'
def JWa(X:Cx)(E:XK):Prop:=∀ (aa:YP_) (σ:St) (H:Hp) (s:VG) (e:Vh) (cls:Va) (dx:Option Vh) (ch:YP_) (fl:Option Va),Inv X aa σ H s->Exc s.heap (Yg X.s₀.heap H) e cls dx ch fl->(fl=Vo\/fl=some .none) ->
 X.s₀.heap.get? e=Vo->H e=Vo->E cls dx H->X.xe (.ref e) s
section
variable{X:Cx}{E:XK}{aa:YP_}{σ:St}{H:Hp}{s:VG}
theorem Inv.young(I:Inv X aa σ H s)(hx:X.ex=[]){b:Vh}(h:s.heap.get? b=Vo):X.s₀.heap.get? b=Vo:=by
 cases q:X.s₀.heap.get? b with
 | none=>rfl
 | some o =>
  obtain⟨o',e⟩:=I.base.there b o q (by rw[hx];simp)
  rw[h]at e;cases e
theorem QPc{env:Env}{outer:List Env}{L:Vh}(h:env.frame=some L):frs (env::outer)=L::frs outer:=by unfold frs;rw[VL,h]
end
section
variable{P:Vg}{w:Vb}{K:VC}{mg:Str->Option Va}{base:Vp}{N:List Str}{qual:Str}{scope:Scope}{f:Vh}{cd:Va}{A:VF}{outer:List Env}{s:VG}{H:Hp}{E:XK}
theorem Qfa:JWa (Q5a (CX1 P w) P w K mg base N qual scope f cd A outer s H E) E:=by
 intro aa σ H' s' e cls dx ch fl I x iW n1 n2 hE;have n1:s.heap.get? e=Vo:=n1;have fr:frs (Oe qual scope s.heap.objs.size f cd::outer)=s.heap.objs.size::frs outer:=QPc rfl;have stk:s'.heap.FunFrames base (Oe qual scope s.heap.objs.size f cd::outer):=I.stack;have sf:∀ b∈frs (Oe qual scope s.heap.objs.size f cd::outer),H' b=Vo:=I.stkFree;have ib:Un (frs outer) [] H H' s.heap s'.heap:=I.base;show VV (VW P w) _ (leaving _ (.ref e)) _ _ s';refine QOc (base:=base) (Y:=Yg s.heap H') (L:=s.heap.objs.size) (fl:=fl) I.ok.frames stk rfl (λb hb=>⟨VO (VI I.sz hb),I.hok.fresh hb⟩) x iW λh' st x'=>?_
 have nf:∀ b o,s.heap.get? b=some o->b∉frs outer->b∉frs (Oe qual scope s.heap.objs.size f cd::outer):=λb o q hb hm=>by
  rw[fr]at hm
  rcases mem_cons.mp hm with z | z
  ·rw[z]at q;exact absurd (Vx q) (Vz _)
  ·exact hb z
 have ne:∀ b o,s.heap.get? b=some o->b≠e:=λb o q z=>by rw[z,n1]at q;cases q
 have ny:∀ b o (o':Obj),s.heap.get? b=some o->¬ (Yg s.heap H' b/\o'.cls=.type "traceback"):=λb o o' q y=>by rw[y.1.1]at q;cases q
 refine⟨e,cls,dx,ch,H',rfl,I.os,I.bare,⟨λb o q n hb hx=>?_,λb o q n hb hx=>?_,ib.free,λb o q hx=>?_,ib.tups,ib.frzs,ib.tbls⟩,λb u eb=>?_,x',n1,n2,hE⟩
 ·exact st.keep b o (ib.keep b o q n hb hx) (ne b o q) (ny b o _ q) (nf b o q hb)
 ·obtain⟨sl,q1⟩:=ib.slot b o q n hb hx
  obtain⟨_,o2,q2,hn⟩:=stk.mem (show b∈frs _ by rw[fr];exact VN _ hb)
  rw[q1]at q2;cases q2;obtain⟨lL,q3⟩:=st.slot b _ q1 hn;exact⟨lL,q3⟩
 ·obtain⟨o',q1⟩:=ib.there b o q hx
  by_cases hn:∀ vs,o'.data≠.fields vs
  ·obtain⟨sl,q2⟩:=st.slot b o' q1 hn
   exact⟨_,q2⟩
  ·refine⟨o',st.keep b o' q1 (ne b o q) (ny b o _ q) λhm=>?_⟩
   obtain⟨_,o2,q2,cO⟩:=stk.mem hm;rw[q1]at q2;cases q2;exact hn cO
 ·refine(I.hok b u eb).stay (λc v hc q=>?_) (λ_ q=>q) λ_ _ q=>q
  have cZ:H' c≠Vo:=by
   rcases hc with z | z
   ·rw[z,eb];simp
   ·rw[z];simp
  exact st.keep c v q (λz=>cZ (by rw[z];exact n2)) (λy=>cZ y.1.2) λhm=>cZ (sf c hm)
theorem QNd:PassesOwn (VW P w) (Q5a (CX1 P w) P w K mg base N qual scope f cd A outer s H E).A (Q5a (CX1 P w) P w K mg base N qual scope f cd A outer s H E).env (Q5a (CX1 P w) P w K mg base N qual scope f cd A outer s H E).xe:=PassesOwn.leaving (Q₁:=λe bH=>CX1 P w outer H s E e bH)
end
theorem QC.obj{P:Vg}{w:Vb}{H:Hp}{h:Vp}{a:Vh}{o:HO}(x:QC P w H h a o):∃ ob,h.get? a=some ob:=by
 cases o with
 | lst xs=>obtain⟨_,_,_,_,e⟩:=x;exact⟨_,e⟩
 | tup xs=>obtain⟨_,_,_,p⟩:=x;obtain⟨o,e,_⟩:=p;exact⟨_,e⟩
 | dK ae=>obtain⟨_,_,_,_,o,_,_,e,_⟩:=x;exact⟨_,e⟩
 | dT ae=>obtain⟨_,_,_,_,o,_,_,e,_⟩:=x;exact⟨_,e⟩
 | set S n=>obtain⟨o,_,_,_,e,_⟩:=x;exact⟨_,e⟩
 | ins C dx fs=>obtain⟨_,_,_,e,_⟩:=x;exact⟨_,e⟩
 | own y=>exact x
 | xd fs=>obtain⟨_,⟨_,_,_,e,_⟩,_⟩:=x;exact⟨_,e⟩
 | rng lo hi=>obtain⟨_,_,_,e⟩:=x;exact⟨_,e⟩
 | frz ob u=>obtain⟨e,_⟩:=x;exact⟨_,e⟩
 | tbl ps=>exact⟨_,x⟩
 | met f y=>exact⟨_,x⟩
 | ext φ=>obtain⟨_,e,_⟩:=x;exact e
theorem HOk.none_of{P:Vg}{w:Vb}{H:Hp}{h:Vp}{a:Vh}(x:HOk P w H h)(e:h.get? a=Vo):H a=Vo:=by
 cases q:H a with
 | none=>rfl
 | some u=>obtain⟨o,e'⟩:=(x a u q).obj;rw[e]at e';cases e'
structure QOd(K:VC)(C:Vh)(bm iX:List Va)(newId:String):Prop where
 ex:∃ nm q N bs hdct sn sub ab col dd k0 k1 k2 k3 k5,K.lookup C=some (LR nm q C N bs bm hdct sn sub ab col dd k0 k1 k2 k3 k5 newId)/\W.nsOkIn K N=true/\LS K N "__init__"=some Vo
 tail:W.tailIn K iX bm=true
section
variable{X:Cx}{E:XK}{x:Str}{C:Vh}{bm iX:List Va}{B newId bY:String}{np ak pos:Pos}
end
structure Old(X:Cx)(aa:YP_)(old:Vp):Prop where
 ent:∀ b,old.get? b=Vo->X.s₀.heap.get? b=Vo
 pin:∀ p∈X.pn++aa,old.get? p.1≠Vo
def X1P(X:Cx)(aa:YP_)(σ:St)(E:XK)(ev:Va)(s':VG):Prop :=
 ∃ ea cls dx ch H' old,ev=.ref ea/\Inv X aa σ H' s'/\Exc s'.heap (Yg old H') ea cls dx ch (some .none)/\Old X aa old/\(∀ b,s'.heap.objs.size<=b->old.get? b=Vo)/\old.get? ea=Vo/\H' ea=Vo/\E cls dx H'
abbrev TE1:=St->Hp->VK->XK->Prop
abbrev TS1:=Jg->St->Hp->XK->Prop
def PE1(X:Cx)(e:Expr)(t:TE1):Prop :=
 ∀ (aa:YP_) (s:VG) (σ:St) (H:Hp) (Q:VK) (E:XK),Inv X aa σ H s->t σ H Q E->VV (VW X.prog X.w) X.A (VX e X.env) (EP X aa σ Q) (X1P X aa σ E) s
section
variable{X:Cx}{E:XK}{e:Expr}{es:List Expr}{t:TA}{t1:TE1}{x:Str}{p pos:Pos}{k j:Nat}{f:Vh}{fd:UZ}{ps:List Str}{sp:Sp}
theorem X1P.thrown{aa:YP_}{σ:St}{ev:Va}{s':VG}(T:JWa X E)(h:X1P X aa σ E ev s'):X.xe ev s':=by
 obtain⟨ea,cls,dx,ch,H',old,rfl,I,y,o,_,n1,n2,hE⟩:=h;exact T aa σ H' s' ea cls dx ch _ I (y.mono λb z=>⟨o.ent b z.1,z.2⟩) (.inr rfl) (o.ent _ n1) n2 hE
theorem PE1.pe(h:PE1 X e t1)(T:JWa X E):PE X e (λσ H Q=>t1 σ H Q E):=λaa s σ H Q I q=>V1 (h aa s σ H Q E I q) (λ_ _ z=>z) λ_ _ z=>z.thrown T
theorem Inv.old{aa:YP_}{σ:St}{H:Hp}{s:VG}(I:Inv X aa σ H s)(bi:X.ex=[]):Old X aa s.heap :=
 ⟨λb h=>I.young bi h,λp hp h=>by rw[(I.pin p hp).1]at h;cases h⟩
theorem Jua{aa:YP_}{σ:St}{H:Hp}{s:VG}{Q:VK}{us:List Va}{vs:List V}(F:QB X.prog X.w X.K X.mg X.base (CX1 X.prog X.w) k f fd ps sp)(hr:QX k X.A)(hb:Zv X.K fd ps [])(bi:X.ex=[])
 (I:Inv X aa σ H s) (r:Qt vs us) (h:sp vs H Q E):VV (VW X.prog X.w) X.A (Uy (.ref f) us) (EP X aa σ Q) (X1P X aa σ E) s:=by
 have hl:(us++[]).length=ps.length:=by rw[U0,<- r.length];exact F.len _ _ _ _ h
 have b:=hb s us I.kIn hl;rw[U0]at b;refine U1 (U2 (F.run X.A X.stack s H ⟨us,[]⟩ us vs Q E hr I.env0 b r h) λres s' hq=>?_)
 cases res with
 | error ev =>
  obtain⟨ea,cls,dx,ch,H',rfl,os,bare,un,hok,y,n1,n2,hE⟩:=hq;refine⟨ea,cls,dx,ch,H',s.heap,rfl,I.call' (ch:=[]) os un hok bare (λb z=>absurd z #[2]),y,I.old bi,λb hb=>?_,n1,n2,hE⟩
  cases q:s.heap.get? b with
  | none=>rfl
  | some u =>
   obtain⟨u',q'⟩:=un.there b u q #[2]
   exact absurd (Vy (Vx q') hb) (Vz _)
 | ok fl =>
  cases fl with
  | ret u=>exact I.after hq
  | next=>exact V8 hq
  | brk=>exact V8 hq
  | cont=>exact V8 hq
def X6a(sp:Sp)(t:TA):TE1:=λσ H Q E=>t σ H λvs H1=>sp vs H1 Q E
theorem QQc{aa:YP_}{σ:St}{H:Hp}{s:VG}{Q:List V->Hp->Prop}{W:YQ_}(ha:PA X.nox es t)(I:Inv X aa σ H s)(q:t σ H Q):VV (VW X.prog X.w) X.A (spliced (VY pos (VZ es X.env))) (AP X aa σ Q) W s :=
 V1 (ha pos aa s σ H Q (I.wish _) q) (λ_ _ ⟨vs,H',I',r,z⟩=>⟨vs,H',I'.unwish,r,z⟩) λ_ _ z=>V8 z
theorem QRc(F:QB X.prog X.w X.K X.mg X.base (CX1 X.prog X.w) k f fd ps sp)(hr:QX k X.A)(hg:Gl X x)(hm:X.mg x=some (.ref f))(hk:UN X.K (.ref f)=true)(hb:Zv X.K fd ps [])(bi:X.ex=[])
 (ha:PA X.nox (e::es) t) (aP:(x == ("__debug__":Str))=false:=by decide) (he:VZ (e::es) X.env=(false,VX e X.env)::VZ es X.env:=by rfl) (aN:(VY pos (VZ es X.env)).any (·.1)=false:=by rfl) :
 PE1 X (.Call (.Name x p) (e::es) [] pos) (X6a sp t):=by
 intro aa s σ H Q E I h;refine U3 (Ye I hg hm ?_ aP)
 refine U4 (h₀:=X.base) I.ok.mod.kin hk (thn (QQc ha I h) λus s1 ⟨vs,H1,I1,r,q⟩=>⟨I1.kIn,?_⟩) he aN
 exact Jua F hr hb bi I1 r q
end
section
variable{X:Cx}{aa:YP_}{σ:St}{H:Hp}{s:VG}
end
section
variable{X:Cx}{st b₀:V0}{fg:List V0}{t1:TS1}{ts:TS}{x:Str}{C:Vh}{bm iX:List Va}{B newId bY:String}{np iY pos:Pos}
end
section
variable{prog:Vg}{w:Vb}{A:VF}{s:VG}{R:UH->VG->Prop}{value:Va}
end
section
variable{M:VT}{A:VF}{E:YQ_}{env:Env}
variable{nm q:Str}{C N:Vh}{bs bm:List Va}{hdct:Bool}{sn:List Str}{sub:List Va}{ab:Bool}{col:Option Bool}{dd:Option Vh}{k0 k1 k2 k3 k5:Option Va}{newId:String}
end
section
variable{X:Cx}{E:XK}{x:Str}{C ea:Vh}{ps:YP_}{bm iX:List Va}{B newId bY:String}{np ak c5 pos:Pos}{j:Nat}
end
def MeV(P:Vg)(w:Vb)(K:VC)(mg:Str->Option Va)(base:Vp)(k:Nat)(C:Vh)(m:Str)(sp:Sp):Prop :=
 ∃ f fd ps,X8c K C m f/\QB P w K mg base (CX1 P w) k f fd ps sp/\Zv K fd ps []
section
variable{X:Cx}{C:Vh}{m x:Str}{k i:Nat}{sp:Sp}{ta:TE}{t:TA}{e o:Expr}{es:List Expr}{p pos ai:Pos}{pl:Sem Bool}
theorem Ymb{aa:YP_}{σ:St}{H:Hp}{s:VG}{Q:VK}{W:YQ_}(h:PE X.nox e ta)(I:Inv X aa σ H s)(q:ta σ H Q):VV (VW X.prog X.w) X.A (VX e X.env) (EP X aa σ Q) W s :=
 V1 (h aa s σ H Q (I.wish _) q) (λ_ _ ⟨v,H',I',r,z⟩=>⟨v,H',I'.unwish,r,z⟩) λ_ _ z=>V8 z
end
section
variable{P:Vg}{w:Vb}{K:VC}{mg:Str->Option Va}{base:Vp}
theorem Fun.ok1{x qual:Str}{st:V0}{f:Vh}{fd:UZ}{N ps:List Str}{k:Nat}{sp:Sp}(F:Fun K x qual st f fd)(S:Qo N ps (Qi st))(len:∀ vs H Q E,sp vs H Q E->vs.length=ps.length)
 (bI:∀ (am:Va) (A:VF) (outer:List Env) (s:VG) (H:Hp) (vs:List V) (Q:VK) (E:XK),QX k (A.deeper (Oe qual (Qi st) s.heap.objs.size f am))->sp vs H Q E ->
  ∃ t,PSs (Q5a (CX1 P w) P w K mg base N qual (Qi st) f am A outer s H E) (YX st) t/\t { nx:=λ_ H'=>Q .non H',rt:=Q } (Q4a N vs) H):QB P w K mg base (CX1 P w) (k+1) f fd ps sp:=by
 obtain⟨oc,od,kV,bv,pm,an,am,ct,cP,rfl,lk,bG⟩:=F.ex;exact Ypc lk bG S len λA outer s H vs Q E hr cC=>bI am A outer s H vs Q E hr cC
end
section
variable{X:Cx}
theorem JR:JWa X E0:=λ_ _ _ _ _ _ _ _ _ _ _ _ _ _ h=>h.elim
end
section
variable{P:Vg}{w:Vb}{K:VC}{mg:Str->Option Va}{base:Vp}{N:List Str}{qual:Str}{scope:Scope}{f:Vh}{cd:Va}{A:VF}{outer:List Env}{s:VG}{H:Hp}{E:XK}
end
def JEc(P:Vg)(w:Vb)(K:VC)(mg:Str->Option Va)(base:Vp)(k:Nat)(x:Str)(ps:List Str)(sp:Sp):Prop :=
 ∃ f fd,QB P w K mg base (CX1 P w) k f fd ps sp/\Zv K fd ps []/\UN K (.ref f)=true/\mg x=some (.ref f)
def MkV(P:Vg)(w:Vb)(K:VC)(mg:Str->Option Va)(base:Vp)(k:Nat)(x:Str)(C:Vh)(sp:Sp):Prop :=
 ∃ f fd ps,Mk K C f/\QB P w K mg base CX0 k f fd ps sp/\Zv K fd ps []/\mg x=some (.ref C)
section
variable{X:Cx}{e o:Expr}{es:List Expr}{t:TA}{ta:TE}{p pos ai:Pos}{j k:Nat}{x m:Str}{ps:List Str}{sp:Sp}{C:Vh}{E:XK}{pl:Sem Bool}
theorem JFc(G:JEc X.prog X.w X.K X.mg X.base j x ps sp)(hr:QX k X.A)(hj:j<=k)(hg:Gl X x)(bi:X.ex=[])(ha:PA X.nox (e::es) t)(aP:(x == ("__debug__":Str))=false:=by decide)
 (he:VZ (e::es) X.env=(false,VX e X.env)::VZ es X.env:=by rfl) (aN:(VY pos (VZ es X.env)).any (·.1)=false:=by rfl):PE1 X (.Call (.Name x p) (e::es) [] pos) (X6a sp t):=by
 obtain⟨f,fd,F,b,kp,m⟩:=G;exact QRc F (hr.mono hj) hg m kp b bi ha aP he aN
theorem MeV.mono{P:Vg}{w:Vb}{K:VC}{mg:Str->Option Va}{base:Vp}(G:MeV P w K mg base j C m sp)(hj:j<=k):MeV P w K mg base k C m sp:=by
 obtain⟨f,fd,ps,a,F,b⟩:=G;exact⟨f,fd,ps,a,F.mono hj,b⟩
theorem Q8b(G:MkV X.prog X.w X.K X.mg X.base j x C sp)(hr:QX k X.A)(hj:j+1<=k)(hg:Gl X x)(ha:PA X (e::es) t)(aP:(x == ("__debug__":Str))=false:=by decide)
 (he:VZ (e::es) X.env=(false,VX e X.env)::VZ es X.env:=by rfl) (aN:(VY pos (VZ es X.env)).any (·.1)=false:=by rfl):PE X (.Call (.Name x p) (e::es) [] pos) (J6b C sp [] E0 t):=by
 obtain⟨f,fd,ps,M,F,b,hm⟩:=G;exact Jlc M F (hr.mono hj) hg hm b .nil J9b ha aP he aN
end
end L2
end
section
namespace Tg
open PySem L2 Pl
def YAc(c:Nat):Bool:=decide (32<=c/\c<=126/\c≠37)
def QMc(z:Str):Prop:=z.length<=10000000
def Q6b:V->Prop
 | .non=>True
 | .bl _=>True
 | .int _=>True
 | .str z=>QMc z
 | _=>False
def TT:Nat->Hp->V->Prop
 | 0,H,v=>Q6b v\/∃ a,v=.ref a/\((∃ xs,H a=some (.lst xs))\/H a=some (.dK [])\/∃ xs,H a=some (.tup xs)/\xs.length<=100000)
 | n+1,H,v=>Q6b v\/∃ a,v=.ref a/\((∃ xs,H a=some (.lst xs))\/H a=some (.dK [])\/∃ xs,H a=some (.tup xs)/\xs.length<=100000/\∀ u∈xs,TT n H u)
end Tg
end
section
namespace L2
open PySem PySem.Spec PyProof.Rows
section
variable{X:Cx}
end
section
variable{X:Cx}
end
end L2
end
section
namespace PySem
section
variable{prog:Vg}{w:Vb}{A:VF}{E:YQ_}{h:Vp}{g:Array VP}{d:VQ}{t:Nat}{os:OsState}
variable{nm q:Str}{C N:Vh}{bs bm iX:List Va}{hdct:Bool}{sn:List Str}{sub:List Va}{ab:Bool}{col:Option Bool}{dd:Option Vh}{k0 k1 k2 k3 k5:Option Va}{B newId bY:String}
abbrev ZKa(h:Vp)(C:Vh):Obj:={ cls:=.ref C,data:=.fields #[.ref h.objs.size,.none,.none,.none,.bool false,.none] }
abbrev JXa(rest:List Va):Obj:={ cls:=.type "tuple",data:=.seq rest.toArray }
end
end PySem
end
section
namespace PySem.W
open PySem PySem.Spec PySem.Calls PyProof.Rows PySem.Builtin PySem.Builtin.ObjectAttr
abbrev bmV:List Va:=[.type "ValueError",.type "Exception",.type "BaseException",.type "object"]
structure XCl(K:VC)(C CT:Vh):Prop where
 cl:∃ nm q N bs sn sub ab col dd k0 k1 k2 k3 k5,K.lookup C=some (LR nm q C N bs (.ref CT::bmV) true sn sub ab col dd k0 k1 k2 k3 k5 "ValueError.__new__")/\nsOkIn K N=true
 tail:tailIn K bmV (.ref CT::bmV)=true
 ga:UD K (.ref C) "__getattribute__"=some (some (.builtin "BaseException.__getattribute__"))
 gt:UD K (.ref C) "__getattr__"=some Vo
 sa:UD K (.ref C) "__setattr__"=some (some (.builtin "object.__setattr__"))
 cc:UD K (.ref C) "__class__"=some (some (.builtin "object.__class__"))
 cg:specialIn K (.builtin "object.__class__") "__get__"=some (some (.builtin "getset_descriptor.__get__"))
 ct:takesIn K (.builtin "object.__class__")=some true
section
variable{K:VC}{C CT:Vh}
theorem XCl.cd(c:XCl K C CT):∃ cd,clsIn K C=some cd/\cd.mro=.ref C::.ref CT::bmV/\cd.hasDict=true:=by
 obtain⟨nm,q,N,bs,sn,sub,ab,col,dd,k0,k1,k2,k3,k5,lk,_⟩:=c.cl;have e:clsIn K C=(match (LR nm q C N bs (.ref CT::bmV) true sn sub ab col dd k0 k1 k2 k3 k5 "ValueError.__new__") with | ⟨_,_,.cls cd,_⟩=>some cd | _=>Vo):=by unfold clsIn;rw[lk]
 exact⟨_,e,rfl,rfl⟩
theorem XCl.mro(c:XCl K C CT)(T:Va):mroIn K C T=some ((Vk C::.ref CT::bmV).contains T):=by
 obtain⟨cd,h,m,_⟩:=c.cd;unfold mroIn;rw[h,Option.bind_some,m];rfl
theorem XCl.mroT(c:XCl K C CT){T:String}(h:bmV.contains (.type T)=true):mroIn K C (.type T)=some true:=by
 rw[c.mro,LV,LV,h];rfl
end
section
variable{prog:Vg}{w:Vb}{A:VF}{E:YQ_}{s:VG}{K:VC}{x C CT:Vh}{ox:Obj}{od:Option Obj}{name:Str}
theorem X0c{tk:Tok}{fill dW:Bool}{Q:YQ_}(X:K.In s.heap)(I:InstAt s.heap x ox C od)(c:XCl K C CT)
 (h:VV (VW prog w) A.in1 (Ij.«object.__getattribute__» ⟨[.ref x,.str name tk],[]⟩)
  (λfin s'=>match fin with | .done (.ret v)=>VV (VW prog w) A (handedOut v) Q E s' | _=>False) (λ_ _=>False) s) :
 VV (VW prog w) A (getAttrBy (.ref x) (.str name tk) fill dW) Q E s:=by
 have L0:=I.type (M:=VW prog w);have L1:=looks_findIn (M:=VW prog w) X c.ga;have SL:=F.attr_ValueError.ga;unfold getAttrBy;refine LG (Uj (L0.here (Uj (L1.here ?_))))
 dsimp only;rw[show(onTheHeap (Vk C) && LW "BaseException.__getattribute__" == LW "object.__getattribute__")=false from by rw[show(LW "BaseException.__getattribute__" == LW "object.__getattribute__")=false from by decide +kernel,LX],if_neg #[1]]
 unfold getAttrByItsOwn;refine Uj ((looks_hook (mc:=.ref C) X (r:=Vo) (by show(if onTheHeap (.ref C)=true then UD K (.ref C) "__getattr__" else some Vo)=some Vo;rw[if_pos (show onTheHeap (Vk C)=true from rfl)];exact c.gt)).here (Uj (Lm (LG ?_))))
 unfold callGetattribute;rw[show(dW && onTheHeap (LW "BaseException.__getattribute__"))=false from LX _,if_neg #[1]]
 unfold boundAndCalled;rw[SL.bind];refine Uj (Ui ?_)
 show VV _ _ (Uy (.builtin "BaseException.__getattribute__") [.ref x,.str name tk]) _ _ _;refine U1 ?_
 refine LY SL.plain F.entry_bexc_ga ?_
 refine @check_slot (VW prog w) _ _ s "BaseException.__getattribute__" "BaseException" "__getattribute__" (.ref x) [.str name tk] [] _ (by decide +kernel) (by decide +kernel) (I.type.andThen (looks_mroIn X (c.mroT #[1]))) (F.args_bexc_ga _ _) ?_
 refine V1 h (λfin s' z=>?_) λ_ _ z=>z.elim
 rcases fin with (_ | _ | _ | _) | _ <;> first | exact z | exact z.elim
theorem Xib{R:UH->VG->Prop}{tk:Tok}{v:Va}(X:K.In s.heap)(I:InstAt s.heap x ox C od)(c:XCl K C CT)(ht:UD K (.ref C) name=some Vo)
 (h:∀ b,VV (VW prog w) A.in1 (storeInOwnDict (.ref x) (.ref C) (.str name tk) name v b)
  (λfin s'=>match fin with | .done f=>R (.ok f) s' | .again c'=>c'.quiet=true/\UJ (VW prog w) A c' R s') (λe s'=>R (.error e) s') s) :
 UJ (VW prog w) A (.call (.builtin "object.__setattr__") ⟨[.ref x,.str name tk,v],[]⟩) R s:=by
 have SF:=F.store_object;obtain⟨cd,hc,ho,_⟩:=c.cd;have sub:Looks (VW prog w) s.heap (LZ (.ref x) (.type "object")) true:=I.type.andThen (looks_mroIn X (c.mroT #[1]))
 refine LY SF.slot.plain SF.entry (@check_slot (VW prog w) _ _ s "object.__setattr__" "object" "__setattr__" (.ref x) [.str name tk,v] [] _ SF.kind SF.split sub (SF.args (.ref x) (.str name tk) v) ?_)
 have hm:Looks (VW prog w) s.heap (mroOf (.ref C)) cd.mro:=(looks_clsIn X hc).andThen .now;rw[osa_eq,refuse_eq];refine Uj (Uj (I.type.here (Uj (hm.here ?_))))
 rw[ho,CG,CG,F.store_ValueError.passes];refine Ui (Uj (I.type.here (Uj ((looks_findIn X ht).here (Uj (Ui (a:=Vo) ?_))))))
 exact h _
theorem Xjb{v:Va}{Q:Unit->VG->Prop}(X:K.In s.heap)(c:XCl K C CT)(ht:UD K (.ref C) name=some Vo)(hx:s.heap.get? x=some ox)(gc:ox.cls=.ref C)(hn:notCls ox=true)(cW:ox.isFreed=false)
 (hd:ox.dict=Vo) (h:∀ h',h'.Ns1 s.heap.objs.size (λy=>if y=name then some v else Vo)->h'.get? x=some { ox with dict:=some s.heap.objs.size }->(∀ b o,b≠x->s.heap.get? b=some o->h'.get? b=some o)->Q () { s with heap:=h',toks:=s.toks+2 }) :
 VV (VW prog w) A (setAttr (.ref x) name v) Q E s:=by
 have J:InstAt s.heap x ox C Vo:=⟨hx,gc,hn,by rw[hd];trivial⟩
 refine set_plain X J c.sa (Xib (s:={ s with toks:=s.toks+1 }) X J c ht λb=>?_)
 obtain⟨cd,hc,_,cf⟩:=c.cd;obtain⟨oc,odi,kI,cP⟩:=ox;dsimp only at gc hd;subst gc hd;refine Uj (Ui (Uj (Uj (wpAny_loadPart hx (Uj (Looks.here (s:={ s with toks:=s.toks+1 }) (looks_clsIn X hc) ?_))))))
 rw[cf];have qc:(s.heap.push { cls:=.type "dict",data:=.dict #[] }).get? x=some ⟨.ref C,Vo,kI,cP⟩:=Ur _ hx
 have qf:x≠s.heap.objs.size:=VA (Vx hx);rw[if_neg #[1]]
 dsimp only;rw[if_neg (show ¬ ((!true || !typeHasDict (Vk C))=true) by simp[typeHasDict])]
 have ut:((s.heap.push { cls:=.type "dict",data:=.dict #[] }).update x λo=>{ cls:=o.cls,dict:=some s.heap.objs.size,data:=o.data,slots:=o.slots }).get? s.heap.objs.size=some { cls:=.type "dict",data:=.dict #[] } :=
  (Heap.get?_update_ne _ _ _ _ qf.symm).trans (Heap.get?_push_at rfl rfl)
 have uu:((s.heap.push { cls:=.type "dict",data:=.dict #[] }).update x λo=>{ cls:=o.cls,dict:=some s.heap.objs.size,data:=o.data,slots:=o.slots }).Ns s.heap.objs.size (λ_=>Vo) :=
  ⟨_,#[],_,ut,rfl,λe he=>absurd he #[2],λ_=>rfl⟩
 have uv:((s.heap.push { cls:=.type "dict",data:=.dict #[] }).update x λo=>{ cls:=o.cls,dict:=some s.heap.objs.size,data:=o.data,slots:=o.slots }).get? x=some ⟨.ref C,some s.heap.objs.size,kI,cP⟩:=by
  refine LO _ qc ?_
  cases kI <;> first | rfl | exact cW
 have dZ:VV (VW prog w) A.in1 (do let d <- alloc { cls:=.type "dict",data:=.dict #[] };update x λo=>{ cls:=o.cls,dict:=some d,data:=o.data,slots:=o.slots };dictMade (Vk C) x d)
  (λa s'=>VV (VW prog w) A.in1 (match a with | some d=>storeInDict d (Vf name s.toks) name v | none=>noDictFor (Vk x) (Vk C) name b)
   (λfin s'=>match fin with | .done f=>(match (Except.ok f:UH) with | .ok (.ret _)=>Q () s' | .ok _=>False | .error e=>E e s') | .again c'=>c'.quiet=true/\UJ (VW prog w) A c' (λr s'=>match r with | .ok (.ret _)=>Q () s' | .ok _=>False | .error e=>E e s') s') (λe s'=>E e s') s')
  (λe s'=>E e s') { s with toks:=s.toks+1 }:=by
  refine Uj (wpAny_alloc' ?_)
  refine Uj (wpAny_update' qc ?_)
  refine Ui ?_
  show VV _ _ (storeInDict s.heap.objs.size (.str name s.toks) name v) _ _ _;unfold storeInDict newKeyGuard;refine Uj (Ui (Uj (wpAny_nsSet1 (Heap.Ns1.of_empty uu) λh' eX hs=>?_)))
  obtain⟨oD,tJ,tK,lR,lS,lT⟩:=eX.count (Within.cons name v Within.nil);refine Uj (wpAny_lookBehind lR (by rw[lS];exact pastItsLine_dict (VI lT (by rw[UG,ON,UB];lia))) ?_)
  refine Ui (h h' eX ((hs.2 x qf).trans uv) λb ob uw hb=>?_)
  exact(hs.2 b (VA (Vx hb))).trans ((Heap.get?_update_ne _ _ _ _ uw).trans (Ur _ hb))
 cases kI with
 | cls c=>exact absurd hn (by simp[notCls])
 | _=>exact dZ
end
end PySem.W
end
section
namespace L2
open PySem PySem.Spec PyProof.Rows
abbrev Qod(C:Vh)(dx:Option Vh)(t:Vh):Obj:={ cls:=.ref C,dict:=dx,data:=.fields #[.ref t,.none,.none,.none,.bool false,.none] }
def xN(e C:Vh)(dx:Option Vh):HO:=.ext λh=>∃ t,h.get? e=some (Qod C dx t)
def xD(d:Vh)(fs:List (Str×V)):HO:=.ext λh=>∃ mA,h.Ns1 d mA/\(∀ f,JQ (fs.lookup f) (mA f))/\Vw mA (fs.map (·.1))
section
variable{P:Vg}{w:Vb}{H:Hp}{h:Vp}{e C:Vh}{dx:Option Vh}{fs:List (Str×V)}
theorem QSc{t:Vh}(q:h.get? e=some (Qod C dx t)):QC P w H h e (xN e C dx):=⟨⟨t,q⟩,⟨_,q⟩,λh1 h2 ⟨t,q⟩ k=>⟨t,k _ q⟩⟩
theorem Qpd{mA:Str->Option Va}(q:h.Ns1 e mA)(a:∀ f,JQ (fs.lookup f) (mA f))(b:Vw mA (fs.map (·.1))):QC P w H h e (xD e fs) :=
 ⟨⟨mA,q,a,b⟩,let ⟨o,_,_,z,_⟩:=q;⟨o,z⟩,λh1 h2 ⟨mA,q,r⟩ k=>⟨mA,q.at k,r⟩⟩
end
section
variable{X:Cx}{aa:YP_}{σ:St}{H:Hp}{s:VG}{a C CT:Vh}{fs:List (Str×V)}
end
section
variable{X:Cx}{aa:YP_}{σ:St}{H H':Hp}{s:VG}{d e:Vh}{o:HO}
theorem Inv.track(I:Inv X aa σ H s)(hn:H d=Vo)(y:X.s₀.heap.get? d=Vo)(nl:d≠X.env.locals)(nc:∀ x c,X.env.cells.lookup x=some c->c≠d)(np:∀ p∈X.pn++aa,p.1≠d)(ok:QC X.prog X.w (upd H d o) s.heap d o) :
 Inv X aa σ (upd H d o) s :=
 ⟨I.ok,I.os,I.bare,⟨I.base.keep,I.base.slot,λb u q n hx=>by rw[Qf (λz=>by rw[z,y]at q;cases q)];exact I.base.free b u q n hx,I.base.there,λb xs q=>by have z:=I.base.tups b xs q;rw[Qf (Qr z hn)];exact z,
  λb u xs q=>by have z:=I.base.frzs b u xs q;rw[Qf (Qr z hn)];exact z,λb ps q=>by obtain⟨m,z⟩:=I.base.tbls b ps q;exact⟨m,by rw[Qf (Qr z hn)];exact z⟩⟩,
  I.loc,I.cell,by rw[Qf (VR nl)];exact I.free,λx c q=>by rw[Qf (nc x c q)];exact I.freeC x c q,λp hp=>by obtain⟨a,b,r⟩:=I.pin p hp;exact⟨a,by rw[Qf (np p hp)];exact b,r⟩,
  λb u q=>by
   by_cases hb:b=d
   ·subst hb;rw[Qa]at q;cases q;exact ok
   ·rw[Qf hb]at q
    exact(I.hok b u q).stay (λc v _ r=>r) (λc r=>by rw[Qf (Qr r hn)];exact r) λc xs r=>by rw[Qf (Qr r hn)];exact r,
  I.len⟩
theorem Inv.nowhere(I:Inv X aa σ H s)(bi:X.ex=[])(h:s.heap.get? d=Vo):H d=Vo/\X.s₀.heap.get? d=Vo/\d≠X.env.locals/\(∀ x c,X.env.cells.lookup x=some c->c≠d)/\∀ p∈X.pn++aa,p.1≠d:=by
 refine⟨I.hok.none_of h,I.young bi h,λz=>?_,λx c q z=>?_,λp hp z=>?_⟩
 ·obtain⟨m,⟨o,es,ep,ho,_⟩,_⟩:=I.loc
  rw[z,ho]at h;cases h
 ·obtain⟨v,o,ho,_⟩:=I.cell x c q
  rw[z,h]at ho;cases ho
 ·have:=(I.pin p hp).1
  rw[z,h]at this;cases this
theorem Inv.off{φ:Vp->Prop}(I:Inv X aa σ H s)(he:H e=some (.ext φ))(y:X.s₀.heap.get? e=Vo)(h3:∀ b,b≠e->H' b=H b)(hn:H' e=Vo):Inv X aa σ H' s:=by
 have ne:∀ b,H b=Vo->b≠e:=λb q z=>by rw[z,he]at q;cases q
 have nt:∀ b u,H b=some u->(∀ ψ,u≠.ext ψ)->b≠e:=λb u q n z=>by rw[z,he]at q;cases q;exact n _ rfl
 have tt:∀ b xs,H b=some (.tup xs)->H' b=some (.tup xs):=λb xs q=>(h3 b (nt b _ q (λ_ z=>by cases z))).trans q
 refine⟨I.ok,I.os,I.bare,⟨I.base.keep,I.base.slot,λb u q n hx=>?_,I.base.there,λb xs q=>tt b xs (I.base.tups b xs q),λb u xs q=>?_,λb ps q=>?_⟩,I.loc,I.cell,(h3 _ (ne _ I.free)).trans I.free,λx c q=>(h3 _ (ne _ (I.freeC x c q))).trans (I.freeC x c q),λp hp=>?_,λb u q=>?_,I.len⟩
 ·have z:=I.base.free b u q n hx
  exact(h3 b (ne b z)).trans z
 ·have z:=I.base.frzs b u xs q
  exact(h3 b (nt b _ z (λ_ z=>by cases z))).trans z
 ·obtain⟨m,z⟩:=I.base.tbls b ps q
  exact⟨m,(h3 b (nt b _ z (λ_ z=>by cases z))).trans z⟩
 ·obtain⟨a,b,r⟩:=I.pin p hp
  exact⟨a,(h3 _ (ne _ b)).trans b,r⟩
 ·have hb:b≠e:=λz=>by rw[z,hn]at q;cases q
  rw[h3 b hb]at q;exact(I.hok b u q).stay (λc v _ r=>r) (λc r=>(h3 c (nt c _ r (λ_ z=>by cases z))).trans r) tt
end
section
variable{X:Cx}{aa:YP_}{σ:St}{H:Hp}{s:VG}{a C CT:Vh}{f:Str}
theorem Qqd{A:VF}{E:YQ_}{y:V}{u:Va}{Q:Unit->VG->Prop}(I:Inv X aa σ H s)(bi:X.ex=[])(e:H a=some (xN a C Vo))(c:W.XCl X.K C CT)(n:Jn X.K C f)(ry:Qq y u)
 (h:∀ d s',H d=Vo->d≠a->Inv X aa σ (upd (upd H a (xN a C (some d))) d (xD d [(f,y)])) s'->Q () s'):VV (VW X.prog X.w) A (setAttr (.ref a) f u) Q E s:=by
 obtain⟨⟨t,q⟩,_,_⟩:=(show QC X.prog X.w H s.heap a (xN a C Vo) from I.hok a _ e)
 refine W.Xjb I.kIn c n q rfl rfl rfl rfl λh' kB hx hk=>?_
 obtain⟨w1,w2,w3,w4,w5⟩:=I.nowhere bi (VO (Ut s.heap.objs.size))
 have ay:s.heap.objs.size≠a:=λz=>by rw[z,e]at w1;cases w1
 refine h s.heap.objs.size _ w1 ay ?_
 have I1:Inv X aa σ (upd H a (xN a C (some s.heap.objs.size))) { s with heap:=h',toks:=s.toks+2 } :=
  I.write (x:=a) (e:=a) (by rw[e];exact UP) (.inl rfl) (λb u hb z=>hk b u hb z) ⟨_,hx⟩ (QSc (t:=t) hx)
 refine I1.track (by rw[Qf ay];exact w1) w2 w3 w4 w5 (Qpd kB (λg=>?_) λg hg=>?_)
 ·by_cases hg:g=f
  ·have hb:(g == f)=true:=beq_iff_eq.mpr hg
   simp only[UL,hb,if_pos hg];exact ry
  ·have hb:(g == f)=false:=beq_eq_false_iff_ne.mpr hg
   simp only[UL,hb,if_neg hg];trivial
 ·by_cases z:g=f
  ·rw[z];simp
  ·rw[if_neg z]at hg;exact absurd hg #[2]
def Xqc(K:VC)(CT:Vh)(ta tv:TE)(f:Str):TS:=λD σ H=>tv σ H λy H1=>ta σ H1 λx H2=>∃ a C,x=.ref a/\H2 a=some (xN a C Vo)/\W.XCl K C CT/\Jn K C f /\
 ∀ d,H2 d=Vo->d≠a->D.nx σ (upd (upd H2 a (xN a C (some d))) d (xD d [(f,y)]))
def Qrd(K:VC)(CT:Vh)(ta tv:TE)(f:Str):TS:=λD σ H=>tv σ H λy H1=>ta σ H1 λx H2=>∃ a C d fs,x=.ref a/\H2 a=some (xN a C (some d))/\H2 d=some (xD d fs)/\W.XCl K C CT/\Jn K C f/\fs.length < 1000 /\
 D.nx σ (upd H2 d (xD d (Zu f y fs)))
variable{o value:Expr}{pos aI:Pos}{ta tv:TE}
theorem QTc(CT:Vh)(bi:X.ex=[])(ha:PE X o ta)(hv:PE X value tv)(hs:Ua value (some (.Attribute o f aI)) pos.line X.env=pure false):PS X (.Assign [.Attribute o f aI] value pos) (Xqc X.K CT ta tv f):=by
 intro aa s σ H D I h;refine plainObj_wpAny_Assign_Attribute (thn (hv aa s σ H _ I h) λu s1 ⟨y,H1,I1,ry,q⟩=>thn (ha aa s1 σ H1 _ I1 q) λov s2 hZ=>?_) hs
 obtain⟨x,H2,I2,rx,a,C,ex,ea,c,n,q2⟩:=hZ;subst ex;obtain rfl:ov=Vk a:=rx;exact Qqd I2 bi ea c n ry λd s3 w1 w2 I3=>⟨σ,_,I3,q2 d w1 w2⟩
structure Qsd(K:VC)(mg:Str->Option Va)(x:Str)(CT:Vh):Prop where
 mg_:mg x=some (.ref CT)
 cl:QOd K CT W.bmV W.bmV "ValueError.__new__"
 sp:UT K (.ref CT) "__getattribute__"=some (some (.builtin "type.__getattribute__"))
 rd:W.readsIn K CT (.type "type")=true
 ini:W.findCls K (.ref CT) (.type "type") "__init__"=some (.val (.builtin "ValueError.__init__"))
def tBI(K:VC)(CT:Vh)(t:TA):TE:=λσ H Q=>t σ H λvs H1=>∃ a C ws,vs=.ref a::ws/\ws.length<=1000/\H1 a=some (xN a C Vo)/\W.XCl K C CT/\Q .non H1
end
end L2
end
section
namespace PySem
section
variable{prog:Vg}{w:Vb}{A:VF}{E:YQ_}{s:VG}{K:VC}{C CT e t:Vh}{dx:Option Vh}
theorem Jkb{rest:List Va}{Q:YQ_}(X:K.In s.heap)(c:W.XCl K C CT)(he:s.heap.get? e=some { cls:=.ref C,dict:=dx,data:=.fields #[.ref t,.none,.none,.none,.bool false,.none] })(hl:rest.length<=Vr)
 (h:∀ h' t',h'.get? e=some { cls:=.ref C,dict:=dx,data:=.fields #[.ref t',.none,.none,.none,.bool false,.none] }->(∀ b o,b≠e->s.heap.get? b=some o->h'.get? b=some o)->Q .none { s with heap:=h' }) :
 VV (VW prog w) A (Uy (.builtin "ValueError.__init__") (.ref e::rest)) Q E s:=by
 obtain⟨nm,q,N,bs,sn,sub,ab,col,dd,k0,k1,k2,k3,k5,lk,ok⟩:=c.cl;have FB:=F.excBase_ValueError;have TL:OwnTail s.heap W.bmV (.ref CT::W.bmV):=W.tail_of_in X c.tail;have hC:=X _ _ lk;obtain⟨hh,g,d,tk,os⟩:=s;refine U1 (LY FB.init.plain FB.initEntry (wpAny_check_init_subT FB TL hC he rfl ?_))
 wp_walk
 refine h _ hh.objs.size ?_ λb o hb z=>?_
 ·rw[LO _ (Ur _ he) rfl]
  rfl
 ·rw[OB _ _ (VR hb)]
  exact Ur _ z
end
section
variable{prog:Vg}{w:Vb}{A:VF}{E:YQ_}{h:Vp}{g:Array VP}{d:VQ}{t:Nat}{os:OsState}{K:VC}{C CT:Vh}
theorem Xrc(X:K.In h)(c:W.XCl K C CT){rest:List Va}{fI:Vh}{Q:Fin->VG->Prop}(hf:UD K (.ref C) "__init__"=some (some (.ref fI)))(dU:UE K (.ref fI)=true)
 (fin:∀ h' e,Heap.MadeExcOf h h' e (.ref C) rest->VV (VW prog w) A (Uy (.ref fI) (.ref e::rest)) (λr s'=>r=.none/\Q (.done (.ret (.ref e))) s') E ⟨h',g,d,t,os⟩) (bO:rest.length<=Vr) :
 VV (VW prog w) A (Ij.«type.__call__» ⟨.ref C::rest,[]⟩) Q E ⟨h,g,d,t,os⟩:=by
 obtain⟨nm,q,N,bs,sn,sub,ab,col,dd,k0,k1,k2,k3,k5,lk,ok⟩:=c.cl;have FB:=F.excBase_ValueError;have TL:OwnTail h W.bmV (.ref CT::W.bmV):=W.tail_of_in X c.tail;have cl:=X _ _ lk
 repeat (first | (with_reducible refine L3 cl ?_) | (with_reducible refine wpAny_madeBy_exc cl ?_) | wp_step)
 refine codeAny_call_builtin_code (Code.quiet_builtin _ FB.quiet) (wpAny_check_new_subT FB TL cl ?_)
 refine codeAny_exc_new_subT FB TL cl ?_ bO
 show VV _ _ _ _ _ _;have kp:∀ b o,h.get? b=some o->((h.push (JXa rest)).push (ZKa h C)).get? b=some o:=λb o e=>Ur _ (Ur _ e)
 have X1:K.In ((h.push (JXa rest)).push (ZKa h C)):=X.keeps kp;have ux:((h.push (JXa rest)).push (ZKa h C)).get? C=_:=kp _ _ cl;have iZ:((h.push (JXa rest)).push (ZKa h C)).get? (h.objs.size+1)=some (ZKa h C):=by heap_get
 have self:(Vk C::.ref CT::W.bmV).contains (.ref C)=true:=by rw[LV];simp
 unfold LZ
 repeat (first | (with_reducible refine L3 iZ ?_) | (with_reducible refine wpAny_isSubtype_exc ux ?_;rw[self]) | wp_step)
 show VV _ _ (Ot (.ref C) _) _ _ _;refine(W.looks_findIn (M:=VW prog w) X1 hf).at ?_
 refine LG (Uj ((W.bind_fn (M:=VW prog w) X1 _ (beq_iff_eq.mp dU)).at ?_))
 have mk:Heap.MadeExcOf h ((h.push (JXa rest)).push (ZKa h C)) (h.objs.size+1) (.ref C) rest :=
  ⟨kp,VO (U5 _),h.objs.size,iZ,VO (Ut _),Ur _ (Heap.get?_push_at rfl rfl)⟩
 refine Uj (V1 (fin _ (h.objs.size+1) mk) (λr s' hr=>?_) λ_ _ z=>z)
 obtain⟨rfl,hQ⟩:=hr
 wp_walk
 exact hQ
theorem Xsc(X:K.In h)(c:W.XCl K C CT){rest:List Va}{fI:Vh}{Q:YQ_}(hf:UD K (.ref C) "__init__"=some (some (.ref fI)))(dU:UE K (.ref fI)=true)
 (fin:∀ h' e,Heap.MadeExcOf h h' e (.ref C) rest->VV (VW prog w) (A.under (.builtin "type.__call__" ⟨.ref C::rest,[]⟩)) (Uy (.ref fI) (.ref e::rest)) (λr s'=>r=.none/\Q (.ref e) s') E ⟨h',g,d,t,os⟩) (bO:rest.length<=Vr) :
 VV (VW prog w) A (Uy (.ref C) rest) Q E ⟨h,g,d,t,os⟩:=by
 obtain⟨nm,q,N,bs,sn,sub,ab,col,dd,k0,k1,k2,k3,k5,lk,ok⟩:=c.cl;have cl:=X _ _ lk;have l1:=tc_lookup;have l2:=tc_bind (.ref C);have ty:(⟨h,g,d,t,os⟩:VG).TypeIs (.ref C) "type":=⟨_,cl,rfl⟩;refine U1 (codeAny_of_tree ?_)
 show VV _ _ (callAny (.ref C) _) _ _ _
 repeat (any_goals (first | assumption | (with_reducible refine L3 cl ?_) | wp_step))
 refine⟨rfl,?_⟩
 refine codeAny_call_builtin_at (Code.quiet_builtin _ (by decide +kernel)) entry_typeCall (wpAny_check_type_call_sub cl (Xrc X c hf dU (λh' e hm=>?_) bO))
 exact fin h' e hm
end
section
variable{M:VT}{A:VF}{E:YQ_}{env:Env}
variable{nm q:Str}{C N:Vh}{bs bm:List Va}{hdct:Bool}{sn:List Str}{sub:List Va}{ab:Bool}{col:Option Bool}{dd:Option Vh}{k0 k1 k2 k3 k5:Option Va}{newId:String}
theorem Xkb{s:VG}{x:Sem Va}{Q:Flow->VG->Prop}(bJ:bm.contains (.type "BaseException")=true)(hh:A.handled=Vo)
 (h:VV M A x (λv s₁=>∃ e t dx,v=.ref e/\s₁.heap.get? C=some (LR nm q C N bs bm hdct sn sub ab col dd k0 k1 k2 k3 k5 newId)/\s₁.heap.get? e=some { cls:=.ref C,dict:=dx,data:=.fields #[.ref t,.none,.none,.none,.bool false,.none] }/\E (.ref e) s₁) E s) :
 VV M A (raiseStmt env (some x) Vo) Q E s:=by
 have uy:(Vk C::bm).contains (.type "BaseException")=true:=by rw[LV,bJ,Bool.or_true]
 unfold raiseStmt;refine Uj (V1 h (λv s₁ h₁=>?_) λ_ _ x=>x)
 obtain⟨e,t,dx,rfl,hC,he,hE⟩:=h₁;obtain⟨hp,g,d,tk,os⟩:=s₁
 repeat (first | with_reducible refine L3 he ?_ | with_reducible refine L3 hC ?_ | (with_reducible refine wpAny_isSubtype_exc hC ?_;rw[uy]) | wp_step)
 exact wpAny_raiseNew_none hh hE
variable{nm' q':Str}{CT N':Vh}{bs' bm':List Va}{hdct':Bool}{sn':List Str}{sub':List Va}{ab':Bool}{col':Option Bool}{cR:Option Vh}{j0 j1 j2 j3 j5:Option Va}{newId':String}
end
end PySem
namespace PySem.W
open PySem
def ZLa(K:VC)(C:Vh)(fl:List Str):Bool:=UD K (.ref C) "__getattribute__" == some (some (.builtin "BaseException.__getattribute__")) && (UD K (.ref C) "__getattr__" == some Vo && (UD K (.ref C) "__setattr__" == some (some (.builtin "object.__setattr__")) && (UD K (.ref C) "__class__" == some (some (.builtin "object.__class__")) && fl.all λf=>UD K (.ref C) f == some Vo)))
section
variable{K:VC}{C CT:Vh}{fl:List Str}
theorem Xta(h:ZLa K C fl=true):UD K (.ref C) "__getattribute__"=some (some (.builtin "BaseException.__getattribute__"))/\UD K (.ref C) "__getattr__"=some Vo/\UD K (.ref C) "__setattr__"=some (some (.builtin "object.__setattr__")) /\
 UD K (.ref C) "__class__"=some (some (.builtin "object.__class__"))/\∀ f∈fl,UD K (.ref C) f=some Vo:=by
 unfold ZLa at h;simp only[Il,beq_iff_eq,Im]at h;exact h
theorem Xua(h:ZLa K C fl=true){f:Str}(hf:f∈fl):L2.Jn K C f:=(Xta h).2.2.2.2 f hf
theorem XCl.of(cl:∃ nm q N bs sn sub ab col dd k0 k1 k2 k3 k5,K.lookup C=some (LR nm q C N bs (.ref CT::bmV) true sn sub ab col dd k0 k1 k2 k3 k5 "ValueError.__new__")/\nsOkIn K N=true)(tail:tailIn K bmV (.ref CT::bmV)=true)
 (h:ZLa K C fl=true) (cg:specialIn K (.builtin "object.__class__") "__get__"=some (some (.builtin "getset_descriptor.__get__"))) (ct:takesIn K (.builtin "object.__class__")=some true):XCl K C CT :=
 let ⟨a,b,c,d,_⟩:=Xta h;⟨cl,tail,a,b,c,d,cg,ct⟩
def QUc(K:VC)(l:List Vh):Bool:=(VB l.length).all λi=>(VB l.length).all λj=>kitOne K (.ref (l.getD i 0)) (.ref (l.getD j 0)) == some (decide (i=j))
def Xtc(K:VC)(l:List Vh):Bool:=(VB l.length).all λi=>kitOne K (.ref (l.getD i 0)) (.type "ValueError") == some true
theorem JGc{l:List Vh}(h:QUc K l=true):∀ i j,i < l.length->j < l.length->kitOne K (.ref (l.getD i 0)) (.ref (l.getD j 0))=some (decide (i=j)):=by
 unfold QUc at h;simp only[Im,Cy,beq_iff_eq]at h;exact λi j hi hj=>h i hi j hj
theorem Xuc{l:List Vh}(h:Xtc K l=true):∀ i,i < l.length->kitOne K (.ref (l.getD i 0)) (.type "ValueError")=some true:=by
 unfold Xtc at h;simp only[Im,Cy,beq_iff_eq]at h;exact h
end
end PySem.W
namespace L2
open PySem PySem.Spec PyProof.Rows
section
variable{X:Cx}{x:Str}{CT:Vh}{e:Expr}{es:List Expr}{t:TA}{p pos ai ak np:Pos}{pl:Sem Bool}
theorem Q9b(T:Qsd X.K X.mg x CT)(hg:Gl X x)(ha:PA X (e::es) t)(aP:(x == ("__debug__":Str))=false:=by decide)
 (he:VZ (e::es) X.env=(false,VX e X.env)::VZ es X.env:=by rfl) (aN:(VY pos (VZ es X.env)).any (·.1)=false:=by rfl)
 (ht:VX (.Call (.Attribute (.Name x p) "__init__" ai) (e::es) [] pos) X.env=(do
  let ov <- VX (.Name x p) X.env
  V5 ai.atName
  let (f,first) <- V6 [ov] (UF ov "__init__" pl)
  L4 pos f first (VY pos (VZ (e::es) X.env)) (U8 pos (U9 [] X.env))):=by rfl) :
 PE X (.Call (.Attribute (.Name x p) "__init__" ai) (e::es) [] pos) (tBI X.K CT t):=by
 intro aa s σ H Q I h;refine L5 (pl:=pl) (Ye I hg T.mg_ ?_ aP) ht
 refine W.method_cls I.kIn T.sp (W.cls_value I.kIn T.rd T.ini (by decide +kernel) ?_)
 refine Op (thn (ha pos aa _ σ H _ (I.tok _) h) λus s1 hZ=>?_) he aN
 obtain⟨vs,H1,I1,r,a,C,ws,ev,hl,ea,c,q⟩:=hZ;subst ev;cases r with
 | cons r0 r1 =>
  cases (show _=Vk a from r0)
  obtain⟨⟨t,g⟩,_,_⟩:=(show QC X.prog X.w H1 s1.heap a (xN a C Vo) from I1.hok a _ ea)
  refine Jkb I1.kIn c g (by rw[<- r1.length,UB];lia) λh' t' g' k=>⟨.non,H1,?_,rfl,q⟩
  have I2:=I1.write (h':=h') (t':=s1.toks) (x:=a) (e:=a) (o:=xN a C Vo) (by rw[ea];exact UP) (.inl rfl) (λb u hb z=>k b u hb z) ⟨_,g'⟩ (QSc (t:=t') g')
  have eH:upd H1 a (xN a C Vo)=H1:=by
   funext b
   by_cases hb:b=a
   ·rw[hb,Qa];exact ea.symm
   ·rw[Qf hb]
  rw[eH]at I2;exact I2
def JHc(C:Vh)(fl:List Str):Sp:=λvs H Q _=>∃ e ws,vs=.ref e::ws/\ws.length=fl.length/\H e=some (xN e C Vo)/\∀ d,H d=Vo->d≠e->Q .non (upd (upd H e (xN e C (some d))) d (xD d (fl.zip ws)))
def MkX(P:Vg)(w:Vb)(K:VC)(mg:Str->Option Va)(base:Vp)(k:Nat)(x:Str)(C CT:Vh)(fl:List Str):Prop :=
 ∃ f fd ps,QB P w K mg base CX0 k f fd ps (JHc C fl)/\Zv K fd ps []/\W.XCl K C CT/\UD K (.ref C) "__init__"=some (some (.ref f))/\UE K (.ref f)=true/\UN K (.ref C)=true/\mg x=some (.ref C)
def JIc(E:XK)(C:Vh)(fl:List Str)(t:TA):TS:=λ_ σ H=>t σ H λvs H1=>vs.length=fl.length/\vs.length<=1000/\∀ d,H1 d=Vo->E (.ref C) (some d) (upd H1 d (xD d (fl.zip vs)))
variable{E:XK}{C:Vh}{fl:List Str}{j k:Nat}
theorem Xva(T:JWa X E)(bi:X.ex=[])(i0:X.calm=true)(hg:Gl X x)(G:MkX X.prog X.w X.K X.mg X.base j x C CT fl)(hr:QX k X.A)(hj:j+1<=k)(ha:PA X (e::es) t)(aP:(x == ("__debug__":Str))=false:=by decide)
 (he:VZ (e::es) X.env=(false,VX e X.env)::VZ es X.env:=by rfl) (aN:(VY ak (VZ es X.env)).any (·.1)=false:=by rfl) :
 PS X (.Raise (some (.Call (.Name x np) (e::es) [] ak)) Vo pos) (JIc E C fl t):=by
 intro aa s σ H D I h;obtain⟨f,fd,ps,F,hb,c,hf,dU,kp,hm⟩:=G;obtain⟨nm,q,N,bs,sn,sub,ab,col,dd,k0,k1,k2,k3,k5,lk,ok⟩:=id c.cl;rw[arm_exec_Raise];refine Uj (Oa (Xkb (C:=C) (nm:=nm) (q:=q) (N:=N) (bs:=bs) (bm:=.ref CT::W.bmV) (hdct:=true) (sn:=sn) (sub:=sub) (ab:=ab) (col:=col) (dd:=dd) (k0:=k0) (k1:=k1) (k2:=k2) (k3:=k3) (k5:=k5) (newId:="ValueError.__new__") (by rw[LV,PySem.F.excBase_ValueError.hasBase,Bool.or_true]) (I.ok.hd i0) ?_))
 refine Uj (V1 (wpAny_Call_ofName (Ye I hg hm ?_ aP)) (λv s₃ h₃=>Uj (Oa (Ui h₃))) λ_ _ z=>z)
 refine U4 (h₀:=X.base) I.ok.mod.kin kp (thn (ha ak aa s σ H _ I h) λus s1 ⟨vs,H1,I1,r,hl,hz,q⟩=>⟨I1.kIn,?_⟩) he aN
 obtain⟨hh,g,dr,tk,os⟩:=s1;refine Xsc I1.kIn c hf dU (λh' ea mk=>?_) (by rw[UB,CC,<- r.length];lia)
 rw[CC]at mk ⊢;have uz:=mk.there;obtain⟨tt,iJ,_⟩:=uz;obtain⟨w1,w2,w3,w4,w5⟩:=I1.nowhere bi mk.new;have uC:Inv X aa σ H1 ⟨h',g,dr,tk,os⟩:=I1.kept (t':=tk) mk.keeps;have I2:Inv X aa σ (upd H1 ea (xN ea C Vo)) ⟨h',g,dr,tk,os⟩:=uC.track w1 w2 w3 w4 w5 (QSc (t:=tt) iJ);have cC:JHc C fl (.ref ea::vs) (upd H1 ea (xN ea C Vo)) (λv H2=>v=.non/\∃ d,H1 d=Vo/\d≠ea/\H2=upd (upd (upd H1 ea (xN ea C Vo)) ea (xN ea C (some d))) d (xD d (fl.zip vs))) E0 :=
  ⟨ea,vs,rfl,hl,Qa,λd hd ay=>⟨rfl,d,by rw[Qf ay]at hd;exact hd,ay,rfl⟩⟩
 have r2:Qt (V.ref ea::vs) (Vk ea::us):=.cons rfl r;have ar:(Vk ea::us++[]).length=ps.length:=by rw[U0,<- r2.length];exact F.len _ _ _ _ cC
 have b:=hb ⟨h',g,dr,tk,os⟩ (Vk ea::us) I2.kIn ar;rw[U0]at b;refine U1 (U2 (F.run _ X.stack _ _ ⟨Vk ea::us,[]⟩ (Vk ea::us) _ _ E0 ((hr.mono hj).make C us []) (I2.env0.make C us []) b r2 cC) λres s' hq=>?_)
 cases res with
 | error ev=>exact V8 hq
 | ok fo =>
  cases fo with
  | next=>exact V8 hq
  | brk=>exact V8 hq
  | cont=>exact V8 hq
  | ret u =>
   obtain⟨v,H3,I3,rv,ev,d,hd,ay,eH⟩:=I2.after hq;subst ev;subst eH;have e3:upd (upd (upd H1 ea (xN ea C Vo)) ea (xN ea C (some d))) d (xD d (fl.zip vs)) ea=some (xN ea C (some d)):=by rw[Qf (VR ay),Qa]
   obtain⟨⟨t3,g3⟩,_,_⟩:=(show QC X.prog X.w _ s'.heap ea (xN ea C (some d)) from I3.hok ea _ e3)
   have e4:upd H1 d (xD d (fl.zip vs)) ea=Vo:=by rw[Qf (VR ay)];exact w1
   have I4:Inv X aa σ (upd H1 d (xD d (fl.zip vs))) s':=I3.off e3 w2 (λy hy=>by
    by_cases hyd:y=d
    ·rw[hyd,Qa,Qa]
    ·rw[Qf hyd,Qf hyd,Qf hy,Qf hy]) e4
   refine⟨rv,ea,t3,some d,rfl,I3.kIn _ _ lk,g3,?_⟩
   exact T aa σ _ s' ea (.ref C) (some d) [] Vo I4 ⟨_,_,g3,rfl,rfl,rfl,⟨⟨.none,rfl,rfl⟩,by simp,λp hp=>by cases hp⟩,rfl⟩ (.inl rfl) w2 e4 (q d hd)
end
section
variable{X:Cx}{st b₀:V0}{fg:List V0}{t1:TS1}{ts:TS}{x n:Str}{CT:Vh}{np iY pos:Pos}{i:Nat}
end
inductive Dt where
 | v (x:V)
 | t (xs:List Dt)
 | l (xs:List Dt)
instance:Inhabited Dt:=⟨.v .non⟩
mutual
def eqD:Dt->Dt->Bool
 | .v x,.v y=>eqV x y
 | .t xs,.t ys=>QJa xs ys
 | .l xs,.l ys=>QJa xs ys
 | _,_=>false
def QJa:List Dt->List Dt->Bool
 | [],[]=>true
 | x::xs,y::ys=>eqD x y && QJa xs ys
 | _,_=>false
end
inductive Rep(K:VC)(H:Hp):Nat->Dt->V->Prop where
 | v {n:Nat} {x:V} (f:Qra x=true):Rep K H n (.v x) x
 | t {n:Nat} {a:Vh} {ds:List Dt} {xs:List V} (h:SqT K H a xs) (e:ds.length=xs.length) (r:∀ (i:Nat) d x,ds[i]?=some d->xs[i]?=some x->Rep K H n d x):Rep K H (n+1) (.t ds) (.ref a)
 | l {n:Nat} {a:Vh} {ds:List Dt} {xs:List V} (h:SqL K H a xs) (e:ds.length=xs.length) (r:∀ (i:Nat) d x,ds[i]?=some d->xs[i]?=some x->Rep K H n d x):Rep K H (n+1) (.l ds) (.ref a)
theorem JYa(n:Nat)(p:Nat->Bool):(VB (n+1)).all p=(p 0 && (VB n).all λi=>p (i+1)):=by
 rw[CD,all_cons,all_map];rfl
theorem Qga:∀ xs ys:List Dt,QJa xs ys=((VB (min xs.length ys.length)).all (λi=>eqD (xs.getD i default) (ys.getD i default)) && (xs.length == ys.length))
 | [],[]=>by simp[QJa]
 | [],y::ys=>by simp[QJa]
 | x::xs,[]=>by simp[QJa]
 | x::xs,y::ys=>by
  rw[QJa,Qga xs ys,UG,UG,Nat.succ_min_succ,JYa];simp only[getD_cons_zero,getD_cons_succ,Bool.and_assoc];have:(xs.length+1 == ys.length+1)=(xs.length == ys.length):=by rw[UA,beq_iff_eq,beq_iff_eq];lia
  rw[this]
theorem XG{xs ys:List Dt}(h:xs.length=ys.length):QJa xs ys=(VB xs.length).all (λi=>eqD (xs.getD i default) (ys.getD i default)):=by
 rw[Qga,<- h,Nat.min_self,beq_self_eq_true,Bool.and_true]
theorem X7a{xs ys:List Dt}(h:xs.length≠ys.length):QJa xs ys=false:=by
 rw[Qga,beq_eq_false_iff_ne.mpr h,LX]
section
variable{K:VC}{H H':Hp}{n m:Nat}{d d':Dt}{x:V}
theorem Rep.self(r:Rep K H n d x):eqD d d=true:=by
 induction r with
 | v f=>unfold eqD;exact Qsc f
 | t h e _ ih =>
  unfold eqD;rw[XG rfl,Im];intro i hi;rename_i ds xs _;have hi:=mem_range.mp hi;have h1:ds[i]?=some ds[i]:=Lq hi
  have h2:xs[i]?=some (xs[i]'#[0]):=Lq #[0]
  have:=ih i _ _ h1 h2
  rwa [show ds.getD i default=ds[i] by simp[L6,h1]]
 | l h e _ ih =>
  unfold eqD;rw[XG rfl,Im];intro i hi;rename_i ds xs _;have hi:=mem_range.mp hi;have h1:ds[i]?=some ds[i]:=Lq hi
  have h2:xs[i]?=some (xs[i]'#[0]):=Lq #[0]
  have:=ih i _ _ h1 h2
  rwa [show ds.getD i default=ds[i] by simp[L6,h1]]
end
section
variable{X:Cx}{aa:YP_}{σ:St}{H:Hp}{s:VG}
theorem Inv.tup_not_list{a:Vh}{xs ys:List V}(I:Inv X aa σ H s)(h:SqT X.K H a xs)(h':SqL X.K H a ys):False:=by
 obtain⟨ah,r,⟨o,e,c,_⟩,_⟩:=I.tuple h;obtain⟨its',r',⟨o',n',e',c',_⟩,_⟩:=I.list h';rw[e]at e';cases e';rw[c]at c';exact absurd (L7 c') #[1]
theorem Rep.det(I:Inv X aa σ H s):∀ {n m:Nat} {d d':Dt} {x y:V},Rep X.K H n d x->Rep X.K H m d' y->x=y->d=d':=by
 intro n m d d' x y r
 induction r generalizing m d' y with
 | v f =>
  intro r' e;subst e;cases r' with
  | v _=>rfl
  | t _ _ _=>exact absurd f (by simp[Qra])
  | l _ _ _=>exact absurd f (by simp[Qra])
 | t h e _ ih =>
  intro r' ee;cases r' with
  | v f=>subst ee;exact absurd f (by simp[Qra])
  | t h' e' r2 =>
   cases ee;have:=I.tuple_inj h h';subst this
   congr 1
   refine Lr #[0] λi h1 h2=>?_
   exact ih i _ _ (Lq h1) (Lq (show i < _ by lia)) (r2 i _ _ (Lq h2) (Lq #[0])) rfl
  | l h' _ _=>cases ee;exact(I.tup_not_list h h').elim
 | l h e _ ih =>
  intro r' ee;cases r' with
  | v f=>subst ee;exact absurd f (by simp[Qra])
  | l h' e' r2 =>
   cases ee;have:=I.list_inj h h';subst this
   congr 1
   refine Lr #[0] λi h1 h2=>?_
   exact ih i _ _ (Lq h1) (Lq (show i < _ by lia)) (r2 i _ _ (Lq h2) (Lq #[0])) rfl
  | t h' _ _=>cases ee;exact(I.tup_not_list h' h).elim
theorem Yh{α:Type}{xs:List α}{i:Nat}{x d:α}(h:xs[i]?=some x):xs.getD i d=x:=by simp[L6,h]
theorem Zab{A:VF}{n:Nat}(h:A.units+(n+1) < UW):A.in1.units+n < UW:=by show A.units+1+n < UW;lia
theorem Rep.eqAt(I:Inv X aa σ H s):∀ (n:Nat) {A:VF} {d d':Dt} {x y:V} {u v:Va},A.units+n < UW->Rep X.K H n d x->Rep X.K H n d' y->Qq x u->Qq y v->Oq A s u v (eqD d d'):=by
 intro n
 induction n with
 | zero =>
  intro A d d' x y u v hu r r' rx ry;cases r with
  | v f =>
   cases r' with
   | v f'=>unfold eqD;exact Z9b rx ry f f'
 | succ n ih =>
  intro A d d' x y u v hu r r' rx ry;have ao:A.units < UW:=by lia
  have elems:∀ {ds es:List Dt} {xs ys:List V} {us vs:List Va},ds.length=xs.length->es.length=ys.length->(∀ (i:Nat) d x,ds[i]?=some d->xs[i]?=some x->Rep X.K H n d x)->(∀ (i:Nat) d x,es[i]?=some d->ys[i]?=some x->Rep X.K H n d x) ->
   Qt xs us->Qt ys vs->∀ j (h1:j < us.toArray.size) (h2:j < vs.toArray.size),Oq A.in1 s us.toArray[j] vs.toArray[j] (eqD (ds.getD j default) (es.getD j default)):=by
   intro ds es xs ys us vs l1 l2 r1 r2 w1 w2 j h1 h2;have m1:=w1.length;have m2:=w2.length;have j1:j < xs.length:=by
    have:j < us.length:=by simpa using h1
    lia
   have j2:j < ys.length:=by
    have:j < vs.length:=by simpa using h2
    lia
   have g1:ds[j]?=some (ds[j]'#[0]):=Lq _
   have g2:es[j]?=some (es[j]'#[0]):=Lq _
   have x1:xs[j]?=some xs[j]:=Lq _
   have x2:ys[j]?=some ys[j]:=Lq _
   obtain⟨u1,e1,q1⟩:=w1.get x1;obtain⟨u2,e2,q2⟩:=w2.get x2;rw[Yh g1,Yh g2];have k1:us.toArray[j]=u1:=by
    have:us[j]?=some us[j]:=Lq _
    rw[this]at e1;simpa using e1
   have k2:vs.toArray[j]=u2:=by
    have:vs[j]?=some vs[j]:=Lq _
    rw[this]at e2;simpa using e2
   rw[k1,k2];exact ih (Zab hu) (r1 j _ _ g1 x1) (r2 j _ _ g2 x2) q1 q2
  cases r with
  | v f =>
   cases r' with
   | v f'=>unfold eqD;exact Z9b rx ry f f'
   | t h e _ =>
    cases ry;obtain⟨ah,_,p,_⟩:=I.tuple h;unfold eqD;cases x <;> first | (exact(Uc f).elim) | skip
    ·cases (show u=Vi from rx);exact .none_tuple p ao
    ·cases (show u=Vj _ from rx);exact .bool_tuple _ p ao
    ·obtain⟨t,rfl⟩:=rx;exact .int_tuple _ _ p ao
    ·obtain⟨t,rfl⟩:=rx;exact .str_tuple _ _ p ao
   | l h e _ =>
    cases ry;obtain⟨ah,_,p,_⟩:=I.list h;unfold eqD;cases x <;> first | (exact(Uc f).elim) | skip
    ·cases (show u=Vi from rx);exact .none_list p.isList ao
    ·cases (show u=Vj _ from rx);exact .bool_list _ p.isList ao
    ·obtain⟨t,rfl⟩:=rx;exact .int_list _ _ p.isList ao
    ·obtain⟨t,rfl⟩:=rx;exact .str_list _ _ p.isList ao
  | t h e r1 =>
   rename_i a ds xs;cases rx;obtain⟨ah,w1,p,_⟩:=I.tuple h;cases r' with
   | v f' =>
    unfold eqD;cases y <;> first | (exact(Uc f').elim) | skip
    ·cases (show v=Vi from ry);exact .tuple_none p ao
    ·cases (show v=Vj _ from ry);exact .tuple_bool _ p ao
    ·obtain⟨t,rfl⟩:=ry;exact .tuple_int _ _ p ao
    ·obtain⟨t,rfl⟩:=ry;exact .tuple_str _ _ p ao
   | t h' e' r2 =>
    rename_i b es ys;cases ry;obtain⟨its',w2,p',_⟩:=I.tuple h'
    by_cases ab:a=b
    ·subst ab
     have z:=Rep.det I (.t h e r1) (.t h' e' r2) rfl;rw[<- z,Rep.self (.t h e r1)];exact .same _
    ·have q:=SeqAt.RcAt.tuples (A:=A) (e:=λi=>eqD (ds.getD i default) (es.getD i default)) p p' ao (elems e e' r1 r2 w1 w2)
     have sz:ah.toArray.size=ds.length:=by rw[UC,<- w1.length,e]
     have du:its'.toArray.size=es.length:=by rw[UC,<- w2.length,e']
     rw[sz,du,<- Qga]at q;unfold eqD;exact .of_refs ab q
   | l h' _ _ =>
    cases ry;obtain⟨its',w2,p',_⟩:=I.list h';unfold eqD;exact .tuple_list p p'.isList ao
  | l h e r1 =>
   rename_i a ds xs;cases rx;obtain⟨ah,w1,p,_⟩:=I.list h;cases r' with
   | v f' =>
    unfold eqD;cases y <;> first | (exact(Uc f').elim) | skip
    ·cases (show v=Vi from ry);exact .list_none p.isList ao
    ·cases (show v=Vj _ from ry);exact .list_bool _ p.isList ao
    ·obtain⟨t,rfl⟩:=ry;exact .list_int _ _ p.isList ao
    ·obtain⟨t,rfl⟩:=ry;exact .list_str _ _ p.isList ao
   | l h' e' r2 =>
    rename_i b es ys;cases ry;obtain⟨its',w2,p',_⟩:=I.list h'
    by_cases ab:a=b
    ·subst ab
     have z:=Rep.det I (.l h e r1) (.l h' e' r2) rfl;rw[<- z,Rep.self (.l h e r1)];exact .same _
    ·have sz:ah.toArray.size=ds.length:=by rw[UC,<- w1.length,e]
     have du:its'.toArray.size=es.length:=by rw[UC,<- w2.length,e']
     unfold eqD
     by_cases hl:ds.length=es.length
     ·have q:=SeqAt.RcAt.lists (A:=A) (e:=λi=>eqD (ds.getD i default) (es.getD i default)) p.isList p'.isList #[0] ao (elems e e' r1 r2 w1 w2)
      rw[sz,<- XG hl]at q;exact .of_refs ab q
     ·rw[X7a hl]
      exact .of_refs ab (SeqAt.RcAt.lists_lengths p.isList p'.isList (by rw[sz,du];exact bne_iff_ne.mpr hl) ao)
   | t h' _ _ =>
    cases ry;obtain⟨its',w2,p',_⟩:=I.tuple h';unfold eqD;exact .list_tuple p.isList p' ao
theorem Rep.elems(I:Inv X aa σ H s){n:Nat}{A:VF}(hu:A.units+(n+1) < UW){ds es:List Dt}{xs ys:List V}{us vs:List Va}(l1:ds.length=xs.length)(l2:es.length=ys.length)
 (r1:∀ (i:Nat) d x,ds[i]?=some d->xs[i]?=some x->Rep X.K H n d x) (r2:∀ (i:Nat) d x,es[i]?=some d->ys[i]?=some x->Rep X.K H n d x) (w1:Qt xs us) (w2:Qt ys vs) (j:Nat) (h1:j < us.toArray.size) (h2:j < vs.toArray.size) :
 Oq A.in1 s us.toArray[j] vs.toArray[j] (eqD (ds.getD j default) (es.getD j default)):=by
 have m1:=w1.length;have m2:=w2.length;have j1:j < xs.length:=by
  have:j < us.length:=by simpa using h1
  lia
 have j2:j < ys.length:=by
  have:j < vs.length:=by simpa using h2
  lia
 have g1:ds[j]?=some (ds[j]'#[0]):=Lq _
 have g2:es[j]?=some (es[j]'#[0]):=Lq _
 have x1:xs[j]?=some xs[j]:=Lq _
 have x2:ys[j]?=some ys[j]:=Lq _
 obtain⟨u1,e1,q1⟩:=w1.get x1;obtain⟨u2,e2,q2⟩:=w2.get x2;rw[Yh g1,Yh g2];have k1:us.toArray[j]=u1:=by
  have:us[j]?=some us[j]:=Lq _
  rw[this]at e1;simpa using e1
 have k2:vs.toArray[j]=u2:=by
  have:vs[j]?=some vs[j]:=Lq _
  rw[this]at e2;simpa using e2
 rw[k1,k2];exact Rep.eqAt I n (Zab hu) (r1 j _ _ g1 x1) (r2 j _ _ g2 x2) q1 q2
theorem Rep.rcAt(I:Inv X aa σ H s){n:Nat}{A:VF}{d d':Dt}{x y:V}{u v:Va}(hu:A.units+n < UW)(r:Rep X.K H n d x)(r':Rep X.K H n d' y)(rx:Qq x u)(ry:Qq y v):SeqAt.RcAt A s u v (eqD d d'):=by
 have ao:A.units < UW:=by lia
 cases r with
 | v f =>
  cases r' with
  | v f' =>
   unfold eqD;cases x <;> first | (exact(Uc f).elim) | skip
   all_goals (cases y <;> first | (exact(Uc f').elim) | skip)
   ·cases (show u=Vi from rx)
    cases (show v=Vi from ry)
    exact SeqAt.RcAt.none_none
   ·cases (show u=Vi from rx)
    cases (show v=Vj _ from ry)
    exact SeqAt.RcAt.none_bool _
   ·cases (show u=Vi from rx)
    obtain⟨tv,rfl⟩:=ry;exact SeqAt.RcAt.none_int _ _
   ·cases (show u=Vi from rx)
    obtain⟨tv,rfl⟩:=ry;exact SeqAt.RcAt.none_str _ _
   ·cases (show u=Vj _ from rx)
    cases (show v=Vi from ry)
    exact SeqAt.RcAt.bool_none _
   ·cases (show u=Vj _ from rx)
    cases (show v=Vj _ from ry)
    exact SeqAt.RcAt.bool_bool _ _
   ·cases (show u=Vj _ from rx)
    obtain⟨tv,rfl⟩:=ry;exact SeqAt.RcAt.bool_int _ _ _
   ·cases (show u=Vj _ from rx)
    obtain⟨tv,rfl⟩:=ry;exact SeqAt.RcAt.bool_str _ _ _
   ·obtain⟨tu,rfl⟩:=rx
    cases (show v=Vi from ry)
    exact SeqAt.RcAt.int_none _ _
   ·obtain⟨tu,rfl⟩:=rx
    cases (show v=Vj _ from ry)
    exact SeqAt.RcAt.int_bool _ _ _
   ·obtain⟨tu,rfl⟩:=rx
    obtain⟨tv,rfl⟩:=ry;exact SeqAt.RcAt.int_int _ _ _ _
   ·obtain⟨tu,rfl⟩:=rx
    obtain⟨tv,rfl⟩:=ry;exact SeqAt.RcAt.int_str _ _ _ _
   ·obtain⟨tu,rfl⟩:=rx
    cases (show v=Vi from ry)
    exact SeqAt.RcAt.str_none _ _
   ·obtain⟨tu,rfl⟩:=rx
    cases (show v=Vj _ from ry)
    exact SeqAt.RcAt.str_bool _ _ _
   ·obtain⟨tu,rfl⟩:=rx
    obtain⟨tv,rfl⟩:=ry;exact SeqAt.RcAt.str_int _ _ _ _
   ·obtain⟨tu,rfl⟩:=rx
    obtain⟨tv,rfl⟩:=ry;exact SeqAt.RcAt.str_str _ _ _ _
  | t h e _ =>
   cases ry;obtain⟨ah,_,p,_⟩:=I.tuple h;unfold eqD;cases x <;> first | (exact(Uc f).elim) | skip
   ·cases (show u=Vi from rx)
    exact SeqAt.RcAt.none_tuple p ao
   ·cases (show u=Vj _ from rx)
    exact SeqAt.RcAt.bool_tuple _ p ao
   ·obtain⟨tu,rfl⟩:=rx
    exact SeqAt.RcAt.int_tuple _ _ p ao
   ·obtain⟨tu,rfl⟩:=rx
    exact SeqAt.RcAt.str_tuple _ _ p ao
  | l h e _ =>
   cases ry;obtain⟨ah,_,p,_⟩:=I.list h;unfold eqD;cases x <;> first | (exact(Uc f).elim) | skip
   ·cases (show u=Vi from rx)
    exact SeqAt.RcAt.none_list p.isList ao
   ·cases (show u=Vj _ from rx)
    exact SeqAt.RcAt.bool_list _ p.isList ao
   ·obtain⟨tu,rfl⟩:=rx
    exact SeqAt.RcAt.int_list _ _ p.isList ao
   ·obtain⟨tu,rfl⟩:=rx
    exact SeqAt.RcAt.str_list _ _ p.isList ao
 | t h e r1 =>
  rename_i n a ds xs;cases rx;obtain⟨ah,w1,p,_⟩:=I.tuple h;cases r' with
  | v f' =>
   unfold eqD;cases y <;> first | (exact(Uc f').elim) | skip
   ·cases (show v=Vi from ry)
    exact SeqAt.RcAt.tuple_none p ao
   ·cases (show v=Vj _ from ry)
    exact SeqAt.RcAt.tuple_bool _ p ao
   ·obtain⟨tv,rfl⟩:=ry
    exact SeqAt.RcAt.tuple_int _ _ p ao
   ·obtain⟨tv,rfl⟩:=ry
    exact SeqAt.RcAt.tuple_str _ _ p ao
  | t h' e' r2 =>
   rename_i b es ys;cases ry;obtain⟨its',w2,p',_⟩:=I.tuple h';have q:=SeqAt.RcAt.tuples (A:=A) (e:=λi=>eqD (ds.getD i default) (es.getD i default)) p p' ao (Rep.elems I hu e e' r1 r2 w1 w2)
   have sz:ah.toArray.size=ds.length:=by rw[UC,<- w1.length,e]
   have du:its'.toArray.size=es.length:=by rw[UC,<- w2.length,e']
   rw[sz,du,<- Qga]at q;unfold eqD;exact q
  | l h' _ _ =>
   cases ry;obtain⟨its',w2,p',_⟩:=I.list h';unfold eqD;exact SeqAt.RcAt.tuple_list p p'.isList ao
 | l h e r1 =>
  rename_i n a ds xs;cases rx;obtain⟨ah,w1,p,_⟩:=I.list h;cases r' with
  | v f' =>
   unfold eqD;cases y <;> first | (exact(Uc f').elim) | skip
   ·cases (show v=Vi from ry)
    exact SeqAt.RcAt.list_none p.isList ao
   ·cases (show v=Vj _ from ry)
    exact SeqAt.RcAt.list_bool _ p.isList ao
   ·obtain⟨tv,rfl⟩:=ry
    exact SeqAt.RcAt.list_int _ _ p.isList ao
   ·obtain⟨tv,rfl⟩:=ry
    exact SeqAt.RcAt.list_str _ _ p.isList ao
  | l h' e' r2 =>
   rename_i b es ys;cases ry;obtain⟨its',w2,p',_⟩:=I.list h';have sz:ah.toArray.size=ds.length:=by rw[UC,<- w1.length,e]
   have du:its'.toArray.size=es.length:=by rw[UC,<- w2.length,e']
   unfold eqD
   by_cases hl:ds.length=es.length
   ·have q:=SeqAt.RcAt.lists (A:=A) (e:=λi=>eqD (ds.getD i default) (es.getD i default)) p.isList p'.isList #[0] ao (Rep.elems I hu e e' r1 r2 w1 w2)
    rw[sz,<- XG hl]at q;exact q
   ·rw[X7a hl]
    exact SeqAt.RcAt.lists_lengths p.isList p'.isList (by rw[sz,du];exact bne_iff_ne.mpr hl) ao
  | t h' _ _ =>
   cases ry;obtain⟨its',w2,p',_⟩:=I.tuple h';unfold eqD;exact SeqAt.RcAt.list_tuple p.isList p' ao
theorem Rep.rcNeAt(I:Inv X aa σ H s){n:Nat}{A:VF}{d d':Dt}{x y:V}{u v:Va}(hu:A.units+n < UW)(r:Rep X.K H n d x)(r':Rep X.K H n d' y)(rx:Qq x u)(ry:Qq y v):SeqAt.RcNeAt A s u v (!eqD d d'):=by
 have ao:A.units < UW:=by lia
 cases r with
 | v f =>
  cases r' with
  | v f' =>
   unfold eqD;cases x <;> first | (exact(Uc f).elim) | skip
   all_goals (cases y <;> first | (exact(Uc f').elim) | skip)
   ·cases (show u=Vi from rx)
    cases (show v=Vi from ry)
    exact SeqAt.RcNeAt.none_none
   ·cases (show u=Vi from rx)
    cases (show v=Vj _ from ry)
    exact SeqAt.RcNeAt.none_bool _
   ·cases (show u=Vi from rx)
    obtain⟨tv,rfl⟩:=ry;exact SeqAt.RcNeAt.none_int _ _
   ·cases (show u=Vi from rx)
    obtain⟨tv,rfl⟩:=ry;exact SeqAt.RcNeAt.none_str _ _
   ·cases (show u=Vj _ from rx)
    cases (show v=Vi from ry)
    exact SeqAt.RcNeAt.bool_none _
   ·cases (show u=Vj _ from rx)
    cases (show v=Vj _ from ry)
    exact SeqAt.RcNeAt.bool_bool _ _
   ·cases (show u=Vj _ from rx)
    obtain⟨tv,rfl⟩:=ry;exact SeqAt.RcNeAt.bool_int _ _ _
   ·cases (show u=Vj _ from rx)
    obtain⟨tv,rfl⟩:=ry;exact SeqAt.RcNeAt.bool_str _ _ _
   ·obtain⟨tu,rfl⟩:=rx
    cases (show v=Vi from ry)
    exact SeqAt.RcNeAt.int_none _ _
   ·obtain⟨tu,rfl⟩:=rx
    cases (show v=Vj _ from ry)
    exact SeqAt.RcNeAt.int_bool _ _ _
   ·obtain⟨tu,rfl⟩:=rx
    obtain⟨tv,rfl⟩:=ry;exact SeqAt.RcNeAt.int_int _ _ _ _
   ·obtain⟨tu,rfl⟩:=rx
    obtain⟨tv,rfl⟩:=ry;exact SeqAt.RcNeAt.int_str _ _ _ _
   ·obtain⟨tu,rfl⟩:=rx
    cases (show v=Vi from ry)
    exact SeqAt.RcNeAt.str_none _ _
   ·obtain⟨tu,rfl⟩:=rx
    cases (show v=Vj _ from ry)
    exact SeqAt.RcNeAt.str_bool _ _ _
   ·obtain⟨tu,rfl⟩:=rx
    obtain⟨tv,rfl⟩:=ry;exact SeqAt.RcNeAt.str_int _ _ _ _
   ·obtain⟨tu,rfl⟩:=rx
    obtain⟨tv,rfl⟩:=ry;exact SeqAt.RcNeAt.str_str _ _ _ _
  | t h e _ =>
   cases ry;obtain⟨ah,_,p,_⟩:=I.tuple h;unfold eqD;cases x <;> first | (exact(Uc f).elim) | skip
   ·cases (show u=Vi from rx)
    exact SeqAt.RcNeAt.none_tuple p ao
   ·cases (show u=Vj _ from rx)
    exact SeqAt.RcNeAt.bool_tuple _ p ao
   ·obtain⟨tu,rfl⟩:=rx
    exact SeqAt.RcNeAt.int_tuple _ _ p ao
   ·obtain⟨tu,rfl⟩:=rx
    exact SeqAt.RcNeAt.str_tuple _ _ p ao
  | l h e _ =>
   cases ry;obtain⟨ah,_,p,_⟩:=I.list h;unfold eqD;cases x <;> first | (exact(Uc f).elim) | skip
   ·cases (show u=Vi from rx)
    exact SeqAt.RcNeAt.none_list p.isList ao
   ·cases (show u=Vj _ from rx)
    exact SeqAt.RcNeAt.bool_list _ p.isList ao
   ·obtain⟨tu,rfl⟩:=rx
    exact SeqAt.RcNeAt.int_list _ _ p.isList ao
   ·obtain⟨tu,rfl⟩:=rx
    exact SeqAt.RcNeAt.str_list _ _ p.isList ao
 | t h e r1 =>
  rename_i n a ds xs;cases rx;obtain⟨ah,w1,p,_⟩:=I.tuple h;cases r' with
  | v f' =>
   unfold eqD;cases y <;> first | (exact(Uc f').elim) | skip
   ·cases (show v=Vi from ry)
    exact SeqAt.RcNeAt.tuple_none p ao
   ·cases (show v=Vj _ from ry)
    exact SeqAt.RcNeAt.tuple_bool _ p ao
   ·obtain⟨tv,rfl⟩:=ry
    exact SeqAt.RcNeAt.tuple_int _ _ p ao
   ·obtain⟨tv,rfl⟩:=ry
    exact SeqAt.RcNeAt.tuple_str _ _ p ao
  | t h' e' r2 =>
   rename_i b es ys;cases ry;obtain⟨its',w2,p',_⟩:=I.tuple h';have q:=SeqAt.RcNeAt.tuples (A:=A) (e:=λi=>eqD (ds.getD i default) (es.getD i default)) p p' ao (Rep.elems I hu e e' r1 r2 w1 w2)
   have sz:ah.toArray.size=ds.length:=by rw[UC,<- w1.length,e]
   have du:its'.toArray.size=es.length:=by rw[UC,<- w2.length,e']
   rw[sz,du,<- Qga]at q;unfold eqD;exact q
  | l h' _ _ =>
   cases ry;obtain⟨its',w2,p',_⟩:=I.list h';unfold eqD;exact SeqAt.RcNeAt.tuple_list p p'.isList ao
 | l h e r1 =>
  rename_i n a ds xs;cases rx;obtain⟨ah,w1,p,_⟩:=I.list h;cases r' with
  | v f' =>
   unfold eqD;cases y <;> first | (exact(Uc f').elim) | skip
   ·cases (show v=Vi from ry)
    exact SeqAt.RcNeAt.list_none p.isList ao
   ·cases (show v=Vj _ from ry)
    exact SeqAt.RcNeAt.list_bool _ p.isList ao
   ·obtain⟨tv,rfl⟩:=ry
    exact SeqAt.RcNeAt.list_int _ _ p.isList ao
   ·obtain⟨tv,rfl⟩:=ry
    exact SeqAt.RcNeAt.list_str _ _ p.isList ao
  | l h' e' r2 =>
   rename_i b es ys;cases ry;obtain⟨its',w2,p',_⟩:=I.list h';have sz:ah.toArray.size=ds.length:=by rw[UC,<- w1.length,e]
   have du:its'.toArray.size=es.length:=by rw[UC,<- w2.length,e']
   unfold eqD
   by_cases hl:ds.length=es.length
   ·have q:=SeqAt.RcNeAt.lists (A:=A) (e:=λi=>eqD (ds.getD i default) (es.getD i default)) p.isList p'.isList #[0] ao (Rep.elems I hu e e' r1 r2 w1 w2)
    rw[sz,<- XG hl]at q;exact q
   ·rw[X7a hl]
    exact SeqAt.RcNeAt.lists_lengths p.isList p'.isList (by rw[sz,du];exact bne_iff_ne.mpr hl) ao
  | t h' _ _ =>
   cases ry;obtain⟨its',w2,p',_⟩:=I.tuple h';unfold eqD;exact SeqAt.RcNeAt.list_tuple p.isList p' ao
def rD(K:VC)(neg:Bool):R2:=λx y H Q=>∃ n d d',n<=60/\Rep K H n d x/\Rep K H n d' y/\Q (.bl (if neg then !eqD d d' else eqD d d')) H
theorem QVc(hu:X.A.units+64 < UW):OpR X (V2 .Eq) (rD X.K false):=by
 intro aa s σ H x y v u Q I rx ry h;obtain⟨n,d,d',hn,r,r',q⟩:=h;exact Rep.rcAt I (A:=X.A) #[0] r r' rx ry X.prog X.w X.xe _ ⟨.bl _,H,I,rfl,q⟩
theorem QWc(hu:X.A.units+64 < UW):OpR X (V2 .NotEq) (rD X.K true):=by
 intro aa s σ H x y v u Q I rx ry h;obtain⟨n,d,d',hn,r,r',q⟩:=h;exact Rep.rcNeAt I (A:=X.A) #[0] r r' rx ry X.prog X.w X.xe _ ⟨.bl _,H,I,rfl,q⟩
end
end L2
end
section
namespace L2
open PySem PySem.Spec PyProof.Rows PySem.W
structure YMa(xs:List V)(lt:V->V->Bool):Prop where
 ty:∃ T:String,(Vl T != Vl "tuple")=true/\∀ v∈xs,∀ u,Qq v u->typeOf u=pure (.type T)
 ask:∀ v∈xs,∀ v'∈xs,∀ u u',Qq v u->Qq v' u'->∀ (prog:Vg) (w:Vb) (A:VF) (E:YQ_) (s:VG) (Q:Bool->VG->Prop),Q (lt v v') s->VV (VW prog w) A (keyLt' oneType' u u') Q E s
 swo:Swo xs lt
theorem Zbb{v v':V}{u:Va}(a:Qq v u)(b:Qq v' u):v=v':=by
 cases v <;> cases v' <;> simp only[Qq]at a b <;> first | rfl | (subst a;cases b;done) | (subst a;cases b;rfl) | (obtain⟨t,rfl⟩:=a;obtain⟨t',e⟩:=b;cases e;done) | (obtain⟨t,rfl⟩:=a;obtain⟨t',e⟩:=b;cases e;rfl) | (subst a;obtain⟨t',e⟩:=b;cases e;done) | (obtain⟨t,rfl⟩:=a;cases b;done)
section
variable{X:Cx}{aa:YP_}{σ:St}{H:Hp}{s:VG}{A:VF}{E:YQ_}
theorem QXc{n:Nat}(h:n<=100000):n < Vr:=OI h #[1]
theorem Zcb{l:Vh}{xs:List V}{lt:V->V->Bool}{Q:VK}(I:Inv X aa σ H s)(hl:SqL X.K H l xs)(dJ:xs.length < 100000)(hK:YMa xs lt)
 (h:∀ D H' ys,Ql H H'->H D=Vo->H' D=some (.lst ys)->ys.Perm xs->ys.Pairwise (λa b=>lt b a=false)->Q (.ref D) H') :
 VV (VW X.prog X.w) X.A (Uy (.builtin "sorted") [.ref l]) (EP X aa σ Q) X.xe s:=by
 obtain⟨vs,rv,pl,hz⟩:=I.list hl;have bz:=rv.length;have cH:vs.length<=Vr:=by rw[<- bz];exact hz
 refine Calls.call_function_entry kind_sorted plain_sorted entry_sorted (args_sorted1 _) ?_
 unfold Ij.«sorted»;refine Uj (m:=checkCount "sorted" 1 1 _) (Ui ?_)
 refine Uj (collect_list pl.isList ?_ cH)
 refine Uj (LF ?_ cH)
 obtain⟨hsz,dq⟩:=QHc s.heap vs;have a8:=Us ((s.heap.push (Ls "list" #[] 0)).update s.heap.objs.size (OA (·++vs.toArray))) (o:=Ls "list" vs.toArray 0) rfl
 rw[hsz]at a8;have keep:=λb o q=>Ur (Ls "list" vs.toArray 0) (dq b o q)
 have I1:Inv X aa σ H { s with heap:=((s.heap.push (Ls "list" #[] 0)).update s.heap.objs.size (OA (·++vs.toArray))).push (Ls "list" vs.toArray 0) }:=I.kept (t':=s.toks) keep
 have fD:J1 X aa H (s.heap.objs.size+1):=I.fpOk (U5 _) (I.hok.fresh (U5 _));show VV _ _ _ _ _ { s with heap:=((s.heap.push (Ls "list" #[] 0)).update s.heap.objs.size (OA (·++vs.toArray))).push (Ls "list" vs.toArray 0) }
 rw[hsz];generalize ((s.heap.push (Ls "list" #[] 0)).update s.heap.objs.size (OA (·++vs.toArray))).push (Ls "list" vs.toArray 0)=h1 at a8 I1;generalize s.heap.objs.size+1=D at a8 fD;refine Uj (LG (L8 slot_list_sort ⟨_,a8,rfl⟩ entry_list_sort ?body (args_list_sort _)))
 case body =>
  rw[list_sort_plain];have s1:=Lv h1 D (OA λ_=>(#[]:Array Va))
  obtain⟨e1,bN⟩:∃ e1,(h1.update D (OA λ_=>(#[]:Array Va))).get? D=some (Ls "list" #[] e1):=⟨_,Lw a8 λ_=>#[]⟩
  have I2:Inv X aa σ H { s with heap:=h1.update D (OA λ_=>(#[]:Array Va)) }:=I1.turned (t':=s.toks) (λb o hb q=>(s1.2 b hb).trans q) fD.1 fD.2.1 fD.2.2.2.1 fD.2.2.2.2.1 fD.2.2.2.2.2
  have I3:Inv X (aa++[(D,Ls "list" #[] e1)]) σ H { s with heap:=h1.update D (OA λ_=>(#[]:Array Va)) }:=I2.pins_of λp hp=>(mem_append.mp hp).elim (λz=>I2.pin p (Uw _ z)) λz=>by
   have z:p=(D,Ls "list" #[] e1):=by simpa using z
   subst z;exact⟨bN,fD.1,fD.2.1,fD.2.2.1,λv q=>by cases q⟩
  have I5:Inv X (aa++[(D,Ls "list" #[] e1)]) σ H { s with heap:=((h1.update D (OA λ_=>(#[]:Array Va))).push (Ls "tuple" vs.toArray 0)).push (Ls "list" #[] 0) }:=I3.kept (t':=s.toks) λb u q=>Ur _ (Ur _ q)
  refine Uj (LC a8 rfl ?_)
  refine Uj (Lx a8 rfl ?_ (by rw[UC];exact cH) (Ux _))
  refine Uj (Ly bN rfl ?_)
  refine Uj (LH ?_ (by show vs.length<=_;exact cH))
  refine Uj (LF ?_ (Ux _))
  refine LG ?_
  show VV (VW X.prog X.w) _ _ _ _ { s with heap:=((h1.update D (OA λ_=>(#[]:Array Va))).push (Ls "tuple" vs.toArray 0)).push (Ls "list" #[] 0) }
  generalize ((h1.update D (OA λ_=>(#[]:Array Va))).push (Ls "tuple" vs.toArray 0)).push (Ls "list" #[] 0)=h2 at I5
  dsimp only;have tail:∀ {st:Iy} {out:List Va} {ys:List V},(IC st).map (·.2)=Lu out->IS st=Vo->Qt ys out->ys.length < 100000->ys.Perm xs->ys.Pairwise (λa b=>lt b a=false) ->
   VV (VW X.prog X.w) X.A.in1.in1 (do
    let ep <- seqEpoch D
    Builtin.List.listUpdate (Vk D) λx=>LA (λx=>x.snd) (IC st)
    match IS st with
    | some e=>do
     rule "list.sort.comparison-raised"
     throw e
     if (ep != e1)=true then do
         rule "list.sort.modified"
         L9 "ValueError" "list modified during sort"
         ret Vi
      else ret Vi
    | x =>
     if (ep != e1)=true then do
      rule "list.sort.modified"
      L9 "ValueError" "list modified during sort"
      ret Vi
     else ret Vi)
    (λfin s'=>∃ v,fin=Da (Db v)/\VV (VW X.prog X.w) X.A.in1 (ret (Vk D)) (λfin s'=>∃ v,fin=Da (Db v)/\EP X aa σ Q v s') X.xe s')
    X.xe { s with heap:=h2 }:=by
   intro st out ys bh hf ro iQ p1 p2;have hD:=(I5.pin (D,Ls "list" #[] e1) (Uw _ (Uw _ #[2]))).1
   have s2:=Lv h2 D (OA λ_=>Lu out)
   obtain⟨c2,bC⟩:∃ c2,(h2.update D (OA λ_=>Lu out)).get? D=some (Ls "list" (Lu out) c2):=⟨_,Lw hD λ_=>Lu out⟩
   have ho:out.length < 100000:=by rw[<- ro.length];exact iQ
   rw[bh];refine Uj (Ly hD rfl ?_)
   refine Uj (Lx hD rfl ?_ (Ux _) (by rw[UC];exact Lz (VJ (QXc #[0]))))
   rw[hf];simp only[bne_self_eq_false,Ie,if_false];have I6:Inv X aa σ (upd H D (.lst ys)) { s with heap:=h2.update D (OA λ_=>Lu out) }:=(I5.unpinned).adopt (t':=s.toks) fD (λb u hb q=>(s2.2 b hb).trans q) ⟨VJ (QXc #[0]),out,c2,ro,bC⟩
   exact Ui ⟨_,rfl,Ui ⟨_,rfl,.ref D,_,I6,rfl,h D _ ys ((Ql.refl _).updL fD.1 _) fD.1 Qa p1 p2⟩⟩
  by_cases bU:vs.toArray.size < 2
  ·rw[if_pos bU,if_pos bU]
   refine Uj (Ui ?_)
   rw[StateT.run_pure];refine Uj (Ui ?_)
   refine tail (st:=IQ general' (vs.toArray.zip vs.toArray) #[] 7 Vo) (out:=vs) ?_ rfl rv #[0] (List.Perm.refl _) (JUa (by rw[UC]at bU;lia))
   apply Array.toList_inj.mp
   show(LA (·.2) (vs.toArray.zip vs.toArray)).toList=_;rw[Ll,ksk_zip];show List.map (·.2) (vs.zip vs)=vs;exact map_snd_zip #[0]
  ·rw[if_neg bU,if_neg bU]
   rw[UC]at bU;obtain⟨T,mL,hT⟩:=hK.ty;have mem:∀ v∈vs,∃ x∈xs,Qq x v:=λv hv=>by
    obtain⟨i,hi,rfl⟩:=mem_iff_getElem.mp hv;obtain⟨u,eu,ru⟩:=rv.get (i:=i) (x:=xs[i]'#[0]) (Lq _)
    rw[Lq hi]at eu
    cases eu;exact⟨_,Lo _,ru⟩
   refine Uj (kas_kind (T:=.type T) #[0] (λv hv=>?_) mL #[2] ?_)
   ·obtain⟨x,hx,rx⟩:=mem v hv
    exact Looks.of_pure (hT x hx v rx)
   have hn:0 < xs.length:=by lia
   have at_:∀ i,i < xs.length->Qq (xs.getD i .non) (vs.getD i Vi)/\xs.getD i .non∈xs:=λi hi=>by
    obtain⟨u,eu,ru⟩:=rv.get (i:=i) (x:=xs[i]) (Lq _)
    have e1:xs.getD i .non=xs[i]:=by simp[hi]
    have e2:vs.getD i Vi=u:=by simp[L6,eu]
    rw[e1,e2];exact⟨ru,Lo _⟩
   have run:=SortB.X4a (prog:=X.prog) (w:=X.w) (A:=X.A.in1.in1) (E:=X.xe) (κ:=oneType') (ks:=vs) (vs:=vs) (s:={ s with heap:=h2 }) (r:=λi=>xs.countP (lt · (xs.getD i .non))) rfl #[0]
    (λi j C hi hj hC=>by
     rw[<- bz]at hi hj;rw[hK.swo.rank (at_ i hi).2 (at_ j hj).2]at hC;unfold Lj;exact hK.ask _ (at_ i hi).2 _ (at_ j hj).2 _ _ (at_ i hi).1 (at_ j hj).1 _ _ _ _ _ _ hC)
    (λi j hi hj e=>by
     rw[<- bz]at hi hj;have r1:=(at_ i hi).1;rw[e]at r1;show xs.countP (lt · (xs.getD i .non))=xs.countP (lt · (xs.getD j .non));rw[Zbb r1 (at_ j hj).1])
   rw[<- bz]at run;refine Uj (V1 run ?_ λ_ _ x=>x)
   rintro⟨⟨⟩,ag⟩ s' ⟨p,iT,hf,es,ok,up⟩;subst es;have bh:=kat_snds (ks:=vs) (vs:=vs) rfl iT;exact tail bh hf (rv.pick p.toList) (by rw[UO,V7,ok.size];lia) (QHa ok) (JTa hK.swo ok hn up)
end
def ltP:V->V->Bool
 | .int a,.int b=>decide (a < b)
 | .str a,.str b=>decide (a.cps.toList < b.cps.toList)
 | _,_=>false
theorem JZa{xs:List V}(h:∀ v∈xs,∃ n,v=.int n):YMa xs ltP where
 ty:=⟨"int",by decide,λv hv u r=>by obtain⟨n,rfl⟩:=h v hv;obtain⟨t,rfl⟩:=r;rfl⟩
 ask:=λv hv v' fT u u' r r' prog w A E s Q q=>by
  obtain⟨n,rfl⟩:=h v hv;obtain⟨t,rfl⟩:=r;obtain⟨n',rfl⟩:=h v' fT;obtain⟨t',rfl⟩:=r';exact kat_lt_int q
 swo:=⟨λa ha=>by obtain⟨n,rfl⟩:=h a ha;simp[ltP],λa ha b hb c hc=>by
  obtain⟨x,rfl⟩:=h a ha;obtain⟨y,rfl⟩:=h b hb;obtain⟨z,rfl⟩:=h c hc;simp only[ltP,decide_eq_true_eq];lia,λa ha b hb c hc=>by
  obtain⟨x,rfl⟩:=h a ha;obtain⟨y,rfl⟩:=h b hb;obtain⟨z,rfl⟩:=h c hc;simp only[ltP,decide_eq_true_eq];lia⟩
theorem QYc{xs:List V}(h:∀ v∈xs,∃ z,v=.str z):YMa xs ltP where
 ty:=⟨"str",by decide,λv hv u r=>by obtain⟨n,rfl⟩:=h v hv;obtain⟨t,rfl⟩:=r;rfl⟩
 ask:=λv hv v' fT u u' r r' prog w A E s Q q=>by
  obtain⟨n,rfl⟩:=h v hv;obtain⟨t,rfl⟩:=r;obtain⟨n',rfl⟩:=h v' fT;obtain⟨t',rfl⟩:=r';exact kas_lt_str q
 swo:=⟨λa ha=>by obtain⟨n,rfl⟩:=h a ha;simp only[ltP,decide_eq_false_iff_not];exact List.lt_irrefl _,λa ha b hb c hc=>by
  obtain⟨x,rfl⟩:=h a ha;obtain⟨y,rfl⟩:=h b hb;obtain⟨z,rfl⟩:=h c hc;simp only[ltP,decide_eq_true_eq];exact λp q=>List.lt_trans p q,λa ha b hb c hc=>by
  obtain⟨x,rfl⟩:=h a ha;obtain⟨y,rfl⟩:=h b hb;obtain⟨z,rfl⟩:=h c hc;simp only[ltP,decide_eq_true_eq];intro p
  by_cases q:x.cps.toList < y.cps.toList
  ·exact .inl q
  ·exact .inr (List.lt_of_le_of_lt (List.not_lt.mp q) p)⟩
def Xvc(K:VC):List V->Hp->VK->Prop:=λvs H Q=>∃ a xs lt,vs=[.ref a]/\SqL K H a xs/\xs.length < 100000/\YMa xs lt /\
 ∀ D H' ys,Ql H H'->H D=Vo->H' D=some (.lst ys)->ys.Perm xs->ys.Pairwise (λa b=>lt b a=false)->Q (.ref D) H'
theorem Y2{X:Cx}:XB X (.builtin "sorted") (Xvc X.K):=by
 intro aa s σ H xs us Q I r h;obtain⟨a,ys,lt,rfl,hl,dJ,hK,q⟩:=h;obtain⟨u,rfl,ru⟩:=Qqa r;obtain rfl:u=Vk a:=ru;exact Zcb I hl dJ hK q
end L2
end
section
namespace L2
open PySem PySem.Spec PyProof.Rows
theorem Jlb{k:Key}{u:Va}(h:Qoa k u=true):Qq (kV k) u:=by
 rcases Q3 h with ⟨i,t,rfl,rfl⟩ | ⟨x,t,rfl,rfl⟩
 ·exact⟨t,rfl⟩
 ·exact⟨t,rfl⟩
def NF(X:Cx)(d:Vh):Prop:=∀ o u,X.H₀ d≠some (.frz o u)
section
variable{X:Cx}{aa:YP_}{σ:St}{H:Hp}{s:VG}{d:Vh}{ae:List (Key×V)}
theorem Inv.recast{u u':HO}(I:Inv X aa σ H s)(h:H d=some u)(n1:∀ xs,u≠.tup xs)(n2:∀ o v,X.H₀ d≠some (.frz o v))(n3:∀ ps,u≠.tbl ps)(n4:∀ x,u≠.own x)(ok:QC X.prog X.w (upd H d u') s.heap d u'):Inv X aa σ (upd H d u') s:=by
 have ne:∀ b,H b=Vo->b≠d:=λb q z=>by rw[z,h]at q;cases q
 have nt:∀ b xs,H b=some (.tup xs)->b≠d:=λb xs q z=>by rw[z,h]at q;exact n1 xs (Vq q)
 have no:∀ b x,H b=some (.own x)->b≠d:=λb x q z=>by rw[z,h]at q;exact n4 x (Vq q)
 refine⟨I.ok,I.os,I.bare,⟨I.base.keep,I.base.slot,λb v q n hx=>?_,I.base.there,λb xs q=>?_,λb o v q=>?_,λb ps q=>?_⟩,I.loc,I.cell,by rw[Qf (ne _ I.free)];exact I.free,λx c q=>by rw[Qf (ne _ (I.freeC x c q))];exact I.freeC x c q,λp hp=>?_,λb v q=>?_,I.len⟩
 ·have z:=I.base.free b v q n hx
  rw[Qf (ne b z)];exact z
 ·have z:=I.base.tups b xs q
  rw[Qf (nt b xs z)];exact z
 ·have z:=I.base.frzs b o v q
  rw[Qf (λe=>by rw[e]at q;exact n2 o v q)];exact z
 ·obtain⟨m,z⟩:=I.base.tbls b ps q
  exact⟨m,by rw[Qf (λe=>by rw[e,h]at z;exact n3 _ (Vq z))];exact z⟩
 ·obtain⟨a,b,r⟩:=I.pin p hp
  exact⟨a,by rw[Qf (ne _ b)];exact b,r⟩
 ·by_cases hb:b=d
  ·subst hb;rw[Qa]at q;cases q;exact ok
  ·rw[Qf hb]at q
   exact(I.hok b v q).stay (λc v _ r=>r) (λc r=>by rw[Qf (no c b r)];exact r) λc xs r=>by rw[Qf (nt c xs r)];exact r
theorem Inv.nf(I:Inv X aa σ H s)(h:H d=some (.dK ae)):NF X d:=λo u q=>by
 have z:=I.base.frzs d o u q;rw[h]at z;cases z
theorem Inv.freeze(I:Inv X aa σ H s)(h:H d=some (.dK ae)):∃ ob,s.heap.get? d=some ob/\Inv X aa σ (upd H d (.frz ob (.dK ae))) s:=by
 obtain⟨z,y,vs,r,o,es,ep,e,c⟩:=(show QC X.prog X.w H s.heap d (.dK ae) from I.hok d _ h)
 exact⟨o,e,I.recast h (λ_ z=>by cases z) (I.nf h) (λ_ z=>by cases z) (λ_ z=>by cases z) ⟨e,z,y,vs,r,o,es,ep,e,c⟩⟩
theorem Inv.thaw{ob:Obj}(I:Inv X aa σ H s)(nf:NF X d)(h:H d=some (.frz ob (.dK ae))):Inv X aa σ (upd H d (.dK ae)) s:=by
 obtain⟨_,z,y,vs,r,o,es,ep,e,c⟩:=(show QC X.prog X.w H s.heap d (.frz ob (.dK ae)) from I.hok d _ h)
 exact I.recast h (λ_ z=>by cases z) nf (λ_ z=>by cases z) (λ_ z=>by cases z) ⟨z,y,vs,r,o,es,ep,e,c⟩
end
def Itd(d:Vh)(ob:Obj)(ae:List (Key×V)):It :=
 ⟨λi H=>H d=some (.frz ob (.dK ae))/\i < ae.length,λi H x H'=>H'=H/\∃ k v,ae[i]?=some (k,v)/\x=kV k,λi H=>H d=some (.frz ob (.dK ae))/\ae.length<=i⟩
theorem QZc{P:Vg}{w:Vb}{H:Hp}{h:Vp}{d:Vh}{ob:Obj}{ae:List (Key×V)}{es:Array DictEntry}{ep:Nat}(ok:HOk P w H h)(e:H d=some (.frz ob (.dK ae)))(hd:ob.data=.dict es ep) :
 (d == Vt)=false/\∃ vs,KV ae vs/\h.DictAt (QA P w) d vs ep:=by
 obtain⟨e0,z,y,vs,r,o,es',kA,e1,c1,c2,c3⟩:=(show QC P w H h d (.frz ob (.dK ae)) from ok d _ e)
 rw[e0]at e1;cases e1;rw[hd]at c2;cases c2;exact⟨y,vs,r,ob,es,e0,c1,hd,c3⟩
theorem KV.get{ae:List (Key×V)}{vs:List (Key×Va)}(r:KV ae vs){i:Nat}{k:Key}{v:V}(h:ae[i]?=some (k,v)):∃ u,vs[i]?=some (k,u)/\Qq v u:=by
 induction r generalizing i with
 | nil=>simp at h
 | cons a b ih =>
  cases i with
  | zero =>
   simp only[getElem?_cons_zero,Ig]at h ⊢
   subst h;rename_i q _ _;obtain⟨k',u⟩:=q;exact⟨u,by rw[show k=k' from a.1],a.2⟩
  | succ j =>
   simp only[getElem?_cons_succ]at h ⊢
   exact ih h
theorem KV.len{ae:List (Key×V)}{vs:List (Key×Va)}(r:KV ae vs):ae.length=vs.length:=Vn r
theorem Xlb{P:Vg}{w:Vb}{K:VC}{tg:Expr}(it d:Vh)(ob:Obj)(ae:List (Key×V))(es:Array DictEntry)(ep:Nat)(fh:ob.data=.dict es ep):QNb P w K tg (Itd d ob ae) [it] it (λi h=>h.IsKeyIter it d i ae.length ep) where
 mem:=by simp
 obj:=λi h st b hb=>by
  have e:b=it:=by simpa using hb
  subst e;obtain⟨o,e,c,dd⟩:=st;exact⟨o,e,λv z=>by rw[dd]at z;cases z⟩
 keep:=λi h h' st k=>let ⟨o,ho,r⟩:=st;⟨o,k it #[2] o ho,r⟩
 item:=by
  intro X hP hw hK hc i aa s σ H E I hf st hg;subst hP hw hK;obtain⟨hz,hi⟩:=hg;obtain⟨_,vs,rv,da⟩:=QZc I.hok hz fh;have hl:=rv.len;obtain⟨k,v,g9⟩:∃ k v,ae[i]?=some (k,v):=⟨ae[i].1,ae[i].2,Lq hi⟩
  obtain⟨u,hu,_⟩:=rv.get g9;obtain⟨f0,f1,f2,f3,f4,f5⟩:=hf it #[2]
  rw[hl]at st;refine wpAny_pyNext_dict_item st da hu λkey h' hk ag sb=>?_
  have I1:Inv X aa σ H { s with heap:=h' }:=I.turned (t':=s.toks) (λb o hb e=>(sb.2 b hb).trans e) f0 f1 f3 f4 f5
  obtain⟨o,e,c,dd⟩:=id ag;exact⟨key,rfl,JCa (s:={ s with heap:=h' }) e c dd #[1] ⟨kV k,H,I1,Jlb hk,⟨rfl,k,v,g9,rfl⟩,by rw[hl];exact ag,λb hb=>(hf b hb).1⟩⟩
 done:=by
  intro X hP hw hK hc i aa s σ H E I hf st hg;subst hP hw hK;obtain⟨hz,hi⟩:=hg;obtain⟨_,vs,rv,da⟩:=QZc I.hok hz fh;have hl:=rv.len;obtain⟨f0,f1,f2,f3,f4,f5⟩:=hf it #[2]
  rw[hl]at st;exact wpAny_pyNext_dict_end (I.ok.hd hc) st da (Dc #[0]) λh' eb=>⟨rfl,I.turned (t':=s.toks) (λb o hb e=>eb b o hb e) f0 f1 f3 f4 f5⟩
 self:=λ_ _ _ _ _ st h=>wpAny_pyIter_keyiter st h
def Q0c(X:Cx)(tl:TE):TI:=λσ H R=>tl σ H λx H1=>∃ d ae,x=.ref d/\H1 d=some (.dK ae)/\∀ ob,NF X d->R (Itd d ob ae) (upd H1 d (.frz ob (.dK ae)))
section
variable{X:Cx}
theorem Ynb{tg l:Expr}{tl:TE}(hl:PE X l tl):PI X tg l (Q0c X tl):=by
 intro aa s σ H R I h;refine thn (hl aa s σ H _ I h) λv s1 hZ=>?_
 obtain⟨x,H1,I1,r1,q1⟩:=hZ;obtain⟨d,ae,e,hd,q⟩:=q1;subst e;obtain rfl:v=Vk d:=r1;obtain⟨ob,qg,I2⟩:=I1.freeze hd;obtain⟨z,y,vs,rv,o,es,ep,e0,c1,c2,c3⟩:=(show QC X.prog X.w H1 s1.heap d (.dK ae) from I1.hok d _ hd)
 rw[qg]at e0;cases e0;have da:s1.heap.DictAt (QA X.prog X.w) d vs ep:=⟨ob,es,qg,c1,c2,c3⟩;refine wpAny_pyIter_dict y da ?_
 have nf:=I1.nf hd;refine⟨s1.heap.objs.size,[s1.heap.objs.size],_,_,upd H1 d (.frz ob (.dK ae)),rfl,I2.kept (t':=s1.toks) λb o e=>Ur _ e,Xlb _ d ob ae es ep c2,⟨_,Us _ rfl,rfl,?_⟩,λb hb=>?_,q ob nf⟩
 ·rw[rv.len];rfl
 ·have e:b=s1.heap.objs.size:=by simpa using hb
  subst e;exact I2.fpOk (Ut _) (I2.hok.fresh (Ut _))
def YBc(X:Cx)(te:TE):TE:=λσ H Q=>te σ H λv H1=>∃ d ob ae,NF X d/\H1 d=some (.frz ob (.dK ae))/\Q v (upd H1 d (.dK ae))
theorem Yob{e:Expr}{te:TE}(h:PE X e te):PE X e (YBc X te):=λaa s σ H Q I q=>V1 (h aa s σ H _ I q) (λu s1 ⟨v,H',I',r,d,ob,ae,nf,e,q'⟩=>⟨v,_,I'.thaw nf e,r,q'⟩) λ_ _ z=>z
theorem Xmb{tl:TE}{g:TG}{tb:TS}{D:Jg}{σ:St}{H:Hp}:XSa (Q0c X tl) g tb D σ H=tl σ H λx H1=>∃ d ae,x=.ref d/\H1 d=some (.dK ae)/\∀ ob,NF X d->FoR (Itd d ob ae) g tb D σ (upd H1 d (.frz ob (.dK ae))):=rfl
theorem Q1c{tl:TE}{tt:TT}{te:TE}{σ:St}{H:Hp}{Q:VK}:tLc (Q0c X tl) tt te σ H Q=tl σ H λx H1=>∃ d ae,x=.ref d/\H1 d=some (.dK ae)/\∀ ob,NF X d->LcR (Itd d ob ae) tt te σ Q (upd H1 d (.frz ob (.dK ae))):=rfl
end
theorem Zdb{d:Vh}{ob:Obj}{ae:List (Key×V)}{tt:TT}{σ:St}{H1:Hp}{Q:VK}(p:V->Bool)(hz:ae.length<=Vr)(hd:H1 d=some (.frz ob (.dK ae)))
 (he:∀ k v H2 (R:Bool->Hp->Prop),(k,v)∈ae->Ql H1 H2->(∀ H3,Ql H2 H3->R (p (kV k)) H3)->tt (some (kV k)::σ) H2 R)
 (hq:∀ D H2,H1 D=Vo->Ql H1 H2->H2 D=some (.lst ((ae.map λq=>kV q.1).filter p))->Q (.ref D) H2):LcR (Itd d ob ae) tt (JC 0) σ Q H1 :=
 Jjb (ae.map λq=>kV q.1) p (by rw[UO];exact hz) (λi H2 hi s=>⟨⟨s _ _ hd,by rwa [UO]at hi⟩,λx H' ⟨e,k,v,g9,ex⟩=>⟨e,by rw[Oj,g9,ex];rfl⟩⟩)
  (λH2 s=>⟨s _ _ hd,by rw[UO];exact Ut _⟩) (λi x H2 R hx s r=>by
   rw[Oj]at hx
   cases e:ae[i]? with
   | none=>rw[e]at hx;cases hx
   | some q =>
    rw[e]at hx;cases hx;exact he q.1 q.2 H2 R (Om e) s r) hq
theorem QX.u1{k:Nat}{A:VF}(r:QX k A):A.units+1 < UW:=by have:=r.units;lia
def SqE(b:Bool)(K:VC)(H:Hp)(a:Vh)(xs:List V):Prop:=if b=true then SqT K H a xs else SqL K H a xs
def ItE(b:Bool)(K:VC)(a:Vh):It:=if b=true then Itt K a else Itl K a
theorem SqE.same{b:Bool}{K:VC}{H H':Hp}{a:Vh}{xs:List V}(h:SqE b K H a xs)(s:Ql H H'):SqE b K H' a xs:=by
 cases b with
 | true=>exact Ql.seqT s h
 | false=>exact Ql.seq s h
def Qtd(K:VC)(tl:TE):TI:=λσ H R=>tl σ H λx H1=>∃ a b,x=.ref a/\(∃ xs,SqE b K H1 a xs)/\R (ItE b K a) H1
section
variable{X:Cx}{tg:Expr}
theorem Xwc{l:Expr}{tl:TE}(hl:PE X l tl):PI X tg l (Qtd X.K tl):=by
 intro aa s σ H R I h;refine thn (hl aa s σ H _ I h) λv s1 hZ=>?_
 obtain⟨x,H1,I1,r1,q1⟩:=hZ;obtain⟨a,b,e,⟨xs,hq⟩,q⟩:=q1;subst e;cases r1;cases b with
 | false =>
  obtain⟨ah,rv,p,hz⟩:=I1.list hq;refine Uq p.isList ?_
  refine⟨s1.heap.objs.size,[s1.heap.objs.size],_,_,H1,rfl,I1.kept (t':=s1.toks) λb o e=>Ur _ e,Xda a _,⟨_,Us _ rfl,rfl,rfl⟩,λb hb=>?_,q⟩
  have e:b=s1.heap.objs.size:=by simpa using hb
  subst e;exact I1.fpOk (Ut _) (I1.hok.fresh (Ut _))
 | true =>
  obtain⟨ah,rv,p,hz⟩:=I1.tuple hq;refine wpAny_pyIter_tuple (show s1.heap.IsTuple a ah.toArray from p) ?_
  refine⟨s1.heap.objs.size,[s1.heap.objs.size],_,_,H1,rfl,I1.kept (t':=s1.toks) λb o e=>Ur _ e,JDa a _,⟨_,Us _ rfl,rfl,rfl⟩,λb hb=>?_,q⟩
  have e:b=s1.heap.objs.size:=by simpa using hb
  subst e;exact I1.fpOk (Ut _) (I1.hok.fresh (Ut _))
end
theorem Q2c{K:VC}{tl:TE}{g:TG}{tb:TS}{D:Jg}{σ:St}{H:Hp}:XSa (Qtd K tl) g tb D σ H=tl σ H λx H1=>∃ a b,x=.ref a/\(∃ xs,SqE b K H1 a xs)/\FoR (ItE b K a) g tb D σ H1:=rfl
theorem JJc{b:Bool}{K:VC}{a:Vh}(xs:List V){g:TG}{tb:TS}{D:Jg}{σ:St}{H:Hp}(Pv:Nat->St->Hp->Prop)(h0:Pv 0 σ H)(hl:∀ i σ H,i<=xs.length->Pv i σ H->SqE b K H a xs)
 (hs:∀ i x σ H,xs[i]?=some x->Pv i σ H->g x σ H λσ2 H2=>tb { D with nx:=Pv (i+1),ct:=Pv (i+1),bk:=D.nx } σ2 H2) (hd:∀ σ H,Pv xs.length σ H->D.nx σ H):FoR (ItE b K a) g tb D σ H:=by
 cases b with
 | true=>exact Jxc xs Pv h0 hl hs hd
 | false=>exact ZJ xs Pv h0 hl hs hd
end L2
end
section
namespace PySem.W
open PySem
def Zy(K:VC)(C:Vh)(fl:List Str):Bool:=plainGet K C Str.empty && (hasDictIn K C && (plainOver K C && (UD K (.ref C) "__setattr__" == some (some (.builtin "object.__setattr__")) && (UD K (.ref C) "__class__" == some (some (.builtin "object.__class__")) && (mroIn K C (.type "object") == some true && fl.all λf=>UD K (.ref C) f == some Vo)))))
theorem Zeb{K:VC}{C:Vh}{fl:List Str}(h:Zy K C fl=true):L2.Cls K C/\UD K (.ref C) "__class__"=some (some (.builtin "object.__class__"))/\mroIn K C (.type "object")=some true/\∀ f∈fl,L2.Jn K C f:=by
 unfold Zy at h;simp only[Il,beq_iff_eq,Im]at h;obtain⟨a,b,c,d,e,f,g⟩:=h;exact⟨⟨a,b,c,d⟩,e,f,g⟩
def Q3c(K:VC)(l:List Vh)(m:Nat->Nat->Bool):Bool:=(VB l.length).all λi=>(VB l.length).all λj=>kitOne K (.ref (l.getD i 0)) (.ref (l.getD j 0)) == some (m i j)
theorem Xxc{K:VC}{l:List Vh}{m:Nat->Nat->Bool}(h:Q3c K l m=true):∀ i j,i < l.length->j < l.length->kitOne K (.ref (l.getD i 0)) (.ref (l.getD j 0))=some (m i j):=by
 unfold Q3c at h;simp only[Im,Cy,beq_iff_eq]at h;exact λi j hi hj=>h i hi j hj
end PySem.W
namespace L2
open PySem PySem.Spec PyProof.Rows
structure ObC(K:VC)(C:Vh)(fl:List Str):Prop where
 cl:Cls K C
 cc:UD K (.ref C) "__class__"=some (some (.builtin "object.__class__"))
 mo:W.mroIn K C (.type "object")=some true
 no:∀ f∈fl,Jn K C f
 cg:UT K (.builtin "object.__class__") "__get__"=some (some (.builtin "getset_descriptor.__get__"))
 ct:W.takesIn K (.builtin "object.__class__")=some true
theorem ObC.of{K:VC}{C:Vh}{fl:List Str}(h:W.Zy K C fl=true)(cg:UT K (.builtin "object.__class__") "__get__"=some (some (.builtin "getset_descriptor.__get__")))(ct:W.takesIn K (.builtin "object.__class__")=some true):ObC K C fl :=
 let ⟨a,b,c,d⟩:=W.Zeb h;⟨a,b,c,d,cg,ct⟩
def J0a(P:Vg)(w:Vb)(K:VC)(mg:Str->Option Va)(base:Vp)(k:Nat)(m:Str)(ta:TE)(t:TA):TE1:=λσ H Q E=>ta σ H λx H1=>∃ a C dx fs sp,x=.ref a/\H1 a=some (.ins C dx fs)/\fs.lookup m=Vo/\Cls K C/\MeV P w K mg base k C m sp/\t σ H1 λvs H2=>sp (x::vs) H2 Q E
section
variable{X:Cx}{m:Str}{k:Nat}{ta:TE}{t:TA}{e o:Expr}{es:List Expr}{pos ai:Pos}{pl:Sem Bool}
theorem ZT(he:PE X.nox o ta)(hr:QX k X.A)(bi:X.ex=[])(ha:PA X.nox (e::es) t)
 (cI:VZ (e::es) X.env=(false,VX e X.env)::VZ es X.env:=by rfl) (aN:(VY pos (VZ es X.env)).any (·.1)=false:=by rfl)
 (ht:VX (.Call (.Attribute o m ai) (e::es) [] pos) X.env=(do
  let ov <- VX o X.env
  V5 ai.atName
  let (f,first) <- V6 [ov] (UF ov m pl)
  L4 pos f first (VY pos (VZ (e::es) X.env)) (U8 pos (U9 [] X.env))):=by rfl) :
 PE1 X (.Call (.Attribute o m ai) (e::es) [] pos) (J0a X.prog X.w X.K X.mg X.base k m ta t):=by
 intro aa s σ H Q E I h;refine L5 (pl:=pl) (thn (Ymb he I h) λu s1 hZ=>?_) ht
 obtain⟨y,H1,I1,rx,a,C,dx,fs,sp,ex,ea,l,c,G,q⟩:=hZ;obtain⟨f,fd,ps,hm,F,hb⟩:=G;subst ex;obtain rfl:u=Vk a:=rx;refine YV I1 ea c hm l ?_
 refine U4 (first:=[.ref a]) (h₀:=X.base) I.ok.mod.kin hm.kp (thn (QQc ha I1 q) λus s2 ⟨vs,H2,I2,r,q2⟩=>⟨I2.kIn,?_⟩) cI aN
 exact Jua (us:=.ref a::us) (vs:=.ref a::vs) F hr hb bi I2 (.cons rfl r) q2
theorem J1a(he:PE X.nox o ta)(hr:QX k X.A)(bi:X.ex=[])
 (ht:VX (.Call (.Attribute o m ai) [] [] pos) X.env=(do
  let ov <- VX o X.env
  V5 ai.atName
  let (f,first) <- V6 [ov] (UF ov m pl)
  L4 pos f first (VY pos (VZ [] X.env)) (U8 pos (U9 [] X.env))):=by rfl) :
 PE1 X (.Call (.Attribute o m ai) [] [] pos) (J0a X.prog X.w X.K X.mg X.base k m ta Jea):=by
 intro aa s σ H Q E I h;refine L5 (pl:=pl) (thn (Ymb he I h) λu s1 hZ=>?_) ht
 obtain⟨y,H1,I1,rx,a,C,dx,fs,sp,ex,ea,l,c,G,q⟩:=hZ;obtain⟨f,fd,ps,hm,F,hb⟩:=G;subst ex;obtain rfl:u=Vk a:=rx;refine YV I1 ea c hm l ?_
 exact U6 (first:=[.ref a]) I1.kIn hm.kp (Jua (us:=[.ref a]) (vs:=[.ref a]) F hr hb bi I1 (.cons rfl .nil) q)
theorem Xyc{j:Nat}{x:Str}{C:Vh}{sp:Sp}{p:Pos}(G:MkV X.prog X.w X.K X.mg X.base j x C sp)(hr:QX k X.A)(hj:j+1<=k)(hg:Gl X x)(aP:(x == ("__debug__":Str))=false:=by decide):PE X (.Call (.Name x p) [] [] pos) (J6b C sp [] E0 Jea):=by
 obtain⟨f,fd,ps,M,F,b,hm⟩:=G;exact X4b M F (hr.mono hj) hg hm b .nil J9b aP
end
theorem Jp{x y:V}:[x,y].length<=Vr:=show 2<=Vr by decide
theorem Q4c{J:It}{tt:TT}{te:TE}{σ:St}{H1:Hp}{Q:VK}(xs:List V)(p:V->Bool)(f:V->V)(hz:xs.length<=Vr)
 (iV:∀ i H2,i < xs.length->Ql H1 H2->J.go i H2/\∀ x H',J.yld i H2 x H'->H'=H2/\xs[i]?=some x) (cI:∀ H2,Ql H1 H2->J.stop xs.length H2)
 (ht:∀ (i:Nat) x H2 (R:Bool->Hp->Prop),xs[i]?=some x->Ql H1 H2->R (p x) H2->tt (some x::σ) H2 R)
 (he:∀ (i:Nat) x H2 (R:VK),xs[i]?=some x->p x=true->Ql H1 H2->R (f x) H2->te (some x::σ) H2 R)
 (hq:∀ D H2,H1 D=Vo->Ql H1 H2->H2 D=some (.lst ((xs.filter p).map f))->Q (.ref D) H2):LcR J tt te σ Q H1:=by
 intro D hD;refine⟨λi m ys H2=>m=xs.length - i/\i<=xs.length/\ys=((xs.take i).filter p).map f/\H2 D=some (.lst ys)/\Ql H1 H2,⟨_,rfl,Ux _,by simp,Qa,Qh hD _⟩,?_⟩
 rintro i m ys H2 ⟨rfl,hi,hy,hd,sm⟩;refine⟨hd,?_⟩
 by_cases aA:i < xs.length
 ·obtain⟨go,yl⟩:=iV i H2 aA sm
  have hl:ys.length<=i:=by
   rw[hy,UO];exact VI (OR _ _) (by rw[Of];lia)
  refine .inr ⟨go,by lia,λx H' y=>?_⟩
  obtain⟨e,hx⟩:=yl x H' y;subst e;have hn:((xs.take (i+1)).filter p).map f=if p x=true then ys++[f x] else ys:=by
   rw[LI,hx,CH,Dd,<- hy];cases hp:p x <;> simp[hp]
  refine ht i x _ _ hx sm ?_
  cases hp:p x with
  | true =>
   rw[if_pos rfl];refine he i x _ _ hx hp sm ⟨hd,xs.length - (i+1),by lia,rfl,aA,?_,Qa,sm.updL hD _⟩
   rw[hn,hp,if_pos rfl]
  | false =>
   rw[if_neg Uc];refine⟨xs.length - (i+1),by lia,rfl,aA,?_,hd,sm⟩
   rw[hn,hp,if_neg Uc]
 ·have e:i=xs.length:=by lia
  subst e;rw[LL]at hy;exact .inl ⟨cI H2 sm,hq D H2 hD sm (by rw[hd,hy])⟩
theorem Q5c{K:VC}{a:Vh}{tt:TT}{te:TE}{σ:St}{H1:Hp}{Q:VK}(xs:List V)(p:V->Bool)(f:V->V)(hx:SqL K H1 a xs)(hz:xs.length<=Vr)
 (ht:∀ (i:Nat) x H2 (R:Bool->Hp->Prop),xs[i]?=some x->Ql H1 H2->R (p x) H2->tt (some x::σ) H2 R)
 (he:∀ (i:Nat) x H2 (R:VK),xs[i]?=some x->p x=true->Ql H1 H2->R (f x) H2->te (some x::σ) H2 R)
 (hq:∀ D H2,H1 D=Vo->Ql H1 H2->H2 D=some (.lst ((xs.filter p).map f))->Q (.ref D) H2):LcR (Itl K a) tt te σ Q H1 :=
 Q4c xs p f hz (λi H2 hi s=>⟨⟨xs,xs[i],s.seq hx,by simp[hi]⟩,λx H' y=>⟨y.1,y.2 xs (s.seq hx)⟩⟩) (λH2 s=>⟨xs,s.seq hx,Ut _⟩) ht he hq
theorem JKc{K:VC}{a:Vh}{tt:TT}{te:TE}{σ:St}{H1:Hp}{Q:VK}(xs:List V)(p:V->Bool)(f:V->V)(hx:SqT K H1 a xs)(hz:xs.length<=Vr)
 (ht:∀ (i:Nat) x H2 (R:Bool->Hp->Prop),xs[i]?=some x->Ql H1 H2->R (p x) H2->tt (some x::σ) H2 R)
 (he:∀ (i:Nat) x H2 (R:VK),xs[i]?=some x->p x=true->Ql H1 H2->R (f x) H2->te (some x::σ) H2 R)
 (hq:∀ D H2,H1 D=Vo->Ql H1 H2->H2 D=some (.lst ((xs.filter p).map f))->Q (.ref D) H2):LcR (Itt K a) tt te σ Q H1 :=
 Q4c xs p f hz (λi H2 hi s=>⟨⟨xs,xs[i],s.seqT hx,by simp[hi]⟩,λx H' y=>⟨y.1,y.2 xs (s.seqT hx)⟩⟩) (λH2 s=>⟨xs,s.seqT hx,Ut _⟩) ht he hq
def XH(H:Hp):V->V
 | .ref a=>match H a with | some (.tup [_,w])=>w | _=>.non
 | _=>.non
theorem XI{H:Hp}{a:Vh}{k w:V}(h:H a=some (.tup [k,w])):XH H (.ref a)=w:=by
 show(match H a with | some (.tup [_,w])=>w | _=>.non)=w
 rw[h]
theorem Q7{K:VC}{C a dx:Vh}{fl:List Str}{f:Str}{fs:List (Str×V)}{v:V}{i:Nat}{σ:St}{H:Hp}{Q:VK}(c:ObC K C fl)(hf:f∈fl)(hs:σ[i]?=some (some (.ref a)))(ha:H a=some (.ins C dx fs))(hv:fs.lookup f=some v)(q:Q v H):YXb K (JC i) f σ H Q :=
 Qba hs ⟨a,C,dx,fs,v,rfl,ha,c.cl,c.no f hf,hv,q⟩
theorem ZMa{K:VC}{C a dx:Vh}{fl:List Str}{f:Str}{fs:List (Str×V)}{i:Nat}{σ:St}{H H1:Hp}{tv:TE}{D:Jg}{y:V}(c:ObC K C fl)(hf:f∈fl)(hs:σ[i]?=some (some (.ref a)))(hv:∀ Q:VK,Q y H1->tv σ H Q)(ha:H1 a=some (.ins C dx fs))(l:fs.length < 1000)(q:D.nx σ (upd H1 a (.ins C dx (Zu f y fs)))):X9c K (JC i) tv f D σ H :=
 hv _ (Qba hs ⟨a,C,dx,fs,rfl,ha,c.cl,c.no f hf,l,q⟩)
theorem Zfb{H:Hp}{a b:Vh}{x y:HO}(h:a≠b):upd (upd H a x) b y=upd (upd H b y) a x:=by
 funext c
 by_cases h1:c=b
 ·subst h1;rw[Qa,Qf (VR h),Qa]
 ·by_cases h2:c=a
  ·subst h2;rw[Qa,Qf h1,Qa]
  ·rw[Qf h1,Qf h2,Qf h2,Qf h1]
def HE(b:Bool)(H:Hp)(e:Vh)(xs:List V):Prop:=H e=some (if b=true then .tup xs else .lst xs)
theorem HE.upd_ins{b:Bool}{H:Hp}{a e C dx:Vh}{o:HO}{fs:List (Str×V)}{xs:List V}(h:HE b H e xs)(ha:H a=some (.ins C dx fs)):HE b (upd H a o) e xs:=by
 have ne:e≠a:=λz=>by
  unfold HE at h;rw[z,ha]at h;cases b <;> cases h
 unfold HE;rw[Qf ne];exact h
theorem HE.same{b:Bool}{H H':Hp}{e:Vh}{xs:List V}(h:HE b H e xs)(s:Ql H H'):HE b H' e xs:=s _ _ h
section
variable{P:Vg}{w:Vb}{K:VC}{mg:Str->Option Va}{base:Vp}{k i:Nat}{C D a dx:Vh}{m:Str}{sp:Sp}{fs:List (Str×V)}{fl:List Str}{σ:St}{H:Hp}{Q:VK}{E:XK}{t:TA}{b:Bool}
theorem ZNa(hs:σ[i]?=some (some (.ref a)))(ha:H a=some (.ins C dx fs))(l:fs.lookup m=Vo)(c:Cls K C)(M:MeV P w K mg base k C m sp)(q:sp [.ref a] H Q E):J0a P w K mg base k m (JC i) Jea σ H Q E:=Qba hs ⟨a,C,dx,fs,sp,rfl,ha,l,c,M,q⟩
theorem JF(hs:σ[i]?=some (some (.ref a)))(ha:H a=some (.ins C dx fs))(l:fs.lookup m=Vo)(c:Cls K C)(M:MeV P w K mg base k C m sp)(q:t σ H λvs H2=>sp (.ref a::vs) H2 Q E):J0a P w K mg base k m (JC i) t σ H Q E:=Qba hs ⟨a,C,dx,fs,sp,rfl,ha,l,c,M,q⟩
theorem X8a{n:Nat}{d:Dt}{x y:V}{neg:Bool}(hn:n<=60)(rx:Rep K H n d x)(ry:Rep K H n d y)(q:Q (.bl (!neg)) H):rD K neg x y H Q:=⟨n,d,d,hn,rx,ry,by
 rw[Rep.self rx];cases neg <;> exact q⟩
end
theorem Y3{H H':Hp}{x dx:Vh}{o u:HO}(hx:H x=Vo)(a9:H dx=Vo)(s:Ql (upd (upd H dx u) x o) H'):Ql H H':=λb v hb=>s _ _ (by rw[Qf (Qr hb hx),Qf (Qr hb a9)];exact hb)
theorem YH{H H':Hp}{d:Vh}{o:HO}(s:Ql H H')(n:H d=Vo):Ql H (upd H' d o):=λb u hb=>by
 rw[Qf (Qr hb n)];exact s b u hb
def Q6c(lo:Int)(n:Nat):It:=⟨λi _=>i < n,λi H x H'=>H'=H/\x=.int (lo - i),λi _=>n<=i⟩
theorem Xnb{P:Vg}{w:Vb}{K:VC}{tg:Expr}(it:Vh)(lo:Int)(n:Nat):QNb P w K tg (Q6c lo n) [it] it (λi h=>Uo h it (lo+(i:Nat) * (-1)) ((n:Int) - (i:Nat)) (-1)) where
 mem:=by simp
 obj:=λi h st b hb=>by
  have e:b=it:=by simpa using hb
  subst e;exact⟨_,st,λv z=>by
   have z':Data.fields _=Data.cell v:=z;cases z'⟩
 keep:=λi h h' st k=>k it #[2] _ st
 item:=by
  intro X hP hw hK hc i aa s σ H E I hf st hg;subst hP hw hK;obtain⟨f0,f1,f2,f3,f4,f5⟩:=hf it #[2]
  have W:=Walks.range (prog:=X.prog) (w:=X.w) (I.ok.hd hc) it lo (-1) n;refine W.item i s _ _ hg st λv h' tk hv ag kk=>?_
  obtain⟨t,rfl⟩:=hv;have I1:Inv X aa σ H { s with heap:=h',toks:=tk }:=I.turned (λb o hb e=>kk b o (by simpa using hb) e) f0 f1 f3 f4 f5
  refine⟨_,rfl,JCa (s:={ s with heap:=h',toks:=tk }) (n:="range_iterator") ag rfl rfl #[1] ⟨.int (lo - i),H,I1,⟨t,?_⟩,⟨rfl,rfl⟩,ag,λb hb=>(hf b hb).1⟩⟩
  rw[Int.mul_neg,Int.mul_one,Int.sub_eq_add_neg]
 done:=by
  intro X hP hw hK hc i aa s σ H E I hf st hg;subst hP hw hK;obtain⟨f0,f1,f2,f3,f4,f5⟩:=hf it #[2]
  exact wpAny_pyNext_range_end (I.ok.hd hc) st (by have:n<=i:=hg;lia) λh' eb=>⟨rfl,I.turned (t':=s.toks) (λb o hb e=>eb b o hb e) f0 f1 f3 f4 f5⟩
 self:=λ_ _ _ _ _ st h=>wpAny_pyIter_rangeiter st h
theorem XJ(a b:Int):Uu a b (-1)=if b < a then a - b else 0:=by
 unfold Uu;simp only[show ¬ ((-1:Int) > 0) by decide,if_false,Int.neg_neg,Int.ediv_one]
 split <;> lia
theorem Jmb{a b:Int}(ha : -(2 ^ 62)<=a)(mM:a < 2 ^ 62)(hb : -(2 ^ 62)<=b)(bE:b < 2 ^ 62):Builtin.Range.small a b (-1)=true:=by
 unfold Builtin.Range.small;rw[XJ];simp only[Builtin.Range.rangeFitsLong,Il,Bool.or_eq_true,decide_eq_true_eq,beq_iff_eq,show ¬ ((-1:Int) > 0) by decide,if_false]
 split <;> lia
section
variable{X:Cx}{tg:Expr}
theorem Q7c{aa:YP_}{σ:St}{H:Hp}{s:VG}{R:It->Hp->Prop}{E:YQ_}{lo hi:Int}{t u v:Tok}{tk:Nat}(I:Inv X aa σ H s)(h1 : -(2 ^ 62)<=lo)(h2:lo < 2 ^ 62)(h3 : -(2 ^ 62)<=hi)(h4:hi < 2 ^ 62)
 (q:R (Q6c lo (lo - hi).toNat) H):VV (VW X.prog X.w) X.A (Ug (.ref s.heap.objs.size)) (PIE X aa σ tg R) E { s with heap:=s.heap.push { cls:=.type "range",data:=.fields #[.int lo t,.int hi u,.int (-1) v] },toks:=tk }:=by
 refine wpAny_pyIter_range (IsRange.new ..) (Jmb h1 h2 h3 h4) ?_
 have I1:Inv X aa σ H { s with heap:=s.heap.push { cls:=.type "range",data:=.fields #[.int lo t,.int hi u,.int (-1) v] },toks:=tk }:=I.kept λb o e=>Ur _ e
 refine⟨(s.heap.push { cls:=.type "range",data:=.fields #[.int lo t,.int hi u,.int (-1) v] }).objs.size,[(s.heap.push { cls:=.type "range",data:=.fields #[.int lo t,.int hi u,.int (-1) v] }).objs.size],_,_,H,rfl,
  I1.kept (t':=tk) λb o e=>Ur _ e,Xnb _ lo (lo - hi).toNat,?_,λb hb=>?_,q⟩
 ·have e1:lo+((0:Nat):Int) * (-1)=lo:=by simp
  have e2:(((lo - hi).toNat:Nat):Int) - ((0:Nat):Int)=Uu lo hi (-1):=by rw[XJ];split <;> lia
  show Uo _ _ (lo+((0:Nat):Int) * (-1)) ((((lo - hi).toNat:Nat):Int) - ((0:Nat):Int)) (-1);rw[e1,e2];exact Us _ rfl
 ·have e:b=(s.heap.push { cls:=.type "range",data:=.fields #[.int lo t,.int hi u,.int (-1) v] }).objs.size:=by simpa using hb
  subst e;exact I1.fpOk (Ut _) (I1.hok.fresh (Ut _))
def YCc(ta:TA):TI:=λσ H R=>ta σ H λvs H1=>∃ i j:Int,vs=[.int i,.int j,.int (-1)]/\(-(2 ^ 62)<=i/\i < 2 ^ 62 /\ -(2 ^ 62)<=j/\j < 2 ^ 62)/\R (Q6c i (i - j).toNat) H1
theorem Xob{a b c:Expr}{ta:TA}{p pos:Pos}(hg:Gl X "range")(hm:X.mg "range"=Vo)(ha:PA X [a,b,c] ta)(hs:VZ [a,b,c] X.env=[(false,VX a X.env),(false,VX b X.env),(false,VX c X.env)]:=by rfl)
 (cN:VZ [b,c] X.env=[(false,VX b X.env),(false,VX c X.env)]:=by rfl):PI X tg (.Call (.Name "range" p) [a,b,c] [] pos) (YCc ta):=by
 intro aa s σ H R I h;refine Call_ (YS I hg hm boot_range (Uv (thn (ha pos aa s σ H _ I h) λus s1 ⟨vs,H1,I1,r1,q1⟩=>?_) (by rw[hs,cN]) (by rw[cN];rfl)))
 obtain⟨i,j,e,⟨q1,q2,q3,q4⟩,q⟩:=q1;subst e;cases r1 with
 | cons r rr =>
  cases rr with
  | cons r' rr =>
   cases rr with
   | cons r'' rr =>
    cases rr;obtain⟨t,rfl⟩:=r;obtain⟨t',rfl⟩:=r';obtain⟨t'',rfl⟩:=r'';exact call_range_3 #[1] (Q7c I1 q1 q2 q3 q4 q) (.inl (PyProof.noPylong_small #[0]))
end
theorem Xpb{ta:TA}{g:TG}{tb:TS}{D:Jg}{σ:St}{H:Hp}:XSa (YCc ta) g tb D σ H=ta σ H λvs H1=>∃ i j:Int,vs=[.int i,.int j,.int (-1)]/\(-(2 ^ 62)<=i/\i < 2 ^ 62 /\ -(2 ^ 62)<=j/\j < 2 ^ 62)/\FoR (Q6c i (i - j).toNat) g tb D σ H1:=rfl
theorem Q8c{lo:Int}{n:Nat}{g:TG}{tb:TS}{D:Jg}{σ:St}{H:Hp}(Pv:Nat->St->Hp->Prop)(h0:Pv 0 σ H)
 (hs:∀ i σ H,i < n->Pv i σ H->g (.int (lo - i)) σ H λσ2 H2=>tb { D with nx:=Pv (i+1),ct:=Pv (i+1),bk:=D.nx } σ2 H2) (hd:∀ σ H,Pv n σ H->D.nx σ H):FoR (Q6c lo n) g tb D σ H:=by
 refine⟨λi m σ H=>m=n - i/\i<=n/\Pv i σ H,⟨_,rfl,Ux _,h0⟩,?_⟩
 rintro i m σ H ⟨rfl,hi,hp⟩
 by_cases aA:i < n
 ·refine .inr ⟨aA,Pv (i+1),λσ' H' h=>⟨n - (i+1),by lia,rfl,aA,h⟩,?_⟩
  rintro x H' ⟨rfl,rfl⟩;exact hs i σ _ aA hp
 ·have e:i=n:=by lia
  subst e;exact .inl ⟨Ut _,hd σ H hp⟩
end L2
end
section
namespace L2
open PySem PySem.Spec PyProof.Rows PySem.W
section
variable{X:Cx}{aa:YP_}{σ:St}{H:Hp}{s:VG}{A:VF}{E:YQ_}
end
section
variable{prog:Vg}{w:Vb}{A:VF}{E:YQ_}{s:VG}{T:String}{r d:Vh}{n:Nat}{P:Nat->Va->Prop}{OK:Vp->Prop}
end
theorem Ypb:∀ {xs:List V} {us:List Va},xs.length=us.length->(∀ (i:Nat) x u,xs[i]?=some x->us[i]?=some u->Qq x u)->Qt xs us
 | [],[],_,_=>.nil
 | x::xs,u::us,l,h=>.cons (h 0 x u rfl rfl) (Ypb (by simpa using l) λi x u a b=>h (i+1) x u (by simpa using a) (by simpa using b))
 | [],u::us,l,_=>by simp at l
 | x::xs,[],l,_=>by simp at l
theorem Xqb{ae:List (Key×V)}{vs:List (Key×Va)}{az:Array Va}{prog:Vg}{w:Vb}(rv:KV ae vs)(h:ItemsOf (λi v=>∃ k x,vs[i]?=some (k,x)/\(QA prog w).is k v=true) az vs.length):Qt (ae.map λp=>kV p.1) az.toList:=by
 refine Ypb (by have e1:=h.1;have e2:=rv.len;have e3:az.toList.length=az.size:=V7;rw[UO];lia) λi x u hx hu=>?_
 rw[Oj]at hx
 obtain⟨⟨k,v⟩,g9,rfl⟩:=Option.map_eq_some_iff.mp hx;obtain⟨u',uD,_⟩:=rv.get g9;obtain⟨k',x',e,hk⟩:=h.2 i u (by rw[<- OE];exact hu)
 rw[uD]at e;cases e;exact Jlb hk
theorem J2a(a:Va):checkTypeCall "set" ⟨[a],[]⟩=pure ():=by kernel_rfl
theorem YNa(a:Va):De "set.__new__" ⟨[.type "set",a],[]⟩=pure ():=by kernel_rfl
theorem XL:Df table "set.update.loop"=some Ij.«set.update.loop»:=entryFor_of_tree (by kernel_rfl)
theorem J4:plainId "set.update.loop"=true:=by decide +kernel
section
variable{prog:Vg}{w:Vb}{A:VF}{E:YQ_}{s:VG}
end
def ZU{K:Type}[DecidableEq K](ks:List K):List K:=ks.foldl (λaz k=>if k∈az then az else az++[k]) []
theorem Xwa{K:Type}[DecidableEq K](ks:List K)(k:K):k∈ZU ks↔k∈ks:=by
 unfold ZU
 suffices h:∀ (ks az:List K),k∈ks.foldl (λaz k=>if k∈az then az else az++[k]) az↔k∈az\/k∈ks by
  rw[h];simp
 intro ks
 induction ks with
 | nil=>intro az;simp
 | cons x xs ih =>
  intro az;rw[Ld,ih]
  split <;> rename_i hx
  ·constructor
   ·rintro(h | h)
    ·exact .inl h
    ·exact .inr (VN _ h)
   ·rintro(h | h)
    ·exact .inl h
    ·rcases mem_cons.mp h with e | h
     ·rw[e];exact .inl hx
     ·exact .inr h
  ·rw[LK,Dg,Dh,or_assoc]
theorem QKa{K:Type}[DecidableEq K](ks:List K)(k:K):ZU (ks++[k])=if k∈ZU ks then ZU ks else ZU ks++[k]:=by
 unfold ZU;rw[Di];rfl
theorem ZOa{K:Type}[DecidableEq K](ks:List K):(ZU ks).length<=ks.length:=by
 suffices h:∀ (r p:List K),(ZU p).length<=p.length->(ZU (p++r)).length<=(p++r).length by exact h ks [] (Ut _)
 intro r
 induction r with
 | nil=>intro p h;rw[U0];exact h
 | cons x xs ih =>
  intro p h;have:=ih (p++[x]) (by
   rw[QKa]
   split
   ·simp;lia
   ·simp;lia)
  rw[IJ]at this;exact this
section
variable{prog:Vg}{w:Vb}{K:Type}[DecidableEq K]{knd:KeyKind prog w K}{A:VF}{E:YQ_}{s:VG}
theorem X9a:isSubtype (.type "list") (.type "set")=pure false:=by rw[Dj];kernel_rfl
theorem YOa:isSubtype (.type "list") (.type "frozenset")=pure false:=by rw[Dj];kernel_rfl
theorem Jha{M:VT}{self b:Va}{Q:Unit->VG->Prop}(hT:s.TypeIs self "set")(hQ:Q () s) :
 VV M A (De "set.__init__" ⟨[self,b],[]⟩) Q E s:=by
 simp only[De,kind_set_init,split_set_init,sig_set_init];refine Uj (Dk hT Dl ?_)
 simp only[Bool.not_true,Ie,if_false];unfold Bind.checkArgs;dsimp only;refine Uj (m:=Bind.printed "set" true _ _) (PyProof.Rows.printed_name #[1] ?_)
 refine Uj (m:=Bind.printed "*" false _ _) (PyProof.Rows.printed_star (self:=self) rfl hT λbO=>?_)
 have uE:(Manifest.Receiver.self == Manifest.Receiver.none)=false:=by decide
 have hn:(if (Manifest.Receiver.self == Manifest.Receiver.none)=true then [self,b].length else [self,b].length - 1)=1:=by simp[uE]
 rw[hn];simp only[CF];have hc:Bind.check ⟨.positional,"set","*",.self,[⟨"iterable",.posOnly,false⟩]⟩ "set" bO 1 []=pure ():=by
  simp[Bind.check,Bind.checkCount,Bind.isPositional];exact λh=>absurd h #[1]
 rw[hc];exact Ui hQ
end
theorem Yqb{k:Key}{u:Va}(h:Qq (kV k) u):Qoa k u=true/\u.scannable=true:=by
 cases k with
 | inl n=>obtain⟨t,rfl⟩:=h;exact⟨by simp[Qoa,Value.isInt],rfl⟩
 | inr z=>obtain⟨t,rfl⟩:=h;exact⟨by simp[Qoa,Value.isStrOf],rfl⟩
def Zgb(K:VC)(te:TE)(Q:List Key->Hp->Prop):St->Hp->Prop:=λσ H=>te σ H λx H1=>∃ l ks,x=.ref l/\SqL K H1 l (ks.map kV)/\ks.length < 4000/\Q ks H1
section
variable{X:Cx}{e:Expr}{te:TE}{p pos p2 bP:Pos}{aa:YP_}{σ:St}{H:Hp}{s:VG}
theorem Xzc:VE "set"=some (.type "set"):=by rfl
end
section
variable{X:Cx}
theorem Q9c{A:VF}{prog:Vg}{w:Vb}{s:VG}{E:YQ_}{l b:Vh}{aB au:Array Va}{n n2:Nat}{o2:Obj}{Q:Fin->VG->Prop}(e:s.heap.get? l=some { cls:=.type "list",data:=.seq aB n })(e2:s.heap.get? b=some o2)
 (hc:o2.cls=.type "list"\/o2.cls=.type "tuple") (hd:o2.data=.seq au n2) (hsz:aB.size+au.size<=Vr) (h:Q (.done (.ret .none)) { s with heap:=s.heap.update l (OA λx=>x++au) }) :
 VV (VW prog w) A (Ij.«list.extend» ⟨[.ref l,.ref b],[]⟩) Q E s:=by
 have i3:¬ (!aB.isEmpty && OC (aB.size+au.size))=true:=by
  rw[Qac hsz,LX];exact Uc
 show VV _ _ (Dm (.ref l) (.ref b) .none) _ _ s;unfold Dm
 rcases hc with hc | hc
 all_goals
  refine Uj (Do ⟨o2,e2,hc⟩ ?_)
  rw[if_pos #[2]]
  refine Uj (LC e2 hd ?_)
  refine Uj (LC e rfl ?_)
  rw[if_neg i3];refine Uj (Lx e rfl ?_ #[0] (by rw[Array.size_append];lia))
  exact Ui h
def Zhb(K:VC):V->List V->Hp->VK->Prop:=λx vs H Q=>∃ l b xs zs,x=.ref l/\vs=[.ref b]/\H l=some (.lst xs)/\(SqL K H b zs\/SqT K H b zs)/\xs.length+zs.length<=Vr/\Q .non (upd H l (.lst (xs++zs)))
theorem J3a:MtM X "list.extend" (Zhb X.K):=by
 intro aa s σ H x vs v us Q I rx rv h;obtain⟨l,b,xs,zs,rfl,rfl,hH,hB,hz,q⟩:=h;cases rx;obtain⟨u,rfl,ru⟩:=rv.one;cases ru;obtain⟨z,ah,n,r,hl,e⟩:=I.lstM hH;obtain⟨aQ,r2,o2,n2,e2,c2,d2⟩:∃ aQ,Qt zs aQ/\∃ o2 n2,s.heap.get? b=some o2/\(o2.cls=.type "list"\/o2.cls=.type "tuple")/\o2.data=.seq aQ.toArray n2:=by
  rcases hB with hB | hB
  ·obtain⟨aQ,r2,p,_⟩:=I.list hB
   obtain⟨o,n2,eo,c,d,_⟩:=p;exact⟨aQ,r2,o,n2,eo,.inl c,by first | exact d | assumption⟩
  ·obtain⟨aQ,r2,⟨o,eo,c,n2,d⟩,_⟩:=I.tuple hB
   exact⟨aQ,r2,o,n2,eo,.inr c,d⟩
 have dX:=r2.length;refine U1 (LY F.slot_list_extend.plain F.entry_list_extend (F.slot_list_extend.check _ _ _ _ _ _ _ _ ⟨_,e,rfl⟩ (F.args_list_extend_2 _ _) ?_))
 refine Q9c e e2 c2 d2 (by rw[UC,UC];lia) ?_
 refine⟨.non,_,I.lset (its':=ah++aQ) hH e #[2] (r.append r2) ?_,rfl,q⟩
 rw[On]
 lia
end
section
variable{X:Cx}{c:Expr}{a b:V0}{tc:TT}{ta tb:TS1}{pos:Pos}
end
end L2
end
section
namespace L2
open PySem PySem.Spec PyProof.Rows
section
variable{X:Cx}{st b₀:V0}{fg:List V0}{t1:TS1}{ts:TS}{x n:Str}{D₀ CT:Vh}{np iY pos:Pos}{i:Nat}
end
section
variable{X:Cx}{ea:Vh}{qs:YP_}
end
end L2
end
section
namespace PySem.W
open PySem
def clI(K:VC)(C f:Vh):Bool:=(match findCls K (.ref C) (.type "type") "__init__" with | some (.val v)=>v == .ref f | _=>false) && (specialIn K (.ref C) "__getattribute__" == some (some (.builtin "type.__getattribute__")) && readsIn K C (.type "type"))
end PySem.W
namespace L2
open PySem PySem.Spec PyProof.Rows
structure ClI(K:VC)(C f:Vh):Prop where
 sp:UT K (.ref C) "__getattribute__"=some (some (.builtin "type.__getattribute__"))
 rd:W.readsIn K C (.type "type")=true
 ini:W.findCls K (.ref C) (.type "type") "__init__"=some (.val (.ref f))
theorem ClI.of{K:VC}{C f:Vh}(h:W.clI K C f=true):ClI K C f:=by
 unfold W.clI at h;rw[Il,Il]at h;obtain⟨a,b,c⟩:=h;refine⟨beq_iff_eq.mp b,c,?_⟩
 split at a
 ·rename_i v e
  rw[e,beq_iff_eq.mp a]
 ·exact(Uc a).elim
def BaI(P:Vg)(w:Vb)(K:VC)(mg:Str->Option Va)(base:Vp)(k:Nat)(x:Str)(sp:Sp):Prop :=
 ∃ C f fd ps,mg x=some (.ref C)/\ClI K C f/\UN K (.ref f)=true/\QB P w K mg base CX0 k f fd ps sp/\Zv K fd ps []
section
variable{X:Cx}{x:Str}{sp:Sp}{e:Expr}{es:List Expr}{t:TA}{p pos ai:Pos}{pl:Sem Bool}{j k:Nat}
theorem Qha(G:BaI X.prog X.w X.K X.mg X.base j x sp)(hr:QX k X.A)(hj:j<=k)(hg:Gl X x)(ha:PA X (e::es) t)(aP:(x == ("__debug__":Str))=false:=by decide)
 (he:VZ (e::es) X.env=(false,VX e X.env)::VZ es X.env:=by rfl) (aN:(VY pos (VZ es X.env)).any (·.1)=false:=by rfl)
 (ht:VX (.Call (.Attribute (.Name x p) "__init__" ai) (e::es) [] pos) X.env=(do
  let ov <- VX (.Name x p) X.env
  V5 ai.atName
  let (f,first) <- V6 [ov] (UF ov "__init__" pl)
  L4 pos f first (VY pos (VZ (e::es) X.env)) (U8 pos (U9 [] X.env))):=by rfl) :
 PE X (.Call (.Attribute (.Name x p) "__init__" ai) (e::es) [] pos) (QPb sp [] E0 t):=by
 obtain⟨C,f,fd,ps,hm,T,kp,F,b⟩:=G;intro aa s σ H Q I h;refine L5 (pl:=pl) (Ye I hg hm ?_ aP) ht
 refine W.method_cls I.kIn T.sp (W.cls_value I.kIn T.rd T.ini rfl ?_)
 refine U4 (first:=[]) (h₀:=X.base) I.ok.mod.kin kp (thn (ha pos aa _ σ H _ (I.tok _) h) λus s1 ⟨vs,H1,I1,r,q⟩=>⟨I1.kIn,?_⟩) he aN
 rw[CC];exact X3b F (hr.mono hj) b .nil J9b I1 r q
end
noncomputable instance:DecidableEq Dt:=λa b=>Classical.propDecidable (a=b)
def hV:V->Bool
 | .int _=>true
 | .str _=>true
 | .non=>true
 | _=>false
mutual
def hD:Dt->Bool
 | .v x=>hV x
 | .t xs=>hDs xs
 | .l _=>false
def hDs:List Dt->Bool
 | []=>true
 | x::xs=>hD x && hDs xs
end
theorem Yrb:∀ {xs:List Dt},hDs xs=true->∀ x∈xs,hD x=true
 | [],_,x,h=>nomatch h
 | y::ys,h,x,hx=>by
  unfold hDs at h;rw[Il]at h
  rcases mem_cons.mp hx with e | hx
  ·rw[e];exact h.1
  ·exact Yrb h.2 x hx
theorem Zac:∀ {xs:List Dt},(∀ x∈xs,hD x=true)->hDs xs=true
 | [],_=>by unfold hDs;rfl
 | y::ys,h=>by
  unfold hDs;rw[h y VM,Zac λx hx=>h x (VN _ hx)];rfl
mutual
def haD(w:Vb):Dt->Int
 | .v (.int i)=>hashInt i
 | .v (.str x)=>hashStr w x
 | .v _=>reduceHash 0xFCA86420
 | .t xs=>reduceHash (Dp (Qab w xs))
 | .l _=>0
def Qab(w:Vb):List Dt->List Int
 | []=>[]
 | x::xs=>haD w x::Qab w xs
end
mutual
def drD:Dt->Nat
 | .v _=>1
 | .t xs=>QLa xs+1
 | .l _=>0
def QLa:List Dt->Nat
 | []=>0
 | x::xs=>drD x+QLa xs
end
theorem ZPa(w:Vb)(y:Dt):∀ xs,Qab w (xs++[y])=Qab w xs++[haD w y]
 | []=>by simp[Qab]
 | x::xs=>by rw[cons_append];unfold Qab;rw[ZPa w y xs];rfl
theorem ZQa(y:Dt):∀ xs,QLa (xs++[y])=QLa xs+drD y
 | []=>by simp[QLa]
 | x::xs=>by
  rw[cons_append];have h1:QLa (x::(xs++[y]))=drD x+QLa (xs++[y]):=by rw[QLa]
  have h2:QLa (x::xs)=drD x+QLa xs:=by rw[QLa]
  rw[h1,h2,ZQa y xs];lia
def J5(h:Vp):Nat->Dt->Va->Prop
 | 0,.v x,u=>hV x=true/\Qq x u
 | 0,.t _,_=>False
 | 0,.l _,_=>False
 | _+1,.v x,u=>hV x=true/\Qq x u
 | n+1,.t ds,u=>∃ (a:Vh) (ah:List Va),u=.ref a/\Vs h a ah.toArray/\Vm (λd v=>J5 h n d v) ds ah
 | _+1,.l _,_=>False
theorem J5.flat{h:Vp}{n:Nat}{x:V}{u:Va}:J5 h n (.v x) u->hV x=true/\Qq x u:=by
 cases n <;> exact id
theorem J5.tup{h:Vp}{n:Nat}{ds:List Dt}{u:Va}(q:J5 h n (.t ds) u):∃ m a ah,n=m+1/\u=.ref a/\Vs h a (Lu ah)/\Vm (λd v=>J5 h m d v) ds ah:=by
 cases n with
 | zero=>exact q.elim
 | succ m=>obtain⟨a,ah,e,p,r⟩:=q;exact⟨m,a,ah,rfl,e,p,r⟩
theorem Zib{x y:V}{u:Va}(hx:hV x=true)(hy:hV y=true)(r:Qq x u)(q:Qq y u):x=y:=by
 cases x <;> first | exact(Uc hx).elim | skip
 all_goals (cases y <;> first | exact(Uc hy).elim | skip)
 all_goals simp only[Qq]at r q
 all_goals first
  | rfl
  | (obtain⟨t,rfl⟩:=r;obtain⟨t',e⟩:=q;cases e;rfl)
  | (obtain⟨t,rfl⟩:=r;obtain⟨t',e⟩:=q;cases e)
  | (obtain⟨t,rfl⟩:=r;cases q)
  | (subst r;obtain⟨t',e⟩:=q;cases e)
theorem J4a{x:V}{a:Vh}(hx:hV x=true)(r:Qq x (.ref a)):False:=by
 cases x <;> first | exact(Uc hx).elim | skip
 ·cases (show Vk a=Vi from r)
 ·obtain⟨t,e⟩:=r;cases e
 ·obtain⟨t,e⟩:=r;cases e
theorem Xrb{h:Vp}{a:Vh}{xs ys:List Va}(p:Vs h a xs.toArray)(q:Vs h a ys.toArray):xs=ys:=by
 obtain⟨o,ho,_,n,hd⟩:=p;obtain⟨o',bu,_,n',cf⟩:=q;rw[ho]at bu;cases bu;rw[hd]at cf;injection cf with e _
 injection e
theorem J5a{α β:Type}{F G:α->β->Prop}(det:∀ a b u,F a u->G b u->a=b):∀ {xs ys:List α} {us:List β},Vm F xs us->Vm G ys us->xs=ys
 | _,_,_,.nil,.nil=>rfl
 | _,_,_,.cons r t,.cons r' t'=>by rw[det _ _ _ r r',J5a det t t']
theorem J5.inj{h:Vp}:∀ (n m:Nat) (x y:Dt) (u:Va),J5 h n x u->J5 h m y u->x=y:=by
 intro n
 induction n with
 | zero =>
  intro m x y u p q;cases x with
  | v x =>
   cases y with
   | v y=>obtain⟨a,b⟩:=p;obtain⟨c,d⟩:=q.flat;rw[Zib a c b d]
   | t ds=>obtain⟨m,a,ah,_,rfl,_⟩:=q.tup;exact(J4a p.1 p.2).elim
   | l _=>cases m <;> exact q.elim
  | t _=>exact p.elim
  | l _=>exact p.elim
 | succ n ih =>
  intro m x y u p q;cases x with
  | v x =>
   cases y with
   | v y=>obtain⟨a,b⟩:=p;obtain⟨c,d⟩:=q.flat;rw[Zib a c b d]
   | t ds=>obtain⟨m,a,ah,_,rfl,_⟩:=q.tup;exact(J4a p.1 p.2).elim
   | l _=>cases m <;> exact q.elim
  | t ds =>
   obtain⟨a,ah,rfl,p1,r⟩:=p;cases y with
   | v y=>obtain⟨c,d⟩:=q.flat;exact(J4a c d).elim
   | t es =>
    obtain⟨m',a',its',_,e,p2,r2⟩:=q.tup;cases e;have:=Xrb p1 p2;subst this;rw[J5a (λa b u h1 h2=>ih m' a b u h1 h2) r r2]
   | l _=>cases m <;> exact q.elim
  | l _=>exact p.elim
theorem J5.keeps{h h':Vp}{e:Vh}{o:Obj}{es ep}(ho:h.get? e=some o)(hd:o.data=.dict es ep)(hs:VU e h h'):∀ (n:Nat) (d:Dt) (u:Va),J5 h n d u->J5 h' n d u:=by
 intro n
 induction n with
 | zero=>intro d u q;cases d <;> exact q
 | succ n ih =>
  intro d u q;cases d with
  | v x=>exact q
  | l x=>exact q
  | t ds =>
   obtain⟨a,ah,rfl,⟨o',bu,hc,m,cf⟩,r⟩:=q;have ay:a≠e:=by
    intro z;subst z;rw[ho]at bu;cases bu;rw[hd]at cf;exact nomatch cf
   exact⟨a,ah,rfl,⟨o',(hs.2 a ay).trans bu,hc,m,cf⟩,Paired.mapP r λd v z=>ih d v z⟩
section
variable{prog:Vg}{w:Vb}{E:YQ_}
theorem Zbc{A:VF}{s:VG}{x:V}{u:Va}{Q:Int->VG->Prop}(f:hV x=true)(r:Qq x u)(h:Q (haD w (.v x)) { s with toks:=s.toks+drD (.v x) }):VV (VW prog w) A (pyHash u) Q E s:=by
 have e1:drD (.v x)=1:=by rw[drD]
 rw[e1]at h;cases x <;> first | exact(Uc f).elim | skip
 ·cases (show u=Vi from r)
  rw[haD]at h;exact W.pyHash_slot (T:="NoneType") rfl F.slot_NoneType_hash F.entry_NoneType_hash (F.args_NoneType_hash_1 _) (beq_builtin_none _) (.inl rfl) (Uj (Ui (Uj (wpAny_mkInt (Ui ⟨_,_,rfl,h⟩)))))
  all_goals (intros;rename_i z;cases z)
 ·obtain⟨t,rfl⟩:=r
  rw[haD]at h;exact wpAny_pyHash_int h
 ·obtain⟨t,rfl⟩:=r
  rw[haD]at h;exact wpAny_pyHash_str h
theorem XAc:∀ (n:Nat) {A:VF} {s:VG} {d:Dt} {u:Va} {Q:Int->VG->Prop},A.units+n < UW->J5 s.heap n d u->Q (haD w d) { s with toks:=s.toks+drD d }->VV (VW prog w) A (pyHash u) Q E s:=by
 intro n
 induction n with
 | zero =>
  intro A s d u Q hu x h;cases d with
  | v x'=>exact Zbc x.1 x.2 h
  | t _=>exact x.elim
  | l _=>exact x.elim
 | succ n ih =>
  intro A s d u Q hu x h;cases d with
  | v x'=>exact Zbc x.1 x.2 h
  | l _=>exact x.elim
  | t ds =>
   obtain⟨a,ah,rfl,⟨o,ho,hc,m,hd⟩,r⟩:=x;refine W.pyHash_slot (T:="tuple") ⟨o,ho,hc⟩ F.slot_tuple_hash F.entry_tuple_hash (F.args_tuple_hash_1 _) (beq_builtin_none _) (.inr #[0]) ?_
   show VV _ _ (Builtin.Tuple.tupleItemsOf (.ref a) >>= _) _ _ s;refine Uj (wpAny_tupleItemsOf ho hd ?_)
   refine Uj ?_
   rw[<- LB];refine Ik _
    (λrest (b:Array Int) s'=>∃ done left,ds=done++left/\Vm (λd v=>J5 s.heap n d v) left rest/\b.toList=Qab w done/\s'={ s with toks:=s.toks+QLa done })
    _ ?_ ?_ _ _ ⟨[],ds,rfl,by simpa using r,by simp[Qab],by simp[QLa]⟩
   ·rintro x rest b s' ⟨done,left,rfl,hl,hb,rfl⟩
    cases hl with
    | @cons k _ qh _ h1 eE =>
     refine Uj (ih (s:={ s with toks:=s.toks+QLa done }) (by show A.units+1+n < _;lia) h1 ?_)
     first
      | exact Ui ⟨done++[k],qh,by simp,eE,by simp[hb,ZPa],by simp[ZQa,Lg]⟩
      | exact Uj (Ui (Ui ⟨done++[k],qh,by simp,eE,by simp[hb,ZPa],by simp[ZQa,Lg]⟩))
   ·rintro b s' ⟨done,left,rfl,hl,hb,rfl⟩
    cases hl;rw[U0]at h;show VV _ _ (retInt (Dp b.toList)) _ _ _;rw[hb];refine Uj (wpAny_mkInt (Ui ⟨_,_,rfl,?_⟩))
    have e1:haD w (.t done)=reduceHash (Dp (Qab w done)):=by rw[haD]
    have e2:drD (.t done)=QLa done+1:=by rw[drD]
    rw[e1,e2]at h;exact h
end
theorem Zcc{x y:V}(hx:hV x=true)(hy:hV y=true):eqV x y=decide (Dt.v x=Dt.v y):=by
 have:eqV x y=decide (x=y):=by
  cases x <;> first | exact(Uc hx).elim | skip
  all_goals (cases y <;> first | exact(Uc hy).elim | skip)
  all_goals first | (simp[eqV];done) | (rw[eqV,UA,beq_iff_eq,decide_eq_true_iff];exact⟨λe=>by rw[e],λe=>by injection e⟩)
 rw[this,UA,decide_eq_true_iff,decide_eq_true_iff];exact⟨λe=>by rw[e],λe=>by injection e⟩
theorem Jva{x:V}(h:hV x=true):Qra x=true:=by
 cases x <;> first | rfl | exact(Uc h).elim
theorem Zdc{ds es:List Dt}{e:Nat->Bool}(he:∀ i,i < ds.length->i < es.length->e i=decide (ds.getD i default=es.getD i default)):((VB (min ds.length es.length)).all e && (ds.length == es.length))=decide (Dt.t ds=Dt.t es):=by
 rw[UA,decide_eq_true_iff,Il,beq_iff_eq,Im]
 constructor
 ·rintro⟨h1,h2⟩
  congr 1
  refine Lr h2 λi a b=>?_
  have:=h1 i (mem_range.mpr #[0])
  rw[he i a b,decide_eq_true_iff]at this;rw[Yh (Lq a),Yh (Lq b)]at this
  exact this
 ·intro h
  injection h with h
  subst h;refine⟨λi hi=>?_,rfl⟩
  have:=mem_range.mp hi;rw[he i #[0] #[0],decide_eq_true_iff]
theorem Qv{α β:Type}{F:α->β->Prop}:∀ {xs:List α} {us:List β} {i:Nat} {x:α} {u:β},Vm F xs us->xs[i]?=some x->us[i]?=some u->F x u
 | _,_,_,_,_,.nil,h,_=>by simp at h
 | _,_,0,_,_,.cons r _,h,h'=>by simp at h h';rw[<- h,<- h'];exact r
 | _,_,i+1,_,_,.cons _ t,h,h'=>Qv (i:=i) t (by simpa using h) (by simpa using h')
theorem QPd:∀ (n:Nat) {A:VF} {s:VG} {d d':Dt} {u v:Va},A.units+n < UW->J5 s.heap n d u->J5 s.heap n d' v->Oq A s u v (decide (d=d')):=by
 intro n;have flat:∀ {A:VF} {s:VG} {x y:V} {u v:Va},hV x=true->Qq x u->hV y=true->Qq y v->Oq A s u v (decide (Dt.v x=Dt.v y)):=λf r f' r'=>by
  rw[<- Zcc f f'];exact Z9b r r' (Jva f) (Jva f')
 induction n with
 | zero =>
  intro A s d d' u v hu p q;cases d with
  | v x =>
   cases d' with
   | v y=>exact flat p.1 p.2 q.1 q.2
   | t _=>exact q.elim
   | l _=>exact q.elim
  | t _=>exact p.elim
  | l _=>exact p.elim
 | succ n ih =>
  intro A s d d' u v hu p q;have ao:A.units < UW:=by lia
  cases d with
  | l _=>exact p.elim
  | v x =>
   cases d' with
   | l _=>exact q.elim
   | v y=>exact flat p.1 p.2 q.1 q.2
   | t es =>
    obtain⟨b,its',rfl,p2,r2⟩:=q;obtain⟨f,r⟩:=p;rw[show decide (Dt.v x=Dt.t es)=false from decide_eq_false (λz=>nomatch z)]
    cases x <;> first | exact(Uc f).elim | skip
    ·cases (show u=Vi from r);exact .none_tuple p2 ao
    ·obtain⟨t,rfl⟩:=r;exact .int_tuple _ _ p2 ao
    ·obtain⟨t,rfl⟩:=r;exact .str_tuple _ _ p2 ao
  | t ds =>
   obtain⟨a,ah,rfl,p1,r1⟩:=id p;cases d' with
   | l _=>exact q.elim
   | v y =>
    obtain⟨f,r⟩:=q;rw[show decide (Dt.t ds=Dt.v y)=false from decide_eq_false (λz=>nomatch z)]
    cases y <;> first | exact(Uc f).elim | skip
    ·cases (show v=Vi from r);exact .tuple_none p1 ao
    ·obtain⟨t,rfl⟩:=r;exact .tuple_int _ _ p1 ao
    ·obtain⟨t,rfl⟩:=r;exact .tuple_str _ _ p1 ao
   | t es =>
    obtain⟨b,its',rfl,p2,r2⟩:=id q
    by_cases ab:a=b
    ·subst ab
     rw[show decide (Dt.t ds=Dt.t es)=true from decide_eq_true (J5.inj _ _ _ _ _ p q)]
     exact .same _
    ·have l1:=Vn r1
     have l2:=Vn r2;have z:=SeqAt.RcAt.tuples (A:=A) (e:=λi=>decide (ds.getD i default=es.getD i default)) p1 p2 ao λj h1 h2=>by
      have j1:j < ah.length:=by simpa using h1
      have j2:j < its'.length:=by simpa using h2
      have g1:ds[j]?=some (ds[j]'#[0]):=Lq _
      have g2:es[j]?=some (es[j]'#[0]):=Lq _
      have w1:=Qv r1 g1 (Lq j1)
      have w2:=Qv r2 g2 (Lq j2)
      rw[Yh g1,Yh g2];exact ih (A:=A.in1) (by show A.units+1+n < _;lia) w1 w2
     rw[UC,UC,<- l1,<- l2,Zdc λi _ _=>rfl]at z
     exact .of_refs ab z
section
variable{prog:Vg}{w:Vb}{E:YQ_}
theorem Ysb{A:VF}{s:VG}{x:V}{u:Va}{m:Nat}{Q:Bool->VG->Prop}(f:hV x=true)(r:Qq x u)(h:Q true s):VV (VW prog w) A (eqIsQuiet m u) Q E s:=by
 have:carriedByValue u=true:=by
  cases x <;> first | exact(Uc f).elim | skip
  ·cases (show u=Vi from r);rfl
  ·obtain⟨t,rfl⟩:=r;rfl
  ·obtain⟨t,rfl⟩:=r;rfl
 rw[eqIsQuiet_byValue _ this];exact Ui h
theorem JLc:∀ (n m:Nat) {A:VF} {s:VG} {d:Dt} {u:Va} {Q:Bool->VG->Prop},n<=m->J5 s.heap n d u->Q true s->VV (VW prog w) A (eqIsQuiet m u) Q E s:=by
 intro n
 induction n with
 | zero =>
  intro m A s d u Q _ p h;cases d with
  | v x=>exact Ysb p.1 p.2 h
  | t _=>exact p.elim
  | l _=>exact p.elim
 | succ n ih =>
  intro m A s d u Q hm p h;cases d with
  | v x=>exact Ysb p.1 p.2 h
  | l _=>exact p.elim
  | t ds =>
   obtain⟨k,rfl⟩:∃ k,m=k+1:=⟨m - 1,by lia⟩
   obtain⟨a,ah,rfl,⟨o,ho,hc,j,hd⟩,r⟩:=p;have hT:s.TypeIs (.ref a) "tuple":=⟨o,ho,hc⟩;unfold eqIsQuiet;refine Uj (wpAny_specialOf hT F.slot_tuple_eq.lookup ?_)
   show VV _ _ (LZ (.ref a) (.type "tuple") >>= _) _ _ s;refine Uj (Dk hT isSubtype_tuple_tuple ?_)
   simp only[Bool.not_true,Ie,if_false];refine Uj (Dq ho hd ?_)
   refine Uj ?_
   show VV _ _ (forIn ah.toArray _ _) _ _ s;rw[<- LB];refine Ik _ (λrest r s'=>r.1=Vo/\s'=s/\∃ left,Vm (λd v=>J5 s.heap n d v) left rest) _ ?_ ?_ _ _ ⟨rfl,rfl,ds,by simpa using r⟩
   ·rintro v rest r s' ⟨hr,rfl,left,hl⟩
    cases hl with
    | cons h1 eE =>
     refine Uj (ih k #[0] h1 ?_)
     simp only[Bool.not_true,Ie,if_false];exact Ui ⟨rfl,rfl,_,eE⟩
   ·rintro⟨r1,r2⟩ s' ⟨hr,rfl,_⟩
    simp only at hr;subst hr;exact Ui h
end
noncomputable def YI (prog:Vg) (w:Vb):HeapKind prog w Dt where
 is:=λh d a=>J5 h 8 d (.ref a)
 hash:=haD w
 draws:=drD
 room:=λA=>A.units+8 < UW
 inj:=λp q=>J5.inj _ _ _ _ _ p q
 keeps:=λp ho hd hs=>J5.keeps ho hd hs _ _ _ p
 pyHash:=λhu p h=>XAc 8 hu p h
 eqBool:=λhu p q h=>QPd 8 hu p q _ _ _ _ h
 quiet:=λp h=>JLc 8 8 (Ut _) p h
end L2
end
section
namespace PySem
theorem YJ{α β:Type}(f:α->β):∀ (xs:List α) (i:Nat),(xs.map f).eraseIdx i=(xs.eraseIdx i).map f
 | [],_=>by simp
 | x::xs,0=>by simp
 | x::xs,i+1=>by simp[YJ f xs i]
section
variable{prog:Vg}{w:Vb}{K:Type}[DecidableEq K]{knd:HeapKind prog w K}{A:VF}{E:YQ_}{s:VG}
theorem QMa{d a:Vh}{xs:List (K×Vh×Va)}{k:K}{j:Nat}{p:Vh×Va}{Q:Option DictEntry->VG->Prop}(hu:knd.room A)(ap:knd.is s.heap k a)(hm:s.heap.DictOfH knd d xs)(hj:xs[j]?=some (k,p))(hsz:xs.length<=Vr)
 (hQ:∀ h',h'.DictOfH knd d (xs.eraseIdx j)->VU d s.heap h'->Q (some (entryOfKey knd (k,p))) { s with heap:=h',toks:=s.toks+knd.draws k }) :
 VV (VW prog w) A (Builtin.Dict.takeOut d (.ref a)) Q E s:=by
 obtain⟨o,es,ep,ho,hc,hd,he,qi,hn⟩:=hm;unfold Builtin.Dict.takeOut
 try with_reducible refine LG ?_
 refine Uj (knd.pyHash hu ap (Uj (wpAny_dictFind_heap (s:={ s with toks:=s.toks+knd.draws k }) hu ap ho hd he qi hn ?_ ?_)))
 ·intro uF;exact absurd hj (uF j p)
 ·intro i q hi
  have e:=idxH_unique hn hi hj;subst e;refine Uj (wpAny_dictEntries (s:={ s with toks:=s.toks+knd.draws k }) ho hd ?_)
  rw[entry_at he i,hj];refine Uj (wpAny_updateDictKeys (hz:=by have e:=size_of_entries he;lia) (s:={ s with toks:=s.toks+knd.draws k }) ho hd (Ui (hQ _ ⟨_,_,ep+1,LO _ ho (Obj.isFreed_of_dict (Obj.data_mapDictKeys hd _)),
   hc.mapDictKeys _,Obj.data_mapDictKeys hd _,?_,?_,?_⟩ (Lv ..))))
  ·obtain⟨l⟩:=es
   have he:l=xs.map (entryOfKey knd):=he;subst he;simp[YJ]
  ·intro x hx
   exact knd.keeps (qi x (mem_of_mem_eraseIdx hx)) ho hd (Lv ..)
  ·exact List.Nodup.sublist ((eraseIdx_sublist ..).map _) hn
theorem Jia(knd:HeapKind prog w K)(d a:Vh) :
 MeetsIn prog w (Ij.«dict.pop» ⟨[.ref d,.ref a],[]⟩) (λA R s=>knd.room A.in1/\∃ k xs j p,knd.is s.heap k a/\s.heap.DictOfH knd d xs/\xs.length<=Vr/\xs[j]?=some (k,p) /\
  ∀ h',h'.DictOfH knd d (xs.eraseIdx j)->VU d s.heap h'->R (.ok (.ret p.2)) { s with heap:=h',toks:=s.toks+knd.draws k }) :=
 .of_wp λA R s ⟨hu,k,xs,j,p,ap,hm,hsz,hj,h⟩=>by
  unfold Ij.«dict.pop»;refine Uj ?_
  unfold Builtin.Dict.keyAndDefault;refine Uj (wpAny_notOrdered_dict hm.typeIs ?_)
  show VV _ _ (pure (d,Vk a,Vo)) _ _ s;refine Ui ?_
  have kp:(keyPart (Vk a)).isSome=false:=rfl;simp only[kp,Ie,if_false];obtain⟨o,es,ep,ho,hc,hd,he,r⟩:=id hm;have ne:es.isEmpty=false:=by
   have e:=size_of_entries he;have:j < xs.length:=(List.getElem?_eq_some_iff.mp hj).1
   simp[Array.isEmpty];intro z;rw[z]at e;simp at e;lia
  refine Uj (wpAny_dictEntries ho hd ?_)
  refine Uj (Ui ?_)
  rw[ne];simp only[Ie,if_false];refine Uj (QMa hu ap hm hj hsz λh' mN gI=>?_)
  simp only[Option.isNone_some,Ie,if_false];exact Uj (wpAny_letGo (Ui ⟨_,rfl,h h' mN gI⟩))
end
end PySem
namespace L2
open PySem PySem.Spec PyProof.Rows
abbrev NX:=List (Dt×Vh×V)
def NKV:NX->List (Dt×Vh×Va)->Prop:=Vm λp q=>p.1=q.1/\p.2.1=q.2.1/\Qq p.2.2 q.2.2
def isN(P:Vg)(w:Vb)(a:Vh)(xs:NX)(h:Vp):Prop:=xs.length<=Vr/\(a == Vt)=false/\∃ ys,NKV xs ys/\∃ o es ep,h.get? a=some o/\o.ExactDict/\o.data=.dict es ep/\es.toList=ys.map (entryOfKey (YI P w))/\(ys.map (·.1)).Nodup
def dN(P:Vg)(w:Vb)(a:Vh)(xs:NX):HO:=.ext (isN P w a xs)
structure XM(P:Vg)(w:Vb)(K:VC)(H:Hp)(a:Vh)(xs:NX):Prop where
 at_:H a=some (dN P w a xs)
 keys:∀ x∈xs,Rep K H 8 x.1 (.ref x.2.1)/\hD x.1=true
noncomputable def QNa (xs:NX) (d:Dt):Option V:=(xs.find? λx=>decide (x.1=d)).map (·.2.2)
theorem Xxa{α β:Type}{F:α->β->Prop}:∀ {xs:List α} {us:List β},xs.length=us.length->(∀ (i:Nat) x u,xs[i]?=some x->us[i]?=some u->F x u)->Vm F xs us
 | [],[],_,_=>.nil
 | [],_::_,h,_=>by simp at h
 | _::_,[],h,_=>by simp at h
 | x::xs,u::us,h,f=>.cons (f 0 _ _ rfl rfl) (Xxa (by simpa using h) λi a b ha hb=>f (i+1) a b (by simpa using ha) (by simpa using hb))
theorem J6a{P:Vg}{w:Vb}{a:Vh}{xs:NX}(h1 h2:Vp)(p:isN P w a xs h1)(k:∀ o,h1.get? a=some o->h2.get? a=some o):isN P w a xs h2:=by
 obtain⟨z,y,ys,r,o,es,ep,e,c⟩:=p;exact⟨z,y,ys,r,o,es,ep,k o e,c⟩
section
variable{X:Cx}{aa:YP_}{σ:St}{H:Hp}{s:VG}{a b:Vh}{xs:NX}{d:Dt}
theorem Rep.has(I:Inv X aa σ H s){n:Nat}{x:V}(r:Rep X.K H n d x):∀ {u:Va},hD d=true->Qq x u->J5 s.heap n d u:=by
 induction r with
 | @v n x f =>
  intro u h r;rw[hD]at h;cases n <;> exact⟨h,r⟩
 | t h e r1 ih =>
  intro u hh r;cases (show u=Vk _ from r)
  rw[hD]at hh;obtain⟨ah,w1,p,_⟩:=I.tuple h;have l1:=w1.length;refine⟨_,ah,rfl,p,Xxa #[0] λi d u hd hu=>?_⟩
  have hi:=(List.getElem?_eq_some_iff.mp hu).1
  obtain⟨u',e',r'⟩:=w1.get (i:=i) (Lq #[0])
  rw[hu]at e';cases e';exact ih i d _ hd (Lq #[0]) (Yrb hh d (Om hd)) r'
 | l h e _ _ =>
  intro u hh _;rw[hD]at hh;exact(Uc hh).elim
theorem XM.dict(I:Inv X aa σ H s)(g:XM X.prog X.w X.K H a xs):xs.length<=Vr/\(a == Vt)=false/\∃ ys,NKV xs ys/\s.heap.DictOfH (YI X.prog X.w) a ys:=by
 obtain⟨⟨z,y,ys,r,o,es,ep,h1,h2,h3,h4,h5⟩,_,_⟩:=(show QC X.prog X.w H s.heap a (dN X.prog X.w a xs) from I.hok a _ g.at_)
 refine⟨z,y,ys,r,o,es,ep,h1,h2,h3,h4,λq hq=>?_,h5⟩
 obtain⟨i,hi⟩:=mem_iff_getElem?.mp hq;have l:=Vn r;have hp:xs[i]?=some (xs[i]'(by have:=(List.getElem?_eq_some_iff.mp hi).1;lia)):=Lq _
 have z:=Qv r hp hi;rw[<- z.1,<- z.2.1];have k:=g.keys _ (Om hp);exact k.1.has I k.2 rfl
theorem NKV.val{xs:NX}{ys:List (Dt×Vh×Va)}(r:NKV xs ys)(d:Dt):JQ (QNa xs d) ((OS ys d).map (·.2)):=by
 induction r with
 | nil=>exact UP
 | @cons p q ps qs hq t ih =>
  unfold QNa OS;rw[OL,OL,<- hq.1]
  by_cases e:p.1=d
  ·rw[decide_eq_true e];exact hq.2.2
  ·rw[decide_eq_false e];exact ih
theorem NKV.none{xs:NX}{ys:List (Dt×Vh×Va)}(r:NKV xs ys){d:Dt}(h:QNa xs d=Vo):OS ys d=Vo:=by
 have:=r.val d;rw[h]at this;cases e:OS ys d with
 | none=>rfl
 | some p=>rw[e]at this;exact this.elim
theorem NKV.some{xs:NX}{ys:List (Dt×Vh×Va)}(r:NKV xs ys){d:Dt}:(QNa xs d).isSome=(OS ys d).isSome:=by
 have:=(r.val d).isSome_eq;rw[Option.isSome_map]at this;exact this
variable{A:VF}{E:YQ_}
theorem QQd{Q:YQ_}(hu:A.units+9 < UW)(I:Inv X aa σ H s)(g:XM X.prog X.w X.K H a xs)(r:Rep X.K H 8 d (.ref b))(hd:hD d=true)(h:∀ s',Inv X aa σ H s'->Q (.bool (QNa xs d).isSome) s') :
 VV (VW X.prog X.w) A (V2 .In (.ref b) (.ref a)) Q E s:=by
 obtain⟨z,y,ys,aF,dd⟩:=g.dict I;refine wpAny_in_heap (knd:=YI X.prog X.w) (show A.units+1+8 < UW by lia) (r.has I hd rfl) y dd ?_
 rw[<- aF.some];exact h _ (I.tok _)
theorem Qud{v:V}{Q:YQ_}(hu:A.units+9 < UW)(I:Inv X aa σ H s)(g:XM X.prog X.w X.K H a xs)(r:Rep X.K H 8 d (.ref b))(hd:hD d=true)(l:QNa xs d=some v)(h:∀ w' s',Inv X aa σ H s'->Qq v w'->Q w' s') :
 VV (VW X.prog X.w) A (Ou (.ref a) (.ref b)) Q E s:=by
 obtain⟨z,y,ys,aF,dd⟩:=g.dict I;obtain⟨w',hw,aU⟩:=JQ.some_of (v:=v) (o:=(OS ys d).map (·.2)) (by rw[<- l];exact aF.val d)
 obtain⟨p,hp,bD⟩:=Option.map_eq_some_iff.mp hw;refine wpAny_getItem_heap (knd:=YI X.prog X.w) (show A.units+1+8 < UW by lia) (r.has I hd rfl) dd hp ?_
 rw[bD];exact h w' _ (I.tok _) aU
theorem Qvd{v:V}{u:Va}{Q:Unit->VG->Prop}(hu:A.units+9 < UW)(I:Inv X aa σ H s)(g:XM X.prog X.w X.K H a xs)(r:Rep X.K H 8 d (.ref b))(hd:hD d=true)(l:QNa xs d=Vo)(hl:xs.length < Vr)(rv:Qq v u)
 (h:∀ s',Inv X aa σ (upd H a (dN X.prog X.w a (xs++[(d,b,v)]))) s'->Q () s'):VV (VW X.prog X.w) A (setItem (.ref a) (.ref b) u) Q E s:=by
 obtain⟨z,y,ys,aF,dd⟩:=g.dict I;refine wpAny_setItem_heap (knd:=YI X.prog X.w) (hsz:=by rw[<- Vn aF];exact z) (show A.units+1+8 < UW by lia) (r.has I hd rfl) dd λh' cR hs=>h _ ?_
 obtain⟨q,es,ep,hq,h2,h3,h4,_,h5⟩:=cR;rw[storedH_new (aF.none l)]at h4 h5;refine Q9a I (by rw[g.at_];exact UP) hs ⟨q,hq⟩ ⟨⟨by rw[On];exact hl,y,_,OP aF ⟨rfl,rfl,rv⟩,q,es,ep,hq,h2,h3,h4,h5⟩,⟨q,hq⟩,J6a⟩
theorem Y4{α β:Type}{F:α->β->Prop}:∀ {xs:List α} {us:List β} (j:Nat),Vm F xs us->Vm F (xs.eraseIdx j) (us.eraseIdx j)
 | _,_,_,.nil=>.nil
 | _,_,0,.cons _ t=>t
 | _,_,j+1,.cons r t=>.cons r (Y4 j t)
theorem Qwd{v:V}{c:Vh}{j:Nat}{Q:YQ_}(hu:A.units+9 < UW)(I:Inv X aa σ H s)(g:XM X.prog X.w X.K H a xs)(r:Rep X.K H 8 d (.ref b))(hd:hD d=true)(l:xs[j]?=some (d,c,v))
 (h:∀ w' s',Inv X aa σ (upd H a (dN X.prog X.w a (xs.eraseIdx j))) s'->Qq v w'->Q w' s'):VV (VW X.prog X.w) A (Uy (.builtin "dict.pop") [.ref a,.ref b]) Q E s:=by
 obtain⟨z,y,ys,aF,dd⟩:=g.dict I;have ll:=Vn aF;have hj:=(List.getElem?_eq_some_iff.mp l).1
 have e:ys[j]?=some (ys[j]'#[0]):=Lq _
 obtain⟨e1,e2,e3⟩:=Qv aF l e;have e':ys[j]?=some (d,(ys[j]'#[0]).2):=by rw[e];congr 1;rw[show d=(ys[j]'#[0]).1 from e1]
 refine OU OV dd.typeIs F.entry_dict_pop (F.args_dict_pop_2 _ _) (Jia (YI X.prog X.w) a b) ⟨show A.units+1+8 < UW by lia,d,ys,j,_,r.has I hd rfl,dd,by rw[<- ll];exact z,e',λh' cR hs=>h _ _ ?_ e3⟩
 obtain⟨q,es,ep,hq,h2,h3,h4,_,h5⟩:=cR;exact Q9a I (by rw[g.at_];exact UP) hs ⟨q,hq⟩ ⟨⟨VI (length_eraseIdx_le ..) z,y,_,Y4 j aF,q,es,ep,hq,h2,h3,h4,h5⟩,⟨q,hq⟩,J6a⟩
theorem XM.typeIs(I:Inv X aa σ H s)(g:XM X.prog X.w X.K H a xs):s.TypeIs (.ref a) "dict":=let ⟨_,_,_,_,dd⟩:=g.dict I;dd.typeIs
theorem XM.noDict(I:Inv X aa σ H s)(g:XM X.prog X.w X.K H a xs):∀ b,Vk a=.ref b->∃ ob,s.heap.get? b=some ob/\ob.dict=Vo:=λb q=>by
 cases q;obtain⟨_,_,_,_,ob,_,_,h1,h2,_⟩:=g.dict I;exact⟨ob,h1,h2.2.1⟩
end
def Qxd(P:Vg)(w:Vb)(K:VC)(ty td:TE):TE:=λσ H Q=>ty σ H λy H1=>td σ H1 λx H2=>∃ a b xs d,x=.ref a/\y=.ref b/\XM P w K H2 a xs/\Rep K H2 8 d (.ref b)/\hD d=true/\Q (.bl (QNa xs d).isSome) H2
def YDc(P:Vg)(w:Vb)(K:VC)(td ty:TE):TE:=λσ H Q=>td σ H λx H1=>ty σ H1 λy H2=>∃ a b xs d v,x=.ref a/\y=.ref b/\XM P w K H2 a xs/\Rep K H2 8 d (.ref b)/\hD d=true/\QNa xs d=some v/\Q v H2
def YEc(P:Vg)(w:Vb)(K:VC)(td ty tv:TE):TS:=λD σ H=>tv σ H λv H1=>td σ H1 λx H2=>ty σ H2 λy H3=>∃ a b xs d,x=.ref a/\y=.ref b/\XM P w K H3 a xs/\Rep K H3 8 d (.ref b)/\hD d=true/\QNa xs d=Vo/\xs.length < Vr/\D.nx σ (upd H3 a (dN P w a (xs++[(d,b,v)])))
def YFc(P:Vg)(w:Vb)(K:VC)(td ty:TE):TE:=λσ H Q=>td σ H λx H1=>∃ a fi,x=.ref a/\XM P w K H1 a fi/\ty σ H1 λy H2=>∃ b xs d j c v,y=.ref b/\XM P w K H2 a xs/\Rep K H2 8 d (.ref b)/\hD d=true/\xs[j]?=some (d,c,v)/\Q v (upd H2 a (dN P w a (xs.eraseIdx j)))
def YGc(P:Vg)(w:Vb):TE:=λ_ H Q=>∀ p,H p=Vo->Q (.ref p) (upd H p (dN P w p []))
section
variable{X:Cx}{o i e value:Expr}{pos aI ai ak:Pos}{td ty tv:TE}
theorem XBc(hu:X.A.units+9 < UW)(hi:PE X i ty)(ho:PE X o td):PC X .In i o (Qxd X.prog X.w X.K ty td):=by
 intro aa s σ H Q I h;refine thn (hi aa s σ H _ I h) λiv s1 ⟨y,H1,I1,ry,q1⟩=>thn (ho aa s1 σ H1 _ I1 q1) λu s2 hZ=>?_
 obtain⟨x,H2,I2,rx,a,b,xs,d,ex,ey,g,r,hd,q2⟩:=hZ;subst ex ey;obtain rfl:u=Vk a:=rx;obtain rfl:iv=Vk b:=ry;exact QQd hu I2 g r hd λs3 I3=>⟨.bl (QNa xs d).isSome,H2,I3,rfl,q2⟩
theorem JMc(hu:X.A.units+9 < UW)(ho:PE X o td)(hi:PE X i ty)(hs:Y8c i):PE X (.Subscript o i pos) (YDc X.prog X.w X.K td ty):=by
 intro aa s σ H Q I h;refine Yab F.slot_dict_getitem.lookup hs (thn (ho aa s σ H _ I h) λu s1 ⟨x,H1,I1,rx,q1⟩=>thn (hi aa s1 σ H1 _ I1 q1) λiv s2 hZ=>?_)
 obtain⟨y,H2,I2,ry,a,b,xs,d,v,ex,ey,g,r,hd,l,q2⟩:=hZ;subst ex ey;obtain rfl:u=Vk a:=rx;obtain rfl:iv=Vk b:=ry;exact⟨g.typeIs I2,Qud hu I2 g r hd l λw' s3 I3 aU=>⟨v,H2,I3,aU,q2⟩⟩
theorem JNc(hu:X.A.units+9 < UW)(ho:PE X o td)(hi:PE X i ty)(hv:PE X value tv)(hs:Ua value (some (.Subscript o i aI)) pos.line X.env=pure false) :
 PS X (.Assign [.Subscript o i aI] value pos) (YEc X.prog X.w X.K td ty tv):=by
 intro aa s σ H D I h;refine wpAny_Assign_Subscript (thn (hv aa s σ H _ I h) λr s1 ⟨v,H1,I1,rv,q1⟩=>thn (ho aa s1 σ H1 _ I1 q1) λu s2 ⟨x,H2,I2,rx,q2⟩=>thn (hi aa s2 σ H2 _ I2 q2) λiv s3 hZ=>?_) hs
 obtain⟨y,H3,I3,ry,a,b,xs,d,ex,ey,g,rp,hd,l,hl,q3⟩:=hZ;subst ex ey;obtain rfl:u=Vk a:=rx;obtain rfl:iv=Vk b:=ry;exact Qvd hu I3 g rp hd l hl rv λs4 I4=>⟨σ,_,I4,q3⟩
theorem JOc(hu:X.A.units+9 < UW)(ho:PE X o td)(he:PE X e ty)(m:M1 X o "pop" ai e ak):PE X (.Call (.Attribute o "pop" ai) [e] [] ak) (YFc X.prog X.w X.K td ty):=by
 intro aa s σ H Q I h;refine OZ m.base m.few m.line O8 OV F.type_dict_pop (thn (ho aa s σ H _ I h) λu s1 hZ=>?_)
 obtain⟨x,H1,I1,rx,a,fi,ex,g0,q1⟩:=hZ;subst ex;obtain rfl:u=Vk a:=rx;refine⟨g0.typeIs I1,g0.noDict I1,?_⟩
 rw[m.trees];refine Oy rfl (Oz (UY (thn (he aa s1 σ H1 _ I1 q1) λiv s2 hZ=>?_)))
 obtain⟨y,H2,I2,ry,b,xs,d,j,c,v,ey,g,r,hd,l,q2⟩:=hZ;refine UX ?_
 subst ey;obtain rfl:iv=Vk b:=ry;exact Qwd hu I2 g r hd l λw' s3 I3 aU=>⟨v,_,I3,aU,q2⟩
theorem Zec{P:Vg}{w:Vb}{H:Hp}(h:Vp)(hb:Vt < h.objs.size):QC P w H (h.push { cls:=.type "dict",data:=.dict #[] }) h.objs.size (dN P w h.objs.size []) :=
 ⟨⟨Ux _,beq_eq_false_iff_ne.mpr (VR (VA hb)),[],.nil,_,#[],0,Us _ rfl,⟨rfl,rfl,rfl⟩,rfl,rfl,Dr⟩,⟨_,Us _ rfl⟩,J6a⟩
theorem Zfc:PE X (.Dict [] [] pos) (YGc X.prog X.w):=λaa s σ H Q I h =>
 wpAny_Dict_empty ⟨.ref s.heap.objs.size,_,I.laid (a:=s.heap.objs.size) (o:=dN X.prog X.w s.heap.objs.size []) (t':=s.toks) (λ_ _ q=>Ur _ q) (Ut _) (Zec s.heap I.big),rfl,h _ (I.hok.fresh (Ut _))⟩
end
theorem QX.u9{k:Nat}{A:VF}(r:QX k A):A.units+9 < UW:=by have:=r.un;lia
def TD(H:Hp):Nat->Dt->V->Prop
 | 0,.v x,y=>hV x=true/\y=x
 | 0,.t _,_=>False
 | 0,.l _,_=>False
 | _+1,.v x,y=>hV x=true/\y=x
 | n+1,.t ds,y=>∃ (a:Vh) (xs:List V),y=.ref a/\H a=some (.tup xs)/\Vm (λd v=>TD H n d v) ds xs
 | _+1,.l _,_=>False
section
variable{H H':Hp}{K:VC}
theorem TD.flat{n:Nat}{x y:V}:TD H n (.v x) y->hV x=true/\y=x:=by cases n <;> exact id
theorem TD.ofV{n:Nat}{x:V}(f:hV x=true):TD H n (.v x) x:=by cases n <;> exact⟨f,rfl⟩
inductive YHc(H:Hp)(n:Nat)(ds:List Dt)(y:V):Prop
 | mk (m:Nat) (a:Vh) (xs:List V) (e:n=m+1) (e2:y=.ref a) (h:H a=some (.tup xs)) (r:Vm (λd v=>TD H m d v) ds xs):YHc H n ds y
theorem TD.tup{n:Nat}{ds:List Dt}{y:V}(q:TD H n (.t ds) y):YHc H n ds y:=by
 cases n with
 | zero=>exact q.elim
 | succ m=>obtain⟨a,xs,e,h,r⟩:=q;exact⟨m,a,xs,rfl,e,h,r⟩
theorem TD.ofT{n:Nat}{a:Vh}{xs:List V}{ds:List Dt}(h:H a=some (.tup xs))(r:Vm (λd v=>TD H n d v) ds xs):TD H (n+1) (.t ds) (.ref a):=⟨a,xs,rfl,h,r⟩
theorem TD.sameT(s:Zb H H'):∀ (n:Nat) {d:Dt} {y:V},TD H n d y->TD H' n d y:=by
 intro n
 induction n with
 | zero=>intro d y q;cases d <;> exact q
 | succ n ih =>
  intro d y q;cases d with
  | v x=>exact q
  | l x=>exact q
  | t ds=>obtain⟨a,xs,e,h,r⟩:=q;exact⟨a,xs,e,s _ _ h,Paired.mapP r λd v z=>ih z⟩
theorem TD.same{n:Nat}{d:Dt}{y:V}(q:TD H n d y)(s:Ql H H'):TD H' n d y:=TD.sameT s.t n q
theorem TD.mono:∀ (n:Nat) {m:Nat} {d:Dt} {y:V},n<=m->TD H n d y->TD H m d y:=by
 intro n
 induction n with
 | zero =>
  intro m d y _ q;cases d with
  | v x=>obtain⟨f,e⟩:=q;subst e;exact TD.ofV f
  | t _=>exact q.elim
  | l _=>exact q.elim
 | succ n ih =>
  intro m d y hm q;cases d with
  | v x=>obtain⟨f,e⟩:=q;subst e;exact TD.ofV f
  | l _=>exact q.elim
  | t ds =>
   obtain⟨a,xs,e,h,r⟩:=q;obtain⟨k,rfl⟩:∃ k,m=k+1:=⟨m - 1,by lia⟩
   exact⟨a,xs,e,h,Paired.mapP r λd v z=>ih #[0] z⟩
theorem TD.rep:∀ (n:Nat) {d:Dt} {y:V},TD H n d y->Rep K H n d y:=by
 intro n
 induction n with
 | zero =>
  intro d y q;cases d with
  | v x=>obtain⟨f,e⟩:=q;subst e;exact .v (Jva f)
  | t _=>exact q.elim
  | l _=>exact q.elim
 | succ n ih =>
  intro d y q;cases d with
  | v x=>obtain⟨f,e⟩:=q;subst e;exact .v (Jva f)
  | l _=>exact q.elim
  | t ds =>
   obtain⟨a,xs,e,h,r⟩:=q;subst e;exact .t (SqT.of h) (Vn r) λi d x h1 h2=>ih (Qv r h1 h2)
theorem TD.h:∀ (n:Nat) {d:Dt} {y:V},TD H n d y->hD d=true:=by
 intro n
 induction n with
 | zero =>
  intro d y q;cases d with
  | v x=>rw[hD];exact q.1
  | t _=>exact q.elim
  | l _=>exact q.elim
 | succ n ih =>
  intro d y q;cases d with
  | v x=>rw[hD];exact q.1
  | l _=>exact q.elim
  | t ds =>
   obtain⟨a,xs,e,h,r⟩:=q;rw[hD];refine Zac λx hx=>?_
   obtain⟨i,hi⟩:=mem_iff_getElem?.mp hx;have l:=Vn r;have hl:=(List.getElem?_eq_some_iff.mp hi).1
   exact ih (Qv r hi (Lq (show i < xs.length by lia)))
theorem TD.pair{n:Nat}{a:Vh}{x y:V}{d e:Dt}(h:H a=some (.tup [x,y]))(hx:TD H n d x)(hy:TD H n e y):TD H (n+1) (.t [d,e]) (.ref a):=TD.ofT h (.cons hx (.cons hy .nil))
inductive Zgc(H:Hp)(n:Nat)(d e:Dt)(y:V):Prop
 | mk (a:Vh) (x z:V) (ey:y=.ref a) (h:H a=some (.tup [x,z])) (r1:TD H n d x) (r2:TD H n e z):Zgc H n d e y
theorem TD.pair_of{n:Nat}{y:V}{d e:Dt}(q:TD H (n+1) (.t [d,e]) y):Zgc H n d e y:=by
 obtain⟨a,xs,rfl,h,r⟩:=q;cases r with
 | cons r1 r2 =>
  cases r2 with
  | cons r3 r4=>cases r4;exact⟨a,_,_,rfl,h,r1,r3⟩
end
mutual
theorem Zhc:∀ d e:Dt,hD d=true->hD e=true->(eqD d e=true↔d=e)
 | .v x,.v y,h,h'=>by
  rw[hD]at h h';rw[eqD,Zcc h h',decide_eq_true_iff]
 | .t xs,.t ys,h,h'=>by
  rw[hD]at h h';rw[eqD,Ytb xs ys h h'];exact⟨λe=>by rw[e],λe=>by injection e⟩
 | .v x,.t ys,_,_=>by simp[eqD]
 | .t xs,.v y,_,_=>by simp[eqD]
 | .l xs,_,h,_=>by rw[hD]at h;exact(Uc h).elim
 | .v x,.l ys,_,h=>by rw[hD]at h;exact(Uc h).elim
 | .t x,.l ys,_,h=>by rw[hD]at h;exact(Uc h).elim
theorem Ytb:∀ d e:List Dt,hDs d=true->hDs e=true->(QJa d e=true↔d=e)
 | [],[],_,_=>by simp[QJa]
 | [],_::_,_,_=>by simp[QJa]
 | _::_,[],_,_=>by simp[QJa]
 | x::xs,y::ys,h,h'=>by
  rw[hDs,Il]at h h';rw[QJa,Il,Zhc x y h.1 h'.1,Ytb xs ys h.2 h'.2];exact⟨λe=>by rw[e.1,e.2],λe=>by injection e with a b;exact⟨a,b⟩⟩
end
theorem JPc{d e:Dt}(h:hD d=true)(h':hD e=true):eqD d e=decide (d=e):=by
 rw[UA,Zhc d e h h',decide_eq_true_iff]
theorem XCc{K:VC}{H:Hp}{n:Nat}{d e:Dt}{x y:V}{Q:VK}(hn:n<=60)(h1:TD H n d x)(h2:TD H n e y)(q:Q (.bl (!decide (d=e))) H):rD K true x y H Q :=
 ⟨n,d,e,hn,h1.rep,h2.rep,by rw[if_pos rfl,JPc h1.h h2.h];exact q⟩
def QS(S:List Vh)(H H':Hp):Prop:=∀ b o,b∉S->H b=some o->H' b=some o
section
variable{S:List Vh}{H H' H1 H2:Hp}
theorem QS.refl(S:List Vh)(H:Hp):QS S H H:=λ_ _ _ e=>e
theorem Ql.x(s:Ql H H')(S:List Vh):QS S H H':=λb o _ e=>s b o e
theorem QS.trans(a:QS S H H1)(b:QS S H1 H2):QS S H H2:=λc o n e=>b c o n (a c o n e)
theorem QS.upd{a:Vh}{o:HO}(s:QS S H H')(h:a∈S):QS S H (L2.upd H' a o):=λb u n e=>by
 rw[Qf (λz=>n (by rw[z];exact h))];exact s b u n e
theorem QS.mono{S':List Vh}(s:QS S H H')(h:∀ a∈S,a∈S'):QS S' H H':=λb o n e=>s b o (λz=>n (h b z)) e
end
section
variable{α β:Type}[DecidableEq β]
theorem YK(g:α->β):∀ {xs:List α} {x:α},(xs.map g).Nodup->x∈xs->xs.find? (λy=>decide (g y=g x))=some x
 | [],_,_,h=>nomatch h
 | y::ys,x,nd,h=>by
  rw[UM,Ds]at nd;rw[OL]
  rcases mem_cons.mp h with e | h
  ·subst e;rw[decide_eq_true rfl]
  ·have:g y≠g x:=λe=>nd.1 (by rw[e];exact LM h)
   rw[decide_eq_false this];exact YK g nd.2 h
theorem Yub(g:α->β){xs:List α}{b:β}(h:∀ x∈xs,g x≠b):xs.find? (λy=>decide (g y=b))=Vo:=by
 rw[find?_eq_none]
 intro x hx z;exact h x hx (of_decide_eq_true z)
theorem Zia(g:α->β):∀ {xs:List α} {j:Nat} {x:α},(xs.map g).Nodup->xs[j]?=some x->xs.eraseIdx j=xs.filter (λy=>decide (g y≠g x))
 | [],_,_,_,h=>by simp at h
 | y::ys,0,x,nd,h=>by
  rw[UM,Ds]at nd;simp only[getElem?_cons_zero,Ig]at h
  subst h;rw[eraseIdx_cons_zero,OQ,if_neg #[2]]
  symm
  rw[filter_eq_self];intro z hz;exact decide_eq_true λe=>nd.1 (by rw[<- e];exact LM hz)
 | y::ys,j+1,x,nd,h=>by
  rw[UM,Ds]at nd;simp only[getElem?_cons_succ]at h
  have:g y≠g x:=λe=>nd.1 (by rw[e];exact LM (Om h))
  rw[CB,OQ,if_pos (decide_eq_true this),Zia g nd.2 h]
end
theorem Xya{α κ:Type}[DecidableEq κ](f:α->κ×V)(xs:List α)(k:κ):Q4 (xs.map f) k=(xs.find? λx=>decide ((f x).1=k)).map λx=>(f x).2:=by
 unfold Q4;rw[find?_map,Option.map_map]
 rfl
theorem Zjb{α:Type}(f:α->Dt×Vh×V)(xs:List α)(k:Dt):QNa (xs.map f) k=(xs.find? λx=>decide ((f x).1=k)).map λx=>(f x).2.2:=by
 unfold QNa;rw[find?_map,Option.map_map]
 rfl
theorem Jnb{α κ:Type}[DecidableEq κ](f:α->κ×V)(xs:List α)(k:κ):J3 (xs.map f) k=(xs.filter λx=>decide ((f x).1≠k)).map f:=by
 unfold J3;rw[filter_map]
 rfl
end L2
end
section
namespace L2
open PySem PySem.Spec PyProof.Rows
section
variable{X:Cx}
end
theorem TDs.of{H:Hp}{n:Nat}{Pd:Dt->Prop}:∀ {xs:List V},(∀ x∈xs,∃ d,TD H n d x/\Pd d)->∃ ds:List Dt,Vm (λd v=>TD H n d v) ds xs/\∀ d∈ds,Pd d
 | [],_=>⟨[],.nil,λd h=>nomatch h⟩
 | x::xs,h=>by
  obtain⟨d,hd,pd⟩:=h x VM;obtain⟨ds,r,p⟩:=TDs.of (xs:=xs) λy hy=>h y (VN _ hy)
  exact⟨d::ds,.cons hd r,λe he=>by
   rcases mem_cons.mp he with z | z
   ·rw[z];exact pd
   ·exact p e z⟩
theorem TDs.sameT{H H':Hp}{n:Nat}{es:List Dt}{xs:List V}(r:Vm (λd v=>TD H n d v) es xs)(s:Zb H H'):Vm (λd v=>TD H' n d v) es xs:=Paired.mapP r λ_ _ z=>TD.sameT s n z
def Zic(P:Vg)(w:Vb)(K:VC)(mg:Str->Option Va)(base:Vp)(k:Nat)(m:Str)(ta:TE1)(t:TA):TE1:=λσ H Q E=>ta σ H (λx H1=>∃ a C dx fs sp,x=.ref a/\H1 a=some (.ins C dx fs)/\fs.lookup m=Vo/\Cls K C/\MeV P w K mg base k C m sp/\t σ H1 λvs H2=>sp (x::vs) H2 Q E) E
section
variable{X:Cx}{m:Str}{k:Nat}{ta:TE1}{t:TA}{e o:Expr}{es:List Expr}{pos ai:Pos}{pl:Sem Bool}
theorem Job(he:PE1 X o ta)(hr:QX k X.A)(bi:X.ex=[])
 (ht:VX (.Call (.Attribute o m ai) [] [] pos) X.env=(do
  let ov <- VX o X.env
  V5 ai.atName
  let (f,first) <- V6 [ov] (UF ov m pl)
  L4 pos f first (VY pos (VZ [] X.env)) (U8 pos (U9 [] X.env))):=by rfl) :
 PE1 X (.Call (.Attribute o m ai) [] [] pos) (Zic X.prog X.w X.K X.mg X.base k m ta Jea):=by
 intro aa s σ H Q E I h;refine L5 (pl:=pl) (thn (he aa s σ H _ E I h) λu s1 hZ=>?_) ht
 obtain⟨y,H1,I1,rx,a,C,dx,fs,sp,ex,ea,l,c,G,q⟩:=hZ;obtain⟨f,fd,ps,hm,F,hb⟩:=G;subst ex;obtain rfl:u=Vk a:=rx;refine YV I1 ea c hm l ?_
 exact U6 (first:=[.ref a]) I1.kIn hm.kp (Jua (us:=[.ref a]) (vs:=[.ref a]) F hr hb bi I1 (.cons rfl .nil) q)
end
end L2
end
section
open L2
namespace Tr
def Q6:Dt->V
 | .t (.v k::_)=>k
 | _=>.non
def Zz(l:Int)(es:List Dt):Dt:=.t [.v (.int l),.t es]
def Jq(k:V)(n:Int):Dt:=.t [.v k,.v (.int n)]
def Zjc:List Dt->V
 | []=>.non
 | e::_=>Q6 e
theorem YL{l l':Int}{es es':List Dt}(h:Zz l es=Zz l' es'):l=l'/\es=es':=by
 unfold Zz at h;injection h with h
 injection h with h1 h
 injection h with h2 h
 injection h1 with h1
 injection h1 with h1
 injection h2 with h2
 exact⟨h1,h2⟩
theorem Zkc{k k':V}{n n':Int}(h:Jq k n=Jq k' n'):k=k'/\n=n':=by
 unfold Jq at h;injection h with h
 injection h with h1 h
 injection h with h2 h
 injection h1 with h1
 injection h2 with h2
 injection h2 with h2
 exact⟨h1,h2⟩
section
variable(lv:V->Nat)
def step(l:Int)(af:List (List Dt))(e:Dt):List (List Dt) :=
 if af=[]\/l < lv (Q6 e) then af++[[e]] else af.dropLast++[af.getLast?.getD []++[e]]
def ZI(l:Int)(es:List Dt):List (List Dt):=es.foldl (step lv l) []
structure ZRa(l:Int)(es:List Dt)(af:List (List Dt)):Prop where
 flat:af.flatten=es
 full:∀ part∈af,part≠[]
 head:∀ (i:Nat) x r,0 < i->af[i]?=some (x::r)->l < lv (Q6 x)
 rest:∀ x r,(x::r)∈af->∀ y∈r,(lv (Q6 y):Int)<=l
variable{lv}{l:Int}{es:List Dt}{af:List (List Dt)}
theorem ZRa.nil:ZRa lv l [] []:=⟨rfl,(λ_ h=>by cases h),(λi x r _ h=>by simp at h),(λx r h=>by cases h)⟩
theorem ZRa.more{x:Dt}(c:ZRa lv l es af)(h:af=[]\/l < lv (Q6 x)):ZRa lv l (es++[x]) (af++[[x]]) where
 flat:=by rw[flatten_append,c.flat];simp
 full:=λpart hp=>by
  rcases mem_append.mp hp with z | z
  ·exact c.full part z
  ·have:part=[x]:=by simpa using z
   rw[this];simp
 head:=λi y r hi e=>by
  by_cases hl:i < af.length
  ·rw[Oi hl]at e;exact c.head i y r hi e
  ·rw[Oh #[0]]at e
   have h0:i - af.length=0:=by
    cases q:i - af.length with
    | zero=>rfl
    | succ m=>rw[q]at e;simp at e
   rw[h0]at e;simp at e
   rcases h with z | z
   ·rw[z]at h0;simp at h0;lia
   ·rw[<- e.1];exact z
 rest:=λy r hp z hz=>by
  rcases mem_append.mp hp with w | w
  ·exact c.rest y r w z hz
  ·have:y::r=[x]:=by simpa using w
   cases this;cases hz
theorem ZRa.on{x:Dt}{ini:List (List Dt)}{last:List Dt}(c:ZRa lv l es (ini++[last]))(h:(lv (Q6 x):Int)<=l):ZRa lv l (es++[x]) (ini++[last++[x]]) where
 flat:=by have:=c.flat;simp at this ⊢;rw[<- this];simp
 full:=λpart hp=>by
  rcases mem_append.mp hp with z | z
  ·exact c.full part (VS _ z)
  ·have:part=last++[x]:=by simpa using z
   rw[this];simp
 head:=λi y r hi e=>by
  by_cases hl:i < ini.length
  ·rw[Oi hl]at e
   exact c.head i y r hi (by rw[Oi hl];exact e)
  ·rw[Oh #[0]]at e
   have h0:i - ini.length=0:=by
    cases q:i - ini.length with
    | zero=>rfl
    | succ m=>rw[q]at e;simp at e
   rw[h0]at e;have ay:=c.full last #[2]
   match last,ay,e,c with
   | z::zs,_,e,c =>
    simp at e;rw[<- e.1];exact c.head i z zs hi (by rw[Oh #[0],h0];rfl)
 rest:=λy r hp z hz=>by
  rcases mem_append.mp hp with w | w
  ·exact c.rest y r (VS _ w) z hz
  ·have w:y::r=last++[x]:=by simpa using w
   have ay:=c.full last #[2]
   match last,ay,w,c with
   | u::us,_,w,c =>
    simp at w;obtain⟨rfl,rfl⟩:=w
    rcases mem_append.mp hz with v | v
    ·exact c.rest y us #[2] z v
    ·have:z=x:=by simpa using v
     rw[this];exact h
theorem Zja{α:Type}:∀ {xs:List α},xs≠[]->∃ ini last,xs=ini++[last]
 | [],h=>absurd rfl h
 | [x],_=>⟨[],x,rfl⟩
 | x::y::ys,_=>by
  obtain⟨ini,last,e⟩:=Zja (xs:=y::ys) #[2]
  exact⟨x::ini,last,by rw[e];rfl⟩
theorem ZRa.step{x:Dt}(c:ZRa lv l es af):ZRa lv l (es++[x]) (step lv l af x):=by
 unfold Tr.step
 split
 ·rename_i h;exact c.more h
 ·rename_i h
  have h1:af≠[]:=λz=>h (.inl z)
  obtain⟨ini,last,rfl⟩:=Zja h1;have:(lv (Q6 x):Int)<=l:=by have:¬ l < lv (Q6 x):=λz=>h (.inr z);lia
  simpa using c.on this
theorem Xza(es:List Dt)(x:Dt):ZI lv l (es++[x])=step lv l (ZI lv l es) x:=by
 unfold ZI;rw[Di];rfl
theorem Zlc{α:Type}{C:List α->Prop}(h0:C [])(h1:∀ xs x,C xs->C (xs++[x]))(xs:List α):C xs:=by
 have:∀ n (xs:List α),xs.length=n->C xs:=by
  intro n
  induction n with
  | zero=>intro xs h;rw[length_eq_zero_iff.mp h];exact h0
  | succ n ih =>
   intro xs h;obtain⟨ini,last,rfl⟩:=Zja (xs:=xs) (by intro z;rw[z]at h;simp at h)
   exact h1 _ _ (ih ini (by simpa using h))
 exact this _ xs rfl
theorem JS(l:Int):∀ es,ZRa lv l es (ZI lv l es):=Zlc ZRa.nil λxs x c=>by rw[Xza];exact c.step
theorem Jwa{es:List Dt}(h:es≠[]):ZI lv l es≠[]:=λz=>h (by have:=(JS (lv:=lv) l es).flat;rw[z]at this;exact this.symm)
theorem Zkb{es:List Dt}(ay:es≠[])(h:∀ e∈es,(lv (Q6 e):Int)<=l):ZI lv l es=[es]:=by
 have c:=JS (lv:=lv) l es
 match q:ZI lv l es with
 | []=>exact absurd q (Jwa ay)
 | [p]=>rw[q]at c;have:=c.flat;simp at this;rw[this]
 | p::p2::r =>
  rw[q]at c;have bD:=c.full p2 #[2]
  match p2,bD with
  | x::xs,_ =>
   have h1:=c.head 1 x xs #[0] rfl
   have h2:x∈es:=by rw[<- c.flat];simp
   have:=h x h2
   lia
end
structure Fn(tbl:List (Int×Dt)):Prop where
 num:∀ n d d',(n,d)∈tbl->(n,d')∈tbl->d=d'
 dat:∀ n n' d,(n,d)∈tbl->(n',d)∈tbl->n=n'
inductive Zi(tbl:List (Int×Dt))(l:Int):List (List Dt)->List Dt->Prop
 | nil:Zi tbl l [] []
 | cons {part:List Dt} {af:List (List Dt)} {hs:List Dt} {n:Int} (h:(n,Zz l part)∈tbl) (r:Zi tbl l af hs):Zi tbl l (part::af) (Jq (Zjc part) n::hs)
section
variable{tbl aD:List (Int×Dt)}{l:Int}{af:List (List Dt)}{hs:List Dt}
theorem Zi.mono(h:Zi tbl l af hs)(s:∀ x∈tbl,x∈aD):Zi aD l af hs:=by
 induction h with
 | nil=>exact .nil
 | cons h _ ih=>exact .cons (s _ h) ih
theorem Zi.snoc{part:List Dt}{n:Int}(h:Zi tbl l af hs)(m:(n,Zz l part)∈tbl):Zi tbl l (af++[part]) (hs++[Jq (Zjc part) n]):=by
 induction h with
 | nil=>exact .cons m .nil
 | cons h _ ih=>exact .cons h ih
theorem Zi.length(h:Zi tbl l af hs):hs.length=af.length:=by
 induction h with
 | nil=>rfl
 | cons _ _ ih=>simp[ih]
end
structure Qxa(lv:V->Nat)(tbl:List (Int×Dt))(ax:List Dt)(top:Nat)(L:Nat->List Dt):Prop where
 low:L 0=ax
 up:∀ j,j<=top->Zi tbl j (ZI lv j (L j)) (L (j+1))
 one:(L (top+1)).length=1
 two:∀ j,1<=j->j<=top->1 < (L j).length
section
variable{lv:V->Nat}{tbl aD:List (Int×Dt)}{ax rows':List Dt}{top top':Nat}{L L':Nat->List Dt}
theorem Qxa.mono(c:Qxa lv tbl ax top L)(s:∀ x∈tbl,x∈aD):Qxa lv aD ax top L:=⟨c.low,λj h=>(c.up j h).mono s,c.one,c.two⟩
theorem Qxa.root(c:Qxa lv tbl ax top L):∃ k n,L (top+1)=[Jq k n]/\(n,Zz top (L top))∈tbl/\ZI lv top (L top)=[L top]:=by
 have u:=c.up top (Ut _);have l:=u.length;rw[c.one]at l
 match q:ZI lv top (L top),l with
 | [p],_ =>
  have fl:=(JS (lv:=lv) (top:Int) (L top)).flat;rw[q]at fl;simp at fl;subst fl;rw[q]at u;generalize L (top+1)=hs at u;cases u with
  | cons h r=>cases r;exact⟨_,_,rfl,h,rfl⟩
end
def Zj:Dt->Int
 | .t [_,.v (.int n)]=>n
 | _=>0
section
variable{lv:V->Nat}{tbl:List (Int×Dt)}{l:Int}{af:List (List Dt)}{hs ax:List Dt}{top:Nat}{L:Nat->List Dt}
theorem Zi.mem(h:Zi tbl l af hs){x:Dt}(hx:x∈hs):∃ part∈af,∃ n,x=Jq (Zjc part) n/\(n,Zz l part)∈tbl:=by
 induction h with
 | nil=>cases hx
 | @cons part af hs n h r ih =>
  rcases mem_cons.mp hx with e | hx
  ·exact⟨part,VM,n,e,h⟩
  ·obtain⟨p,hp,q⟩:=ih hx;exact⟨p,VN _ hp,q⟩
end
structure ZSa(lv:V->Nat)(tbl:List (Int×Dt))(ax:List Dt)(j:Nat)(L:Nat->List Dt):Prop where
 low:L 0=ax
 up:∀ i,i < j->Zi tbl i (ZI lv i (L i)) (L (i+1))
 two:∀ i,1<=i->i < j->1 < (L i).length
section
variable{lv:V->Nat}{tbl aD:List (Int×Dt)}{ax hs:List Dt}{j:Nat}{L:Nat->List Dt}
theorem ZSa.start(h:Zi tbl 0 (ZI lv 0 ax) hs):ZSa lv tbl ax 1 (λi=>if i=0 then ax else hs) where
 low:=rfl
 up:=λi hi=>by
  obtain rfl:i=0:=by lia
  exact h
 two:=λi h1 h2=>by lia
theorem ZSa.next(p:ZSa lv tbl ax j L)(s:∀ x∈tbl,x∈aD)(hj:1<=j)(h2:1 < (L j).length)(h:Zi aD j (ZI lv j (L j)) hs):ZSa lv aD ax (j+1) (λi=>if i=j+1 then hs else L i) where
 low:=by show(if 0=j+1 then hs else L 0)=ax;rw[if_neg #[0]];exact p.low
 up:=λi hi=>by
  show Zi aD i (ZI lv i (if i=j+1 then hs else L i)) (if i+1=j+1 then hs else L (i+1))
  rw[if_neg #[0]]
  by_cases e:i=j
  ·subst e;rw[if_pos rfl];exact h
  ·rw[if_neg #[0]];exact(p.up i #[0]).mono s
 two:=λi h1 hi=>by
  show 1 < (if i=j+1 then hs else L i).length
  rw[if_neg #[0]]
  by_cases e:i=j
  ·subst e;exact h2
  ·exact p.two i h1 #[0]
theorem ZSa.chain{top:Nat}(p:ZSa lv tbl ax (top+1) L)(h:(L (top+1)).length=1):Qxa lv tbl ax top L:=⟨p.low,λi hi=>p.up i #[0],h,λi h1 h2=>p.two i h1 #[0]⟩
theorem ZSa.full(p:ZSa lv tbl ax j L)(hr:ax≠[]):∀ i,i<=j->L i≠[]:=by
 intro i
 induction i with
 | zero=>intro _;rw[p.low];exact hr
 | succ i ih =>
  intro h z;have u:=p.up i #[0]
  have l:=u.length;rw[z]at l;exact Jwa (ih #[0]) (length_eq_zero_iff.mp l.symm)
theorem ZSa.top(p:ZSa lv tbl ax j L)(h6:∀ k,lv k<=6)(hr:ax≠[])(hj:7<=j):(L 7).length=1:=by
 have u:=p.up 6 #[0]
 rw[Zkb (p.full hr 6 #[0]) (λe _=>by have:=h6 (Q6 e);lia)]at u
 rw[u.length];rfl
end
end Tr
end
section
namespace L2
open PySem PySem.Spec PyProof.Rows
inductive FzH(H:Hp):Nat->V->Prop where
 | v {n:Nat} {x:V} (f:hV x=true):FzH H n x
 | t {n:Nat} {a:Vh} {xs:List V} (h:H a=some (.tup xs)) (r:∀ x∈xs,FzH H n x):FzH H (n+1) (.ref a)
theorem FzH.sameT{H H':Hp}{n:Nat}{x:V}(r:FzH H n x)(s:Zb H H'):FzH H' n x:=by
 induction r with
 | v f=>exact .v f
 | t h _ ih=>exact .t (s _ _ h) ih
theorem FzH.same{H H':Hp}{n:Nat}{x:V}(r:FzH H n x)(s:Ql H H'):FzH H' n x:=r.sameT s.t
theorem FzH.pair{H:Hp}{n:Nat}{a:Vh}{x y:V}(h:H a=some (.tup [x,y]))(hx:FzH H n x)(hy:FzH H n y):FzH H (n+1) (.ref a):=.t h λz hz=>by
 rcases mem_cons.mp hz with e | hz
 ·rw[e];exact hx
 ·rw[mem_singleton.mp hz];exact hy
structure Jj(H:Hp)(n:Nat)(p:Vh)(H1:Hp)(xs:List V):Prop where
 same:Ql H H1
 at_:H1 p=some (.lst xs)
 fz:∀ x∈xs,FzH H1 n x
 new:H p=Vo
theorem Jj.start{H:Hp}{n:Nat}{p:Vh}(hp:H p=Vo):Jj H n p (upd H p (.lst [])) []:=⟨Qh hp _,Qa,(λx hx=>by cases hx),hp⟩
theorem Jj.more{H H1 H2:Hp}{n:Nat}{p:Vh}{xs:List V}{x:V}(c:Jj H n p H1 xs)(s:Ql H1 H2)(f:FzH H2 n x):Jj H n p (upd H2 p (.lst (xs++[x]))) (xs++[x]) where
 same:=λb o hb=>by rw[Qf (Qr hb c.new)];exact s _ _ (c.same _ _ hb)
 at_:=Qa
 fz:=λy hy=>by
  have st:=J0 (zs:=xs++[x]) (s _ _ c.at_)
  rcases mem_append.mp hy with h | h
  ·exact((c.fz y h).same s).sameT st
  ·rw[mem_singleton.mp h];exact f.sameT st
 new:=c.new
theorem Jj.pair{H H1:Hp}{n:Nat}{p q:Vh}{xs:List V}(x y:V)(c:Jj H (n+1) p H1 xs)(hq:H1 q=Vo)(fx:hV x=true:=by rfl)(fy:hV y=true:=by rfl):Jj H (n+1) p (upd (upd H1 q (.tup [x,y])) p (.lst (xs++[.ref q]))) (xs++[.ref q]) :=
 c.more (Qh hq _) (FzH.pair Qa (.v fx) (.v fy))
theorem Jj.nest{H H1:Hp}{n:Nat}{p a b q:Vh}{xs:List V}(z w x y:V)(c:Jj H (n+3) p H1 xs)(ha:H1 a=Vo)(hb:upd H1 a (.tup [x,y]) b=Vo)(hq:upd (upd H1 a (.tup [x,y])) b (.tup [w,.ref a]) q=Vo)(fx:hV x=true:=by rfl)(fy:hV y=true:=by rfl)(fz:hV z=true:=by rfl)(fw:hV w=true:=by rfl) :
 Jj H (n+3) p (upd (upd (upd (upd H1 a (.tup [x,y])) b (.tup [w,.ref a])) q (.tup [z,.ref b])) p (.lst (xs++[.ref q]))) (xs++[.ref q]):=by
 have f1:FzH (upd H1 a (.tup [x,y])) (n+1) (.ref a):=FzH.pair Qa (.v fx) (.v fy);have f2:FzH (upd (upd H1 a (.tup [x,y])) b (.tup [w,.ref a])) (n+2) (.ref b):=FzH.pair Qa (.v fw) (f1.same (Qh hb _));exact c.more ((Qh ha _).trans ((Qh hb _).trans (Qh hq _))) (FzH.pair Qa (.v fz) (f2.same (Qh hq _)))
theorem FzH.td{H:Hp}{n:Nat}{x:V}(r:FzH H n x):∃ d,TD H n d x:=by
 induction r with
 | v f=>exact⟨_,TD.ofV f⟩
 | t h _ ih =>
  obtain⟨ds,q,_⟩:=TDs.of (Pd:=λ_=>True) λx hx=>by obtain⟨d,hd⟩:=ih x hx;exact⟨d,hd,trivial⟩
  exact⟨.t ds,TD.ofT h q⟩
section
variable{a b c d e u:TS}{D:Jg}{σ:St}{H:Hp}
theorem Qbb(h:∀ R:St->Hp->Prop,(∀ σ H,u D σ H->R σ H)->a { D with nx:=R } σ H):ZEa a u D σ H:=h (u D) λ_ _ z=>z
theorem Yvb(h:∀ R:St->Hp->Prop,(∀ σ H,u D σ H->R σ H)->ZEa a b { D with nx:=R } σ H):ZEa a (ZEa b u) D σ H:=h (u D) λ_ _ z=>z
theorem JQc(h:∀ R:St->Hp->Prop,(∀ σ H,u D σ H->R σ H)->ZEa a (ZEa b (ZEa c d)) { D with nx:=R } σ H):ZEa a (ZEa b (ZEa c (ZEa d u))) D σ H:=h (u D) λ_ _ z=>z
end
section
variable{X:Cx}
end
section
variable{X:Cx}
end
end L2
end
section
open L2 PySem
namespace Tr
section
variable{lv:V->Nat}{tbl:List (Int×Dt)}{ax:List Dt}{top:Nat}{L:Nat->List Dt}
end
end Tr
end
section
namespace L2
open PySem PySem.Spec PyProof.Rows PySem.W
section
variable{prog:Vg}{w:Vb}{A:VF}{E:YQ_}{s:VG}
end
section
variable{X:Cx}{e:Expr}{te:TE}{p pos p2 bP:Pos}{aa:YP_}{σ:St}{H:Hp}{s:VG}
end
theorem Qcb:Ot (.type "list") "keys"=pure Vo:=by rw[Du,Dv];kernel_rfl
theorem Jja:Ot (.type "list") "__getattr__"=pure Vo:=by rw[Du,Dv];kernel_rfl
section
variable{prog:Vg}{w:Vb}{A:VF}{E:YQ_}{h:Vp}{g:Array VP}{d:VQ}{t:Nat}{os:OsState}{a:Vh}{ah:Array Va}{c:Nat}
theorem Jka{tk:Tok}{Q:PySem.Fin->VG->Prop}(hh:A.handled=Vo)(hx:h.get? a=some { cls:=.type "list",dict:=Vo,data:=.seq ah c,slots:=#[] })
 (hE:∀ h' tk e,Heap.NewAttrErr h h' e (.ref a) "keys"->E (.ref e) ⟨h',g,d,tk,os⟩) :
 VV (VW prog w) A (Ij.«object.__getattribute__» ⟨[.ref a,.str "keys" tk],[]⟩) Q E ⟨h,g,d,t,os⟩:=by
 have hT:(⟨h,g,d,t,os⟩:VG).TypeIs (.ref a) "list":=⟨_,hx,rfl⟩;have f4:=Qcb
 repeat (any_goals (first | assumption | wp_step))
 exact wpAny_raiseAttrError hh hE (attrMsg_fits (by decide +kernel) (by decide +kernel))
theorem Qdb{tk:Tok}{Q:YQ_}(hh:A.handled=Vo)(hx:h.get? a=some { cls:=.type "list",dict:=Vo,data:=.seq ah c,slots:=#[] })
 (hE:∀ h' tk e,Heap.NewAttrErr h h' e (.ref a) "keys"->E (.ref e) ⟨h',g,d,tk,os⟩) :
 VV (VW prog w) A (getAttrBy (.ref a) (.str "keys" tk) false) Q E ⟨h,g,d,t,os⟩:=by
 have hT:(⟨h,g,d,t,os⟩:VG).TypeIs (.ref a) "list":=⟨_,hx,rfl⟩;have f1:=sub_AttributeError;have f2:=F.slot_list_getattribute.lookup;have f3:=F.slot_list_getattribute.bind (.ref a);have f5:=Jja;unfold getAttrBy
 repeat (any_goals (first | assumption | wp_step))
 refine LY F.slot_list_getattribute.plain F.entry_list_ga (F.slot_list_getattribute.check _ _ _ _ _ _ _ _ hT (F.args_list_getattribute_2 _ _) (Jka hh hx λh' tk' e bp=>?_))
 obtain⟨t',u',he⟩:=bp.there;show VV _ _ (getattributeRaised _ _ _ _ _ _ _) _ _ _;unfold getattributeRaised
 repeat (any_goals (first | assumption | wp_step))
 exact hE _ _ _ bp
theorem J7a{Q:Option Va->VG->Prop}(hh:A.handled=Vo)(hx:h.get? a=some { cls:=.type "list",dict:=Vo,data:=.seq ah c,slots:=#[] })
 (hQ:∀ h' tk,(∀ b u,h.get? b=some u->h'.get? b=some u)->Q Vo ⟨h',g,d,tk,os⟩):VV (VW prog w) A (getAttr? (.ref a) "keys") Q E ⟨h,g,d,t,os⟩:=by
 unfold getAttr? getAttrBy?;refine Uj (wpAny_mkText ?_)
 refine Uj (Lm (Qdb hh hx λh' tk e bp=>?_))
 obtain⟨t',u',he⟩:=bp.there;have f1:=sub_AttributeError
 repeat (any_goals (first | assumption | wp_step))
 exact hQ _ _ bp.keeps
end
theorem Xw:Df table "dict.update.loop"=some Ij.«dict.update.loop»:=entryFor_of_tree (by kernel_rfl)
theorem ZL:plainId "dict.update.loop"=true:=by decide +kernel
section
variable{prog:Vg}{w:Vb}{K:Type}[DecidableEq K]{knd:KeyKind prog w K}{A:VF}{E:YQ_}{s:VG}
def Y5(knd:KeyKind prog w K)(h:Vp)(vs:List Va)(kks:List (K×Va)):Prop:=∀ (i:Nat) k x,kks[i]?=some (k,x)->∃ t key,vs[i]?=some (.ref t)/\Vs h t #[key,x]/\knd.is k key=true
theorem Y5.but{h h':Vp}{vs:List Va}{kks:List (K×Va)}(p:Y5 knd h vs kks)(P:Vh->Prop)(hP:∀ t ah,Vs h t ah->P t)(hk:∀ b o,P b->h.get? b=some o->h'.get? b=some o):Y5 knd h' vs kks:=λi k x e=>by
 obtain⟨t,key,a,b,c⟩:=p i k x e;have pt:=hP t _ b;obtain⟨o,ho,r⟩:=b;exact⟨t,key,a,⟨o,hk t o pt ho,r⟩,c⟩
theorem J8a{it l d:Vh}{vs:List Va}{kks:List (K×Va)}(hh:A.handled=Vo)(hl:kks.length=vs.length)(hb:vs.length<=1000)(ay:it≠d)(uG:l≠d)(mO:l≠it) :
 ∀ (m i:Nat) (kJ:Tok) (s:VG) (R:UH->VG->Prop),m=vs.length - i->i<=vs.length->s.heap.IsListIter it l i->s.heap.IsList l vs.toArray->s.heap.DictOf knd d (OW [] (kks.take i))->(OW [] (kks.take i)).length<=i->Y5 knd s.heap vs kks ->
  (∀ h' tk,(∀ b o,b≠it->b≠d->s.heap.get? b=some o->h'.get? b=some o)->h'.DictOf knd d (OW [] kks)->R (.ok (.ret .none)) { s with heap:=h',toks:=tk }) ->
  UJ (VW prog w) A (.builtin "dict.update.loop" ⟨[.ref d,.ref it,.int i kJ,.none],[]⟩) R s:=by
 intro m
 induction m with
 | zero =>
  intro i kJ s R hm hi aH cX hD _ hp hR;have e:i=vs.length:=by lia
  subst e;refine Dw Xw ?_
  rw[Dx ZL _];unfold Ij.«dict.update.loop»;dsimp only;refine Uj (Um hh aH cX #[2] λh' eb=>?_)
  dsimp only;rw[IL #[0]]at hD
  show VV _ _ (Builtin.Dict.addKeywords d [] >>= _) _ _ _;refine Uj (Ui (Ui (hR h' s.toks (λb o h1 h2 e=>eb b o h1 e) (hD.extBut eb (VR ay)))))
 | succ m ih =>
  intro i kJ s R hm hi aH cX hD lD hp hR;have bx:i < vs.length:=by lia
  obtain⟨k,x,i4⟩:∃ k x,kks[i]?=some (k,x):=⟨_,_,Lq #[0]⟩
  obtain⟨t,key,gf,ht,ap⟩:=hp i k x i4;refine Dw Xw ?_
  rw[Dx ZL _];unfold Ij.«dict.update.loop»;dsimp only;refine Uj (Ul aH cX (x:=.ref t) (by simpa using gf) λh' bA sb=>?_)
  dsimp only;obtain⟨ot,eF,fk,nt,fh⟩:=id ht;have mP:t≠it:=λz=>by
   obtain⟨oi,mQ,mR,_⟩:=aH;rw[z,mQ]at eF;cases eF;rw[mR]at fk;exact absurd (L7 fk) #[1]
  have t_d:t≠d:=λz=>by
   obtain⟨od,_,_,mS,bG,_⟩:=hD;rw[z,mS]at eF;cases eF;have:=bG.1;rw[this]at fk;exact absurd (L7 fk) #[1]
  have i5:h'.get? t=some ot:=(sb.2 t mP).trans eF;have fm:h'.DictOf knd d (OW [] (kks.take i)):=hD.sameBut sb (VR ay);refine Uj (LG (Uj (wpAny_tryCatch ?_)))
  unfold Builtin.Dict.pairItems;refine Uj (Do (T:="tuple") ⟨_,i5,fk⟩ ?_)
  rw[if_pos #[1]]
  refine Uj (Dq i5 fh (Ui ?_))
  show VV _ _ (V6 [key,x] (dictSet d key x)) _ _ _;refine LG (wpAny_dictSet_pairs ap fm (λh2 kK dv=>?_) (VI lD (VI (show i<=1000 by lia) (by rw[UB];decide))))
  have et:OW [] (kks.take (i+1))=stored (OW [] (kks.take i)) k x:=by
   unfold OW;rw[Dy,i4,Di];rfl
  have keep:∀ b o,b≠it->b≠d->s.heap.get? b=some o->h2.get? b=some o:=λb o h1 h2 e=>(dv.2 b h2).trans ((sb.2 b h1).trans e)
  have eG:∀ t' ah,Vs s.heap t' ah->t'≠it/\t'≠d:=λt' ah ⟨o',bu,cZ,_⟩=>by
   constructor
   ·intro z
    obtain⟨oi,mQ,mR,_⟩:=aH;rw[z,mQ]at bu;cases bu;rw[mR]at cZ;exact absurd (L7 cZ) #[1]
   ·intro z
    obtain⟨od,_,_,mS,bG,_⟩:=hD;rw[z,mS]at bu;cases bu;rw[bG.1]at cZ;exact absurd (L7 cZ) #[1]
  refine Ui ⟨Dz ZL _,?_⟩
  refine ih (i+1) _ _ R #[0] #[0] ?_ ?_ (by rw[et];exact kK) ?_ (hp.but (λb=>b≠it/\b≠d) eG λb o hb e=>keep b o hb.1 hb.2 e) λh3 tk fb qj=>?_
  ·obtain⟨o,ho,r⟩:=bA
   exact⟨o,(dv.2 it ay).trans ho,r⟩
  ·obtain⟨o,ho,r⟩:=cX
   exact⟨o,(dv.2 l uG).trans ((sb.2 l mO).trans ho),r⟩
  ·rw[et]
   unfold stored
   split
   ·simp;lia
   ·simp;lia
  ·exact hR h3 tk (λb o h1 h2 e=>fb b o h1 h2 (keep b o h1 h2 e)) qj
theorem Xsb{R:UH->VG->Prop}{D l:Vh}{vs:List Va}{kks:List (K×Va)}{c:Nat}(hh:A.handled=Vo)(cJ:s.heap.DictOf knd D [])(hx:s.heap.get? l=some { cls:=.type "list",dict:=Vo,data:=.seq vs.toArray c,slots:=#[] })(uH:l≠D)(hl:kks.length=vs.length)(hb:vs.length<=1000)(hp:Y5 knd s.heap vs kks)
 (hR:∀ h' tk,(∀ b o,b≠D->s.heap.get? b=some o->h'.get? b=some o)->h'.DictOf knd D (OW [] kks)->R (.ok (.ret .none)) { s with heap:=h',toks:=tk }) :
 VV (VW prog w) A.in1 (Ij.«dict.__init__» ⟨[.ref D,.ref l],[]⟩)
  (λfin s'=>match fin with | .done f=>R (.ok f) s' | .again c'=>c'.quiet=true/\UJ (VW prog w) A c' R s') (λe s'=>R (.error e) s') s:=by
 unfold Ij.«dict.__init__»;refine Uj ?_
 unfold Builtin.Dict.selfAndRest;refine Uj (wpAny_notOrdered_dict cJ.typeIs ?_)
 show VV _ _ (pure (D,[Vk l])) _ _ _;refine Ui ?_
 show VV _ _ (Builtin.Dict.updateFrom "dict.__init__" D (.ref l) [] .none) _ _ _;unfold Builtin.Dict.updateFrom;refine Uj (Do (T:="list") ⟨_,hx,rfl⟩ ?_)
 rw[if_pos #[1]]
 obtain⟨i6,g,dr,kJ,os⟩:=s;refine Uj (J7a (A:=A.in1) hh hx λh1 mT keep=>?_)
 rw[if_pos #[1]]
 refine Uj (IW ?_)
 have gX:=keep l _ hx;have eI:h1.IsList l vs.toArray:=⟨_,gX,rfl,c,rfl⟩;refine Uj (Uq (s:=⟨h1,g,dr,mT,os⟩) eI ?_)
 have kp:∀ b o,i6.get? b=some o->(h1.push { cls:=.type "list_iterator",data:=.fields #[.ref l,.int 0 0] }).get? b=some o:=λb o e=>Ur _ (keep b o e)
 have gJ:∀ b o,i6.get? b=some o->b < h1.objs.size:=λb o e=>Vx (keep b o e)
 have kK:(h1.push { cls:=.type "list_iterator",data:=.fields #[.ref l,.int 0 0] }).DictOf knd D []:=let ⟨o,es,ep,ho,r⟩:=cJ;⟨o,es,ep,kp D o ho,r⟩
 have uI:D < h1.objs.size:=by obtain⟨o,_,_,ho,_⟩:=cJ;exact gJ D o ho
 refine Ui ⟨Dz ZL _,?_⟩
 refine J8a (knd:=knd) (A:=A) (it:=h1.objs.size) (l:=l) (d:=D) (vs:=vs) (kks:=kks) hh hl hb (Ud uI) uH (VA (gJ l _ hx)) vs.length 0 _ _ R #[0] (Ux _) ⟨_,Us _ rfl,rfl,rfl⟩ ⟨_,kp l _ hx,rfl,c,rfl⟩ kK (Ux _) (hp.but (λ_=>True) (λ_ _ _=>trivial) λb o _ e=>kp b o e) λh' tk hk fm=>?_
 exact hR h' tk (λb o hb e=>hk b o (VA (gJ b o e)) hb (kp b o e)) fm
theorem Xtb{Q:YQ_}{l:Vh}{vs:List Va}{kks:List (K×Va)}{c:Nat}(hh:A.handled=Vo)(hx:s.heap.get? l=some { cls:=.type "list",dict:=Vo,data:=.seq vs.toArray c,slots:=#[] })(hl:kks.length=vs.length)(hb:vs.length<=1000)(hp:Y5 knd s.heap vs kks)
 (h:∀ h' tk,(∀ b o,s.heap.get? b=some o->h'.get? b=some o)->h'.DictOf knd s.heap.objs.size (OW [] kks)->Q (.ref s.heap.objs.size) { s with heap:=h',toks:=tk }) :
 VV (VW prog w) A (Uy (.type "dict") [.ref l]) Q E s:=by
 refine callType_codes (Q₁:=λobj s₁=>obj=.ref s.heap.objs.size/\s₁={ s with heap:=s.heap.push { cls:=.type "dict",data:=.dict #[] } }) F.kt_called_dict (F.kt_typeCall_dict_1 _) F.entry_dict_init (kt_code_dict_new _ ⟨rfl,rfl⟩) λobj s₁ h₁=>?_
 obtain⟨rfl,rfl⟩:=h₁;have cJ:(s.heap.push { cls:=.type "dict",data:=.dict #[] }).DictOf knd s.heap.objs.size []:=Heap.DictOf.new s.heap;have aA:l < s.heap.objs.size:=Vx hx;refine⟨cJ.typeIs,F.args_dict_init_2 _ _,Xsb (A:=A.in1) (knd:=knd) hh cJ (Ur _ hx) (VA aA) hl hb (hp.but (λ_=>True) (λ_ _ _=>trivial) λb o _ e=>Ur _ e) λh' tk hk fm=>?_⟩
 exact⟨rfl,h h' tk (λb o e=>hk b o (VA (Vx e)) (Ur _ e)) fm⟩
end
def XDc:List V->Hp->VK->Prop:=λxs H Q=>∃ (p:Vh) (ys:List V) (ae:List (Key×V)),xs=[.ref p]/\H p=some (.lst ys)/\ys.length<=1000/\Vm (λ(kv:Key×V) y=>∃ t,y=.ref t/\H t=some (.tup [kV kv.1,kv.2])) ae ys/\∀ D,H D=Vo->Q (.ref D) (upd H D (.dK (Ym [] ae)))
theorem Zlb{X:Cx}{aa:YP_}{σ:St}{H:Hp}{s:VG}(I:Inv X aa σ H s):∀ {ae:List (Key×V)} {ys:List V} {ah:List Va},Vm (λ(kv:Key×V) y=>∃ t,y=V.ref t/\H t=some (.tup [kV kv.1,kv.2])) ae ys->Qt ys ah ->
 ∃ kks:List (Key×Va),KV ae kks/\Y5 (QA X.prog X.w) s.heap ah kks
 | [],_,_,.nil,v=>by cases v;exact⟨[],.nil,λi k x e=>by simp at e⟩
 | kv::ae,_,_,.cons r p,v=>by
  cases v with
  | cons rv v =>
   obtain⟨t,rfl,ht⟩:=r;obtain⟨kks,a,b⟩:=Zlb I p v;cases rv;obtain⟨hz,jts,rj,hj⟩:=(show QC X.prog X.w H s.heap t (.tup [kV kv.1,kv.2]) from I.hok t _ ht)
   cases rj with
   | @cons _ key _ _ r1 rj =>
   cases rj with
   | @cons _ x _ _ r2 rj =>
   cases rj;refine⟨(kv.1,x)::kks,.cons ⟨rfl,r2⟩ a,λi k y e=>?_⟩
   cases i with
   | zero =>
    simp at e;obtain⟨rfl,rfl⟩:=e;exact⟨t,key,rfl,hj,(Yqb r1).1⟩
   | succ i =>
    simp at e;obtain⟨t',mU,h1,h2,h3⟩:=b i k y e;exact⟨t',mU,by simpa using h1,h2,h3⟩
theorem QOa{X:Cx}(hh:X.A.handled=Vo):XB X (.type "dict") XDc:=by
 intro aa s σ H xs us Q I r h;obtain⟨p,ys,ae,rfl,hp,lz,pr,q⟩:=h;obtain⟨u,rfl,ru⟩:=Qqa r;obtain rfl:u=Vk p:=ru;obtain⟨hz,ah,n,rv,hx⟩:=(show QC X.prog X.w H s.heap p (.lst ys) from I.hok p _ hp)
 obtain⟨kks,kv,pa⟩:=Zlb I pr rv;have l1:=Vn pr;have l2:=rv.length;have l3:=kv.length;refine Xtb (knd:=QA X.prog X.w) hh hx #[0] #[0] pa λh' tk kp hD=>?_
 have uJ:(Ym [] ae).length<=Vr:=by
  have h1:=Qta ae [];rw[ON]at h1;rw[UB];lia
 exact⟨.ref s.heap.objs.size,_,I.laid (a:=s.heap.objs.size) (o:=.dK (Ym [] ae)) (t':=tk) kp (Ut _) ⟨uJ,beq_eq_false_iff_ne.mpr (VR (VA I.big)),_,kv.merge .nil,hD⟩,rfl,q _ (I.hok.fresh (Ut _))⟩
def XEc:List V->Hp->VK->Prop:=λxs H Q=>∃ d ae,xs=[.ref d]/\H d=some (.dK ae)/\ae.length<=1000/\∀ D,H D=Vo->Q (.ref D) (upd H D (.lst (ae.map λp=>kV p.1)))
theorem J9a{X:Cx}(hh:X.A.handled=Vo):XB X (.type "list") XEc:=by
 intro aa s σ H xs us Q I r h;obtain⟨d,ae,rfl,hd,hl,q⟩:=h;obtain⟨u,rfl,ru⟩:=Qqa r;obtain rfl:u=Vk d:=ru;obtain⟨z,y,vs,rv,o,es,ep,e0,c1,c2,c3⟩:=(show QC X.prog X.w H s.heap d (.dK ae) from I.hok d _ hd)
 have da:s.heap.DictAt (QA X.prog X.w) d vs ep:=⟨o,es,e0,c1,c2,c3⟩;refine kdl_call (kdl_dict (knd:=QA X.prog X.w) (ep:=ep) y) hh da (by rw[<- rv.len];exact VJ (Qw #[0])) λh' tk az c kp hD eJ=>?_
 exact⟨.ref s.heap.objs.size,_,I.laid (t':=tk) kp (Ut _) (show QC X.prog X.w _ h' _ (.lst (ae.map λp=>kV p.1)) from⟨by rw[UO];exact VJ (Qw #[0]),az.toList,c,Xqb rv eJ,by simpa using hD⟩),rfl,q _ (I.hok.fresh (Ut _))⟩
theorem Qeb:VE "dict"=some (.type "dict"):=by rfl
section
variable{prog:Vg}{w:Vb}{A:VF}{E:YQ_}{h:Vp}{g:Array VP}{d:VQ}{t:Nat}{os:OsState}{a:Vh}{ah:Array Va}{c:Nat}{sl:Array (Option Va)}
end
section
variable{prog:Vg}{w:Vb}{K:Type}[DecidableEq K]{knd:KeyKind prog w K}{A:VF}{E:YQ_}{s:VG}
end
theorem Zh{α β:Type}{F:α->β->Prop}:∀ {a:List α} {b:List β} {c:List α} {d:List β},Vm F a b->Vm F c d->Vm F (a++c) (b++d)
 | _,_,_,_,.nil,h=>h
 | _,_,_,_,.cons r t,h=>.cons r (Zh t h)
def Ris(xs:Array Nat):Prop:=xs.toList.Pairwise (· < ·)
theorem Ris.lt{xs:Array Nat}(h:Ris xs){i j x y:Nat}(cr:i < j)(hx:xs[i]?=some x)(hy:xs[j]?=some y):x < y:=by
 rw[<- OE]at hx hy
 obtain⟨h1,e1⟩:=List.getElem?_eq_some_iff.mp hx
 obtain⟨h2,e2⟩:=List.getElem?_eq_some_iff.mp hy
 rw[<- e1,<- e2];exact pairwise_iff_getElem.mp h i j h1 h2 cr
theorem Zmc{xs:Array Nat}(h:Ris xs)(j:Nat):∀ (av lo hi:Nat),lo<=hi->hi<=xs.size->hi - lo<=av->(∀ i x,i < lo->xs[i]?=some x->x < j)->(∀ i x,hi<=i->xs[i]?=some x->j<=x) ->
 lo<=DA xs j av lo hi/\DA xs j av lo hi<=hi/\(∀ i x,i < DA xs j av lo hi->xs[i]?=some x->x < j)/\(∀ i x,DA xs j av lo hi<=i->xs[i]?=some x->j<=x):=by
 intro av
 induction av with
 | zero =>
  intro lo hi h1 h2 h3 a b;have e:lo=hi:=by lia
  subst e;exact⟨Ut _,Ut _,a,b⟩
 | succ av ih =>
  intro lo hi h1 h2 h3 a b;unfold DA
  by_cases hl:lo < hi
  ·rw[if_pos hl]
   dsimp only;have hm:(lo+hi) / 2 < xs.size:=by lia
   have gm:xs[(lo+hi) / 2]?=some xs[(lo+hi) / 2]:=DB hm
   have gd:xs.getD ((lo+hi) / 2) j=xs[(lo+hi) / 2]:=by simp[Array.getD,hm]
   rw[gd]
   split
   ·rename_i aA
    have r:=ih ((lo+hi) / 2+1) hi #[0] h2 #[0] (λi x bx hx=>by
     rcases DC i ((lo+hi) / 2) with q | q
     ·exact Nat.lt_trans (h.lt q hx gm) aA
     ·have:i=(lo+hi) / 2:=by lia
      subst this;rw[gm]at hx;cases hx;exact aA) b
    exact⟨by lia,r.2.1,r.2.2⟩
   ·rename_i hge
    have r:=ih lo ((lo+hi) / 2) #[0] #[0] #[0] a (λi x bx hx=>by
     rcases DC ((lo+hi) / 2) i with q | q
     ·have:=h.lt q gm hx;lia
     ·have:i=(lo+hi) / 2:=by lia
      subst this;rw[gm]at hx;cases hx;lia)
    exact⟨r.1,by lia,r.2.2⟩
  ·rw[if_neg hl]
   have e:lo=hi:=by lia
   subst e;exact⟨Ut _,Ut _,a,b⟩
theorem Yaa{xs:Array Nat}(h:Ris xs)(j:Nat):DD xs j<=xs.size/\(∀ i x,i < DD xs j->xs[i]?=some x->x < j)/\(∀ i x,DD xs j<=i->xs[i]?=some x->j<=x):=by
 have r:=Zmc h j xs.size 0 xs.size (Ux _) (Ut _) #[0] (λi x hi _=>absurd hi (Nat.not_lt_zero _)) (λi x hi hx=>by
  rw[DE hi]at hx;cases hx)
 exact r.2
theorem Jpb{xs:Array Nat}(h:Ris xs):DD xs 0=0:=by
 obtain⟨a,b,_⟩:=Yaa h 0
 rcases Nat.eq_zero_or_pos (DD xs 0) with e | e
 ·exact e
 ·have:=b 0 xs[0] e (DB #[0]);lia
theorem Jqb{xs:Array Nat}(h:Ris xs){i x:Nat}(hx:xs[i]?=some x):DD xs (x+1)=i+1:=by
 obtain⟨a,b,c⟩:=Yaa h (x+1)
 rcases DC i (DD xs (x+1)) with q | q
 ·rcases DC (i+1) (DD xs (x+1)) with r | r
  ·have hi:i+1 < xs.size:=by lia
   have g:=DB hi
   have h1:=b (i+1) _ r g;have h2:=h.lt (UR i) hx g
   lia
  ·lia
 ·have:=c i x q hx;lia
theorem Jrb{xs:Array Nat}(h:Ris xs){j:Nat}(hn:xs[DD xs j]?≠some j):Ris (SetTable.insertAt xs (DD xs j) j):=by
 obtain⟨a,b,c⟩:=Yaa h j;unfold Ris;rw[SetTable.toList_insertAt];refine pairwise_append.mpr ⟨h.sublist (Ol _ _),pairwise_cons.mpr ⟨λy hy=>?_,h.sublist (drop_sublist _ _)⟩,λx hx y hy=>?_⟩
 ·obtain⟨k,hk,e⟩:=mem_iff_getElem.mp hy
  rw[getElem_drop]at e;have g:xs[DD xs j+k]?=some y:=by rw[<- OE,Lq (by rw[Ov]at hk;lia),e]
  have h1:=c _ _ (Nat.le_add_right _ _) g
  rcases DC j y with q | q
  ·exact q
  ·exfalso
   have ey:y=j:=by lia
   subst ey;cases k with
   | zero=>exact hn g
   | succ k =>
    have hb:DD xs y < xs.size:=by rw[Ov,V7]at hk;lia
    have g0:=DB hb
    have h2:=c _ _ (Ut _) g0;have h3:=h.lt (show DD xs y < DD xs y+(k+1) by lia) g0 g
    lia
 ·obtain⟨k,hk,e⟩:=mem_iff_getElem.mp hx
  rw[getElem_take]at e;rw[Of]at hk;have g:xs[k]?=some x:=by rw[<- OE,Lq #[0],e]
  have h1:=b k x #[0] g
  rcases mem_cons.mp hy with q | q
  ·rw[q];exact h1
  ·obtain⟨k',cy,e'⟩:=mem_iff_getElem.mp q
   rw[getElem_drop]at e';have g':xs[DD xs j+k']?=some y:=by rw[<- OE,Lq (by rw[Ov]at cy;lia),e']
   exact h.lt #[0] g g'
structure TbG(led:Bool)(t:DF):Prop where
 led_:t.led=led
 ris:Ris t.place
theorem TbG.fresh(led:Bool):TbG led (.fresh 0 0 led):=⟨rfl,Ir⟩
theorem TbG.standIn{led:Bool}{t:DF}(h:TbG led t)(n:Nat):TbG led (t.standIn n):=⟨h.led_,by
 show(Array.range n).toList.Pairwise (· < ·);rw[Array.toList_range];exact pairwise_lt_range⟩
theorem TbG.plainOff{led:Bool}{t:DF}(h:TbG led t):TbG led { t with plain:=false }:=⟨h.led_,h.ris⟩
theorem Ywb{t:DF}{j:Nat}(h:t.slot j=.empty\/t.slot j=.dummy):t.place[DD t.place j]?≠some j:=λz=>by
 unfold SetTable.slot at h;dsimp only at h;rw[if_pos (by simp[z])]at h
 rcases h with h | h <;> cases h
theorem Znc{t:DF}(CN:Nat->Int)(h:Int):∀ (av:Nat) (p:SetTable.Probe) {j:Nat} {d:Option Nat},(∀ j,p.dummy=some j->t.slot j=.dummy)->SetTable.probe.go t CN h av p=some (.empty j d)->t.slot j=.empty/\∀ j,d=some j->t.slot j=.dummy:=by
 intro av
 induction av with
 | zero=>intro p j d _ e;cases e
 | succ av ih =>
  intro p j d hp e;have ad:∀ q:SetTable.Probe,(t.advance q).dummy=q.dummy:=λq=>by unfold SetTable.advance;split <;> rfl
  unfold SetTable.probe.go at e
  split at e
  ·rename_i hs
   cases e;exact⟨hs,hp⟩
  ·rename_i hs
   exact ih _ (λj z=>by rw[ad]at z;cases z;exact hs) e
  ·split at e
   ·cases e
   ·exact ih _ (λj z=>hp j (by rw[ad]at z;exact z)) e
theorem JRc{t:DF}{h:Int}{j:Nat}{b:Bool}(e:t.freeSlot h=some (j,b)):t.place[DD t.place j]?≠some j:=by
 unfold SetTable.freeSlot at e
 split at e
 ·rename_i j' d he
  have r:=Znc _ _ _ _ (λj z=>by cases z) he
  cases d with
  | none=>cases e;exact Ywb (.inl r.1)
  | some d=>cases e;exact Ywb (.inr (r.2 _ rfl))
 ·cases e
theorem TbG.layNew{led:Bool}{t:DF}(g:TbG led t)(es:Array (Int×Va))(h:Int)(x:Va):TbG led (layNew t es h x).2.1:=by
 unfold PySem.layNew
 split
 ·rename_i slot wd he
  have hf:=JRc he;dsimp only;have g1:TbG led (t.put slot).1:=by
   exact⟨g.led_,Jrb g.ris hf⟩
  unfold SetTable.orStandIn
  split
  ·exact g1
  ·exact g1.standIn _
 ·exact g.standIn _
theorem TbG.relay{led:Bool}{t:DF}(g:TbG led t)(es:Array (Int×Va))(n:Nat):TbG led (relayAll t es n).2.1:=by
 unfold relayAll
 split
 ·rename_i t' order he
  dsimp only
  split
  ·unfold SetTable.relaid SetTable.laid at he
   cases ho:SetTable.layClean (SetTable.sizeAbove n - 1) (es.map (·.1)) with
   | none=>rw[ho]at he;cases he
   | some owner =>
    rw[ho]at he;cases he;refine⟨g.led_,?_⟩
    show List.Pairwise _ _;dsimp only;rw[DG];exact List.Pairwise.filterMap _ (λa a' mV b hb b' bE=>by
     simp only[DH]at hb bE;obtain⟨_,_,rfl⟩:=hb;obtain⟨_,_,rfl⟩:=bE;exact mV) pairwise_lt_range
  ·exact g.standIn _
 ·exact g.standIn _
section
variable{prog:Vg}{w:Vb}{K:Type}[DecidableEq K]{knd:KeyKind prog w K}{A:VF}{E:YQ_}{s:VG}
def QJ(w:Vb):Bool:=!w.params.followText "set-order"
def YPa(knd:KeyKind prog w K)(k:K)(e:Int×Va):Prop:=(knd.is k e.2=true/\e.1=knd.hash k)/\e.2.scannable=true
def Q1(knd:KeyKind prog w K)(h:Vp)(a:Vh)(ks:List K):Prop :=
 ∃ o es ep t js,h.get? a=some o/\o.ExactSet/\o.data=.set es ep t/\TbG (QJ w) t/\t.fits es.size=true/\es.size < DI/\Vm (YPa knd) js es.toList/\js.Perm ks
theorem Q1.keep{h1 h2:Vp}{a:Vh}{ks:List K}(x:Q1 knd h1 a ks)(e:∀ o,h1.get? a=some o->h2.get? a=some o):Q1 knd h2 a ks :=
 let ⟨o,es,ep,t,js,g,r⟩:=x;⟨o,es,ep,t,js,e o g,r⟩
theorem Zka:∀ {js:List K} {l:List (Int×Va)},Vm (YPa knd) js l->ElemsOf knd l
 | _,_,.nil=>λe he=>nomatch he
 | _,_,.cons r t=>λe he=>by
  rcases mem_cons.mp he with z | z
  ·rw[z];exact⟨⟨_,r.1⟩,r.2⟩
  ·exact Zka t e z
theorem Yba:∀ {js:List K} {l:List (Int×Va)},Vm (YPa knd) js l->∀ k,k∈js↔∃ e∈l,knd.is k e.2=true
 | _,_,.nil,k=>by simp
 | _,_,@Paired.cons _ _ _ k0 e0 _ _ r t,k=>by
  rw[Dh,Yba t k]
  constructor
  ·rintro(z | ⟨e,he,q⟩)
   ·exact⟨e0,VM,by rw[z];exact r.1.1⟩
   ·exact⟨e,VN _ he,q⟩
  ·rintro⟨e,he,q⟩
   rcases mem_cons.mp he with z | z
   ·subst z;exact .inl (knd.inj _ _ _ q r.1.1)
   ·exact .inr ⟨e,z,q⟩
theorem JT{α β:Type}{F:α->β->Prop}{l l':List β}(p:l'.Perm l):∀ {js:List α},Vm F js l->∃ bF,Vm F bF l'/\bF.Perm js:=by
 induction p with
 | nil=>intro js h;exact⟨js,h,.refl _⟩
 | cons x _ ih =>
  intro js h;cases h with
  | cons r t=>obtain⟨bF,a,b⟩:=ih t;exact⟨_::bF,.cons r a,b.cons _⟩
 | swap x y l =>
  intro js h;cases h with
  | cons r t =>
   cases t with
   | cons r2 t2=>exact⟨_,.cons r2 (.cons r t2),Li _ _ _⟩
 | trans _ _ ih1 ih2 =>
  intro js h;obtain⟨j1,a,b⟩:=ih2 h;obtain⟨j2,c,d⟩:=ih1 a;exact⟨j2,c,d.trans b⟩
theorem YM{h:Vp}{a:Vh}{o:Obj}{es:Array (Int×Va)}{ep:Nat}{t:DF}{ks:List K}(q:h.get? a=some o)(ex:o.ExactSet)(dd:o.data=.set es ep t)
 {es':Array (Int×Va)} {t':DF} {js:List K} (pr:Vm (YPa knd) js es'.toList) (pm:js.Perm ks) (sb:es'.size < DI) (ft:t'.fits es'.size=true) (tg:TbG (QJ w) t') :
 (h.update a (DJ es' t')).get? a=some { o with data:=.set es' (ep+1) t' }/\Q1 knd (h.update a (DJ es' t')) a ks:=by
 have g:(h.update a (DJ es' t')).get? a=some { o with data:=.set es' (ep+1) t' }:=by
  have z:=LO (DJ es' t') q (by rw[putSet_of es' t' dd];rfl)
  rw[putSet_of es' t' dd]at z;exact z
 exact⟨g,_,es',ep+1,t',js,g,ex,rfl,tg,ft,sb,pr,pm⟩
theorem Yxb{g:Bool->Sem Unit}(hg:∀ (b:Bool) (s₁:VG) (Q':Unit->VG->Prop),Q' () s₁->VV (VW prog w) A (g b) Q' E s₁)
 {a:Vh} {o:Obj} {es:Array (Int×Va)} {ep:Nat} {t:DF} (q:s.heap.get? a=some o) (ex:o.ExactSet) (dd:o.data=.set es ep t)
 {aE:Array (Int×Va)} {t2:DF} {js ks:List K} (pr:Vm (YPa knd) js aE.toList) (pm:js.Perm ks) (tg:TbG (QJ w) t2)
 (sb:aE.size < DI) (ft:t2.fits aE.size=true) {dw:Bool} {R:Option Bool->VG->Prop}
 (h:∀ h',VU a s.heap h'->Q1 knd h' a ks->R (some true) { s with heap:=h' }) :
 VV (VW prog w) A (do
  storeSet a aE t2
  if (!dw && t2.tooFull)=true then do
      g (relayAll t2 aE (DK aE.size)).2.2
      storeSet a (relayAll t2 aE (DK aE.size)).1 (relayAll t2 aE (DK aE.size)).2.1
      pure (some true)
   else pure (some true)) R E s:=by
 refine Uj (DL q dd ?_ (DM sb))
 obtain⟨q1,S1⟩:=YM (knd:=knd) q ex dd pr pm sb ft tg;have k1:=Lv s.heap a (DJ aE t2)
 split
 ·have pp:=relayAll_perm t2 aE (DK aE.size)
  have ff:=relayAll_fits t2 aE (DK aE.size);have gg:=tg.relay aE (DK aE.size);generalize relayAll t2 aE (DK aE.size)=Z at pp ff gg ⊢;obtain⟨bj,t3,gv⟩:=Z;dsimp only at pp ff gg ⊢;obtain⟨bF,fq,dL⟩:=JT pp pr;have hsz:bj.size=aE.size:=by rw[<- V7,pp.length_eq,V7]
  refine Uj (hg _ _ _ ?_)
  refine Uj (DL q1 rfl ?_ (DM (by rw[hsz];exact sb)))
  obtain⟨_,S2⟩:=YM (knd:=knd) q1 ex rfl fq (dL.trans pm) (by rw[hsz];exact sb) ff gg
  exact Ui (h _ (k1.trans (Lv _ a _)) S2)
 ·exact Ui (h _ k1 S1)
theorem Zoc{a:Vh}{ks:List K}{k:K}{x:Va}{Q:Bool->VG->Prop}(ap:knd.is k x=true)(sc:x.scannable=true)(S:Q1 knd s.heap a ks)(room:ks.length+1 < DI)
 (h:∀ h' b,VU a s.heap h'->Q1 knd h' a (if k∈ks then ks else ks++[k])->Q b { s with heap:=h' }) :
 VV (VW prog w) A (setAddHashed a x (knd.hash k)) Q E s:=by
 obtain⟨o,es,ep,t,js,q,ex,dd,tg,ft,sb,pr,pm⟩:=S;have el:ElemsOf knd es.toList:=Zka pr;have lj:js.length=es.size:=by rw[Vn pr,V7]
 have lp:=pm.length_eq;unfold setAddHashed setAddHashedIn;refine LG (Uj (DN q dd ft ?_))
 dsimp only;rw[byScan_of sc sb el];simp only[↓reduceIte];unfold setAddByScan;refine Uj (Uj (IW (Uj (wpAny_setScan_of ap q dd ft el ?_))))
 cases hr:List.findIdx? (λe=>knd.is k e.2) es.toList with
 | some j =>
  dsimp only;obtain⟨hj,pj,_⟩:=findIdx?_eq_some_iff_getElem.mp hr
  have mk:k∈ks:=pm.mem_iff.mp ((Yba pr k).mpr ⟨es.toList[j],Lo hj,pj⟩);refine Ui (Ui ?_)
  have e:s={ s with heap:=s.heap }:=by cases s;rfl
  have z:=h s.heap false (DO a s.heap);rw[if_pos mk]at z;rw[e];exact z ⟨o,es,ep,t,js,q,ex,dd,tg,ft,sb,pr,pm⟩
 | none =>
  dsimp only;have nk:k∉ks:=λmk=>by
   obtain⟨e,he,pe⟩:=(Yba pr k).mp (pm.mem_iff.mpr mk);have z:=findIdx?_eq_none_iff.mp hr e he
   rw[pe]at z;cases z
  rw[if_neg nk]at h;have gw:∀ (b:Bool) {s₁:VG} {Q':Unit->VG->Prop},Q' () s₁->VV (VW prog w) A (match b with | true=>rule "set.scan.the-table-gave-way" | false=>pure ()) Q' E s₁ :=
   λb s₁ Q' z=>by cases b;exact Ui z;exact IW z
  have pp:=layNew_perm t es (knd.hash k) x;have ff:=layNew_fits t es (knd.hash k) x;have gg:=tg.layNew es (knd.hash k) x;generalize layNew t es (knd.hash k) x=Z at pp ff gg ⊢;obtain⟨aE,t1,wd,gv⟩:=Z;dsimp only at pp ff gg ⊢;rw[IU]at pp;obtain⟨bF,fq,dL⟩:=JT pp (Zh pr (.cons ⟨⟨ap,rfl⟩,sc⟩ .nil:Vm (YPa knd) [k] [(knd.hash k,x)]));have cY:bF.Perm (ks++[k]):=dL.trans (pm.append_right _);have sz:aE.size=es.size+1:=by rw[<- V7,pp.length_eq,On,V7];rfl
  have gW:aE.size < DI:=by rw[sz,<- lj,lp];exact room
  refine Uj (gw _ ?_)
  split
  ·refine Uj ?_
   rw[hashByValue_scannable 8 sc];refine Ui (Yxb (λb s₁ Q' z=>gw b z) q ex dd fq cY ?_ gW ?_ ?_)
   ·split
    ·exact gg
    ·exact gg.plainOff
   ·split
    ·exact ff
    ·exact SetTable.fits_plain_off ff
   ·intro h' kb S';dsimp only;exact Ui (h h' _ kb S')
  ·refine Uj (Ui ?_)
   simp only[↓reduceIte];refine Yxb (λb s₁ Q' z=>gw b z) q ex dd fq cY gg gW ff ?_
   intro h' kb S';dsimp only;exact Ui (h h' _ kb S')
theorem Yca{it l a:Vh}{vs:List Va}{ks:List K}(hh:A.handled=Vo)(hl:ks.length=vs.length)(hk:∀ (i:Nat) k v,ks[i]?=some k->vs[i]?=some v->knd.is k v=true/\v.scannable=true)(hb:vs.length+1 < DI)(ay:it≠a)(uK:l≠a)(mO:l≠it) :
 ∀ (m i:Nat) (s:VG) (R:UH->VG->Prop),m=vs.length - i->i<=vs.length->s.heap.IsListIter it l i->s.heap.IsList l vs.toArray->Q1 knd s.heap a (ZU (ks.take i)) ->
  (∀ h' tk,(∀ b o,b≠it->b≠a->s.heap.get? b=some o->h'.get? b=some o)->Q1 knd h' a (ZU ks)->R (.ok (.ret .none)) { s with heap:=h',toks:=tk }) ->
  UJ (VW prog w) A (.builtin "set.update.loop" ⟨[.ref a,.ref it],[]⟩) R s:=by
 intro m
 induction m with
 | zero =>
  intro i s R hm hi aH cX hS hR;have e:i=vs.length:=by lia
  subst e;refine Dw XL ?_
  rw[Dx J4 _];unfold Ij.«set.update.loop»;dsimp only;refine Uj (Um hh aH cX #[2] λh' eb=>?_)
  dsimp only;rw[IL #[0]]at hS
  refine Ui (hR h' s.toks (λb o h1 h2 e=>eb b o h1 e) ?_)
  exact hS.keep λo e=>eb a o (VR ay) e
 | succ m ih =>
  intro i s R hm hi aH cX hS hR;have bx:i < vs.length:=by lia
  obtain⟨k,i4⟩:∃ k,ks[i]?=some k:=⟨_,Lq #[0]⟩
  have gf:vs[i]?=some vs[i]:=Lq bx
  obtain⟨ap,uL⟩:=hk i k _ i4 gf;refine Dw XL ?_
  rw[Dx J4 _];unfold Ij.«set.update.loop»;dsimp only;refine Uj (Ul aH cX (x:=vs[i]) (by simp[bx]) λh' bA sb=>?_)
  dsimp only;have aS:Q1 knd h' a (ZU (ks.take i)):=hS.keep λo e=>(sb.2 a (VR ay)).trans e
  have i7:h'.IsList l vs.toArray:=by
   obtain⟨o,ho,r⟩:=cX;exact⟨o,(sb.2 l mO).trans ho,r⟩
  unfold setAdd;refine Uj (LG (LG (Uj (knd.pyHash ap ?_))))
  have hn:(ZU (ks.take i)).length+1 < DI:=by
   have:=ZOa (ks.take i);rw[Of]at this
   lia
  refine Zoc (s:={ s with heap:=h',toks:=s.toks+1 }) ap uL aS hn λh2 _ dv aW=>?_
  have et:ks.take (i+1)=ks.take i++[k]:=by rw[Dy,i4];rfl
  refine Ui ⟨Dz J4 _,ih (i+1) _ R #[0] #[0] ?_ ?_ ?_ λh3 tk fb bq=>?_⟩
  ·obtain⟨o,ho,r⟩:=bA
   exact⟨o,(dv.2 it ay).trans ho,r⟩
  ·obtain⟨o,ho,r⟩:=i7
   exact⟨o,(dv.2 l uK).trans ho,r⟩
  ·rw[et,QKa];exact aW
  ·exact hR h3 tk (λb o h1 h2 e=>fb b o h1 h2 ((dv.2 b h2).trans ((sb.2 b h1).trans e))) bq
theorem YQa(a:Va){Q₁:YQ_}
 (h:Q₁ (.ref s.heap.objs.size) { s with heap:=s.heap.push { cls:=.type "set",dict:=Vo,data:=.set #[] 0 (.fresh 0 0 (QJ w)) } }) :
 UJ (VW prog w) A (.call (.builtin "set.__new__") ⟨[.type "set",a],[]⟩) (wants Q₁ E) s:=by
 refine codeAny_of_tree ?_
 show VV _ A.in1 (do De "set.__new__" ⟨[.type "set",a],[]⟩;again (.builtin "set.__new__" ⟨[.type "set",a],[]⟩)) _ _ s
 refine Uj (wpAny_of_eq (YNa a) (Ui ⟨Dz F.plain_set_new _,Dw F.entry_set_new ?_⟩))
 rw[Dx F.plain_set_new _];unfold Ij.«set.__new__» Builtin.Frozenset.newClass;have mW:=Dl;obtain⟨hp,g,d,tk,os⟩:=s;dsimp only
 wp_walk
 refine DP (Ui ?_)
 dsimp only;simp only[newObj];refine Uj (wpAny_alloc (Ui ?_))
 exact Ui h
theorem Xub{l:Vh}{vs:List Va}{ks:List K}{Q:YQ_}(hh:A.handled=Vo)(cX:s.heap.IsList l vs.toArray)(hl:ks.length=vs.length)(hk:∀ (i:Nat) k v,ks[i]?=some k->vs[i]?=some v->knd.is k v=true/\v.scannable=true)(hb:vs.length+1 < DI)
 (h:∀ h' tk,(∀ b o,s.heap.get? b=some o->h'.get? b=some o)->Q1 knd h' s.heap.objs.size (ZU ks)->Q (.ref s.heap.objs.size) { s with heap:=h',toks:=tk }) :
 VV (VW prog w) A (Uy (.type "set") [.ref l]) Q E s:=by
 obtain⟨c,tl,hmro⟩:=F.called_set.mro;have hmade:=F.called_set.made;have mW:=F.called_set.sub;refine U1 (codeAny_of_tree ?_)
 show VV _ _ (callAny (.type "set") _) _ _ _;refine Ui ⟨Code.quiet_builtin _ (by decide +kernel),Dw F.entry_type_call ?_⟩
 rw[Around.under_plain (weight_type_call_type "set" [.ref l] []) rfl];have h1:=F.called_set.notType;have h2:=F.called_set.canCreate;have fk:=J2a (.ref l)
 repeat (any_goals (first | assumption | wp_step))
 refine U2 (YQa (.ref l) (E:=E) (Q₁:=λobj s₁=>obj=.ref s.heap.objs.size/\s₁={ s with heap:=s.heap.push { cls:=.type "set",dict:=Vo,data:=.set #[] 0 (.fresh 0 0 (QJ w)) } }) ⟨rfl,rfl⟩) λr s₁ hr=>?_
 cases r with
 | error e=>exact hr
 | ok fl =>
  cases fl with
  | ret obj =>
   obtain⟨rfl,rfl⟩:=hr;have hS:(s.heap.push { cls:=.type "set",dict:=Vo,data:=.set #[] 0 (.fresh 0 0 (QJ w)) }).get? s.heap.objs.size=some { cls:=.type "set",dict:=Vo,data:=.set #[] 0 (.fresh 0 0 (QJ w)) }:=Us _ rfl
   have hT:Shared.TypeIs { s with heap:=s.heap.push { cls:=.type "set",dict:=Vo,data:=.set #[] 0 (.fresh 0 0 (QJ w)) } } (.ref s.heap.objs.size) "set":=⟨_,hS,rfl⟩
   have i7:=F.called_set.init.lookup;have hbi:=F.called_set.init.bind (.ref s.heap.objs.size)
   repeat (any_goals (first | assumption | wp_step))
   refine U2 (LY (R:=wants (λr s₂=>r=.none/\Q (.ref s.heap.objs.size) s₂) E) F.called_set.init.plain F.entry_set_init (Jha hT ?_)) λr₂ s₂ mX=>?_
   ·unfold Ij.«set.__init__» noKeywords
    have aA:l < s.heap.objs.size:=by obtain⟨o,ho,_⟩:=cX;exact Vx ho
    have eI:(s.heap.push { cls:=.type "set",dict:=Vo,data:=.set #[] 0 (.fresh 0 0 (QJ w)) }).IsList l vs.toArray:=by obtain⟨o,ho,r⟩:=cX;exact⟨o,Ur _ ho,r⟩
    have qk:Shared.TypeIs { s with heap:=s.heap.push { cls:=.type "set",dict:=Vo,data:=.set #[] 0 (.fresh 0 0 (QJ w)) } } (.ref l) "list":=eI.typeIs
    unfold Builtin.Frozenset.updateFrom DQ
    wp_walk
    refine wpAny_of_eq X9a ?_
    show VV _ _ (LZ (Vk l) (Vl "frozenset")) _ _ _;refine Dk qk YOa ?_
    rw[if_neg Uc];refine Uj (Do qk ?_)
    rw[if_neg #[1]]
    refine Uj (Uq eI ?_)
    have sz:(s.heap.push { cls:=.type "set",dict:=Vo,data:=.set #[] 0 (.fresh 0 0 (QJ w)) }).objs.size=s.heap.objs.size+1:=UQ ..;refine Uj (wpAny_runValue (Yca (knd:=knd) (A:=A.in1.in1) (it:=(s.heap.push { cls:=.type "set",dict:=Vo,data:=.set #[] 0 (.fresh 0 0 (QJ w)) }).objs.size) (l:=l) (vs:=vs) (ks:=ks) hh hl hk hb (by rw[sz];exact Nat.succ_ne_self _) (VA aA) (by rw[sz];exact VA (Ii aA)) _ 0 _ _ rfl (Ux _) ⟨_,Us _ rfl,rfl,rfl⟩ ?_ ?_ λh' tk cy aS=>?_))
    ·obtain⟨o,ho,r⟩:=eI
     exact⟨o,Ur _ ho,r⟩
    ·exact⟨_,#[],0,_,[],Ur _ hS,⟨rfl,rfl,rfl⟩,rfl,TbG.fresh _,by rfl,by decide,.nil,.refl _⟩
    ·refine Ui (Ui ⟨rfl,h h' tk (λb o e=>cy b o ?_ ?_ (Ur _ (Ur _ e))) aS⟩)
     ·rw[sz];exact VA (Ii (Vx e))
     ·exact VA (Vx e)
   ·cases r₂ with
    | error e=>exact mX
    | ok fl₂ =>
     cases fl₂ with
     | ret r =>
      obtain⟨rfl,hq⟩:=mX
      repeat (any_goals (first | assumption | wp_step))
     | _=>exact mX.elim
  | _=>exact hr.elim
end
theorem Zk:Slot "set_iterator" "__next__" "set_iterator.__next__":=.of (owner:="set_iterator") (n:="__next__") (by rw[Du,Dv];kernel_rfl) (by decide +kernel) (by decide +kernel) (by decide +kernel) (by first | exact .inl (by decide +kernel) | exact .inr (by decide +kernel)) (by rw[Dj];kernel_rfl)
theorem Zla:Df table "set_iterator.__next__"=some Ij.«set_iterator.__next__»:=entryFor_of_tree (by kernel_rfl)
theorem Zmb:Manifest.owners.lookup (String.ofList ['r','o','t','a','r','e','t','i','_','t','e','s'].reverse)=some Manifest.sig_set_iterator:=by kernel_rfl
theorem Zma(a:Va):argsOk "set_iterator.__next__" ⟨[a],[]⟩:=by
 unfold argsOk;rw[signature?_of (id:="set_iterator.__next__") (n:=['_','_','t','x','e','n','_','_']) (o:=['r','o','t','a','r','e','t','i','_','t','e','s']) (by kernel_rfl) Zmb];kernel_rfl
theorem Zpc:Df table "set.__iter__"=some Ij.«frozenset.__iter__»:=entryFor_alias (id':="frozenset.__iter__") (by kernel_rfl) rfl (by decide +kernel) (by kernel_rfl)
section
variable{prog:Vg}{w:Vb}{A:VF}{E:YQ_}{s:VG}
theorem Y6{α:Type}:∀ {l:List α} {i:Nat} (h:i < l.length),(l[i]::l.eraseIdx i).Perm l
 | x::l,0,_=>.refl _
 | x::l,i+1,h=>(Li _ _ _).trans ((Y6 (l:=l) (i:=i) (by simpa using h)).cons x)
theorem Jsb{n:Nat}{Q:Nat->VG->Prop}(hn:n≠0)(h:∀ i d,i < n->Q i { s with drawn:=d }):VV (VW prog w) A (choose .order n) Q E s:=by
 intro Γ p _;unfold choose;rw[PySem.Sem.wp_choose];exact⟨hn,h _ _ (DR _ (Nat.pos_of_ne_zero hn))⟩
theorem Yda{α:Type}:∀ (n:Nat) (xs:List α) (s:VG) {Q:List α->VG->Prop},n=xs.length->(∀ ys d,ys.Perm xs->Q ys { s with drawn:=d })->VV (VW prog w) A (drawOrder n xs) Q E s:=by
 intro n
 induction n with
 | zero =>
  intro xs s Q hn h;have e:xs=[]:=length_eq_zero_iff.mp hn.symm;subst e;exact Ui (h [] s.drawn (.refl _))
 | succ n ih =>
  intro xs s Q hn h;cases xs with
  | nil=>cases hn
  | cons y ys =>
   unfold drawOrder;refine Uj (Jsb #[2] λi d hi=>?_)
   have g:(y::ys)[i]?=some (y::ys)[i]:=Lq hi
   rw[g];dsimp only;refine Uj (ih ((y::ys).eraseIdx i) _ (by rw[DS hi];lia) λzs d' pz=>Ui ?_)
   exact h _ _ ((pz.cons _).trans (Y6 hi))
def StD(h:Vp)(a:Vh)(es:Array (Int×Va))(ep:Nat)(t:DF):Prop:=∃ o,h.get? a=some o/\o.ExactSet/\o.data=.set es ep t
def ZTa(h:Vp)(it:Vh)(first:Va)(i:Nat)(a:Vh)(n ep:Nat):Prop:=h.get? it=some { cls:=.type "set_iterator",data:=.fields #[first,.int i 0,.ref a,.int n 0,.int ep 0] }
theorem ZTa.typeIs{it a:Vh}{first:Va}{i n ep:Nat}(x:ZTa s.heap it first i a n ep):s.TypeIs (.ref it) "set_iterator":=⟨_,x,rfl⟩
theorem Jtb{h:Vp}{it a:Vh}{first:Va}{i n ep:Nat}(x:ZTa h it first i a n ep)(k:Nat)(v:Va):(h.update it (LN (·.setIfInBounds k v))).get? it=some { cls:=.type "set_iterator",data:=.fields (#[first,.int i 0,.ref a,.int n 0,.int ep 0].setIfInBounds k v) } :=
 LO _ x (by rfl)
theorem Yyb{h2:Vp}{Q:Option Va->VG->Prop}(hh:A.handled=Vo)(hQ:∀ h',(∀ b o,h2.get? b=some o->h'.get? b=some o)->Q Vo { s with heap:=h' }) :
 VV (VW prog w) A.in1 (newExc (.type "StopIteration") [] >>= λx=>(CK x:Sem Fin)) (λfin s'=>∃ v,fin=Da (Db v)/\VV (VW prog w) A (pure (some v)) Q E s')
  (λe s'=>VV (VW prog w) A (do if <- LZ e (.type "StopIteration") then pure Vo else throw e) Q E s') { s with heap:=h2 }:=by
 refine Uj ?_
 simp only[newExc,newTuple];refine Uj (Ih ?_ (by size_fits))
 refine Uj (m:=firstArgMember _ _) (wpAny_of_eq (a:=Vi) (by first | rfl | (simp only[firstArgMember];rfl)) ?_)
 refine Ih ?_ (by size_fits)
 simp only[CK];refine Uj (wpAny_handled ?_)
 rw[show A.in1.handled=Vo from hh]
 refine Uj (Ui (wpAny_throw ?_))
 refine Uj (Dk (T:="StopIteration") (b:=true) ⟨_,Us _ rfl,rfl⟩ isSubtype_stop ?_)
 exact Ui (hQ _ λb o e=>Ur _ (Ur _ e))
theorem YN{h:Vp}{it:Vh}{f:Obj->Obj}{b:Vh}{o:Obj}(hb:b≠it)(e:h.get? b=some o):(h.update it f).get? b=some o:=((Lv h it f).2 b hb).trans e
section
variable{it a:Vh}{i ep:Nat}{es:Array (Int×Va)}{t:DF}{Q:Option Va->VG->Prop}
theorem XAa{slot nxt:Nat}{x:Va}(aH:ZTa s.heap it (.int slot 0) i a es.size ep)(hs:StD s.heap a es ep t)(ft:t.fits es.size=true)
 (hn:∀ (E:YQ_) (R:Option (Va×Nat)->VG->Prop),R (some (x,nxt)) s->VV (VW prog w) A.in1 (DT a slot i ep) R E s)
 (hQ:∀ h',ZTa h' it (.int nxt 0) (i+1) a es.size ep->(∀ b o,b≠it->s.heap.get? b=some o->h'.get? b=some o)->Q (some x) { s with heap:=h' }):VV (VW prog w) A (Ue (.ref it)) Q E s:=by
 obtain⟨o,q,ex,dd⟩:=hs;unfold Ue;refine Uj (Lm (DU (name:=LD "__next__") aH.typeIs Zk (L8 Zk aH.typeIs Zla ?_ (Zma _))))
 unfold Ij.«set_iterator.__next__»;refine Uj (Ui ?_)
 refine Uj (DV aH rfl ?_)
 dsimp only;unfold DW;refine Uj (Uj (DN q dd ft (Ui ?_)))
 rw[if_neg #[2]]
 simp only[Os];refine Uj (hn _ _ ?_)
 dsimp only;refine Uj (LQ aH rfl #[2] ?_)
 have h1:=Jtb aH 0 (Uk nxt);refine Uj (LQ h1 rfl #[2] ?_)
 refine Ui ⟨_,rfl,Ui (hQ _ ?_ λb o hb e=>YN hb (YN hb e))⟩
 exact(LO (LN (·.setIfInBounds 1 (Uk ((i:Int)+1)))) h1 (by rfl)).trans (by simp[LN,Uk])
theorem Qya{slot:Nat}(hh:A.handled=Vo)(aH:ZTa s.heap it (.int slot 0) i a es.size ep)(hs:StD s.heap a es ep t)(ft:t.fits es.size=true)
 (hn:∀ (E:YQ_) (R:Option (Va×Nat)->VG->Prop),R Vo s->VV (VW prog w) A.in1 (DT a slot i ep) R E s)
 (hQ:∀ h',(∀ b o,b≠it->s.heap.get? b=some o->h'.get? b=some o)->Q Vo { s with heap:=h' }):VV (VW prog w) A (Ue (.ref it)) Q E s:=by
 obtain⟨o,q,ex,dd⟩:=hs;unfold Ue;refine Uj (Lm (DU (name:=LD "__next__") aH.typeIs Zk (L8 Zk aH.typeIs Zla ?_ (Zma _))))
 unfold Ij.«set_iterator.__next__»;refine Uj (Ui ?_)
 refine Uj (DV aH rfl ?_)
 dsimp only;unfold DW;refine Uj (Uj (DN q dd ft (Ui ?_)))
 rw[if_neg #[2]]
 simp only[Os];refine Uj (hn _ _ ?_)
 dsimp only;refine Uj (LQ aH rfl #[2] ?_)
 exact Yyb (s:=s) hh λh' k=>hQ h' λb o hb e=>k b o (YN hb e)
theorem Xvb{tp:Vh}{ps:List Nat}{pl:Nat}{h0:Int}{x:Va}(aH:ZTa s.heap it (.ref tp) i a es.size ep)(hs:StD s.heap a es ep t)(ft:t.fits es.size=true)
 (ht:Vs s.heap tp (ps.map λ(k:Nat)=>Uk k).toArray) (hp:ps[i]?=some pl) (hx:es[pl]?=some (h0,x))
 (hQ:∀ h',ZTa h' it (.ref tp) (i+1) a es.size ep->(∀ b o,b≠it->s.heap.get? b=some o->h'.get? b=some o)->Q (some x) { s with heap:=h' }):VV (VW prog w) A (Ue (.ref it)) Q E s:=by
 obtain⟨o,q,ex,dd⟩:=hs;obtain⟨ot,eF,fk,nt,fh⟩:=ht;unfold Ue;refine Uj (Lm (DU (name:=LD "__next__") aH.typeIs Zk (L8 Zk aH.typeIs Zla ?_ (Zma _))))
 unfold Ij.«set_iterator.__next__»;refine Uj (Ui ?_)
 refine Uj (DV aH rfl ?_)
 dsimp only;unfold DW;refine Uj (Uj (DN q dd ft (Ui ?_)))
 rw[if_neg #[2]]
 simp only[Os];refine Uj (Dq eF fh ?_)
 dsimp only;have e1:(ps.map λ(k:Nat)=>Uk k).toArray[i]?=some (.int (pl:Int) 0):=by simp[hp,Uk]
 rw[e1];dsimp only;unfold setNextDrawn;refine Uj (Uj (DN q dd ft ?_))
 dsimp only;rw[if_neg #[2],Os,hx]
 refine Ui ?_
 refine Uj (LQ aH rfl #[2] ?_)
 refine Ui ⟨_,rfl,Ui (hQ _ ?_ λb o hb e=>YN hb e)⟩
 exact(Jtb aH 1 (Uk ((i:Int)+1))).trans (by simp[Uk])
theorem YRa{tp:Vh}{ps:List Nat}(hh:A.handled=Vo)(aH:ZTa s.heap it (.ref tp) i a es.size ep)(hs:StD s.heap a es ep t)(ft:t.fits es.size=true)
 (ht:Vs s.heap tp (ps.map λ(k:Nat)=>Uk k).toArray) (hp:ps[i]?=Vo)
 (hQ:∀ h',(∀ b o,b≠it->s.heap.get? b=some o->h'.get? b=some o)->Q Vo { s with heap:=h' }):VV (VW prog w) A (Ue (.ref it)) Q E s:=by
 obtain⟨o,q,ex,dd⟩:=hs;obtain⟨ot,eF,fk,nt,fh⟩:=ht;unfold Ue;refine Uj (Lm (DU (name:=LD "__next__") aH.typeIs Zk (L8 Zk aH.typeIs Zla ?_ (Zma _))))
 unfold Ij.«set_iterator.__next__»;refine Uj (Ui ?_)
 refine Uj (DV aH rfl ?_)
 dsimp only;unfold DW;refine Uj (Uj (DN q dd ft (Ui ?_)))
 rw[if_neg #[2]]
 simp only[Os];refine Uj (Dq eF fh ?_)
 dsimp only;have e1:(ps.map λ(k:Nat)=>Uk k).toArray[i]?=Vo:=by simpa using hp
 rw[e1];dsimp only;refine Uj (LQ aH rfl #[2] ?_)
 have h1:=Jtb aH 0 (Uk 0);refine Uj (LQ h1 rfl #[2] ?_)
 exact Yyb (s:=s) hh λh' k=>hQ h' λb o hb e=>k b o (YN hb (YN hb e))
end
theorem JSc{α:Type}(next:Nat->Nat):∀ (av k:Nat) (left:List α) (out:Array α),av=left.length->(pickOrder.go next av k left out).toList.Perm (out.toList++left):=by
 intro av
 induction av with
 | zero =>
  intro k left out e;have e0:left=[]:=length_eq_zero_iff.mp e.symm;subst e0;unfold pickOrder.go;rw[U0]
 | succ av ih =>
  intro k left out e;have hl:next k % left.length < left.length:=DR _ #[0]
  unfold pickOrder.go;rw[Lq hl]
  dsimp only;refine(ih _ _ _ (by rw[DS hl];lia)).trans ?_
  rw[IU,IJ];exact List.Perm.append_left _ (Y6 hl)
theorem Qia{α:Type}(next:Nat->Nat)(xs:Array α):(DX next xs).toList.Perm xs.toList:=by
 have:=JSc next xs.size 0 xs.toList #[] #[2]
 simpa[DX]using this
section
variable{a:Vh}{i ep slot:Nat}{es:Array (Int×Va)}{t:DF}{R:Option (Va×Nat)->VG->Prop}
theorem Zna(hs:StD s.heap a es ep t)(ft:t.fits es.size=true)(hb:w.params.followText "set-order"=true)
 (h:R (((DX (w.params.setOrder a ep) es)[i]?).map λe=>(e.2,slot)) s):VV (VW prog w) A (DT a slot i ep) R E s:=by
 obtain⟨o,q,ex,dd⟩:=hs;unfold DT DY;refine Uj (DN q dd ft ?_)
 dsimp only;refine Uj (Uj (DP (Ui ?_)))
 rw[if_pos (by exact hb)]
 rw[if_neg #[2]]
 unfold setWalk DY;refine Uj (Uj (DN q dd ft ?_))
 dsimp only;refine Uj (Uj (DP (Ui ?_)))
 rw[if_pos (by exact hb)]
 exact Uj (DP (Ui (Ui h)))
theorem Qza(hs:StD s.heap a es ep t)(ft:t.fits es.size=true)(hb:w.params.followText "set-order"=false)(hl:t.led=true)(hd:(!t.plain && decide (es.size > 1))=false)
 (h:R (match es[DD t.place slot]?,t.place[DD t.place slot]? with | some (_,x),some j=>some (x,j+1) | _,_=>Vo) s):VV (VW prog w) A (DT a slot i ep) R E s:=by
 obtain⟨o,q,ex,dd⟩:=hs;unfold DT DY;refine Uj (DN q dd ft ?_)
 dsimp only;refine Uj (Uj (DP (Ui ?_)))
 rw[if_neg (by intro z;exact Uc (hb.symm.trans z))]
 rw[if_neg (by intro z;exact Uc (hd.symm.trans z))]
 refine Uj ?_
 show VV _ _ (if (!t.led && !es.isEmpty)=true then _ else _) _ _ _
 rw[if_neg (by rw[hl];simp)]
 exact Ui (Ui h)
end
end
theorem XBa:Slot "set_iterator" "__iter__" "set_iterator.__iter__":=.of (owner:="set_iterator") (n:="__iter__") (by rw[Du,Dv];kernel_rfl) (by decide +kernel) (by decide +kernel) (by decide +kernel) (by first | exact .inl (by decide +kernel) | exact .inr (by decide +kernel)) (by rw[Dj];kernel_rfl)
theorem Xwb:Df table "set_iterator.__iter__"=some Ij.«dict_keyiterator.__iter__»:=entryFor_alias (id':="dict_keyiterator.__iter__") (by kernel_rfl) (by first | rfl | decide +kernel) (by decide +kernel) (by kernel_rfl)
theorem Xxb(a:Va):argsOk "set_iterator.__iter__" ⟨[a],[]⟩:=by
 unfold argsOk;rw[signature?_of (id:="set_iterator.__iter__") (n:=['_','_','r','e','t','i','_','_']) (o:=['r','o','t','a','r','e','t','i','_','t','e','s']) (by kernel_rfl) Zmb];kernel_rfl
section
variable{prog:Vg}{w:Vb}{A:VF}{E:YQ_}{s:VG}
theorem ZUa{it a:Vh}{first:Va}{i n ep:Nat}{Q:YQ_}(aH:ZTa s.heap it first i a n ep)(h:Q (.ref it) s):VV (VW prog w) A (Ug (.ref it)) Q E s:=by
 refine wpAny_pyIter_slot aH.typeIs XBa (L8 XBa aH.typeIs Xwb ?_ (Xxb _))
 show VV _ _ (ret (.ref it)) _ _ s;exact Ui ⟨_,rfl,"set_iterator",_,aH.typeIs,Zk.lookup,h⟩
theorem StD.at'{h h':Vp}{a:Vh}{es:Array (Int×Va)}{ep:Nat}{t:DF}(x:StD h a es ep t)(e:∀ o,h.get? a=some o->h'.get? a=some o):StD h' a es ep t:=let ⟨o,q,r⟩:=x;⟨o,e o q,r⟩
section
variable{it a tp:Vh}{ep:Nat}{es:Array (Int×Va)}{t:DF}
theorem Xyb(hh:A.handled=Vo)(ay:a≠it)(ft:t.fits es.size=true)(hb:w.params.followText "set-order"=true) :
 Walks prog w A it [it,a] [it] es.size (λi v=>((DX (w.params.setOrder a ep) es).toList.map (·.2))[i]?=some v) (λi h=>ZTa h it (.int (0:Nat) 0) i a es.size ep/\StD h a es ep t) where
 sub:=λb hb=>by simp at hb;simp[hb]
 frame:=λ_ _ _ st hk=>⟨hk it #[2] _ st.1,st.2.at' λo e=>hk a #[2] o e⟩
 item:=λi s Q E hi st hQ=>by
  have hl:(DX (w.params.setOrder a ep) es).size=es.size:=by
   have:=(Qia (w.params.setOrder a ep) es).length_eq
   simpa using this
  have g:(DX (w.params.setOrder a ep) es)[i]?=some (DX (w.params.setOrder a ep) es)[i]:=DB #[0]
  refine XAa (nxt:=0) (x:=(DX (w.params.setOrder a ep) es)[i].2) st.1 st.2 ft (λE R hR=>Zna st.2 ft hb (by rw[g];exact hR)) λh' bA hk=>?_
  exact hQ _ h' s.toks (by rw[Oj,OE,g];rfl) ⟨bA,st.2.at' λo e=>hk a o ay e⟩ λb o hb e=>hk b o (λz=>hb (by simp[z])) e
 done:=λs Q E st hQ=>by
  have hl:(DX (w.params.setOrder a ep) es).size=es.size:=by
   have:=(Qia (w.params.setOrder a ep) es).length_eq
   simpa using this
  exact Qya hh st.1 st.2 ft (λE R hR=>Zna st.2 ft hb (by rw[DE #[0]];exact hR)) λh' hk=>hQ h' s.toks λb o hb e=>hk b o (λz=>hb (by simp[z])) e
 self:=λ_ _ _ _ st hQ=>ZUa st.1 hQ
theorem Jub(hh:A.handled=Vo)(ay:a≠it)(ft:t.fits es.size=true)(hb:w.params.followText "set-order"=false)(tg:TbG (QJ w) t)(hd:(!t.plain && decide (es.size > 1))=false) :
 Walks prog w A it [it,a] [it] es.size (λi v=>(es.toList.map (·.2))[i]?=some v) (λi h=>(∃ slot:Nat,ZTa h it (.int slot 0) i a es.size ep/\DD t.place slot=i)/\StD h a es ep t) where
 sub:=λb hb=>by simp at hb;simp[hb]
 frame:=λ_ _ _ st hk=>⟨let ⟨sl,x,y⟩:=st.1;⟨sl,hk it #[2] _ x,y⟩,st.2.at' λo e=>hk a #[2] o e⟩
 item:=λi s Q E hi st hQ=>by
  obtain⟨⟨slot,aH,mY⟩,hs⟩:=st;have hl:t.place.size=es.size:=by
   simp only[DZ,Il,beq_iff_eq,decide_eq_true_eq]at ft;exact ft.1
  have led:t.led=true:=tg.led_.trans (by unfold QJ;rw[hb];rfl)
  have g:es[i]?=some es[i]:=DB hi
  have gp:t.place[i]?=some (t.place[i]'#[0]):=DB #[0]
  refine XAa (nxt:=t.place[i]'#[0]+1) (x:=es[i].2) aH hs ft (λE R hR=>Qza hs ft hb led hd (by rw[mY,g,gp];exact hR)) λh' bA hk=>?_
  exact hQ _ h' s.toks (by rw[Oj,OE,g];rfl) ⟨⟨_,bA,Jqb tg.ris gp⟩,hs.at' λo e=>hk a o ay e⟩ λb o hb e=>hk b o (λz=>hb (by simp[z])) e
 done:=λs Q E st hQ=>by
  obtain⟨⟨slot,aH,mY⟩,hs⟩:=st;have led:t.led=true:=tg.led_.trans (by unfold QJ;rw[hb];rfl)
  exact Qya hh aH hs ft (λE R hR=>Qza hs ft hb led hd (by rw[mY,DE (Ut _)];exact hR)) λh' hk=>hQ h' s.toks λb o hb e=>hk b o (λz=>hb (by simp[z])) e
 self:=λ_ _ _ _ st hQ=>let ⟨_,x,_⟩:=st.1;ZUa x hQ
theorem Zqc{h h':Vp}{tp:Vh}{ah:Array Va}(x:Vs h tp ah)(e:∀ o,h.get? tp=some o->h'.get? tp=some o):Vs h' tp ah:=let ⟨o,q,r⟩:=x;⟨o,e o q,r⟩
theorem Xzb{ps:List Nat}(hh:A.handled=Vo)(ay:a≠it)(uM:tp≠it)(ft:t.fits es.size=true)(hp:ps.Perm (VB es.size)) :
 Walks prog w A it [it,a,tp] [it] es.size (λi v=>(ps.map λk=>(es.toList.getD k (0,.none)).2)[i]?=some v) (λi h=>ZTa h it (.ref tp) i a es.size ep/\StD h a es ep t/\Vs h tp (ps.map λ(k:Nat)=>Uk k).toArray) where
 sub:=λb hb=>by simp at hb;simp[hb]
 frame:=λ_ _ _ st hk=>⟨hk it #[2] _ st.1,st.2.1.at' λo e=>hk a #[2] o e,Zqc st.2.2 λo e=>hk tp #[2] o e⟩
 item:=λi s Q E hi st hQ=>by
  have hl:ps.length=es.size:=by rw[hp.length_eq,Ln]
  have g:ps[i]?=some (ps[i]'#[0]):=Lq #[0]
  have hm:ps[i]'#[0] < es.size:=mem_range.mp (hp.mem_iff.mp (Lo _))
  have ge:es[ps[i]'#[0]]?=some (es[ps[i]'#[0]].1,es[ps[i]'#[0]].2):=DB hm
  refine Xvb (x:=(es[ps[i]'#[0]]).2) st.1 st.2.1 ft st.2.2 g ge λh' bA hk=>?_
  refine hQ _ h' s.toks ?_ ⟨bA,st.2.1.at' λo e=>hk a o ay e,Zqc st.2.2 λo e=>hk tp o uM e⟩ λb o hb e=>hk b o (λz=>hb (by simp[z])) e
  rw[Oj,g]
  simp[L6,hm]
 done:=λs Q E st hQ=>by
  have hl:ps.length=es.size:=by rw[hp.length_eq,Ln]
  exact YRa hh st.1 st.2.1 ft st.2.2 (Dc #[0]) λh' hk=>hQ h' s.toks λb o hb e=>hk b o (λz=>hb (by simp[z])) e
 self:=λ_ _ _ _ st hQ=>ZUa st.1 hQ
theorem XAb{ps:List Nat}(hp:ps.Perm (VB es.size)):(ps.map λk=>(es.toList.getD k (0,.none)).2).Perm (es.toList.map (·.2)):=by
 refine(hp.map _).trans ?_
 have:(VB es.size).map (λk=>(es.toList.getD k (0,.none)).2)=es.toList.map (·.2):=by
  apply Lf
  intro k;rw[Oj,Oj]
  rcases DC k es.size with hk | hk
  ·rw[getElem?_range hk,Lq (show k < es.toList.length by simpa using hk)]
   simp[L6,hk]
  ·rw[Dc (by simpa using hk),Dc (show es.toList.length<=k by simpa using hk)]
   rfl
 rw[this]
theorem Zrc{Q:YQ_}(hh:A.handled=Vo)(hs:StD s.heap a es ep t)(ft:t.fits es.size=true)(tg:TbG (QJ w) t)(hz:es.size<=Vr)
 (h:∀ (it:Vh) (fp:List Vh) (vs:List Va) (St:Nat->Vp->Prop) (h':Vp) (d:VQ),vs.Perm (es.toList.map (·.2))->(∀ b o,s.heap.get? b=some o->h'.get? b=some o)->s.heap.objs.size<=it->(∀ b∈fp,b=a\/s.heap.objs.size<=b) ->
  Walks prog w A it fp [it] es.size (λi v=>vs[i]?=some v) St->St 0 h'->Q (.ref it) { s with heap:=h',drawn:=d }) :
 VV (VW prog w) A (Ug (.ref a)) Q E s:=by
 obtain⟨o,q,ex,dd⟩:=id hs;have aA:a < s.heap.objs.size:=Vx q;have hT:s.TypeIs (.ref a) "set":=⟨o,q,ex.1⟩;refine wpAny_pyIter_slot hT F.slot_set_iter (L8 F.slot_set_iter hT Zpc ?_ (F.args_set_iter_1 _))
 unfold Ij.«frozenset.__iter__» Builtin.Frozenset.slot0 Builtin.Frozenset.sizeOf DW setDrawn DY setEpoch;refine Uj (Uj (Ui (Ui ?_)))
 refine Uj (Uj (Uj (DN q dd ft (Ui (Ui ?_)))))
 refine Uj (Uj (DN q dd ft ?_))
 dsimp only;refine Uj (Uj (DP (Ui ?_)))
 refine Ui ?_
 have cz:∀ b∈[s.heap.objs.size,a],b=a\/s.heap.objs.size<=b:=λb hb=>by
  simp only[Dh,D0,or_false]at hb
  rcases hb with z | z
  ·exact .inr (by rw[z];exact Ut _)
  ·exact .inl z
 change VV _ _ (if (!w.params.followText "set-order" && (!t.plain && decide (es.size > 1)))=true then _ else _) _ _ _
 cases hb:w.params.followText "set-order" with
 | true =>
  rw[if_neg #[2]]
  refine Uj (Ui ?_)
  refine Uj (Uj (DN q dd ft (Ui ?_)))
  refine Uj (Ih ?_)
  refine Ui ⟨_,rfl,"set_iterator",_,⟨_,Us _ rfl,rfl⟩,Zk.lookup,?_⟩
  exact h _ _ _ _ _ s.drawn ((Qia (w.params.setOrder a ep) es).map _) (λb o e=>Ur _ e) (Ut _) cz (Xyb (t:=t) hh (VA aA) ft hb) ⟨Us _ rfl,hs.at' λo e=>Ur _ e⟩
 | false =>
  cases hd:(!t.plain && decide (es.size > 1)) with
  | false =>
   rw[if_neg #[2]]
   refine Uj (Ui ?_)
   refine Uj (Uj (DN q dd ft (Ui ?_)))
   refine Uj (Ih ?_)
   refine Ui ⟨_,rfl,"set_iterator",_,⟨_,Us _ rfl,rfl⟩,Zk.lookup,?_⟩
   exact h _ _ _ _ _ s.drawn (.refl _) (λb o e=>Ur _ e) (Ut _) cz (Jub hh (VA aA) ft hb tg hd) ⟨⟨0,Us _ rfl,Jpb tg.ris⟩,hs.at' λo e=>Ur _ e⟩
  | true =>
   rw[if_pos #[2]]
   refine Uj (Yda es.size (VB es.size) s #[2] λps d pp=>?_)
   have lp:ps.length=es.size:=by rw[pp.length_eq,Ln]
   refine Uj (LH ?_ (by rw[UO,lp];exact hz))
   have q1:=Ur { cls:=.type "tuple",data:=.seq (ps.map λ(k:Nat)=>Uk k).toArray } q
   refine Uj (Uj (DN q1 dd ft (Ui ?_)))
   refine Uj (Ih ?_)
   refine Ui ⟨_,rfl,"set_iterator",_,⟨_,Us _ rfl,rfl⟩,Zk.lookup,?_⟩
   have sz:(s.heap.push { cls:=.type "tuple",data:=.seq (ps.map λ(k:Nat)=>Uk k).toArray }).objs.size=s.heap.objs.size+1:=UQ ..
   have up:∀ b o,s.heap.get? b=some o->((s.heap.push { cls:=.type "tuple",data:=.seq (ps.map λ(k:Nat)=>Uk k).toArray }).push { cls:=.type "set_iterator",data:=.fields [.ref s.heap.objs.size,Uk 0,.ref a,Uk es.size,Uk ep].toArray }).get? b=some o:=λb o e=>Ur _ (Ur _ e)
   refine h _ _ _ _ _ d (XAb pp) up (by rw[sz];exact U5 _) ?_ (Xzb (a:=a) (tp:=s.heap.objs.size) (t:=t) (ep:=ep) hh (by rw[sz];exact VA (Ii aA)) (by rw[sz];exact VA (UR _)) ft pp) ⟨Us _ rfl,hs.at' λo e=>up a o e,⟨_,Ur _ (Us _ rfl),rfl,_,rfl⟩⟩
   intro b bE;simp only[Dh,D0,or_false]at bE
   rcases bE with z | z | z
   ·exact .inr (by rw[z,sz];exact U5 _)
   ·exact .inl z
   ·exact .inr (by rw[z];exact Ut _)
end
theorem Zsc{r:Vh}{Q:Bool->VG->Prop}(hT:s.TypeIs (.ref r) "set")(h:Q false s):VV (VW prog w) A (Builtin.List.listLengthHint (.ref r)) Q E s:=by
 unfold Builtin.List.listLengthHint;refine Uj (wpAny_specialOf hT F.slot_set_len.lookup ?_)
 generalize hid:("set.__len__":String)=id0
 wp_delta
 rw[show splitId id0=some ("set","__len__") from by subst hid;decide +kernel]
 subst hid;refine Uj (Dk (T:="set") (b:=true) hT (by rw[Dj];kernel_rfl) ?_)
 refine wpAny_ite_split (λz=>absurd z #[1]) (λ_=>?_)
 refine wpAny_ite_split (λ_=>?_) (λz=>absurd (by decide +kernel) z)
 exact Uj (Do hT (Ui h))
section
variable{a:Vh}{ep:Nat}{es:Array (Int×Va)}{t:DF}
theorem JTc{R:UH->VG->Prop}(hh:A.handled=Vo)(hs:StD s.heap a es ep t)(ft:t.fits es.size=true)(tg:TbG (QJ w) t)(hz:es.size<=Vr)(S:Vh)(dH:S≠a)(res:Va)(c0:Nat)(hS:s.heap.get? S=some { cls:=.type "list",data:=.seq #[] c0 })
 (hR:∀ (h':Vp) (tk:Nat) (d:VQ) (vs:List Va) (c':Nat),vs.Perm (es.toList.map (·.2))->(∀ b o,b≠S->s.heap.get? b=some o->h'.get? b=some o)->h'.get? S=some { cls:=.type "list",dict:=Vo,data:=.seq vs.toArray c',slots:=#[] }->R (.ok (.ret res)) { s with heap:=h',toks:=tk,drawn:=d }) :
 VV (VW prog w) A.in1 (Dm (.ref S) (.ref a) res)
  (λfin s'=>match fin with | .done f=>R (.ok f) s' | .again c'=>c'.quiet=true/\UJ (VW prog w) A c' R s') (λe s'=>R (.error e) s') s:=by
 have hT:s.TypeIs (.ref a) "set":=let ⟨o,q,ex,_⟩:=hs;⟨o,q,ex.1⟩
 unfold Dm;refine Uj (Do (T:="set") hT ?_)
 have h1:Builtin.List.listSameRef (.ref S) (.ref a)=false:=by simp[Builtin.List.listSameRef,dH]
 have h2:(Vl "set" == Vl "list")=false:=by decide
 have h3:(Vl "set" == Vl "tuple")=false:=by decide
 simp only[h1,h2,h3,Bool.or_false,Ie,if_false];refine Uj (Zrc (A:=A.in1) hh hs ft tg hz λit fp vs St hp d pv kp ge uN W st=>?_)
 have mZ:=Vx hS;have qm:S∉fp:=λz=>by
  rcases uN S z with e | e
  ·exact dH e
  ·exact absurd mZ (Nat.not_lt.mpr e)
 have lv:vs.length=es.size:=by rw[pv.length_eq,UO,V7]
 have key:∀ (h:Vp) (c1 tk:Nat),St 0 h->(∀ b o,b≠S->s.heap.get? b=some o->h.get? b=some o) ->
  h.get? S=some { cls:=.type "list",data:=.seq #[] c1 }->UJ (VW prog w) A (.builtin "list.extend.loop" ⟨[.ref S,.ref it,res],[]⟩) R { s with heap:=h,toks:=tk,drawn:=d }:=by
  intro h c1 tk cI hk bn;refine codeAny_extend_loopS W.toS hz S qm res es.size 0 _ #[] c1 rfl (Ux _) cI bn (ItemsOf.nil _) λs' i8 c' hm aS eJ=>?_
  rw[Moved.eq_with hm];have ea:i8=vs.toArray:=by
   apply Array.toList_inj.mp
   apply Lf
   intro k
   rcases DC k i8.size with q | q
   ·have g:=DB q
    have:=eJ.2 k _ g;rw[OE,g]
    exact this.symm
   ·rw[OE,DE q,Dc (by have:=eJ.1;simp;lia)]
  subst ea;refine hR s'.heap s'.toks d vs c' pv (λb o hb e=>hm.heap b o (λhmem=>?_) (hk b o hb e)) aS
  rcases mem_cons.mp hmem with e' | hmem
  ·exact hb e'
  ·have i9:=Vx e
   rw[mem_singleton.mp hmem]at i9;exact absurd i9 (Nat.not_lt.mpr ge)
 have uO:Shared.TypeIs { s with heap:=hp,drawn:=d } (.ref a) "set":=let ⟨o,q,ex,_⟩:=hs;⟨o,kp a o q,ex.1⟩
 refine Uj (LG (Zsc (s:={ s with heap:=hp,drawn:=d }) uO ?_))
 have bn:=kp S _ hS;refine wpAny_ite_split (λ_=>?_) (λ_=>Ui ⟨Dz F.plain_extend_loop _,key hp c0 s.toks st (λb o _ e=>kp b o e) bn⟩)
 refine Uj (IW ?_)
 refine Uj ?_
 show VV _ _ (updateSeq S (·.push .none) >>= λ_=>updateSeq S (·.pop)) _ _ _
 refine Uj (wpAny_updateSeq bn rfl ?_)
 have aW:=LO (OA (·.push Vi)) bn rfl
 refine wpAny_updateSeq (hz:=by seq_fits) aW rfl ?_
 have bq:=LO (OA (·.pop)) aW rfl
 refine Ui ⟨Dz F.plain_extend_loop _,key _ _ _ (W.frame 0 _ _ st λb hb o e=>?_) (λb o hb e=>?_) bq⟩
 ·have qo:b≠S:=λz=>qm (z ▸ hb)
  exact(OB _ _ (VR qo)).trans ((OB _ _ (VR qo)).trans e)
 ·exact(OB _ _ (VR hb)).trans ((OB _ _ (VR hb)).trans (kp b o e))
theorem YSa{R:UH->VG->Prop}(hh:A.handled=Vo)(hs:StD s.heap a es ep t)(ft:t.fits es.size=true)(tg:TbG (QJ w) t)(hz:es.size<=Vr)
 (hR:∀ (h':Vp) (tk:Nat) (d:VQ) (vs:List Va) (c':Nat),vs.Perm (es.toList.map (·.2))->(∀ b o,s.heap.get? b=some o->h'.get? b=some o)->h'.get? s.heap.objs.size=some { cls:=.type "list",dict:=Vo,data:=.seq vs.toArray c',slots:=#[] }->R (.ok (.ret (.ref s.heap.objs.size))) { s with heap:=h',toks:=tk,drawn:=d }) :
 UJ (VW prog w) A (.builtin "proto.collect" ⟨[.ref a],[]⟩) R s:=by
 have aA:a < s.heap.objs.size:=let ⟨o,q,_⟩:=hs;Vx q
 refine Dw F.entry_proto_collect ?_
 rw[Dx F.plain_proto_collect _];show VV _ A.in1 (newList [] >>= λl=>again (.builtin "list.__iadd__" ⟨[l,.ref a],[]⟩)) _ _ s
 refine Uj (Ih ?_)
 refine Ui ⟨Dz F.plain_list_iadd _,Dw F.entry_list_iadd ?_⟩
 rw[Dx F.plain_list_iadd _];have g1:(s.heap.push { cls:=.type "list",data:=.seq ([]:List Va).toArray }).get? s.heap.objs.size=some { cls:=.type "list",data:=.seq ([]:List Va).toArray }:=Us _ rfl
 show VV _ A.in1 (Dm (.ref s.heap.objs.size) (.ref a) (.ref s.heap.objs.size)) _ _ _;exact JTc (R:=R) (s:={ s with heap:=s.heap.push { cls:=.type "list",data:=.seq ([]:List Va).toArray } }) hh (hs.at' λo e=>Ur _ e) ft tg hz _ (Ud aA) _ _ g1
  λh' tk d vs c' pv kp g=>hR h' tk d vs c' pv (λb o e=>kp b o (VA (Vx e)) (Ur _ e)) g
theorem Znb{Q:List Va->VG->Prop}(hh:A.handled=Vo)(hs:StD s.heap a es ep t)(ft:t.fits es.size=true)(tg:TbG (QJ w) t)(hz:es.size<=Vr)
 (hQ:∀ (h':Vp) (tk:Nat) (d:VQ) (vs:List Va),vs.Perm (es.toList.map (·.2))->(∀ b o,s.heap.get? b=some o->h'.get? b=some o)->Q vs { s with heap:=h',toks:=tk,drawn:=d }):VV (VW prog w) A (collect (.ref a)) Q E s:=by
 unfold collect;refine Uj (wpAny_runValue (YSa hh hs ft tg hz λh' tk d vs c' pv kp g=>?_))
 show VV _ A (load s.heap.objs.size >>= _) _ _ _;refine Uj (wpAny_load g ?_)
 exact Ui (hQ h' tk d vs pv kp)
end
end
theorem YMa.perm{xs ys:List V}{lt:V->V->Bool}(h:YMa xs lt)(p:ys.Perm xs):YMa ys lt :=
 ⟨let ⟨T,a,b⟩:=h.ty;⟨T,a,λv hv=>b v (p.mem_iff.mp hv)⟩,λv hv v' fT=>h.ask v (p.mem_iff.mp hv) v' (p.mem_iff.mp fT),
  ⟨λa ha=>h.swo.1 a (p.mem_iff.mp ha),λa ha b hb c hc=>h.swo.2 a (p.mem_iff.mp ha) b (p.mem_iff.mp hb) c (p.mem_iff.mp hc),λa ha b hb c hc=>h.swo.3 a (p.mem_iff.mp ha) b (p.mem_iff.mp hb) c (p.mem_iff.mp hc)⟩⟩
section
variable{X:Cx}{aa:YP_}{σ:St}{H:Hp}{s:VG}{A:VF}{E:YQ_}
theorem Zob{l:Vh}{fi:List V}{lt:V->V->Bool}{Q:VK}(uP:fi.length<=Vr)(m7:fi.length < 5000)(uQ:YMa fi lt)
 (hc:∀ (E:YQ_) (R:List Va->VG->Prop),(∀ xs vs s',xs.Perm fi->Qt xs vs->Inv X aa σ H s'->R vs s')->VV (VW X.prog X.w) X.A.in1 (collect (.ref l)) R E s)
 (h0:∀ D H' ys,Ql H H'->H D=Vo->H' D=some (.lst ys)->ys.Perm fi->ys.Pairwise (λa b=>lt b a=false)->Q (.ref D) H') :
 VV (VW X.prog X.w) X.A (Uy (.builtin "sorted") [.ref l]) (EP X aa σ Q) X.xe s:=by
 refine Calls.call_function_entry kind_sorted plain_sorted entry_sorted (args_sorted1 _) ?_
 unfold Ij.«sorted»;refine Uj (m:=checkCount "sorted" 1 1 _) (Ui ?_)
 refine Uj (hc _ _ λxs vs s' pm rv I=>?_)
 have hz:xs.length<=Vr:=by rw[pm.length_eq];exact uP
 have dJ:xs.length < 5000:=by rw[pm.length_eq];exact m7
 have hK:YMa xs lt:=uQ.perm pm;have h:∀ D H' ys,Ql H H'->H D=Vo->H' D=some (.lst ys)->ys.Perm xs->ys.Pairwise (λa b=>lt b a=false)->Q (.ref D) H':=λD H' ys h1 h2 h3 h4 h5=>h0 D H' ys h1 h2 h3 (h4.trans pm) h5
 clear hc h0;generalize s'=s at I ⊢;have bz:=rv.length;have cH:vs.length<=Vr:=by rw[<- bz];exact hz
 refine Uj (LF ?_ cH)
 have a8:=Us s.heap (o:=Ls "list" vs.toArray 0) rfl
 have I1:Inv X aa σ H { s with heap:=s.heap.push (Ls "list" vs.toArray 0) }:=I.kept (t':=s.toks) λb o q=>Ur _ q
 have fD:J1 X aa H s.heap.objs.size:=I.fpOk (Ut _) (I.hok.fresh (Ut _));show VV _ _ _ _ _ { s with heap:=s.heap.push (Ls "list" vs.toArray 0) }
 generalize s.heap.push (Ls "list" vs.toArray 0)=h1 at a8 I1;generalize s.heap.objs.size=D at a8 fD;refine Uj (LG (L8 slot_list_sort ⟨_,a8,rfl⟩ entry_list_sort ?body (args_list_sort _)))
 case body =>
  rw[list_sort_plain];have s1:=Lv h1 D (OA λ_=>(#[]:Array Va))
  obtain⟨e1,bN⟩:∃ e1,(h1.update D (OA λ_=>(#[]:Array Va))).get? D=some (Ls "list" #[] e1):=⟨_,Lw a8 λ_=>#[]⟩
  have I2:Inv X aa σ H { s with heap:=h1.update D (OA λ_=>(#[]:Array Va)) }:=I1.turned (t':=s.toks) (λb o hb q=>(s1.2 b hb).trans q) fD.1 fD.2.1 fD.2.2.2.1 fD.2.2.2.2.1 fD.2.2.2.2.2
  have I3:Inv X (aa++[(D,Ls "list" #[] e1)]) σ H { s with heap:=h1.update D (OA λ_=>(#[]:Array Va)) }:=I2.pins_of λp hp=>(mem_append.mp hp).elim (λz=>I2.pin p (Uw _ z)) λz=>by
   have z:p=(D,Ls "list" #[] e1):=by simpa using z
   subst z;exact⟨bN,fD.1,fD.2.1,fD.2.2.1,λv q=>by cases q⟩
  have I5:Inv X (aa++[(D,Ls "list" #[] e1)]) σ H { s with heap:=((h1.update D (OA λ_=>(#[]:Array Va))).push (Ls "tuple" vs.toArray 0)).push (Ls "list" #[] 0) }:=I3.kept (t':=s.toks) λb u q=>Ur _ (Ur _ q)
  refine Uj (LC a8 rfl ?_)
  refine Uj (Lx a8 rfl ?_ (by rw[UC];exact cH) (Ux _))
  refine Uj (Ly bN rfl ?_)
  refine Uj (LH ?_ (by show vs.length<=_;exact cH))
  refine Uj (LF ?_ (Ux _))
  refine LG ?_
  show VV (VW X.prog X.w) _ _ _ _ { s with heap:=((h1.update D (OA λ_=>(#[]:Array Va))).push (Ls "tuple" vs.toArray 0)).push (Ls "list" #[] 0) }
  generalize ((h1.update D (OA λ_=>(#[]:Array Va))).push (Ls "tuple" vs.toArray 0)).push (Ls "list" #[] 0)=h2 at I5
  dsimp only;have tail:∀ {st:Iy} {out:List Va} {ys:List V},(IC st).map (·.2)=Lu out->IS st=Vo->Qt ys out->ys.length < 5000->ys.Perm xs->ys.Pairwise (λa b=>lt b a=false) ->
   VV (VW X.prog X.w) X.A.in1.in1 (do
    let ep <- seqEpoch D
    Builtin.List.listUpdate (Vk D) λx=>LA (λx=>x.snd) (IC st)
    match IS st with
    | some e=>do
     rule "list.sort.comparison-raised"
     throw e
     if (ep != e1)=true then do
         rule "list.sort.modified"
         L9 "ValueError" "list modified during sort"
         ret Vi
      else ret Vi
    | x =>
     if (ep != e1)=true then do
      rule "list.sort.modified"
      L9 "ValueError" "list modified during sort"
      ret Vi
     else ret Vi)
    (λfin s'=>∃ v,fin=Da (Db v)/\VV (VW X.prog X.w) X.A.in1 (ret (Vk D)) (λfin s'=>∃ v,fin=Da (Db v)/\EP X aa σ Q v s') X.xe s')
    X.xe { s with heap:=h2 }:=by
   intro st out ys bh hf ro iQ p1 p2;have hD:=(I5.pin (D,Ls "list" #[] e1) (Uw _ (Uw _ #[2]))).1
   have s2:=Lv h2 D (OA λ_=>Lu out)
   obtain⟨c2,bC⟩:∃ c2,(h2.update D (OA λ_=>Lu out)).get? D=some (Ls "list" (Lu out) c2):=⟨_,Lw hD λ_=>Lu out⟩
   have ho:out.length < 5000:=by rw[<- ro.length];exact iQ
   rw[bh];refine Uj (Ly hD rfl ?_)
   refine Uj (Lx hD rfl ?_ (Ux _) (by rw[UC];exact Lz (VI (VJ ho) #[1])))
   rw[hf];simp only[bne_self_eq_false,Ie,if_false];have I6:Inv X aa σ (upd H D (.lst ys)) { s with heap:=h2.update D (OA λ_=>Lu out) }:=(I5.unpinned).adopt (t':=s.toks) fD (λb u hb q=>(s2.2 b hb).trans q) ⟨VI (VJ iQ) #[1],out,c2,ro,bC⟩
   exact Ui ⟨_,rfl,Ui ⟨_,rfl,.ref D,_,I6,rfl,h D _ ys ((Ql.refl _).updL fD.1 _) fD.1 Qa p1 p2⟩⟩
  by_cases bU:vs.toArray.size < 2
  ·rw[if_pos bU,if_pos bU]
   refine Uj (Ui ?_)
   rw[StateT.run_pure];refine Uj (Ui ?_)
   refine tail (st:=IQ general' (vs.toArray.zip vs.toArray) #[] 7 Vo) (out:=vs) ?_ rfl rv #[0] (List.Perm.refl _) (JUa (by rw[UC]at bU;lia))
   apply Array.toList_inj.mp
   show(LA (·.2) (vs.toArray.zip vs.toArray)).toList=_;rw[Ll,ksk_zip];show List.map (·.2) (vs.zip vs)=vs;exact map_snd_zip #[0]
  ·rw[if_neg bU,if_neg bU]
   rw[UC]at bU;obtain⟨T,mL,hT⟩:=hK.ty;have mem:∀ v∈vs,∃ x∈xs,Qq x v:=λv hv=>by
    obtain⟨i,hi,rfl⟩:=mem_iff_getElem.mp hv;obtain⟨u,eu,ru⟩:=rv.get (i:=i) (x:=xs[i]'#[0]) (Lq _)
    rw[Lq hi]at eu
    cases eu;exact⟨_,Lo _,ru⟩
   refine Uj (kas_kind (T:=.type T) #[0] (λv hv=>?_) mL #[2] ?_)
   ·obtain⟨x,hx,rx⟩:=mem v hv
    exact Looks.of_pure (hT x hx v rx)
   have hn:0 < xs.length:=by lia
   have at_:∀ i,i < xs.length->Qq (xs.getD i .non) (vs.getD i Vi)/\xs.getD i .non∈xs:=λi hi=>by
    obtain⟨u,eu,ru⟩:=rv.get (i:=i) (x:=xs[i]) (Lq _)
    have e1:xs.getD i .non=xs[i]:=by simp[hi]
    have e2:vs.getD i Vi=u:=by simp[L6,eu]
    rw[e1,e2];exact⟨ru,Lo _⟩
   have run:=SortB.X4a (prog:=X.prog) (w:=X.w) (A:=X.A.in1.in1) (E:=X.xe) (κ:=oneType') (ks:=vs) (vs:=vs) (s:={ s with heap:=h2 }) (r:=λi=>xs.countP (lt · (xs.getD i .non))) rfl #[0]
    (λi j C hi hj hC=>by
     rw[<- bz]at hi hj;rw[hK.swo.rank (at_ i hi).2 (at_ j hj).2]at hC;unfold Lj;exact hK.ask _ (at_ i hi).2 _ (at_ j hj).2 _ _ (at_ i hi).1 (at_ j hj).1 _ _ _ _ _ _ hC)
    (λi j hi hj e=>by
     rw[<- bz]at hi hj;have r1:=(at_ i hi).1;rw[e]at r1;show xs.countP (lt · (xs.getD i .non))=xs.countP (lt · (xs.getD j .non));rw[Zbb r1 (at_ j hj).1])
   rw[<- bz]at run;refine Uj (V1 run ?_ λ_ _ x=>x)
   rintro⟨⟨⟩,ag⟩ s' ⟨p,iT,hf,es,ok,up⟩;subst es;have bh:=kat_snds (ks:=vs) (vs:=vs) rfl iT;exact tail bh hf (rv.pick p.toList) (by rw[UO,V7,ok.size];lia) (QHa ok) (JTa hK.swo ok hn up)
end
theorem Jvb{l l':List Va}(p:l'.Perm l):∀ {js:List V},Qt js l->∃ bF,Qt bF l'/\bF.Perm js:=by
 induction p with
 | nil=>intro js h;exact⟨js,h,.refl _⟩
 | cons x _ ih =>
  intro js h;cases h with
  | cons r t=>obtain⟨bF,a,b⟩:=ih t;exact⟨_::bF,.cons r a,b.cons _⟩
 | swap x y l =>
  intro js h;cases h with
  | cons r t =>
   cases t with
   | cons r2 t2=>exact⟨_,.cons r2 (.cons r t2),Li _ _ _⟩
 | trans _ _ ih1 ih2 =>
  intro js h;obtain⟨j1,a,b⟩:=ih2 h;obtain⟨j2,c,d⟩:=ih1 a;exact⟨j2,c,d.trans b⟩
theorem Yzb{prog:Vg}{w:Vb}:∀ {js:List Key} {l:List (Int×Va)},Vm (YPa (QA prog w)) js l->Qt (js.map kV) (l.map (·.2))
 | _,_,.nil=>.nil
 | _,_,.cons r t=>.cons (Jlb r.1.1) (Yzb t)
theorem Inv.keptD{X:Cx}{aa:YP_}{σ:St}{H:Hp}{s:VG}{h':Vp}{t':Nat}{d:VQ}(I:Inv X aa σ H s)(k:∀ b o,s.heap.get? b=some o->h'.get? b=some o):Inv X aa σ H { s with heap:=h',toks:=t',drawn:=d } :=
 have J:=I.kept (t':=t') k
 ⟨J.ok,J.os,J.bare,J.base,J.loc,J.cell,J.free,J.freeC,J.pin,J.hok,J.len⟩
section
variable{X:Cx}{e:Expr}{te:TE}{p pos p2 bP:Pos}{aa:YP_}{σ:St}{H:Hp}{s:VG}
end
section
variable{X:Cx}{e:Expr}{te:TE}{p pos p2 bP:Pos}{aa:YP_}{σ:St}{H:Hp}{s:VG}
end
end L2
end
section
namespace Rw
open PySem L2 Pl
end Rw
end
section
open L2 PySem
namespace Tr
section
variable{lv:V->Nat}{l:Int}
end
section
variable{tbl aD:List (Int×Dt)}{l:Int}
end
def Tow(lv:V->Nat)(tbl:List (Int×Dt)):Nat->List Dt->List Dt->Prop
 | 0,R,hs=>hs=R
 | l+1,R,hs=>∃ gs,Tow lv tbl l R gs/\Zi tbl l (ZI lv l gs) hs
section
variable{lv:V->Nat}{tbl aD:List (Int×Dt)}
theorem Qxa.tow{ax:List Dt}{top:Nat}{L:Nat->List Dt}(c:Qxa lv tbl ax top L):∀ j,j<=top+1->Tow lv tbl j ax (L j):=by
 intro j
 induction j with
 | zero=>intro _;exact c.low
 | succ j ih=>intro h;exact⟨L j,ih #[0],c.up j #[0]⟩
end
section
variable(lt:V->V->Prop)
def XBb(k:V)(row:Dt)(R R':List Dt):Prop:=∃ A C,R'=A++row::C/\(R=A++C\/∃ o,R=A++o::C/\Q6 o=k)/\(∀ a∈A,lt (Q6 a) k)/\∀ c∈C,lt k (Q6 c)
def Ztc(k:V)(R R':List Dt):Prop:=∃ A o C,R=A++o::C/\R'=A++C/\Q6 o=k
def UpR(R:List Dt):Prop:=R.Pairwise λa b=>lt (Q6 a) (Q6 b)
variable{lt}
theorem UpR.left{A B:List Dt}(h:UpR lt (A++B)):UpR lt A:=(pairwise_append.mp h).1
theorem UpR.right{A B:List Dt}(h:UpR lt (A++B)):UpR lt B:=(pairwise_append.mp h).2.1
theorem UpR.across{A B:List Dt}(h:UpR lt (A++B)){a b:Dt}(ha:a∈A)(hb:b∈B):lt (Q6 a) (Q6 b):=(pairwise_append.mp h).2.2 a ha b hb
theorem XBb.up{k:V}{row:Dt}{R R':List Dt}(h:XBb lt k row R R')(u:UpR lt R)(hk:Q6 row=k)(tr:∀ {a b c},lt a b->lt b c->lt a c):UpR lt R':=by
 obtain⟨A,C,e,e2,h1,h2⟩:=h;have qq:UpR lt A/\UpR lt C:=by
  rcases e2 with e2 | ⟨o,e2,ho⟩
  ·rw[e2]at u;exact⟨u.left,u.right⟩
  ·rw[e2]at u;exact⟨u.left,(pairwise_cons.mp u.right).2⟩
 rw[e];refine pairwise_append.mpr ⟨qq.1,pairwise_cons.mpr ⟨λc hc=>by rw[hk];exact h2 c hc,qq.2⟩,λa ha b hb=>?_⟩
 rcases mem_cons.mp hb with z | z
 ·rw[z,hk];exact h1 a ha
 ·exact tr (h1 a ha) (h2 b z)
theorem Ztc.up{k:V}{R R':List Dt}(h:Ztc k R R')(u:UpR lt R):UpR lt R':=by
 obtain⟨A,o,C,e,e2,h1⟩:=h;rw[e]at u;rw[e2];exact u.sublist (List.Sublist.append_left (sublist_cons_self _ _) _)
theorem XBb.mem{k:V}{row:Dt}{R R':List Dt}(h:XBb lt k row R R')(irr:∀ a,¬ lt a a)(x:Dt):x∈R'↔x=row\/(x∈R/\Q6 x≠k):=by
 obtain⟨A,C,e,e2,h1,h2⟩:=h;have ne:∀ y,y∈A\/y∈C->Q6 y≠k:=λy hy z=>by
  rcases hy with hy | hy
  ·have:=h1 y hy;rw[z]at this;exact irr _ this
  ·have:=h2 y hy;rw[z]at this;exact irr _ this
 rw[e]
 constructor
 ·intro h
  rcases mem_append.mp h with h | h
  ·refine .inr ⟨?_,ne x (.inl h)⟩
   rcases e2 with e2 | ⟨o,e2,_⟩ <;> rw[e2] <;> simp[h]
  ·rcases mem_cons.mp h with h | h
   ·exact .inl h
   ·refine .inr ⟨?_,ne x (.inr h)⟩
    rcases e2 with e2 | ⟨o,e2,_⟩ <;> rw[e2] <;> simp[h]
 ·rintro(h | ⟨h,hk⟩)
  ·simp[h]
  ·rcases e2 with e2 | ⟨o,e2,ho⟩
   ·rw[e2]at h
    rcases mem_append.mp h with h | h <;> simp[h]
   ·rw[e2]at h
    rcases mem_append.mp h with h | h
    ·simp[h]
    ·rcases mem_cons.mp h with h | h
     ·rw[h]at hk;exact absurd ho hk
     ·simp[h]
theorem Ztc.mem{k:V}{R R':List Dt}(h:Ztc k R R')(u:UpR lt R)(irr:∀ a,¬ lt a a)(x:Dt):x∈R'↔x∈R/\Q6 x≠k:=by
 obtain⟨A,o,C,e,e2,h1⟩:=h;rw[e]at u ⊢;rw[e2];have hA:∀ a∈A,Q6 a≠k:=λa ha z=>by
  have:=u.across ha (VM (a:=o) (l:=C));rw[z,h1]at this;exact irr _ this
 have hC:∀ c∈C,Q6 c≠k:=λc hc z=>by
  have:=(pairwise_cons.mp u.right).1 c hc;rw[z,h1]at this;exact irr _ this
 constructor
 ·intro h
  rcases mem_append.mp h with h | h
  ·exact⟨by simp[h],hA x h⟩
  ·exact⟨by simp[h],hC x h⟩
 ·rintro⟨h,hk⟩
  rcases mem_append.mp h with h | h
  ·simp[h]
  ·rcases mem_cons.mp h with h | h
   ·rw[h]at hk;exact absurd h1 hk
   ·simp[h]
end
section
variable{lv:V->Nat}{tbl:List (Int×Dt)}
end
section
variable{lv:V->Nat}{tbl:List (Int×Dt)}
variable{lt:V->V->Prop}
end
section
variable(lt:V->V->Prop)(tbl:List (Int×Dt))(k:V)
end
section
variable{lt:V->V->Prop}{tbl aD:List (Int×Dt)}{k:V}
end
section
variable{lv:V->Nat}{tbl:List (Int×Dt)}
end
end Tr
end
section
namespace L2
open PySem PySem.Spec PyProof.Rows
section
variable{X:Cx}
end
end L2
end
section
namespace L2
open PySem PySem.Spec PyProof.Rows PySem.W
section
variable{prog:Vg}{w:Vb}{A:VF}{E:YQ_}{s:VG}{κ:Iz}{ks vs:List Va}{r:Nat->Nat}
end
section
variable{X:Cx}{aa:YP_}{σ:St}{H:Hp}{s:VG}{A:VF}{E:YQ_}
end
end L2
end
section
namespace L2
open PySem PySem.Spec PyProof.Rows
section
variable{X:Cx}
end
end L2
end
section
open L2 PySem
namespace Tr
section
variable{lv:V->Nat}{tbl:List (Int×Dt)}
section
variable{lt:V->V->Prop}
end
end
end Tr
end
section
namespace L2
open PySem PySem.W PyProof.Rows
section
variable{X:Cx}{aa:YP_}{σ:St}{H:Hp}{s:VG}
end
end L2
end
section
open L2 PySem
namespace Tr
def Pgs(tbl:List (Int×Dt))(l:Int):List Int->List Dt->Prop
 | [],es=>es=[]
 | n::ns,es=>∃ part rest,((n,Zz l part)∈tbl/\part≠[])/\Pgs tbl l ns rest/\es=part++rest
def Lev(tbl:List (Int×Dt)):Nat->List Int->List Dt->Prop
 | 0,ns,R=>Pgs tbl 0 ns R
 | l+1,ns,R=>∃ es,Pgs tbl ((l+1:Nat):Int) ns es/\(∀ d∈es,∃ k n,d=Jq k n)/\Lev tbl l (es.map Zj) R
section
variable{lv:V->Nat}{tbl:List (Int×Dt)}
theorem Pgs.app{l:Int}:∀ {a b:List Int} {A B:List Dt},Pgs tbl l a A->Pgs tbl l b B->Pgs tbl l (a++b) (A++B)
 | [],b,A,B,h,h'=>by rw[show A=[] from h];exact h'
 | n::a,b,A,B,⟨part,rest,m,h,e⟩,h'=>⟨part,rest++B,m,h.app h',by rw[e,IJ]⟩
theorem Pgs.split{l:Int}:∀ {a b:List Int} {R:List Dt},Pgs tbl l (a++b) R->∃ A B,R=A++B/\Pgs tbl l a A/\Pgs tbl l b B
 | [],b,R,h=>⟨[],R,rfl,rfl,h⟩
 | n::a,b,R,⟨part,rest,m,h,e⟩=>by
  obtain⟨A,B,e2,h1,h2⟩:=Pgs.split h;exact⟨part++A,B,by rw[e,e2,IJ],⟨part,A,m,h1,rfl⟩,h2⟩
theorem Pgs.det(f:Fn tbl){l:Int}:∀ {a:List Int} {A B:List Dt},Pgs tbl l a A->Pgs tbl l a B->A=B
 | [],A,B,h,h'=>by rw[show A=[] from h,show B=[] from h']
 | n::a,A,B,⟨part,rest,m,h,e⟩,⟨part',aX,m',h',e'⟩=>by
  rw[e,e',(YL (f.num _ _ _ m.1 m'.1)).2,Pgs.det f h h']
theorem Lev.nil:∀ l,Lev tbl l [] []
 | 0=>rfl
 | l+1=>⟨[],rfl,(λ_ h=>nomatch h),Lev.nil l⟩
theorem Lev.app:∀ {l:Nat} {a b:List Int} {A B:List Dt},Lev tbl l a A->Lev tbl l b B->Lev tbl l (a++b) (A++B)
 | 0,a,b,A,B,h,h'=>Pgs.app h h'
 | l+1,a,b,A,B,⟨es,p,o,h⟩,⟨es',p',o',h'⟩=>⟨es++es',p.app p',(λd hd=>(mem_append.mp hd).elim (o d) (o' d)),by rw[Dd];exact h.app h'⟩
theorem Lev.split:∀ {l:Nat} {a b:List Int} {R:List Dt},Lev tbl l (a++b) R->∃ A B,R=A++B/\Lev tbl l a A/\Lev tbl l b B
 | 0,a,b,R,h=>Pgs.split h
 | l+1,a,b,R,⟨es,p,o,h⟩=>by
  obtain⟨x,y,e,p1,p2⟩:=p.split;rw[e]at o;rw[e,Dd]at h;obtain⟨A,B,e2,h1,h2⟩:=h.split;exact⟨A,B,e2,⟨x,p1,(λd hd=>o d (VS _ hd)),h1⟩,⟨y,p2,(λd hd=>o d (Uw _ hd)),h2⟩⟩
theorem Lev.det(f:Fn tbl):∀ {l:Nat} {a:List Int} {A B:List Dt},Lev tbl l a A->Lev tbl l a B->A=B
 | 0,a,A,B,h,h'=>Pgs.det f h h'
 | l+1,a,A,B,⟨es,p,_,h⟩,⟨es',p',_,h'⟩=>by
  have:=p.det f p';subst this;exact h.det f h'
theorem Lev.mem(f:Fn tbl){l:Nat}{ns:List Int}{R S:List Dt}(h:Lev tbl l ns R){n:Int}(hn:n∈ns)(hS:Lev tbl l [n] S):∃ A B,R=A++(S++B):=by
 obtain⟨a,b,e⟩:=D1 hn;rw[e,show a++n::b=a++([n]++b) from rfl]at h
 obtain⟨A,R2,e1,_,h2⟩:=h.split;obtain⟨S',B,e2,h3,_⟩:=h2.split;exact⟨A,B,by rw[e1,e2,h3.det f hS]⟩
theorem Lev.filter{l:Nat}{p:Int->Bool}:∀ {ns:List Int} {R:List Dt},Lev tbl l ns R->∃ R',Lev tbl l (ns.filter p) R'/\R'.Sublist R /\
 (∀ x∈R,x∈R'\/∃ n∈ns,p n=false/\∃ S,Lev tbl l [n] S/\x∈S)/\∀ x∈R',∃ n∈ns,p n=true/\∃ S,Lev tbl l [n] S/\x∈S:=by
 intro ns
 induction ns with
 | nil=>intro R h;exact⟨R,h,D4 _,λx hx=>.inl hx,λx hx=>by
  have:R=[]:=by
   clear hx;cases l with
   | zero=>exact h
   | succ l =>
    obtain⟨es,p,_,h⟩:=h;rw[show es=[] from p]at h
    have:∀ l,Lev tbl l [] R->R=[]:=by
     intro l
     induction l with
     | zero=>exact λh=>h
     | succ l ih=>rintro⟨es,p,_,h⟩;rw[show es=[] from p]at h;exact ih h
    exact this l h
  rw[this]at hx;cases hx⟩
 | cons n ns ih =>
  intro R h;obtain⟨S,T,e,hS,hT⟩:=Lev.split (a:=[n]) h;obtain⟨T',h1,h2,h3,h4⟩:=ih hT
  by_cases hp:p n=true
  ·rw[filter_cons_of_pos hp]
   refine⟨S++T',hS.app h1,by rw[e];exact List.Sublist.append (D4 _) h2,λx hx=>?_,λx hx=>?_⟩
   ·rw[e]at hx
    rcases mem_append.mp hx with hx | hx
    ·exact .inl (VS _ hx)
    ·rcases h3 x hx with z | ⟨m,hm,z⟩
     ·exact .inl (Uw _ z)
     ·exact .inr ⟨m,VN _ hm,z⟩
   ·rcases mem_append.mp hx with hx | hx
    ·exact⟨n,VM,hp,S,hS,hx⟩
    ·obtain⟨m,hm,z⟩:=h4 x hx;exact⟨m,VN _ hm,z⟩
  ·rw[filter_cons_of_neg hp]
   refine⟨T',h1,by rw[e];exact h2.trans (sublist_append_right _ _),λx hx=>?_,λx hx=>?_⟩
   ·rw[e]at hx
    rcases mem_append.mp hx with hx | hx
    ·exact .inr ⟨n,VM,by simpa using hp,S,hS,hx⟩
    ·rcases h3 x hx with z | ⟨m,hm,z⟩
     ·exact .inl z
     ·exact .inr ⟨m,VN _ hm,z⟩
   ·obtain⟨m,hm,z⟩:=h4 x hx;exact⟨m,VN _ hm,z⟩
theorem Lev.once(f:Fn tbl){l:Nat}{ns:List Int}{R S T:List Dt}(h:Lev tbl l ns R)(nd:R.Nodup){n m:Int}(hn:n∈ns)(hm:m∈ns)(hS:Lev tbl l [n] S)(hT:Lev tbl l [m] T){x:Dt}(hx:x∈S)(hy:x∈T):n=m:=by
 apply D5
 intro ne;obtain⟨a,b,e⟩:=D1 hn;rw[e,show a++n::b=a++([n]++b) from rfl]at h
 obtain⟨A,R2,e1,hA,h2⟩:=h.split;obtain⟨S',B,e2,h3,hB⟩:=h2.split;have:=h3.det f hS;subst this;rw[e1,e2]at nd;obtain⟨_,uT,d1⟩:=nodup_append.mp nd;obtain⟨_,_,d2⟩:=nodup_append.mp uT;rw[e]at hm
 rcases mem_append.mp hm with z | z
 ·obtain⟨A1,A2,ea⟩:=hA.mem f z hT
  exact d1 x (by rw[ea];simp[hy]) x (VS _ hx) rfl
 ·rcases mem_cons.mp z with z | z
  ·exact ne z.symm
  ·obtain⟨A1,A2,ea⟩:=hB.mem f z hT
   exact d2 x hx x (by rw[ea];simp[hy]) rfl
structure Rst(A R B S:List Dt):Prop where
 a:R.Sublist A
 b:S.Sublist B
 ab:∀ x∈A,x∉R->x∈B/\x∉S
 ba:∀ x∈B,x∉S->x∈A/\x∉R
theorem Rst.symm{A R B S:List Dt}(h:Rst A R B S):Rst B S A R:=⟨h.b,h.a,h.ba,h.ab⟩
theorem Rst.start:Rst [] [] [] []:=⟨D4 _,D4 _,(λ_ h=>nomatch h),(λ_ h=>nomatch h)⟩
theorem Rst.join{A B S:List Dt}(h:Rst [] [] B S):Rst A A B S:=⟨D4 _,h.b,λx h1 h2=>(h2 h1).elim,λx h1 h2=>nomatch (h.ba x h1 h2).1⟩
theorem Rst.step(f:Fn tbl){l:Nat}{ns ms:List Int}{A R B S:List Dt}(h:Rst A R B S)(hR:Lev tbl l ns R)(hS:Lev tbl l ms S)(nA:A.Nodup)(nB:B.Nodup) :
 ∃ R' S',Lev tbl l (ns.filter λn=>!decide (n∈ms)) R'/\Lev tbl l (ms.filter λn=>!decide (n∈ns)) S'/\Rst A R' B S':=by
 obtain⟨R',r1,r2,r3,r4⟩:=hR.filter (p:=λn=>!decide (n∈ms))
 obtain⟨S',s1,s2,s3,s4⟩:=hS.filter (p:=λn=>!decide (n∈ns))
 have jc:∀ {ns ms:List Int} {A R B S R' S':List Dt},Rst A R B S->Lev tbl l ms S->S.Nodup->S'.Sublist S->(∀ x∈R,x∈R'\/∃ n∈ns,(!decide (n∈ms))=false/\∃ T,Lev tbl l [n] T/\x∈T)->(∀ x∈S',∃ n∈ms,(!decide (n∈ns))=true/\∃ T,Lev tbl l [n] T/\x∈T)->∀ x∈A,x∉R'->x∈B/\x∉S':=by
  intro ns ms A R B S R' S' h hS nS sub r3 s4 x hx hn
  by_cases hr:x∈R
  ·rcases r3 x hr with z | ⟨n,n1,n2,T,hT,xT⟩
   ·exact(hn z).elim
   ·have nm:n∈ms:=by simpa using n2
    obtain⟨P,Q,e⟩:=hS.mem f nm hT;refine⟨h.b.subset (by rw[e];simp[xT]),λz=>?_⟩
    obtain⟨m,m1,m2,U,hU,xU⟩:=s4 x z;have:=hS.once f nS nm m1 hT hU xT xU;subst this;simp at m2;exact m2 n1
  ·have:=h.ab x hx hr
   exact⟨this.1,λz=>this.2 (sub.subset z)⟩
 have g1:=jc h hS (D6 h.b nB) s2 r3 s4;have g2:=jc h.symm hR (D6 h.a nA) r2 s3 r4;exact⟨R',S',r1,s1,⟨r2.trans h.a,s2.trans h.b,g1,g2⟩⟩
theorem Zi.pgs{l:Int}{af:List (List Dt)}{hs:List Dt}(h:Zi tbl l af hs)(full:∀ p∈af,p≠[]):Pgs tbl l (hs.map Zj) af.flatten:=by
 induction h with
 | nil=>rfl
 | @cons part af hs n h r ih=>exact⟨part,af.flatten,⟨h,full part VM⟩,ih λp hp=>full p (VN _ hp),by simp⟩
theorem Tow.lev:∀ {l:Nat} {R hs:List Dt},Tow lv tbl (l+1) R hs->Lev tbl l (hs.map Zj) R
 | 0,R,hs,⟨gs,a,b⟩=>by
  have:=b.pgs (JS (lv:=lv) _ gs).full;rw[(JS (lv:=lv) _ gs).flat,show gs=R from a]at this
  exact this
 | l+1,R,hs,⟨gs,a,b⟩=>by
  have:=b.pgs (JS (lv:=lv) _ gs).full;rw[(JS (lv:=lv) _ gs).flat]at this;obtain⟨gs',a',b'⟩:=id a;exact⟨gs,this,(λd hd=>let ⟨part,_,n,e,_⟩:=b'.mem hd;⟨_,n,e⟩),a.lev⟩
theorem Pgs.len{l:Int}:∀ {ns:List Int} {es:List Dt},Pgs tbl l ns es->ns.length<=es.length
 | [],_,_=>Ux _
 | n::ns,es,⟨part,rest,⟨_,hp⟩,h,e⟩=>by
  have:=h.len;have:=length_pos_iff.mpr hp;rw[e,On,UG];lia
theorem Lev.len:∀ {l:Nat} {ns:List Int} {R:List Dt},Lev tbl l ns R->ns.length<=R.length
 | 0,_,_,h=>Pgs.len h
 | l+1,_,_,⟨es,p,_,h⟩=>by
  have:=p.len;have:=h.len;rw[UO]at this;lia
def Zuc(tbl:List (Int×Dt)):Nat->List Dt->List Dt->Prop
 | 0,hs,R=>hs=R
 | l+1,hs,R=>(∀ d∈hs,∃ k n,d=Jq k n)/\Lev tbl l (hs.map Zj) R
theorem Lev.down{l:Nat}{ns:List Int}{R:List Dt}(h:Lev tbl l ns R):∃ es,Pgs tbl (l:Int) ns es/\Zuc tbl l es R:=by
 cases l with
 | zero=>exact⟨R,h,rfl⟩
 | succ l=>obtain⟨es,p,o,h⟩:=h;exact⟨es,p,o,h⟩
theorem Zuc.len{l:Nat}{hs R:List Dt}(h:Zuc tbl l hs R):hs.length<=R.length:=by
 cases l with
 | zero=>rw[show hs=R from h];exact Ut _
 | succ l=>have:=h.2.len;rw[UO]at this;exact this
def Qx(o:Option (Int×Nat×V))(l:Nat):List Dt:=o.elim [] λx=>if x.2.1=l then [Jq x.2.2 x.1] else []
def YTa(o:Option (Int×Nat×V))(A:List Dt)(l:Nat):List Dt:=o.elim [] λx=>if l<=x.2.1 then A else []
theorem XCa(o:Option (Int×Nat×V))(l:Nat):∀ d∈Qx o l,∃ k n,d=Jq k n:=by
 intro d hd;cases o with
 | none=>cases hd
 | some x =>
  have hd:d∈if x.2.1=l then [Jq x.2.2 x.1] else []:=hd
  by_cases e:x.2.1=l
  ·rw[if_pos e]at hd;exact⟨_,_,mem_singleton.mp hd⟩
  ·rw[if_neg e]at hd;cases hd
theorem Yea(o:Option (Int×Nat×V))(l:Nat):(Qx o l).length<=1:=by
 cases o with
 | none=>exact Ux _
 | some x =>
  show(if x.2.1=l then [Jq x.2.2 x.1] else []).length<=1
  by_cases e:x.2.1=l
  ·rw[if_pos e];exact Ut _
  ·rw[if_neg e];exact Ux _
theorem Zoa(o:Option (Int×Nat×V))(A:List Dt)(l:Nat):(YTa o A l).Sublist A:=by
 cases o with
 | none=>exact nil_sublist _
 | some x =>
  show(if l<=x.2.1 then A else []).Sublist A
  by_cases e:l<=x.2.1
  ·rw[if_pos e];exact D4 _
  ·rw[if_neg e];exact nil_sublist _
theorem Rst.enter{o:Option (Int×Nat×V)}{A R B S:List Dt}{l:Nat}{ns:List Int}(h:Rst (YTa o A (l+1)) R B S)(hR:Lev tbl l ns R)(hA:∀ x,o=some x->Lev tbl x.2.1 [x.1] A):∃ R',Lev tbl l (ns++(Qx o l).map Zj) R'/\Rst (YTa o A l) R' B S:=by
 cases o with
 | none=>exact⟨R,by rw[show Qx Vo l=[] from rfl,CF,U0];exact hR,h⟩
 | some x =>
  have h:Rst (if l+1<=x.2.1 then A else []) R B S:=h
  by_cases e:x.2.1=l
  ·have hx:=hA x rfl
   rw[e]at hx;rw[if_neg #[0]]at h
   have e0:R=[]:=sublist_nil.mp h.a;subst e0;refine⟨A,?_,?_⟩
   ·rw[show Qx (some x) l=[Jq x.2.2 x.1] from if_pos e]
    exact hR.app hx
   ·rw[show YTa (some x) A l=A from if_pos #[0]]
    exact h.join
  ·refine⟨R,?_,?_⟩
   ·rw[show Qx (some x) l=[] from if_neg e,CF,U0]
    exact hR
   ·show Rst (if l<=x.2.1 then A else []) R B S
    by_cases e2:l<=x.2.1
    ·rw[if_pos e2];rw[if_pos #[0]]at h;exact h
    ·rw[if_neg e2];rw[if_neg #[0]]at h;exact h
end
end Tr
end
section
open PySem
namespace L2
section
variable{X:Cx}{aa:YP_}{σ:St}{H:Hp}{s:VG}{a b:Vh}{ae more:List (Key×V)}{A:VF}{E:YQ_}
end
section
variable{X:Cx}{o e:Expr}{ai ak:Pos}{td ty:TE}
end
end L2
end
section
namespace L2
open PySem PySem.Spec PyProof.Rows
section
variable{X:Cx}{m:Str}{k:Nat}{ta:TE}{t:TA}{e o:Expr}{es:List Expr}{pos ai:Pos}{pl:Sem Bool}{f:Vh}{fd:UZ}{ps:List Str}{sp:Sp}
theorem JUc{aa:YP_}{σ:St}{H:Hp}{s:VG}{Q:VK}{us:List Va}{vs:List V}{W:YQ_}(F:QB X.prog X.w X.K X.mg X.base (CX1 X.prog X.w) k f fd ps sp)(hr:QX k X.A)(hb:Zv X.K fd ps [])
 (I:Inv X aa σ H s) (r:Qt vs us) (h:sp vs H Q E0):VV (VW X.prog X.w) X.A (Uy (.ref f) us) (EP X aa σ Q) W s:=by
 have hl:(us++[]).length=ps.length:=by rw[U0,<- r.length];exact F.len _ _ _ _ h
 have b:=hb s us I.kIn hl;rw[U0]at b;refine U1 (U2 (F.run X.A X.stack s H ⟨us,[]⟩ us vs Q E0 hr I.env0 b r h) λres s' hq=>?_)
 cases res with
 | error ev =>
  obtain⟨ea,cls,dx,ch,H',rfl,os,bare,un,hok,y,n1,n2,hE⟩:=hq;exact hE.elim
 | ok fl =>
  cases fl with
  | ret u=>exact I.after hq
  | next=>exact V8 hq
  | brk=>exact V8 hq
  | cont=>exact V8 hq
def Zvc(P:Vg)(w:Vb)(K:VC)(mg:Str->Option Va)(base:Vp)(k:Nat)(m:Str)(ta:TE):TE:=λσ H Q=>J0a P w K mg base k m ta Jea σ H Q E0
theorem XDa{P:Vg}{w:Vb}{K:VC}{mg:Str->Option Va}{base:Vp}(eP:X.prog=P)(ew:X.w=w)(eK:X.K=K)(em:X.mg=mg)(eb:X.base=base)(he:PE X o ta)(hr:QX k X.A)
 (ht:VX (.Call (.Attribute o m ai) [] [] pos) X.env=(do
  let ov <- VX o X.env
  V5 ai.atName
  let (f,first) <- V6 [ov] (UF ov m pl)
  L4 pos f first (VY pos (VZ [] X.env)) (U8 pos (U9 [] X.env))):=by rfl) :
 PE X (.Call (.Attribute o m ai) [] [] pos) (Zvc P w K mg base k m ta):=by
 subst eP ew eK em eb;intro aa s σ H Q I h;refine L5 (pl:=pl) (thn (he aa s σ H _ I h) λu s1 hZ=>?_) ht
 obtain⟨y,H1,I1,rx,a,C,dx,fs,sp,ex,ea,l,c,G,q⟩:=hZ;obtain⟨f,fd,ps,hm,F,hb⟩:=G;subst ex;obtain rfl:u=Vk a:=rx;refine YV I1 ea c hm l ?_
 exact U6 (first:=[.ref a]) I1.kIn hm.kp (JUc (us:=[.ref a]) (vs:=[.ref a]) F hr hb I1 (.cons rfl .nil) q)
end
end L2
end
section
open PySem L2
namespace Tr
section
variable{lv:V->Nat}{tbl aD:List (Int×Dt)}
end
end Tr
end
section
namespace PySem
section
variable{prog:Vg}{w:Vb}{K:Type}[DecidableEq K]{knd:HeapKind prog w K}{A:VF}{E:YQ_}{s:VG}
end
end PySem
namespace L2
open PySem PySem.Spec PyProof.Rows
section
variable{X:Cx}{aa:YP_}{σ:St}{H:Hp}{s:VG}{a b:Vh}{xs:NX}{d:Dt}{A:VF}{E:YQ_}{ae:List (Key×V)}{k:Key}{u r:Va}{v:V}
end
section
variable{X:Cx}{o e f:Expr}{ai ak:Pos}{td ty tx:TE}
end
section
variable{X:Cx}
end
section
variable{X:Cx}
end
section
variable{X:Cx}{e:Expr}{es:List Expr}{t:TA}{p pos:Pos}
theorem Qj(i:Nat){x:Str}{te:TE}{aI:Pos}(hN:X.N.Nodup)(he:PE X e te)(hi:X.N[i]?=some x:=by rfl)(hx:Loc X.env.scope x:=by first | exact OJ rfl | exact Or.inr rfl)(hs:Ua e (some (.Name x aI)) pos.line X.env=pure false:=by rfl)(hf:X.fn x=true\/X.env.scope.names.lookup x=some .local:=by first | exact .inl rfl | exact .inr rfl | assumption) :
 PS X (.Assign [.Name x aI] e pos) (YRc te (QMb i)):=YSc hN hi hx he hs hf
theorem Qm{j k:Nat}{x:Str}{ps:List Str}{sp:Sp}(G:Cal X.prog X.w X.K X.mg X.base j x ps sp)(hr:QX k X.A)(ha:PA X (e::es) t)(hj:j<=k:=by decide)(hg:Gl X x:=by rfl)(aP:(x == ("__debug__":Str))=false:=by decide)
 (he:VZ (e::es) X.env=(false,VX e X.env)::VZ es X.env:=by rfl) (aN:(VY pos (VZ es X.env)).any (·.1)=false:=by rfl):PE X (.Call (.Name x p) (e::es) [] pos) (QPb sp [] E0 t):=Xgc G hr hj hg ha aP he aN
theorem Yfa{j k:Nat}{x:Str}{ps:List Str}{sp:Sp}(G:JEc X.prog X.w X.K X.mg X.base j x ps sp)(hr:QX k X.A)(ha:PA X.nox (e::es) t)(hj:j<=k:=by decide)(hg:Gl X x:=by rfl)(bi:X.ex=[]:=by rfl)(aP:(x == ("__debug__":Str))=false:=by decide)
 (he:VZ (e::es) X.env=(false,VX e X.env)::VZ es X.env:=by rfl) (aN:(VY pos (VZ es X.env)).any (·.1)=false:=by rfl):PE1 X (.Call (.Name x p) (e::es) [] pos) (X6a sp t):=JFc G hr hj hg bi ha aP he aN
end
section
variable{X:Cx}
end
theorem YJ{α β:Type}(f:α->β):∀ (xs:List α) (j:Nat),(xs.map f).eraseIdx j=(xs.eraseIdx j).map f
 | [],j=>by cases j <;> rfl
 | x::xs,0=>rfl
 | x::xs,j+1=>by simp[YJ f xs j]
section
variable{X:Cx}
end
section
variable{P:Vg}{w:Vb}{K:VC}{mg:Str->Option Va}{base:Vp}
end
def YAb(t:TE):TE:=t
theorem JVc{X:Cx}{e:Expr}{t:TE}(h:PE X e t):PE X e (YAb t):=h
section
variable{K:VC}{σ:St}{H:Hp}{Q:VK}{ia ic:Nat}{l l2:Vh}{xs bs zs:List V}{i j:Int}{t1 t2 tb:TE}
theorem Qyd{n:Nat}(h:n<=9000):n<=Vr:=VI h (by rw[UB];decide)
theorem YBb(xs:List V)(lo hi:Option Int):(Qna xs lo hi).length<=xs.length:=by
 unfold Qna;rw[Of,Ov]
 lia
theorem XFc(e1:σ[ia]?=some (some (.ref l)))(e2:σ[ic]?=some (some (.ref l2)))(h1:∀ H Q,Q (.int i) H->t1 σ H Q)(h2:∀ H Q,Q (.int j) H->t2 σ H Q)
 (hb:∀ H0 (R:VK),Ql H H0->(∀ b H1,Ql H0 H1->H1 b=some (.lst bs)->R (.ref b) H1)->tb σ H0 R) (hl:H l=some (.lst xs)) (dX:H l2=some (.lst zs)) (lx:xs.length<=1000) (lz:zs.length<=1000) (lb:bs.length<=1000)
 (q:∀ r H',Ql H H'->H r=Vo->H' r=some (.lst (Qna xs Vo (some i)++bs++Qna zs (some j) Vo))->Q (.ref r) H') :
 YAb (tOp Jbb (tOp Jbb (tSl (Z8b K) (JC ia) YW (JIa t1)) tb) (tSl (Z8b K) (JC ic) (JIa t2) YW)) σ H Q:=by
 have c1:=YBb xs Vo (some i);have c2:=YBb zs (some j) Vo;unfold YAb;simp only[tOp,tSl,JIa,YW,Z8b,Jbb];refine Qba e1 (h1 _ _ ⟨i,rfl,l,xs,rfl,SqL.of hl,λp hp=>hb _ _ (Qh hp _) λb H1 s1 cT=>⟨p,b,_,_,rfl,rfl,s1 _ _ Qa,cT,Qyd #[0],λp2 bD=>?_⟩⟩)
 have s2:=((Qh hp _).trans s1).trans (Qh bD (.lst (Qna xs Vo (some i)++bs)));refine Qba e2 (h2 _ _ ⟨j,rfl,l2,zs,rfl,SqL.of (s2 _ _ dX),λp3 m8=>⟨p2,p3,_,_,rfl,rfl,Qh m8 _ _ _ Qa,Qa,Qyd (by rw[On];lia),λp4 m9=>?_⟩⟩)
 have s3:=s2.trans (Qh m8 (.lst (Qna zs (some j) Vo)));refine q p4 _ (s3.trans (Qh m9 _)) ?_ Qa
 cases e:H p4 with
 | none=>rfl
 | some o=>rw[s3 _ _ e]at m9;cases m9
end
end L2
end
section
namespace L2
open PySem PySem.W PyProof.Rows
end L2
end
section
namespace L2
open PySem PySem.Spec PyProof.Rows PySem.W
section
variable{X:Cx}{aa:YP_}{σ:St}{H:Hp}{s:VG}{k:Nat}{f:Vh}{fd:UZ}{p0:Str}{sp:Sp}{A:VF}{E:YQ_}
end
section
variable{X:Cx}{aa:YP_}{σ:St}{H:Hp}{s:VG}{k:Nat}{f:Vh}{fd:UZ}{p0:Str}{sp:Sp}
end
section
variable{X:Cx}{aa:YP_}{σ:St}{H:Hp}{s:VG}{A:VF}{E:YQ_}
end
def fvN:Nat->Nat->Nat
 | 0,x=>x
 | t+1,x=>fvN t (x * 5+1)
theorem YCb(a:Nat):∀ (b x:Nat),fvN (a+b) x=fvN b (fvN a x):=by
 induction a with
 | zero=>intro b x;rw[Lb];rfl
 | succ a ih=>intro b x;rw[Nat.succ_add];exact ih b _
theorem XGc(k:Nat):∃ c,∀ x,fvN (2 ^ k) x=x+4 * (2 ^ k * (2 * c+1)) * x+2 ^ k * (2 * c+1):=by
 induction k with
 | zero=>exact⟨0,λx=>by show x * 5+1=_;simp;lia⟩
 | succ k ih =>
  obtain⟨c,hc⟩:=ih;generalize hm:2 ^ k=m at hc;refine⟨2 * c * (m * (2 * c+1))+c+m * (2 * c+1),λx=>?_⟩
  rw[D7,hm,Nat.mul_two,YCb,hc,hc]
  grind
theorem JWc(k:Nat):∀ x y,∃ t,t < 2 ^ k/\fvN t x % 2 ^ k=y % 2 ^ k:=by
 induction k with
 | zero=>intro x y;exact⟨0,by decide,by simp[Nat.mod_one]⟩
 | succ k ih =>
  intro x y;obtain⟨t,ht,e⟩:=ih x y;obtain⟨c,hc⟩:=XGc k;have hp:0 < 2 ^ k:=Nat.pow_pos #[1]
  rw[D7];generalize 2 ^ k=m at *
  by_cases h:fvN t x % (m * 2)=y % (m * 2)
  ·exact⟨t,by lia,h⟩
  ·refine⟨t+m,by lia,?_⟩
   rw[YCb,hc];generalize fvN t x=z at *;rw[show z+4 * (m * (2 * c+1)) * z+m * (2 * c+1)=(z+m)+m * 2 * (2 * (2 * c+1) * z+c) by grind,Nat.add_mul_mod_self_left,D8,D8,Nat.add_mod_right,Nat.add_div_right _ hp,e]
   rw[D8,D8,e]at h;have h2:z / m % 2≠y / m % 2:=λw=>h (by rw[w])
   rw[show(z / m).succ % 2=y / m % 2 by lia]
def lpN(mask:Nat):Nat->Nat->Nat->Nat×Nat
 | 0,i,p=>(i,p)
 | t+1,i,p=>lpN mask t (SetTable.leap mask i p).1 (SetTable.leap mask i p).2
theorem JXc(mask a:Nat):∀ (b i p:Nat),lpN mask (a+b) i p=lpN mask b (lpN mask a i p).1 (lpN mask a i p).2:=by
 induction a with
 | zero=>intro b i p;rw[Lb];rfl
 | succ a ih=>intro b i p;rw[Nat.succ_add];exact ih b _ _
theorem JYc(mask t:Nat):∀ (i p:Nat),(lpN mask t i p).2=p / 32 ^ t:=by
 induction t with
 | zero=>intro i p;simp[lpN]
 | succ t ih=>intro i p;show(lpN mask t _ _).2=_;rw[ih];show p / 32 / 32 ^ t=_;rw[Nat.div_div_eq_div_mul,D7,Nat.mul_comm]
theorem XHc(mask t:Nat):∀ (i p:Nat),i < mask+1->(lpN mask t i p).1 < mask+1:=by
 induction t with
 | zero=>intro i p h;exact h
 | succ t ih=>intro i p h;exact ih _ _ (DR _ (D9 _))
theorem Zwc(m:Nat):∀ (t x y:Nat),x % m=y % m->fvN t x % m=fvN t y % m
 | 0,_,_,h=>h
 | t+1,x,y,h=>Zwc m t _ _ (by rw[Nat.add_mod,Nat.mul_mod,h,<- Nat.mul_mod,<- Nat.add_mod])
theorem Zxc(mask t:Nat):∀ i,i < mask+1->(lpN mask t i 0).1=fvN t i % (mask+1):=by
 induction t with
 | zero=>intro i h;exact(Nat.mod_eq_of_lt h).symm
 | succ t ih =>
  intro i h;show(lpN mask t ((i * 5+1+0 / 32) % (mask+1)) (0 / 32)).1=fvN t (i * 5+1) % (mask+1);rw[show 0 / 32=0 from rfl,IZ,ih _ (DR _ (D9 _))]
  exact Zwc _ _ _ _ (Nat.mod_mod _ _)
theorem Jwb{mask k:Nat}(hm:mask+1=2 ^ k){i p y:Nat}(hi:i < mask+1)(hp:p < 32 ^ 13)(hy:y < mask+1):∃ t,t < Ca mask/\(lpN mask t i p).1=y:=by
 have h0:(lpN mask 13 i p).2=0:=by rw[JYc];exact Nat.div_eq_of_lt hp
 obtain⟨t,ht,e⟩:=JWc k (lpN mask 13 i p).1 y;rw[<- hm]at ht e;refine⟨13+t,by unfold Ca;lia,?_⟩
 rw[JXc,h0,Zxc _ _ _ (XHc _ _ _ _ hi),e,Nat.mod_eq_of_lt hy]
theorem Jxb{mask:Nat}{owner:Array (Option Nat)}:∀ (av i p:Nat),(∃ t,t < av/\(owner.getD (lpN mask t i p).1 (some 0)).isNone=true)->∃ j,Cb mask owner av i p=some j/\(owner.getD j (some 0)).isNone=true:=by
 intro av
 induction av with
 | zero=>rintro i p ⟨t,h,_⟩;lia
 | succ av ih =>
  rintro i p ⟨t,h,e⟩;unfold Cb;cases hf:(VB (SetTable.runEnd mask i+1 - i)).find? λk=>(owner.getD (i+k) (some 0)).isNone with
  | some k=>exact⟨i+k,rfl,by simpa using find?_some hf⟩
  | none =>
   cases t with
   | zero =>
    exfalso
    have z:=find?_eq_none.mp hf 0 (mem_range.mpr (by unfold SetTable.runEnd;split <;> lia))
    exact z e
   | succ t=>exact ih _ _ ⟨t,by lia,e⟩
theorem Zpb{α β:Type}{g g':α->Option β}:∀ {l:List α},(∀ x∈l,g x=g' x)->l.filterMap g=l.filterMap g'
 | [],_=>rfl
 | a::l,h=>by rw[VL,VL,h a VM,Zpb λx hx=>h x (VN _ hx)]
theorem Zqb{α:Type}:∀ (l:List α),(VB l.length).filterMap (l[·]?)=l
 | []=>rfl
 | a::l=>by
  rw[UG,CD,Cc (f:=λx=>(a::l)[x]?) (b:=a) rfl,filterMap_map]
  exact congrArg _ (Zqb l)
theorem XIc{l:List Nat}{g g':Nat->Option Nat}{j k:Nat}(nd:l.Nodup)(hj:j∈l)(h0:g j=Vo)(h1:g' j=some k)(hE:∀ i,i≠j->g' i=g i):(l.filterMap g').Perm (k::l.filterMap g):=by
 induction l with
 | nil=>cases hj
 | cons a l ih =>
  rw[Ds]at nd
  by_cases e:a=j
  ·subst e
   rw[Cc h1,filterMap_cons_none h0];rw[show l.filterMap g'=l.filterMap g from Zpb λx hx=>hE x λz=>nd.1 (z ▸ hx)]
  ·have gC:j∈l:=(mem_cons.mp hj).resolve_left (VR e)
   rw[VL,VL,hE a e];cases g a with
   | none=>exact ih nd.2 gC
   | some b=>exact((ih nd.2 gC).cons b).trans (Li _ _ _)
theorem YDb:∀ {l:List Nat} {g:Nat->Option Nat},(∀ j∈l,g j≠Vo)->(l.filterMap g).length=l.length
 | [],_,_=>rfl
 | a::l,g,h=>by
  cases e:g a with
  | none=>exact(h a VM e).elim
  | some b=>rw[Cc e,UG,UG,YDb λj hj=>h j (VN _ hj)]
def Zpa(owner:Array (Option Nat))(M:Nat):List Nat:=(VB M).filterMap λj=>owner.getD j Vo
theorem JZc(h:Int):Cd h < 32 ^ 13:=by unfold Cd;lia
theorem XJc{mask k:Nat}(hm:mask+1=2 ^ k):∀ (hs:List Int) (owner:Array (Option Nat)) (n:Nat),owner.size=mask+1->(Zpa owner (mask+1)).Perm (VB n)->n+hs.length<=mask+1 ->
 ∃ owner',hs.foldl (λ(az:Option (Array (Option Nat)×Nat)) h=>do
  let (owner,k) <- az
  let j <- Cb mask owner (Ca mask) (Cd h % (mask+1)) (Cd h)
  pure (owner.setIfInBounds j (some k),k+1)) (some (owner,n))=some (owner',n+hs.length)/\owner'.size=mask+1/\(Zpa owner' (mask+1)).Perm (VB (n+hs.length)):=by
 intro hs
 induction hs with
 | nil=>intro owner n h1 h2 h3;exact⟨owner,rfl,h1,h2⟩
 | cons h hs ih =>
  intro owner n h1 h2 h3;rw[UG]at h3;obtain⟨y,hy,ey⟩:∃ y,y < mask+1/\owner.getD y Vo=Vo:=by
   apply D5
   intro z;have f:=YDb (l:=VB (mask+1)) (g:=λj=>owner.getD j Vo) λj hj e=>z ⟨j,mem_range.mp hj,e⟩
   have:=h2.length_eq;unfold Zpa at this;rw[f,Ln,Ln]at this
   lia
  have gd:∀ j,j < mask+1->owner.getD j (some 0)=owner.getD j Vo:=λj hj=>by rw[Iw,Iw,DB #[0]];rfl
  obtain⟨t,ht,et⟩:=Jwb hm (i:=Cd h % (mask+1)) (p:=Cd h) (DR _ (D9 _)) (JZc h) hy;obtain⟨j,ej,fj⟩:=Jxb (mask:=mask) (owner:=owner) (Ca mask) (Cd h % (mask+1)) (Cd h) ⟨t,ht,by rw[et,gd y hy,ey];rfl⟩
  have hj:j < mask+1:=by
   rcases DC j (mask+1) with q | q
   ·exact q
   ·rw[Iw,DE #[0]]at fj;cases fj
  have uU:owner.getD j Vo=Vo:=by rw[<- gd j hj];exact Option.isNone_iff_eq_none.mp fj
  have key:(Zpa (owner.setIfInBounds j (some n)) (mask+1)).Perm (VB (n+1)):=by
   refine(XIc (l:=VB (mask+1)) (g:=λj=>owner.getD j Vo) (k:=n) nodup_range (mem_range.mpr hj) uU ?_ ?_).trans ?_
   ·rw[Iw,Array.getElem?_setIfInBounds_self_of_lt #[0]];rfl
   ·intro i hi
    rw[Iw,Le (VR hi),<- Iw]
   ·rw[show VB (n+1)=VB n++[n] from range_succ]
    exact(h2.cons n).trans (perm_append_singleton n _).symm
  obtain⟨o',a,b,c⟩:=ih (owner.setIfInBounds j (some n)) (n+1) (by rw[Array.size_setIfInBounds];exact h1) key #[0]
  refine⟨o',?_,b,?_⟩
  ·rw[Ld]
   show List.foldl _ (do let j <- Cb mask owner (Ca mask) (Cd h % (mask+1)) (Cd h);pure (owner.setIfInBounds j (some n),n+1)) hs=_
   rw[ej];rw[UG,show n+(hs.length+1)=n+1+hs.length by lia]
   exact a
  ·rw[UG,show n+(hs.length+1)=n+1+hs.length by lia];exact c
theorem XKc{mask k:Nat}(hm:mask+1=2 ^ k)(hs:Array Int)(hn:hs.size<=mask+1):∃ owner,SetTable.layClean mask hs=some owner/\owner.size=mask+1/\(Zpa owner (mask+1)).Perm (VB hs.size):=by
 obtain⟨o,a,b,c⟩:=XJc hm hs.toList (Array.replicate (mask+1) Vo) 0 #[2] (by
  have:Zpa (Array.replicate (mask+1) Vo) (mask+1)=[]:=by
   unfold Zpa;rw[filterMap_eq_nil_iff];intro j hj;rw[Iw,Array.getElem?_replicate]
   split <;> rfl
  rw[this];exact .refl _) (by rw[Lb,V7];exact hn)
 rw[Lb,V7]at a c;refine⟨o,?_,b,c⟩
 unfold SetTable.layClean;rw[<- Array.foldl_toList];rw[a]
 rfl
theorem YEb{mask k:Nat}(hm:mask+1=2 ^ k)(f m:Nat)(led pl:Bool)(hs:Array Int)(hn:hs.size<=mask):∃ t order,SetTable.laid mask f m led pl hs=some (t,order)/\order.toList.Perm (VB hs.size)/\t.fits hs.size=true/\TbG led t/\t.mask=mask/\t.dummies=#[]/\t.finger=f/\t.moves=m:=by
 obtain⟨o,a,b,c⟩:=XKc hm hs #[0]
 have e2:(((VB (mask+1)).filterMap λj=>(o.getD j Vo).map (j,·)).map (·.2))=Zpa o (mask+1):=by
  rw[map_filterMap];unfold Zpa
  congr 1
  funext j
  cases o.getD j Vo <;> rfl
 have len:((VB (mask+1)).filterMap λj=>(o.getD j Vo).map (j,·)).length=hs.size:=by
  have:=congrArg List.length e2;rw[UO]at this;rw[this,c.length_eq,Ln]
 refine⟨_,_,by unfold SetTable.laid;rw[a];rfl,by rw[toList_toArray,e2];exact c,?_,⟨rfl,?_⟩,rfl,rfl,rfl,rfl⟩
 ·unfold DZ Ce
  dsimp only;rw[UC,UO,len];simp[hn]
 ·show List.Pairwise _ _
  dsimp only;rw[DG];exact List.Pairwise.filterMap _ (λa a' mV b hb b' bE=>by
   simp only[DH]at hb bE;obtain⟨_,_,rfl⟩:=hb;obtain⟨_,_,rfl⟩:=bE;exact mV) pairwise_lt_range
theorem Yga{α:Type}{es:Array α}{order:Array Nat}(h:order.toList.Perm (VB es.size)):(order.filterMap (es[·]?)).toList.Perm es.toList:=by
 rw[Array.toList_filterMap];refine(h.filterMap _).trans ?_
 have:=Zqb es.toList;simp only[V7,OE]at this
 rw[this]
theorem Zyc(n:Nat):∀ (av j:Nat),∃ k,SetTable.sizeAbove.go n av (2 ^ j)=2 ^ k/\(n < 2 ^ j * 2 ^ av->n < 2 ^ k)/\(2 ^ k=2 ^ j\/2 ^ k<=2 * n):=by
 intro av
 induction av with
 | zero=>intro j;exact⟨j,rfl,λh=>by rw[Nat.pow_zero,Nat.mul_one]at h;exact h,.inl rfl⟩
 | succ av ih =>
  intro j;unfold SetTable.sizeAbove.go
  by_cases h:2 ^ j<=n
  ·rw[if_pos h]
   obtain⟨k,a,b,c⟩:=ih (j+1);rw[D7]at a b c;refine⟨k,a,λz=>b (by rw[D7]at z;rw[Nat.mul_assoc,Nat.mul_comm 2];exact z),.inr ?_⟩
   rcases c with c | c <;> lia
  ·rw[if_neg h];exact⟨j,rfl,λ_=>by lia,.inl rfl⟩
theorem Zzc{n:Nat}(hn:n < 100000):∃ k,SetTable.sizeAbove n=2 ^ k/\n < 2 ^ k/\2 ^ k<=2 * n+8:=by
 obtain⟨k,a,b,c⟩:=Zyc n 64 3;refine⟨k,a,b #[0],?_⟩
 rcases c with c | c <;> lia
theorem Z2{α:Type}(xs:Array α)(p:Nat):(Cf xs p).toList=xs.toList.eraseIdx p:=by
 unfold Cf;rw[IT,IM,IM,eraseIdx_eq_take_drop_succ];simp only[extract_eq_drop_take,Nat.sub_zero,CJ];rw[IL (l:=List.drop (p+1) xs.toList) (by rw[Ov,V7];exact Ut _)]
theorem YUa(xs:Array Nat)(p x:Nat):(SetTable.insertAt xs p x).size=xs.size+1:=by
 rw[<- V7,SetTable.toList_insertAt,On,UG,Of,Ov,V7]
 lia
theorem ZAc{led:Bool}{t:DF}{n i:Nat}(g:TbG led t)(ft:t.fits n=true)(hi:i < n):TbG led (t.drop i)/\(t.drop i).fits (n - 1)=true:=by
 simp only[DZ,Il,beq_iff_eq,decide_eq_true_eq]at ft;have hj:=DB (xs:=t.place) (i:=i) #[0]
 have e:t.drop i={ t with place:=Cf t.place i,dummies:=SetTable.insertAt t.dummies (DD t.dummies (t.place[i]'#[0])) (t.place[i]'#[0]) }:=by unfold SetTable.drop;rw[hj]
 have sz:(Cf t.place i).size=n - 1:=by rw[<- V7,Z2,DS (by rw[V7];lia),V7,ft.1]
 rw[e];refine⟨⟨g.led_,?_⟩,?_⟩
 ·show((Cf t.place i).toList).Pairwise (· < ·)
  rw[Z2];exact g.ris.sublist (eraseIdx_sublist _ _)
 ·have f:=ft.2
  unfold Ce at f;simp only[DZ,Ce,sz,YUa,beq_self_eq_true,Bool.true_and,decide_eq_true_eq]
  lia
section
variable{prog:Vg}{w:Vb}{K:Type}[DecidableEq K]{knd:KeyKind prog w K}{A:VF}{E:YQ_}{s:VG}
theorem J0c{a:Vh}{ks:List K}{k:K}{x:Va}{Q:Bool->VG->Prop}(ap:knd.is k x=true)(sc:x.scannable=true)(S:Q1 knd s.heap a ks)
 (h:∀ h',VU a s.heap h'->Q1 knd h' a (ks.erase k)->Q (decide (k∈ks)) { s with heap:=h' }) :
 VV (VW prog w) A (setDiscardHashed a x (knd.hash k)) Q E s:=by
 obtain⟨o,es,ep,t,js,q,ex,dd,tg,ft,sb,pr,pm⟩:=S;have el:ElemsOf knd es.toList:=Zka pr;have lj:js.length=es.size:=by rw[Vn pr,V7]
 unfold setDiscardHashed setFind setFindIn;refine Uj (Uj (DN q dd ft ?_))
 dsimp only;rw[byScan_of sc sb el];simp only[↓reduceIte];refine Uj (IW (Uj (wpAny_setScan_of ap q dd ft el ?_)))
 cases hr:List.findIdx? (λe=>knd.is k e.2) es.toList with
 | none =>
  dsimp only;have nk:k∉ks:=λmk=>by
   obtain⟨e,he,pe⟩:=(Yba pr k).mp (pm.mem_iff.mpr mk);have z:=findIdx?_eq_none_iff.mp hr e he
   rw[pe]at z;cases z
  refine Ui (Ui ?_)
  have e:s={ s with heap:=s.heap }:=by cases s;rfl
  have z:=h s.heap (DO a s.heap);rw[erase_of_not_mem nk,decide_eq_false nk]at z;rw[e];exact z ⟨o,es,ep,t,js,q,ex,dd,tg,ft,sb,pr,pm⟩
 | some j =>
  dsimp only;obtain⟨hj,pj,_⟩:=findIdx?_eq_some_iff_getElem.mp hr
  have mk:k∈ks:=pm.mem_iff.mp ((Yba pr k).mpr ⟨es.toList[j],Lo hj,pj⟩);have uV:j < es.size:=by rw[V7]at hj;exact hj
  refine Ui (Uj (DN q dd ft ?_))
  dsimp only;rw[Lb];obtain⟨uW,uX⟩:=ZAc tg ft uV;have sz:(Cf es j).size=es.size - 1:=by rw[<- V7,Z2,DS hj,V7]
  refine Uj (DL q dd ?_ (DM (by rw[sz];lia)))
  have ek:js[j]'#[0]=k:=by
   have r:=Qv pr (Lq (l:=js) (i:=j) #[0]) (Lq hj)
   exact knd.inj _ _ _ r.1.1 pj
  have dL:(js.eraseIdx j).Perm (ks.erase k):=by
   have p1:=(Y6 (l:=js) (i:=j) #[0]).trans (pm.trans (perm_cons_erase mk))
   rw[ek]at p1;exact p1.cons_inv
  obtain⟨_,S1⟩:=YM (knd:=knd) q ex dd (es':=Cf es j) (t':=t.drop j) (js:=js.eraseIdx j) (ks:=ks.erase k) (by rw[Z2];exact Y4 j pr) dL (by rw[sz];lia) (by rw[sz];exact uX) uW
  refine Uj (wpAny_point (Ui ?_))
  have z:=h _ (Lv s.heap a (DJ (Cf es j) (t.drop j))) S1;rw[decide_eq_true mk]at z;exact z
theorem Zrb{es:Array (Int×Va)}{laid:Option (DF×Array Nat)}{t:DF}{order:Array Nat}(e:laid=some (t,order))(p:order.toList.Perm (VB es.size)){Q:Array (Int×Va)×DF->VG->Prop}(h:Q (order.filterMap (es[·]?),t) s) :
 VV (VW prog w) A (do
  let some (t,order):=laid | unsupported "internal:set-table-without-room"
  let es':=order.filterMap (es[·]?)
  if es'.size != es.size then unsupported "internal:set-table-lost-an-element"
  pure (es',t):Sem (Array (Int×Va)×DF)) Q E s:=by
 subst e;have sz:(order.filterMap (es[·]?)).size=es.size:=by
  have:=(Yga p).length_eq;rw[V7,V7]at this;exact this
 dsimp only;rw[if_neg (by rw[sz];simp)]
 exact Uj (Ui (Ui h))
theorem Q1.sized{h:Vp}{a:Vh}{ks:List K}(S:Q1 knd h a ks):∃ o es ep t js,h.get? a=some o/\o.ExactSet/\o.data=.set es ep t/\TbG (QJ w) t/\t.fits es.size=true/\es.size < DI/\Vm (YPa knd) js es.toList/\js.Perm ks:=S
theorem J1c(knd:KeyKind prog w K){r:Vh}{n:Nat}{Q:Unit->VG->Prop}(hn:n < 4096)(hr:s.heap.get? r=some { cls:=.type "set",dict:=Vo,data:=.set #[] 0 (.fresh 0 0 (QJ w)) })
 (h:∀ h' o ep t k,VU r s.heap h'->h'.get? r=some o->o.ExactSet->o.data=.set #[] ep t->TbG (QJ w) t->t.fits 0=true->t.fill=0->t.mask+1=2 ^ k->n<=t.mask->Q () { s with heap:=h' }):VV (VW prog w) A (setRoomFor r n) Q E s:=by
 have er:({ cls:=.type "set",dict:=Vo,data:=.set #[] 0 (.fresh 0 0 (QJ w)) }:Obj).ExactSet:=⟨rfl,rfl,rfl⟩;have rf:(Cg 0 0 (QJ w)).roomFor n=if n * 5 >= 21 then some (n * 2) else Vo:=by unfold SetTable.roomFor;simp[Cg,Ce]
 unfold setRoomFor;refine Uj (DN hr rfl (by rfl) ?_)
 dsimp only;rw[rf]
 by_cases c:n * 5 >= 21
 ·rw[if_pos c]
  dsimp only;obtain⟨k,e1,e2,e3⟩:=Zzc (n:=n * 2) #[0]
  unfold setRelay;refine Uj (DN hr rfl (by rfl) ?_)
  dsimp only;rw[if_neg (by rw[e1,UB];lia)]
  have hk:2 ^ k - 1+1=2 ^ k:=by have:0 < 2 ^ k:=Nat.pow_pos #[1];lia
  obtain⟨t',od,a1,a2,a3,a4,a5,a6,_⟩:=YEb (mask:=2 ^ k - 1) hk (Cg 0 0 (QJ w)).finger ((Cg 0 0 (QJ w)).movedTo (2 ^ k - 1)) (QJ w) true #[] (Ux _);refine Uj (Zrb (es:=#[]) (t:=t') (order:=od) (by unfold SetTable.relaid;rw[e1,Array.map_empty];exact a1) a2 ?_)
  dsimp only;have eo:od=#[]:=by
   have:=a2.length_eq
   simpa using this
  subst eo;refine DL hr rfl ?_ (Ux _)
  obtain⟨g1,_⟩:=YM (knd:=knd) (ks:=[]) hr er rfl (es':=#[]) (t':=t') (js:=[]) .nil (.refl _) #[1] a3 a4
  have hf:t'.fill=0:=by
   simp only[DZ,Il,beq_iff_eq,decide_eq_true_eq]at a3;have p0:t'.place.size=0:=a3.1;unfold Ce;rw[a6,p0];rfl
  exact h _ _ _ t' k (Lv s.heap r _) g1 er rfl a4 a3 hf (by rw[a5];exact hk) (by rw[a5];lia)
 ·rw[if_neg c]
  dsimp only;have e:s={ s with heap:=s.heap }:=by cases s;rfl
  refine Ui ?_
  rw[e];exact h _ _ _ _ 3 (DO _ _) hr er rfl (TbG.fresh _) (by rfl) (by rfl) (by rfl) (show n<=7 by lia)
theorem ZBc{r o:Vh}{ks:List K}{ng:Sem Unit}{Q:Unit->VG->Prop}(ne:r≠o)(S:Q1 knd s.heap o ks)(hr:s.heap.get? r=some { cls:=.type "set",dict:=Vo,data:=.set #[] 0 (.fresh 0 0 (QJ w)) })
 (h:∀ h',VU r s.heap h'->Q1 knd h' r ks->Q () { s with heap:=h' }):VV (VW prog w) A (setMerge r o ng) Q E s:=by
 obtain⟨oo,es,ep,t,js,q,ex,dd,tg,ft,sb,pr,pm⟩:=S;unfold setMerge;rw[if_neg (by simpa using ne)]
 refine Uj (DN q dd ft ?_)
 dsimp only;have er:({ cls:=.type "set",dict:=Vo,data:=.set #[] 0 (.fresh 0 0 (QJ w)) }:Obj).ExactSet:=⟨rfl,rfl,rfl⟩
 by_cases hz:es.isEmpty=true
 ·rw[if_pos hz]
  have ez:es=#[]:=by simpa using hz
  subst ez;cases pr;have e:s={ s with heap:=s.heap }:=by cases s;rfl
  refine Ui ?_
  rw[e];exact h _ (DO _ _) ⟨_,#[],0,_,[],hr,er,rfl,TbG.fresh _,by rfl,by decide,.nil,pm⟩
 rw[if_neg hz];refine Uj (J1c knd sb hr λh1 o1 ep1 ts k b1 g1 x1 d1 uY uZ f1 m1 n1=>?_)
 refine Uj (DN (s:={ s with heap:=h1 }) g1 d1 uZ ?_)
 dsimp only;have led:(ts.led && t.led)=QJ w:=by rw[uY.led_,tg.led_,Bool.and_self]
 have fin:∀ (es':Array (Int×Va)) (t':DF),es'.toList.Perm es.toList->t'.fits es'.size=true->TbG (QJ w) t'->VV (VW prog w) A (storeSet r es' t') Q E { s with heap:=h1 }:=λes' t' pe fe te=>by
  have sz:es'.size=es.size:=by
   have:=pe.length_eq;rw[V7,V7]at this;exact this
  obtain⟨bF,fq,dL⟩:=JT pe pr;refine DL (s:={ s with heap:=h1 }) g1 d1 ?_ (DM (by rw[sz];exact sb))
  obtain⟨_,S1⟩:=YM (knd:=knd) g1 x1 d1 fq (dL.trans pm) (by rw[sz];exact sb) fe te
  exact h _ (b1.trans (Lv h1 r _)) S1
 unfold SetTable.road;rw[f1];rw[if_neg #[1]]
 split
 ·rename_i hR
  exact fin es _ (.refl _) ft ⟨led,tg.ris⟩
 ·rename_i hR
  obtain⟨t',od,a1,a2,a3,a4,_⟩:=YEb m1 ts.finger ts.moves (QJ w) (ts.plain && t.plain) (es.map (·.1)) (by rw[Array.size_map];exact n1)
  rw[Array.size_map]at a2 a3;have pe:=Yga a2;refine Uj (Zrb (t:=t') (order:=od) (by rw[led];exact a1) a2 ?_)
  dsimp only;refine fin _ _ pe ?_ a4
  rw[show(od.filterMap (es[·]?)).size=es.size by have:=pe.length_eq;rw[V7,V7]at this;exact this]
  exact a3
 ·rename_i hR
  split at hR <;> cases hR
theorem J2c{l:Vh}{es:Array (Int×Va)}{ep:Nat}{t:DF}{Q:Array (Int×Va)->VG->Prop}(S:StD s.heap l es ep t)(ft:t.fits es.size=true)(tg:TbG (QJ w) t)(h:∀ es' d,es'.toList.Perm es.toList->Q es' { s with drawn:=d }) :
 VV (VW prog w) A (setWalk l) Q E s:=by
 obtain⟨o,q,ex,dd⟩:=S;have e:s={ s with drawn:=s.drawn }:=by cases s;rfl
 unfold setWalk DY;refine Uj (DN q dd ft ?_)
 dsimp only;refine Uj (Uj (DP (Ui ?_)))
 cases hb:w.params.followText "set-order" with
 | true =>
  have bE:(Setting.params ⟨(VW prog w).prog,(VW prog w).w.params⟩).followText "set-order"=true:=hb;rw[if_pos bE];refine Uj (DP (Ui ?_))
  rw[e];exact h _ _ (Qia _ _)
 | false =>
  rw[if_neg (by show ¬ w.params.followText "set-order"=true;rw[hb];decide)]
  split
  ·exact Uj (Yda es.size es.toList s (by rw[V7]) λys d p=>Ui (h ys.toArray d (by rw[toList_toArray];exact p)))
  ·refine Uj (show VV _ _ (if (!t.led && decide (es.size > 1))=true then unsupported "set:maker-not-led" else pure ()) _ _ _ from ?_)
   rw[if_neg (by rw[tg.led_];unfold QJ;rw[hb];simp)]
   refine Ui (Ui ?_)
   rw[e];exact h _ _ (.refl _)
theorem ZCc{eM:List Vh}{Q:Bool->VG->Prop}(hs:∀ a∈eM,∃ ks,Q1 knd s.heap a ks)(h:Q true s):VV (VW prog w) A (setsQuiet eM) Q E s:=by
 unfold setsQuiet;refine Uj (Ik _ (λrest b s'=>(∀ a∈rest,a∈eM)/\b=(Vo,PUnit.unit)/\s'=s) _ (λa rest b s' I=>?_) (λb s' I=>?_) eM _ ⟨λ_ h=>h,rfl,rfl⟩)
 ·obtain⟨m,rfl,rfl⟩:=I
  obtain⟨ks,o,es,ep,t,js,q,ex,dd,tg,ft,sb,pr,pm⟩:=hs a (m a VM);have el:=Zka pr;unfold DW;refine Uj (Uj (DN q dd ft (Ui ?_)))
  dsimp only;refine Uj (wpAny_forIn_array' _ (λrest b bH=>(∀ e∈rest,e.2.scannable=true)/\b=(Vo,())/\bH=s') _ (λe rest b bH I=>?_) (λb bH I=>?_) es _ ⟨λe he=>(el e he).2,rfl,rfl⟩)
  ·obtain⟨m',rfl,rfl⟩:=I
   obtain⟨e1,e2⟩:=e;have:=m' _ VM;cases e2 <;> first | exact Ui ⟨λe he=>m' e (VN _ he),rfl,rfl⟩ | exact(Uc this).elim
  ·obtain⟨_,rfl,rfl⟩:=I
   exact Ui ⟨λa ha=>m a (VN _ ha),rfl,rfl⟩
 ·obtain⟨_,rfl,rfl⟩:=I
  exact Ui h
theorem XCb{l r:Vh}{kr:List K}{es:Array (Int×Va)}{ep:Nat}{t:DF}{js:List K}{Q:Array (Int×Va)->VG->Prop}(ne:r≠l)(S:StD s.heap l es ep t)(ft:t.fits es.size=true)(tg:TbG (QJ w) t)(sb:es.size < DI)(pr:Vm (YPa knd) js es.toList)(Sr:Q1 knd s.heap r kr)
 (h:∀ es' h' d,es'.toList.Perm es.toList->VU r s.heap h'->Q1 knd h' r kr->Q es' { s with heap:=h',drawn:=d }) :
 VV (VW prog w) A (setWalkUnseen l [r] (some r)) Q E s:=by
 obtain⟨o,q,ex,dd⟩:=id S;have w0:VV (VW prog w) A (setWalk l) Q E s:=J2c S ft tg λes' d p=>h es' s.heap d p (DO _ _) Sr
 unfold setWalkUnseen DY;refine Uj (DN q dd ft ?_)
 dsimp only;refine Uj (Uj (DP (Ui ?_)))
 split
 ·exact w0
 refine Uj (ZCc (knd:=knd) (λa ha=>?_) ?_)
 ·rcases mem_cons.mp ha with z | z
  ·rw[z];exact⟨js,o,es,ep,t,js,q,ex,dd,tg,ft,sb,pr,.refl _⟩
  ·rw[mem_singleton.mp z];exact⟨kr,Sr⟩
 rw[if_neg #[1]]
 refine Uj (IW ?_)
 obtain⟨o2,bj,u4,t2,u5,q2,qr,cD,nh,ni,dv,qt,cY⟩:=Sr;refine Uj (DN q2 cD ni ?_)
 dsimp only;have e:s={ s with heap:=s.heap,drawn:=s.drawn }:=by cases s;rfl
 split
 ·refine Uj (DL q2 cD ?_ (DM dv))
  have led:(t2.led && t.led)=QJ w:=by rw[nh.led_,tg.led_,Bool.and_self]
  obtain⟨_,S1⟩:=YM (knd:=knd) q2 qr cD (t':={ t2 with led:=t2.led && t.led,plain:=t2.plain && t.plain }) qt cY dv ni ⟨led,nh.ris⟩
  exact Ui (h es _ s.drawn (.refl _) (Lv s.heap r _) S1)
 ·refine Ui ?_
  rw[e];exact h es _ _ (.refl _) (DO _ _) ⟨o2,bj,u4,t2,u5,q2,qr,cD,nh,ni,dv,qt,cY⟩
def Jk(ks:List K)(k:K):List K:=if k∈ks then ks.erase k else ks++[k]
theorem Zsb(ks:List K)(k:K):(Jk ks k).length<=ks.length+1:=by
 unfold Jk
 split
 ·exact VI (length_erase_le) (U5 _)
 ·rw[On];exact Ut _
theorem J3c{ks:List K}(nd:ks.Nodup)(k:K):(Jk ks k).Nodup:=by
 unfold Jk
 split
 ·exact nd.erase k
 ·rename_i h
  rw[Ci];exact⟨nd,by simp,λa ha b hb e=>h (by rw[Dg]at hb;rw[<- hb,<- e];exact ha)⟩
theorem ZDc{ks:List K}(nd:ks.Nodup)(k j:K):j∈Jk ks k↔((j∈ks/\j≠k)\/(j∉ks/\j=k)):=by
 unfold Jk
 split
 ·rename_i h
  rw[nd.mem_erase_iff]
  constructor
  ·exact λ⟨a,b⟩=>.inl ⟨b,a⟩
  ·rintro(⟨a,b⟩ | ⟨a,b⟩)
   ·exact⟨b,a⟩
   ·exact(a (b ▸ h)).elim
 ·rename_i h
  rw[LK,Dg]
  constructor
  ·rintro(a | a)
   ·exact .inl ⟨a,λz=>h (z ▸ a)⟩
   ·exact .inr ⟨λz=>h (a ▸ z),a⟩
  ·rintro(⟨a,_⟩ | ⟨_,a⟩)
   ·exact .inl a
   ·exact .inr a
theorem YIc:∀ (js ks:List K),ks.Nodup->js.Nodup->(js.foldl Jk ks).Nodup/\(js.foldl Jk ks).length<=ks.length+js.length/\∀ j,j∈js.foldl Jk ks↔((j∈ks/\j∉js)\/(j∉ks/\j∈js))
 | [],ks,nd,_=>⟨nd,Ut _,λj=>by simp⟩
 | k::js,ks,nd,nj=>by
  rw[Ds]at nj;obtain⟨a,b,c⟩:=YIc js (Jk ks k) (J3c nd k) nj.2;refine⟨a,VI b (by have:=Zsb ks k;rw[UG];lia),λj=>?_⟩
  rw[Ld,c,ZDc nd,Dh]
  by_cases e:j=k
  ·subst e
   by_cases m:j∈ks <;> simp[m,nj.1]
  ·by_cases m:j∈ks <;> by_cases m2:j∈js <;> simp[e,m,m2]
theorem J4c{r:Vh}{ks:List K}{k:K}{x:Va}{Q:Unit->VG->Prop}(ap:knd.is k x=true)(sc:x.scannable=true)(S:Q1 knd s.heap r ks)(room:ks.length+1 < DI)
 (h:∀ h',VU r s.heap h'->Q1 knd h' r (Jk ks k)->Q () { s with heap:=h' }) :
 VV (VW prog w) A (V6 [x] do
  if !(<- setDiscardHashed r x (knd.hash k)) then
   let _ <- setAddHashed r x (knd.hash k):Sem Unit) Q E s:=by
 refine LG (Uj (J0c ap sc S λh1 b1 S1=>?_))
 by_cases m:k∈ks
 ·rw[decide_eq_true m]
  rw[show Jk ks k=ks.erase k from if_pos m]at h
  exact Ui (h h1 b1 S1)
 ·rw[decide_eq_false m]
  rw[show Jk ks k=ks++[k] from if_neg m]at h
  rw[erase_of_not_mem m]at S1;refine Uj (Zoc (s:={ s with heap:=h1 }) ap sc S1 room λh2 b b2 S2=>Ui ?_)
  rw[if_neg m]at S2;exact h h2 (b1.trans b2) S2
end
theorem J5c:Df table "set.__xor__"=some Ij.«frozenset.__xor__»:=entryFor_alias (id':="frozenset.__xor__") (by kernel_rfl) rfl (by decide +kernel) (by kernel_rfl)
section
variable{prog:Vg}{w:Vb}{K:Type}[DecidableEq K]{knd:KeyKind prog w K}{A:VF}{E:YQ_}{s:VG}
theorem Q1.typeIs{a:Vh}{ks:List K}(S:Q1 knd s.heap a ks):s.TypeIs (.ref a) "set":=let ⟨o,_,_,_,_,q,ex,_⟩:=S;⟨o,q,ex.1⟩
theorem Jxa{v:Va}{Q:Bool->VG->Prop}(hT:s.TypeIs v "set")(h:Q true s):VV (VW prog w) A (DQ v) Q E s:=by
 unfold DQ;refine Uj (Dk hT Dl ?_)
 exact Ui h
theorem Jyb{id:String}{r l:Vh}{kr kl:List K}{Q:Unit->VG->Prop}(ne:r≠l)(Sr:Q1 knd s.heap r kr)(Sl:Q1 knd s.heap l kl)(room:kr.length+kl.length+1 < DI)
 (h:∀ h' d (js:List K),js.Perm kl->VU r s.heap h'->Q1 knd h' r (js.foldl Jk kr)->Q () { s with heap:=h',drawn:=d }) :
 VV (VW prog w) A (Builtin.Frozenset.symmetricDifferenceUpdate id r (.ref l)) Q E s:=by
 have hT:=Sl.typeIs;unfold Builtin.Frozenset.symmetricDifferenceUpdate;rw[if_neg (by simpa using VR ne)]
 refine Uj (Do hT ?_)
 rw[if_neg #[1]]
 refine Uj (Jxa hT ?_)
 rw[if_pos rfl];refine Uj (Ui ?_)
 dsimp only;refine Uj (Ui ?_)
 obtain⟨o,es,ep,t,js,q,ex,dd,tg,ft,sb,pr,pm⟩:=Sl;refine Uj (wpAny_setEpoch_of q dd ft ?_)
 refine LG (Uj (XCb ne ⟨o,q,ex,dd⟩ ft tg sb pr Sr λes' h1 d1 pe b1 S1=>?_))
 obtain⟨bF,fq,dL⟩:=JT pe pr;have ln:=(dL.trans pm).length_eq;refine Uj (wpAny_forIn_array' _ (λrest _ s'=>∃ jd jr h',bF=jd++jr/\Vm (YPa knd) jr rest/\VU r s.heap h'/\Q1 knd h' r (jd.foldl Jk kr)/\s'={ s with heap:=h',drawn:=d1 }) _ (λx rest b s' I=>?_) (λb s' I=>?_) es' PUnit.unit ⟨[],bF,h1,rfl,fq,b1,S1,rfl⟩)
 ·obtain⟨jd,jr,h2,ej,pj,b2,S2,rfl⟩:=I
  obtain⟨hx,x⟩:=x;cases pj with
  | @cons k _ jr _ rk pj =>
   obtain⟨⟨hk,eh⟩,sc⟩:=rk;dsimp only at hk eh sc ⊢;subst eh;have lf:(jd.foldl Jk kr).length<=kr.length+jd.length:=by
    have gen:∀ (l az:List K),(l.foldl Jk az).length<=az.length+l.length:=by
     intro l
     induction l with
     | nil=>intro az;exact Ut _
     | cons a l ih=>intro az;have:=ih (Jk az a);have:=Zsb az a;rw[Ld,UG];lia
    exact gen jd kr
   have le:bF.length=jd.length+(jr.length+1):=by rw[ej,On,UG]
   refine Uj (J4c (s:={ s with heap:=h2,drawn:=d1 }) hk sc S2 #[0] λh3 b3 S3=>?_)
   have q3:h3.get? l=some o:=(b3.2 l (VR ne)).trans ((b2.2 l (VR ne)).trans q);unfold Builtin.Frozenset.unchanged;refine Uj (Uj (wpAny_setEpoch_of (s:={ s with heap:=h3,drawn:=d1 }) q3 dd ft ?_))
   rw[if_neg #[2]]
   refine Ui (Ui ⟨jd++[k],jr,h3,by rw[ej,IJ];rfl,pj,b2.trans b3,by rw[Di];exact S3,rfl⟩)
 ·obtain⟨jd,jr,h2,ej,pj,b2,S2,rfl⟩:=I
  cases pj;rw[U0]at ej;subst ej;exact Ui (h h2 d1 bF (dL.trans pm) b2 S2)
theorem ZEc{l r:Vh}{kl kr:List K}{Q:YQ_}(ne:l≠r)(Sl:Q1 knd s.heap l kl)(Sr:Q1 knd s.heap r kr)(nl:kl.Nodup)(nr:kr.Nodup)(room:kr.length+kl.length+1 < DI)
 (h:∀ h' d zs,(∀ b o,s.heap.get? b=some o->h'.get? b=some o)->Q1 knd h' s.heap.objs.size zs->zs.Nodup->zs.length<=kr.length+kl.length->(∀ k,k∈zs↔((k∈kl/\k∉kr)\/(k∉kl/\k∈kr)))->Q (.ref s.heap.objs.size) { s with heap:=h',drawn:=d }) :
 VV (VW prog w) A (Uz .BitXor (.ref l) (.ref r)) Q E s:=by
 have hl:=Sl.typeIs;have hr:=Sr.typeIs;refine wpAny_binaryOp_same (op:=.BitXor) hl hr F.fills_set_xor F.slot_set_xor ?_
 refine L8 F.slot_set_xor hl J5c ?_ (F.args_set_xor_2 _ _)
 unfold Ij.«frozenset.__xor__»;refine Uj (m:=Builtin.Frozenset.slot1 "__xor__" ⟨[.ref l,.ref r],[]⟩) ?_
 unfold Builtin.Frozenset.slot1;refine Uj (Ui (Ui ?_))
 dsimp only;simp only[Ie,if_false];refine Uj (Uj (Jxa hl ?_))
 show VV _ _ (DQ (Vk r)) _ _ _;refine Jxa hr ?_
 rw[if_neg #[1]]
 refine Uj (Ui ?_)
 generalize toString "frozenset."++toString "__xor__"=id;refine Uj (Uj (m:=Builtin.Frozenset.baseOf l) ?_)
 unfold Builtin.Frozenset.baseOf;refine Uj (Dk hl Dl (Ui ?_))
 rw[if_pos rfl];unfold Builtin.Frozenset.newFrom newSet DY;refine Uj (Uj (Uj (Uj (DP (Ui ?_)))))
 dsimp only;simp only[newObj];refine Uj (wpAny_alloc (Ui ?_))
 have kp:∀ b o,s.heap.get? b=some o->(s.heap.push { cls:=.type "set",dict:=Vo,data:=.set #[] 0 (.fresh 0 0 (QJ w)) }).get? b=some o:=λb o e=>Ur _ e
 have hS:(s.heap.push { cls:=.type "set",dict:=Vo,data:=.set #[] 0 (.fresh 0 0 (QJ w)) }).get? s.heap.objs.size=some { cls:=.type "set",dict:=Vo,data:=.set #[] 0 (.fresh 0 0 (QJ w)) }:=Us _ rfl
 have nz:∀ b o,s.heap.get? b=some o->b≠s.heap.objs.size:=λb o e=>VA (Vx e)
 have lr:l≠s.heap.objs.size:=let ⟨o,_,_,_,_,q,_⟩:=Sl;nz l o q
 have rr:r≠s.heap.objs.size:=let ⟨o,_,_,_,_,q,_⟩:=Sr;nz r o q
 have u6:=Sl.keep (h2:=s.heap.push { cls:=.type "set",dict:=Vo,data:=.set #[] 0 (.fresh 0 0 (QJ w)) }) λo e=>kp l o e
 have nu:=Sr.keep (h2:=s.heap.push { cls:=.type "set",dict:=Vo,data:=.set #[] 0 (.fresh 0 0 (QJ w)) }) λo e=>kp r o e
 show VV _ _ _ _ _ { s with heap:=s.heap.push { cls:=.type "set",dict:=Vo,data:=.set #[] 0 (.fresh 0 0 (QJ w)) } }
 generalize s.heap.push { cls:=.type "set",dict:=Vo,data:=.set #[] 0 (.fresh 0 0 (QJ w)) }=h1 at *;generalize s.heap.objs.size=z at *;refine Uj (Ui ?_)
 refine Uj (LG ?_)
 unfold Builtin.Frozenset.updateFrom;refine Uj (Jxa (s:={ s with heap:=h1 }) nu.typeIs ?_)
 rw[if_pos rfl];refine Uj (Ui ?_)
 unfold Builtin.Frozenset.merge;obtain⟨o,es,ep,t,js,q,ex,dd,tg,ft,sb,pr,pm⟩:=nu.sized;refine Uj (wpAny_setEpoch_of (s:={ s with heap:=h1 }) q dd ft ?_)
 refine ZBc (s:={ s with heap:=h1 }) (VR rr) nu hS λh2 b2 S2=>Ui ?_
 refine Uj (Ui (Uj (LG ?_)))
 refine Jyb (s:={ s with heap:=h2 }) (VR lr) S2 (u6.keep λo e=>(b2.2 l lr).trans e) room λh3 d3 js pj b3 S3=>Ui ?_
 obtain⟨f1,f2,f3⟩:=YIc js kr nr (pj.nodup_iff.mpr nl);refine Ui ⟨_,rfl,(by intro e;cases e),h h3 d3 _ (λb o e=>(b3.2 b (nz b o e)).trans ((b2.2 b (nz b o e)).trans (kp b o e))) S3 f1 (by rw[pj.length_eq]at f2;exact f2) λk=>?_⟩
 rw[f3,pj.mem_iff]
 constructor
 ·rintro(⟨a,b⟩ | ⟨a,b⟩)
  ·exact .inr ⟨b,a⟩
  ·exact .inl ⟨b,a⟩
 ·rintro(⟨a,b⟩ | ⟨a,b⟩)
  ·exact .inr ⟨b,a⟩
  ·exact .inl ⟨b,a⟩
end
def XLc(X:Cx)(aa:YP_)(σ:St)(Q:List Key->Hp->Prop)(u:Va)(s:VG):Prop:=∃ a ks H1,u=.ref a/\Inv X aa σ H1 s/\Q1 (QA X.prog X.w) s.heap a (ZU ks)/\J1 X aa H1 a/\Q ks H1
theorem YFb{K:Type}[DecidableEq K]:∀ (ks:List K),(ZU ks).Nodup:=by
 intro ks
 suffices h:∀ (r p:List K),(ZU p).Nodup->(ZU (p++r)).Nodup by exact h ks [] Dr
 intro r
 induction r with
 | nil=>intro p h;rw[U0];exact h
 | cons k r ih =>
  intro p h;rw[show p++k::r=(p++[k])++r by rw[IJ];rfl]
  refine ih _ ?_
  rw[QKa]
  split
  ·exact h
  ·rename_i m
   rw[Ci];exact⟨h,by simp,λa ha b hb e=>m (by rw[Dg]at hb;rw[<- hb,<- e];exact ha)⟩
section
variable{X:Cx}{e e2:Expr}{te kL:TE}{p pos p2 bP p3 eN je:Pos}{aa:YP_}{σ:St}{H:Hp}{s:VG}
theorem XEa{Q:List Key->Hp->Prop}(he:PE X e te)(hh:X.A.handled=Vo)(hg:Gl X "set")(hm:X.mg "set"=Vo)(I:Inv X aa σ H s)(h:Zgb X.K te Q σ H)
 (hs:VZ [e] X.env=[(false,VX e X.env)]:=by rfl):VV (VW X.prog X.w) X.A (VX (.Call (.Name "set" p) [e] [] pos) X.env) (XLc X aa σ Q) X.xe s:=by
 refine U3 (YS I hg hm Xzc ?_ #[1] #[1])
 refine Uv ?_ hs rfl
 rw[hs];show VV _ _ (spliced ((false,VX e X.env)::VY pos [])) _ _ s;refine UY (thn (he aa s σ H _ I h) λu s1 hZ=>?_)
 obtain⟨x,H1,I1,r1,l,ks,ex,hl,hk,q⟩:=hZ;subst ex;obtain rfl:u=Vk l:=r1;refine UX ?_
 obtain⟨vs,rv,pl,hz⟩:=I1.list hl;have bz:=rv.length;rw[UO]at bz;refine Xub (knd:=QA X.prog X.w) (ks:=ks) hh pl.isList #[0] (λi k v h1 h2=>?_) (by show vs.length+1 < 4096;lia) λh' tk kk hS=>?_
 ·obtain⟨u,hu,ru⟩:=rv.get (i:=i) (x:=kV k) (by rw[Oj,h1];rfl)
  rw[h2]at hu;cases hu;exact Yqb ru
 ·exact⟨_,ks,H1,rfl,I1.kept kk,hS,I1.fpOk (Ut _) (I1.hok.fresh (Ut _)),q⟩
def Ztb(K:VC)(te kL:TE):TE:=λσ H Q=>Zgb K te (λks H1=>ks.length < 2000/\Zgb K kL (λhG H2=>hG.length < 2000/\∀ zs:List Key,zs.Nodup->(∀ k,k∈zs↔((k∈ks/\k∉hG)\/(k∉ks/\k∈hG))) ->
 ∃ lt,YMa (zs.map kV) lt/\∀ D H' ys,Ql H2 H'->H2 D=Vo->H' D=some (.lst ys)->ys.Perm (zs.map kV)->ys.Pairwise (λa b=>lt b a=false)->Q (.ref D) H') σ H1) σ H
theorem Jzb(he:PE X e te)(cw:PE X e2 kL)(hh:X.A.handled=Vo)(hg:Gl X "set")(hm:X.mg "set"=Vo)(u7:Gl X "sorted")(cV:X.mg "sorted"=Vo)
 (hs:VZ [e] X.env=[(false,VX e X.env)]:=by rfl) (cN:VZ [e2] X.env=[(false,VX e2 X.env)]:=by rfl)
 (iH:VZ [.BinOp (.Call (.Name "set" p) [e] [] pos) .BitXor (.Call (.Name "set" p2) [e2] [] bP) eN] X.env=[(false,VX (.BinOp (.Call (.Name "set" p) [e] [] pos) .BitXor (.Call (.Name "set" p2) [e2] [] bP) eN) X.env)]:=by rfl) :
 PE X (.Call (.Name "sorted" p3) [.BinOp (.Call (.Name "set" p) [e] [] pos) .BitXor (.Call (.Name "set" p2) [e2] [] bP) eN] [] je) (Ztb X.K te kL):=by
 intro aa s σ H Q I h;refine U3 (YS I u7 cV YG ?_ #[1] #[1])
 refine Op ?_ iH rfl
 rw[iH];show VV _ _ (spliced ((false,VX (.BinOp (.Call (.Name "set" p) [e] [] pos) .BitXor (.Call (.Name "set" p2) [e2] [] bP) eN) X.env)::VY je [])) _ _ s;refine UY (wpAny_BinOp (thn (XEa he hh hg hm I h hs) λu s1 hZ=>?_))
 obtain⟨a,ks,H1,eu,I1,hS,fp,hk,q⟩:=hZ;subst eu;obtain⟨o,es,ep,t,js,ho,ex,hd,r⟩:=id hS;have I2:Inv X (aa++[(a,o)]) σ H1 s1:=I1.pins_of λpp hp=>(mem_append.mp hp).elim (λz=>I1.pin pp (Uw _ z)) λz=>by
  have z:pp=(a,o):=by simpa using z
  subst z;exact⟨ho,fp.1,fp.2.1,fp.2.2.1,λv q=>by rw[hd]at q;cases q⟩
 refine thn (XEa cw hh hg hm I2 q cN) λu2 s2 hZ=>?_
 obtain⟨b,hG,H2,vb,I3,aW,qb,gz,q2⟩:=hZ;subst vb;have pa:=I3.pin (a,o) (Uw _ (Uw _ #[2]))
 have bn:Q1 (QA X.prog X.w) s2.heap a (ZU ks):=⟨o,es,ep,t,js,pa.1,ex,hd,r⟩;have ne:a≠b:=qb.2.2.2.2.2 (a,o) (Uw _ (Uw _ #[2]))
 have l1:=ZOa ks;have l2:=ZOa hG;refine ZEc ne bn aW (YFb ks) (YFb hG) (by show _ < 4096;lia) λh' d zs kp bq nz lz mz=>?_
 obtain⟨lt,hK,q3⟩:=q2 zs nz λk=>by rw[mz k,Xwa,Xwa]
 have I4:Inv X aa σ H2 { s2 with heap:=h',drawn:=d }:=I3.unpinned.keptD kp
 refine UX ?_
 generalize hz:s2.heap.objs.size=z at bq ⊢;obtain⟨o3,qu,ep3,t3,js3,kM,vc,vd,ve,vf,vg,vh,vi⟩:=bq;have l3:(zs.map kV).length < 5000:=by rw[UO];lia
 refine Zob (s:={ s2 with heap:=h',drawn:=d }) (VI (VJ l3) #[1]) l3 hK (λE R hR=>?_) q3
 refine Znb (A:=X.A.in1) (s:={ s2 with heap:=h',drawn:=d }) hh ⟨o3,kM,vc,vd⟩ vf ve (DM vg) λh'' tk d' vs pv vj=>?_
 obtain⟨xs,rx,px⟩:=Jvb pv (Yzb vh);exact hR xs vs _ (px.trans (vi.map _)) rx (I4.keptD vj)
end
end L2
end
section
open L2 PySem
namespace Tr
def Kid(tbl:List (Int×Dt))(l:Nat)(n m:Int):Prop:=∃ part,(n,Zz ((l+1:Nat):Int) part)∈tbl/\m∈part.map Zj
inductive Und(tbl:List (Int×Dt))(l:Nat)(n:Int):Nat->Int->Prop
 | self:Und tbl l n l n
 | kid {j:Nat} {q m:Int}:Und tbl l n (j+1) q->Kid tbl j q m->Und tbl l n j m
section
variable{tbl:List (Int×Dt)}
theorem Und.le{l j:Nat}{n m:Int}(h:Und tbl l n j m):j<=l:=by
 induction h with
 | self=>exact Ut _
 | kid _ _ ih=>lia
theorem Und.top{l j:Nat}{n m:Int}(h:Und tbl (l+1) n j m):(j=l+1/\m=n)\/∃ c,Kid tbl l n c/\Und tbl l c j m:=by
 induction h with
 | self=>exact .inl ⟨rfl,rfl⟩
 | kid h k ih =>
  rcases ih with ⟨e,rfl⟩ | ⟨c,kc,u⟩
  ·obtain rfl:=Nat.succ.inj e
   exact .inr ⟨_,k,.self⟩
  ·exact .inr ⟨c,kc,u.kid k⟩
theorem Und.of{l j:Nat}{n c m:Int}(k:Kid tbl l n c)(h:Und tbl l c j m):Und tbl (l+1) n j m:=by
 induction h with
 | self=>exact Und.self.kid k
 | kid _ k' ih=>exact ih.kid k'
theorem Qfb(f:Fn tbl){l:Int}:∀ {ns:List Int} {es:List Dt},Pgs tbl l ns es->∀ d,d∈es↔∃ q∈ns,∃ part,(q,Zz l part)∈tbl/\d∈part
 | [],es,h,d=>by rw[show es=[] from h];simp
 | n::ns,es,⟨part,rest,m,h,e⟩,d=>by
  rw[e,LK,Qfb f h d]
  constructor
  ·rintro(z | ⟨q,hq,z⟩)
   ·exact⟨n,VM,part,m.1,z⟩
   ·exact⟨q,VN _ hq,z⟩
  ·rintro⟨q,hq,p,hp,z⟩
   rcases mem_cons.mp hq with rfl | hq
   ·rw[(YL (f.num _ _ _ hp m.1)).2]at z;exact .inl z
   ·exact .inr ⟨q,hq,p,hp,z⟩
theorem Jya(f:Fn tbl){l:Nat}{ns:List Int}{es:List Dt}(h:Pgs tbl ((l+1:Nat):Int) ns es)(m:Int):m∈es.map Zj↔∃ q∈ns,Kid tbl l q m:=by
 rw[mem_map]
 constructor
 ·rintro⟨d,hd,e⟩
  obtain⟨q,hq,part,hp,z⟩:=(Qfb f h d).mp hd;exact⟨q,hq,part,hp,mem_map.mpr ⟨d,z,e⟩⟩
 ·rintro⟨q,hq,part,hp,z⟩
  obtain⟨d,hd,e⟩:=mem_map.mp z;exact⟨d,(Qfb f h d).mpr ⟨q,hq,part,hp,hd⟩,e⟩
theorem YGb(f:Fn tbl){l:Nat}{n:Int}{R:List Dt}(h:Lev tbl l [n] R):∀ i j,i+j=l->∃ ns,Lev tbl j ns R/\∀ m,m∈ns↔Und tbl l n j m:=by
 intro i
 induction i with
 | zero =>
  intro j e;obtain rfl:j=l:=by lia
  refine⟨[n],h,λm=>?_⟩
  rw[Dg]
  constructor
  ·rintro rfl;exact .self
  ·intro u
   cases u with
   | self=>rfl
   | kid u _=>have:=u.le;lia
 | succ i ih =>
  intro j e;obtain⟨ns,⟨es,p,_,hL⟩,hm⟩:=ih (j+1) #[0]
  refine⟨es.map Zj,hL,λm=>?_⟩
  rw[Jya f p]
  constructor
  ·rintro⟨q,hq,k⟩;exact((hm q).mp hq).kid k
  ·intro u
   cases u with
   | self=>lia
   | kid u k=>exact⟨_,(hm _).mpr u,k⟩
theorem JAb{l:Nat}{ns:List Int}{R:List Dt}(h:Lev tbl l ns R){n:Int}(hn:n∈ns):∃ S,Lev tbl l [n] S/\S≠[]/\∀ x∈S,x∈R:=by
 obtain⟨a,b,e⟩:=D1 hn;rw[e,show a++n::b=a++([n]++b) from rfl]at h
 obtain⟨A,R2,e1,_,h2⟩:=h.split;obtain⟨S,B,e2,h3,_⟩:=h2.split;refine⟨S,h3,λz=>?_,λx hx=>by rw[e1,e2];simp[hx]⟩
 have:=h3.len;rw[z]at this;exact absurd this #[2]
theorem JG(f:Fn tbl){l j:Nat}{n m:Int}{R:List Dt}(h:Lev tbl l [n] R)(u:Und tbl l n j m):∃ S,Lev tbl j [m] S/\S≠[]/\∀ x∈S,x∈R:=by
 obtain⟨ns,hL,hm⟩:=YGb f h (l - j) j (by have:=u.le;lia)
 exact JAb hL ((hm m).mpr u)
theorem JBb{l:Nat}{n:Int}{S:List Dt}(h:Lev tbl l [n] S):∃ part,(n,Zz (l:Int) part)∈tbl:=by
 cases l with
 | zero=>obtain⟨part,_,m,_⟩:=h;exact⟨part,m.1⟩
 | succ l=>obtain⟨_,⟨part,_,m,_⟩,_⟩:=h;exact⟨part,m.1⟩
theorem Jza(f:Fn tbl){l j:Nat}{n:Int}{S T:List Dt}(h:Lev tbl l [n] S)(h':Lev tbl j [n] T):l=j/\S=T:=by
 obtain⟨p,hp⟩:=JBb h;obtain⟨q,hq⟩:=JBb h';have e:=(YL (f.num _ _ _ hp hq)).1;have e:l=j:=by lia
 subst e;exact⟨rfl,h.det f h'⟩
theorem JCb(f:Fn tbl){l:Nat}:∀ {ns:List Int} {R:List Dt},Lev tbl l ns R->R.Nodup->ns.Nodup
 | [],_,_,_=>Dr
 | n::ns,R,h,nd=>by
  obtain⟨S,T,e,hS,hT⟩:=Lev.split (a:=[n]) h;rw[e]at nd;obtain⟨_,n2,dj⟩:=nodup_append.mp nd;refine nodup_cons.mpr ⟨λz=>?_,JCb f hT n2⟩
  obtain⟨S',h1,h2,h3⟩:=JAb hT z;have e2:=hS.det f h1;subst e2;obtain⟨x,r,ex⟩:=Cj h2;exact dj x (by rw[ex];simp) x (h3 x (by rw[ex];simp)) rfl
theorem XMc(f:Fn tbl){l j:Nat}{n q q' m:Int}{R:List Dt}(h:Lev tbl l [n] R)(nd:R.Nodup)(u:Und tbl l n (j+1) q)(u':Und tbl l n (j+1) q')(k:Kid tbl j q m)(k':Kid tbl j q' m):q=q':=by
 obtain⟨ns,hL,hm⟩:=YGb f h (l - (j+1)) (j+1) (by have:=u.le;lia)
 obtain⟨S,s1,s2,_⟩:=JG f h u;obtain⟨S',qv,s2',_⟩:=JG f h u';obtain⟨M,m1,m2,m3⟩:=JG f s1 (Und.self.kid k);obtain⟨M',nC,vk,nD⟩:=JG f qv (Und.self.kid k');have e:=m1.det f nC;subst e;obtain⟨x,r,ex⟩:=Cj m2;have hx:x∈M:=by rw[ex];simp
 exact hL.once f nd ((hm _).mpr u) ((hm _).mpr u') s1 qv (m3 x hx) (nD x hx)
inductive Rch(tbl:List (Int×Dt)):List Int->List Int->Prop
 | nil:Rch tbl [] []
 | leaf {n:Int} {part:List Dt} {stack rest:List Int}:(n,Zz (0:Int) part)∈tbl->Rch tbl stack rest->Rch tbl (n::stack) (n::rest)
 | twig {n:Int} {l:Nat} {part:List Dt} {stack rest:List Int}:(n,Zz ((l+1:Nat):Int) part)∈tbl->(∀ d∈part,∃ k m,d=Jq k m)->Rch tbl ((part.map Zj).reverse++stack) rest->Rch tbl (n::stack) (n::rest)
theorem JDb(f:Fn tbl){l:Nat}(one:∀ (n:Int) (R:List Dt),Lev tbl l [n] R->R.Nodup->∃ fs:List Int,(∀ stack rest,Rch tbl stack rest->Rch tbl (n::stack) (fs++rest))/\fs.Nodup/\(∀ m,m∈fs↔∃ j,Und tbl l n j m)/\fs.length<=(l+1) * R.length) :
 ∀ (ns:List Int) (R:List Dt),Lev tbl l ns R->R.Nodup->∃ fs:List Int,(∀ stack rest,Rch tbl stack rest->Rch tbl (ns.reverse++stack) (fs++rest))/\fs.Nodup/\(∀ m,m∈fs↔∃ n∈ns,∃ j,Und tbl l n j m)/\fs.length<=(l+1) * R.length:=by
 intro ns
 induction ns with
 | nil=>intro R h nd;exact⟨[],λ_ _ h=>h,Dr,λm=>by simp,Ux _⟩
 | cons n ns ih =>
  intro R h nd;obtain⟨S,T,e,hS,hT⟩:=Lev.split (a:=[n]) h;rw[e]at nd;obtain⟨n1,n2,dj⟩:=nodup_append.mp nd;obtain⟨fs,a1,a2,a3,a4⟩:=one n S hS n1;obtain⟨gs,b1,b2,b3,b4⟩:=ih T hT n2;refine⟨gs++fs,λstack rest hr=>?_,nodup_append.mpr ⟨b2,a2,λx hx y hy vm=>?_⟩,λm=>?_,?_⟩
  ·rw[reverse_cons,IJ,IJ]
   exact b1 _ _ (a1 _ _ hr)
  ·subst vm
   obtain⟨c,hc,j,u⟩:=(b3 x).mp hx;obtain⟨j',u'⟩:=(a3 x).mp hy;obtain⟨U,u1,u2,u3⟩:=JAb hT hc;obtain⟨M,m1,m2,m3⟩:=JG f u1 u;obtain⟨M',nC,vk,nD⟩:=JG f hS u';obtain⟨_,e2⟩:=Jza f m1 nC;subst e2;obtain⟨z,r,ez⟩:=Cj m2;have hz:z∈M:=by rw[ez];simp
   exact dj z (nD z hz) z (u3 z (m3 z hz)) rfl
  ·rw[LK,a3,b3]
   constructor
   ·rintro(⟨c,hc,z⟩ | z)
    ·exact⟨c,VN _ hc,z⟩
    ·exact⟨n,VM,z⟩
   ·rintro⟨c,hc,z⟩
    rcases mem_cons.mp hc with rfl | hc
    ·exact .inr z
    ·exact .inl ⟨c,hc,z⟩
  ·rw[On,e,On,Nat.mul_add];lia
theorem XFa(f:Fn tbl):∀ (l:Nat) (n:Int) (R:List Dt),Lev tbl l [n] R->R.Nodup->∃ fs:List Int,(∀ stack rest,Rch tbl stack rest->Rch tbl (n::stack) (fs++rest))/\fs.Nodup/\(∀ m,m∈fs↔∃ j,Und tbl l n j m)/\fs.length<=(l+1) * R.length
 | 0,n,R,h,nd=>by
  have len:=h.len;obtain⟨part,rest,m,_⟩:=h;refine⟨[n],λstack rest hr=>.leaf m.1 hr,by simp,λm=>?_,by rw[Lb,Nat.one_mul];exact len⟩
  rw[Dg]
  constructor
  ·rintro rfl;exact⟨0,.self⟩
  ·rintro⟨j,u⟩
   cases u with
   | self=>rfl
   | kid u _=>have:=u.le;lia
 | l+1,n,R,h,nd=>by
  have len:=h.len;have h0:=h;obtain⟨es,p,o,hL⟩:=h;obtain⟨part,rest,⟨m,ne⟩,hp,e⟩:=id p;rw[show rest=[] from hp,U0]at e
  subst e;obtain⟨fs,a1,a2,a3,a4⟩:=JDb f (XFa f l) _ R hL nd;have kd:∀ c,c∈es.map Zj↔Kid tbl l n c:=λc=>by rw[Jya f p];simp
  have no:n∉fs:=λz=>by
   obtain⟨c,hc,j,u⟩:=(a3 n).mp z;obtain⟨S,s1,_⟩:=JG f h0 (Und.of ((kd c).mp hc) u);have:=(Jza f h0 s1).1;have:=u.le
   lia
  refine⟨n::fs,λstack rest hr=>.twig m o (a1 stack rest hr),nodup_cons.mpr ⟨no,a2⟩,λm=>?_,?_⟩
  ·rw[Dh,a3]
   constructor
   ·rintro(rfl | ⟨c,hc,j,u⟩)
    ·exact⟨_,.self⟩
    ·exact⟨j,Und.of ((kd c).mp hc) u⟩
   ·rintro⟨j,u⟩
    rcases u.top with ⟨_,rfl⟩ | ⟨c,hc,u⟩
    ·exact .inl rfl
    ·exact .inr ⟨c,(kd c).mpr hc,j,u⟩
  ·rw[UG,Nat.succ_mul]
   rw[OD]at len
   lia
end
end Tr
end
section
open L2 PySem
namespace Tr
abbrev Rt:=Option (Int×Nat×V)
def J6(hs gs:List Dt):List Int:=(hs.map Zj).filter λn=>!decide (n∈gs.map Zj)
def Rn(tbl:List (Int×Dt))(oA oB:Rt):Nat->List Dt->List Dt->List Int->List Dt->List Dt->List Int->Prop
 | 0,hs,gs,ss,R,S,sf=>hs=R/\gs=S/\ss=sf
 | l+1,hs,gs,ss,R,S,sf=>((∀ d∈hs,∃ k n,d=Jq k n)/\∀ d∈gs,∃ k n,d=Jq k n)/\(hs.length<=300/\gs.length<=300) /\
  ∃ aE bj,Pgs tbl (l:Int) (J6 (hs++Qx oA l) (gs++Qx oB l)) aE/\Pgs tbl (l:Int) (J6 (gs++Qx oB l) (hs++Qx oA l)) bj/\(aE.length<=300/\bj.length<=300) /\
   Rn tbl oA oB l aE bj ((ss++J6 (hs++Qx oA l) (gs++Qx oB l))++J6 (gs++Qx oB l) (hs++Qx oA l)) R S sf
section
variable{tbl aD:List (Int×Dt)}{oA oB:Rt}
theorem Rn.sub:∀ {l:Nat} {hs gs:List Dt} {ss:List Int} {R S:List Dt} {sf:List Int},Rn tbl oA oB l hs gs ss R S sf->∀ n∈ss,n∈sf
 | 0,_,_,_,_,_,_,h,n,hn=>by rw[<- h.2.2];exact hn
 | l+1,_,_,_,_,_,_,⟨_,_,_,_,_,_,_,h⟩,n,hn=>h.sub n (VS _ (VS _ hn))
theorem Pgs.keep{l:Int}:∀ {ns:List Int} {es:List Dt},Pgs tbl l ns es->(∀ n d,n∈ns->(n,d)∈tbl->(n,d)∈aD)->Pgs aD l ns es
 | [],_,h,_=>h
 | n::ns,_,⟨part,rest,m,h,e⟩,k=>⟨part,rest,⟨k _ _ VM m.1,m.2⟩,h.keep λn d hn=>k n d (VN _ hn),e⟩
theorem Rn.keep:∀ {l:Nat} {hs gs:List Dt} {ss:List Int} {R S:List Dt} {sf:List Int},Rn tbl oA oB l hs gs ss R S sf->(∀ n d,n∈sf->(n,d)∈tbl->(n,d)∈aD)->Rn aD oA oB l hs gs ss R S sf
 | 0,_,_,_,_,_,_,h,_=>h
 | l+1,_,_,_,_,_,_,⟨a,b,aE,bj,p1,p2,c,h⟩,k =>
  ⟨a,b,aE,bj,p1.keep λn d hn=>k n d (h.sub n (VS _ (Uw _ hn))),p2.keep λn d hn=>k n d (h.sub n (Uw _ hn)),c,h.keep k⟩
def At(tbl:List (Int×Dt))(o:Rt)(j:Nat)(n:Int):Prop:=∃ x,o=some x/\Und tbl x.2.1 x.1 j n
theorem At.iff{o:Rt}{l:Nat}{n:Int}:At tbl o l n↔n∈(Qx o l).map Zj\/∃ q,At tbl o (l+1) q/\Kid tbl l q n:=by
 cases o with
 | none=>exact⟨(λ⟨_,e,_⟩=>nomatch e),λh=>h.elim (λz=>nomatch z) (λ⟨_,⟨_,e,_⟩,_⟩=>nomatch e)⟩
 | some x =>
  constructor
  ·rintro⟨_,e,u⟩
   cases e;cases u with
   | self=>exact .inl (by rw[show Qx (some x) x.2.1=[Jq x.2.2 x.1] from if_pos rfl];exact mem_singleton.mpr rfl)
   | kid u k=>exact .inr ⟨_,⟨x,rfl,u⟩,k⟩
  ·rintro(z | ⟨q,⟨_,e,u⟩,k⟩)
   ·by_cases e:x.2.1=l
    ·rw[show Qx (some x) l=[Jq x.2.2 x.1] from if_pos e]at z
     have z:n=x.1:=mem_singleton.mp z;rw[z,<- e];exact⟨x,rfl,.self⟩
    ·rw[show Qx (some x) l=[] from if_neg e]at z;cases z
   ·cases e;exact⟨x,rfl,u.kid k⟩
theorem J6c{o:Rt}{l:Nat}{n q:Int}(h:n∈(Qx o l).map Zj)(a:At tbl o (l+1) q):False:=by
 obtain⟨x,rfl,u⟩:=a;have:=u.le;rw[show Qx (some x) l=[] from if_neg #[0]]at h
 cases h
theorem ZFc{hs gs:List Dt}{n:Int}:n∈J6 hs gs↔n∈hs.map Zj/\n∉gs.map Zj:=by
 unfold J6;rw[mem_filter];simp
theorem YHb(f:Fn tbl){RA:List Dt}(hA:∀ x,oA=some x->Lev tbl x.2.1 [x.1] RA)(nA:RA.Nodup){l:Nat}{hs gs:List Dt}
 (h1:∀ n,n∈hs.map Zj↔∃ q,At tbl oA (l+1) q/\¬ At tbl oB (l+1) q/\Kid tbl l q n) (h2:∀ n,n∈gs.map Zj↔∃ q,At tbl oB (l+1) q/\¬ At tbl oA (l+1) q/\Kid tbl l q n) (n:Int) :
 n∈J6 (hs++Qx oA l) (gs++Qx oB l)↔At tbl oA l n/\¬ At tbl oB l n:=by
 rw[ZFc,Dd,Dd,LK,LK,h1,h2]
 constructor
 ·rintro⟨a,b⟩
  refine⟨At.iff.mpr (a.elim (λ⟨q,x,_,k⟩=>.inr ⟨q,x,k⟩) .inl),λz=>?_⟩
  rcases At.iff.mp z with z | ⟨q',z,k'⟩
  ·exact b (.inr z)
  ·have aq:At tbl oA (l+1) q':=D5 λno=>b (.inl ⟨q',z,no,k'⟩)
   rcases a with ⟨q,x,y,k⟩ | a
   ·obtain⟨r,e,u⟩:=x
    obtain⟨r',e',u'⟩:=aq;rw[e]at e';cases e';exact y (XMc f (hA r e) nA u u' k k' ▸ z)
   ·exact J6c a aq
 ·rintro⟨a,b⟩
  constructor
  ·rcases At.iff.mp a with a | ⟨q,a,k⟩
   ·exact .inr a
   ·exact .inl ⟨q,a,λz=>b (At.iff.mpr (.inr ⟨q,z,k⟩)),k⟩
  ·rintro(⟨q,x,_,k⟩ | x)
   ·exact b (At.iff.mpr (.inr ⟨q,x,k⟩))
   ·exact b (At.iff.mpr (.inl x))
theorem At.lev(f:Fn tbl){o:Rt}{RA:List Dt}(hA:∀ x,o=some x->Lev tbl x.2.1 [x.1] RA){j:Nat}{n:Int}(h:At tbl o j n):∃ S,Lev tbl j [n] S:=by
 obtain⟨x,e,u⟩:=h;obtain⟨S,s,_⟩:=JG f (hA x e) u;exact⟨S,s⟩
def JEb(tbl:List (Int×Dt))(oA oB:Rt)(j:Nat)(n:Int):Prop:=(At tbl oA j n/\¬ At tbl oB j n)\/(At tbl oB j n/\¬ At tbl oA j n)
theorem XNc(f:Fn tbl){RA RB:List Dt}(hA:∀ x,oA=some x->Lev tbl x.2.1 [x.1] RA)(nA:RA.Nodup)(hB:∀ x,oB=some x->Lev tbl x.2.1 [x.1] RB)(nB:RB.Nodup)(lA:RA.length<=300)(lB:RB.length<=300) :
 ∀ (l:Nat) (hs gs:List Dt) (ss:List Int) (R S:List Dt),Zuc tbl l hs R->Zuc tbl l gs S->Rst (YTa oA RA l) R (YTa oB RB l) S ->
  (∀ j,l=j+1->∀ n,n∈hs.map Zj↔∃ q,At tbl oA (j+1) q/\¬ At tbl oB (j+1) q/\Kid tbl j q n)->(∀ j,l=j+1->∀ n,n∈gs.map Zj↔∃ q,At tbl oB (j+1) q/\¬ At tbl oA (j+1) q/\Kid tbl j q n) ->
  ss.Nodup->(∀ n,n∈ss↔∃ j,l<=j/\JEb tbl oA oB j n) ->
  ∃ R' S' sf,Rn tbl oA oB l hs gs ss R' S' sf/\Rst (YTa oA RA 0) R' (YTa oB RB 0) S'/\sf.Nodup/\∀ n,n∈sf↔∃ j,JEb tbl oA oB j n:=by
 intro l
 induction l with
 | zero =>
  intro hs gs ss R S a b c _ _ d e;exact⟨R,S,ss,⟨a,b,rfl⟩,c,d,λn=>(e n).trans ⟨λ⟨j,_,x⟩=>⟨j,x⟩,λ⟨j,x⟩=>⟨j,Ux _,x⟩⟩⟩
 | succ l ih =>
  intro hs gs ss R S lh lg rs kh kg nd ms;have lenR:R.length<=300:=VI (rs.a.trans (Zoa oA RA _)).length_le lA;have lenS:S.length<=300:=VI (rs.b.trans (Zoa oB RB _)).length_le lB;have l1:=lh.2.len;have l2:=lg.2.len;rw[UO]at l1 l2;obtain⟨R',qw,vn⟩:=rs.enter lh.2 hA;obtain⟨S',aS,vo⟩:=vn.symm.enter lg.2 hB;rw[<- Dd]at qw aS;have sA:=Zoa oA RA l;have sB:=Zoa oB RB l;obtain⟨R2,S2,e1,e2,jf⟩:=vo.symm.step f qw aS (D6 sA nA) (D6 sB nB);have lR2:R2.length<=300:=VI (jf.a.trans sA).length_le lA;have lS2:S2.length<=300:=VI (jf.b.trans sB).length_le lB;obtain⟨aE,p1,d1⟩:=e1.down;obtain⟨bj,p2,d2⟩:=e2.down;have ld1:=d1.len;have ld2:=d2.len;have m1:=YHb f hA nA (kh l rfl) (kg l rfl);have m2:=YHb f hB nB (kg l rfl) (kh l rfl);have n1:(J6 (hs++Qx oA l) (gs++Qx oB l)).Nodup:=JCb f e1 (D6 (jf.a.trans sA) nA);have n2:(J6 (gs++Qx oB l) (hs++Qx oA l)).Nodup:=JCb f e2 (D6 (jf.b.trans sB) nB);have lv:∀ {i j:Nat} {n:Int},JEb tbl oA oB i n->JEb tbl oA oB j n->i=j:=λ{i j n} a b=>by
   have g:∀ {i:Nat},JEb tbl oA oB i n->∃ S,Lev tbl i [n] S:=λa=>a.elim (λz=>z.1.lev f hA) λz=>z.1.lev f hB
   obtain⟨_,s⟩:=g a;obtain⟨_,t⟩:=g b;exact(Jza f s t).1
  obtain⟨R3,S3,sf,q1,q2,q3,q4⟩:=ih aE bj ((ss++J6 (hs++Qx oA l) (gs++Qx oB l))++J6 (gs++Qx oB l) (hs++Qx oA l)) R2 S2 d1 d2 jf
   (λj e n=>by subst e;rw[Jya f p1];exact⟨λ⟨q,a,k⟩=>⟨q,((m1 q).mp a).1,((m1 q).mp a).2,k⟩,λ⟨q,a,b,k⟩=>⟨q,(m1 q).mpr ⟨a,b⟩,k⟩⟩)
   (λj e n=>by subst e;rw[Jya f p2];exact⟨λ⟨q,a,k⟩=>⟨q,((m2 q).mp a).1,((m2 q).mp a).2,k⟩,λ⟨q,a,b,k⟩=>⟨q,(m2 q).mpr ⟨a,b⟩,k⟩⟩)
   (by
    refine nodup_append.mpr ⟨nodup_append.mpr ⟨nd,n1,λx hx y hy e=>?_⟩,n2,λx hx y hy e=>?_⟩
    ·subst e
     obtain⟨j,hj,z⟩:=(ms x).mp hx;have:=lv z (.inl ((m1 x).mp hy))
     lia
    ·subst e
     rcases mem_append.mp hx with hx | hx
     ·obtain⟨j,hj,z⟩:=(ms x).mp hx
      have:=lv z (.inr ((m2 x).mp hy))
      lia
     ·exact((m2 x).mp hy).2 ((m1 x).mp hx).1)
   (λn=>by
    rw[LK,LK,ms,m1,m2]
    constructor
    ·rintro((⟨j,hj,z⟩ | z) | z)
     ·exact⟨j,by lia,z⟩
     ·exact⟨l,Ut _,.inl z⟩
     ·exact⟨l,Ut _,.inr z⟩
    ·rintro⟨j,hj,z⟩
     rcases Nat.lt_or_eq_of_le hj with hj | hj
     ·exact .inl (.inl ⟨j,hj,z⟩)
     ·subst hj
      rcases z with z | z
      ·exact .inl (.inr z)
      ·exact .inr z)
  exact⟨R3,S3,sf,⟨⟨lh.1,lg.1⟩,⟨by lia,by lia⟩,aE,bj,p1,p2,⟨by lia,by lia⟩,q1⟩,q2,q3,q4⟩
theorem YIb(f:Fn tbl){RA RB:List Dt}(hA:∀ x,oA=some x->Lev tbl x.2.1 [x.1] RA/\x.2.1<=6)(nA:RA.Nodup)(hB:∀ x,oB=some x->Lev tbl x.2.1 [x.1] RB/\x.2.1<=6)(nB:RB.Nodup)(lA:RA.length<=300)(lB:RB.length<=300)(zA:oA=Vo->RA=[])(zB:oB=Vo->RB=[]) :
 ∃ R S sf,Rn tbl oA oB 7 [] [] [] R S sf/\Rst RA R RB S/\sf.Nodup/\∀ n,n∈sf↔∃ j,JEb tbl oA oB j n:=by
 have jg:∀ {o:Rt} {R:List Dt},(∀ x,o=some x->Lev tbl x.2.1 [x.1] R/\x.2.1<=6)->YTa o R 7=[]:=λ{o R} h=>by
  cases o with
  | none=>rfl
  | some x=>exact if_neg (by have:=(h x rfl).2;lia)
 have all:∀ {o:Rt} {R:List Dt},(o=Vo->R=[])->YTa o R 0=R:=λ{o R} h=>by
  cases o with
  | none=>rw[h rfl];rfl
  | some x=>exact(show(if 0<=x.2.1 then R else [])=R from if_pos (Ux _))
 have no:∀ {o:Rt} {R:List Dt} {j:Nat} {n:Int},(∀ x,o=some x->Lev tbl x.2.1 [x.1] R/\x.2.1<=6)->7<=j->¬ At tbl o j n:=λh hj ⟨x,e,u⟩=>by
  have:=u.le;have:=(h x e).2
  lia
 obtain⟨R,S,sf,a,b,c,d⟩:=XNc f (λx e=>(hA x e).1) nA (λx e=>(hB x e).1) nB lA lB 7 [] [] [] [] [] ⟨(λd hd=>nomatch hd),Lev.nil 6⟩ ⟨(λd hd=>nomatch hd),Lev.nil 6⟩ (by rw[jg hA,jg hB];exact Rst.start)
  (λj e n=>⟨(λz=>nomatch z),λ⟨q,z,_⟩=>(no hA #[0] z).elim⟩) (λj e n=>⟨(λz=>nomatch z),λ⟨q,z,_⟩=>(no hB #[0] z).elim⟩) Dr
  (λn=>⟨(λz=>nomatch z),λ⟨j,hj,z⟩=>(z.elim (λz=>no hA hj z.1) λz=>no hB hj z.1).elim⟩)
 rw[all zA,all zB]at b;exact⟨R,S,sf,a,b,c,d⟩
end
end Tr
end
section
namespace L2
open PySem PySem.Spec PyProof.Rows
section
variable{X:Cx}
def Qzd(K:VC):R2:=λx y H Q=>∃ a b xs ys,x=.ref a/\y=.ref b/\SqT K H a xs/\SqT K H b ys/\ys≠[]/\xs.length+ys.length<=Vr /\
 (xs=[]->Q (.ref b) H)/\(xs≠[]->∀ p,H p=Vo->Q (.ref p) (upd H p (.tup (xs++ys))))
theorem ZGc{prog:Vg}{w:Vb}{A:VF}{E:YQ_}{s:VG}{t b:Vh}{ws:Array Va}{Q:YQ_}(ht:Vs s.heap t #[])(hb:Vs s.heap b ws)(h0:Q (.ref b) s):VV (VW prog w) A (Uz .Add (.ref t) (.ref b)) Q E s:=by
 obtain⟨⟨cls,dd,data,sl⟩,ho,hc,n,hd⟩:=id ht;obtain⟨⟨iB,cD,CL,eZ⟩,cQ,bC,n2,dG⟩:=id hb;simp only at hc hd bC dG;subst hc hd bC dG;exact concat_meets ⟨_,ho,rfl⟩ ⟨_,cQ,rfl⟩ noFill_tuple_add seq_tuple_add F.slot_tuple_add F.entry_tuple_add (F.args_tuple_add_2 _ _)
  (tuple_addW0 t b #[] ws n n2 dd cD sl eZ #[2]) ⟨ho,cQ,h0⟩
theorem J7c:OpR X (Uz .Add) (Qzd X.K):=by
 intro aa s σ H x y v u Q I rx ry h;obtain⟨a,b,xs,ys,rfl,rfl,ha,hb,hy,hz,q1,q2⟩:=h
 by_cases hx:xs=[]
 ·cases rx
  cases ry;obtain⟨ah,r1,p1,_⟩:=I.tuple ha;obtain⟨aQ,r2,p2,_⟩:=I.tuple hb;rw[r1.nil_iff.mpr hx]at p1;exact ZGc p1 p2 ⟨.ref b,H,I,rfl,q1 hx⟩
 ·exact Joc aa s σ H _ _ v u Q I rx ry ⟨a,b,xs,ys,rfl,rfl,ha,hb,hx,hz,λz=>(hy z).elim,λ_=>q2 hx⟩
end
end L2
end
section
namespace My
open PySem L2 Pl Th Tr
variable{CX:CXT}{P:Vg}{w:Vb}{mg:Str->Option Va}{base:Vp}{N:List Str}{qual:Str}{scope:Scope}{a d1 d2 f r:Vh}{cd:Va}{A:VF}{outer:List Env}{s:VG}{H H' H1:Hp}{E:XK}{i:Nat}{cs ob:Nat->Vh}{c l:Int}{es:List Dt}{xs:List V}{st:StL}{d:Dt}{lv:V->Nat}{tbl:List (Int×Dt)}{o v:V}{ae:List (Key×V)}{Q:VK}
variable{P:Vg}{w:Vb}{K:VC}{mg:Str->Option Va}{base:Vp}{CT:Vh}{cs:Nat->Vh}{ob:Nat->Vh}{f:Vh}{fd:UZ}
theorem XOc{K:VC}:(Q5a CX P w K mg base N qual scope f cd A outer s H E).K=K:=rfl
theorem XPc{K:VC}:(Q5a CX P w K mg base N qual scope f cd A outer s H E).prog=P:=rfl
theorem XQc{K:VC}:(Q5a CX P w K mg base N qual scope f cd A outer s H E).w=w:=rfl
theorem QAd{X:Cx}{sc:Scope}{x:Str}{M:List Str}{cl:List (Str×Vh)}{C:Vh}{fp:List Vh}:(blk X sc x M cl C s H fp).K=X.K:=rfl
theorem dly{G:Prop}(h:∀ g:Prop,(G->g)->g):G:=h G id
local macro_rules | `(tactic| walk_at "sc") => `(tactic| exact ⟨rfl, rfl, rfl, by decide +kernel, rfl, by decide +kernel, by decide +kernel⟩)
local macro_rules | `(tactic| walk_at "n") => do let h := Ck `h; let r := Ck `rfl; `(tactic| first | (cases $h:ident; subst_vars; rfl) | (repeat (first | (rcases $h:ident with ⟨$r:ident, _⟩; rfl) | rcases $h:ident with ⟨_, $h:ident⟩)))
local macro_rules | `(tactic| walk_at "rd") => do let x := ("XOc QAd Y8b Y9b Xab Quc Qvc Qwc Qxc Jvc Jwc ZEa Ylc Qpc Qcd X7b Qdd Qid Jbb Z8b Int.reduceLT Int.reduceLE Int.reduceToNat X4c Yoc tB X2c X1c tOr Ykc tOp tUn ZTb ZUb tC X3c YRc QMb Ymc tCB QPb Xga Jea Qad Y1c rI rI0 rU rEq rNe Z2c Z3c Z4c Z5c Z6c Z7c Z8c Z9c Jac Jbc Jcc Jdc Jec Jfc tBM Qed J8b tSl JIa YW Xfb Yib Qic Qkc Qlc Zhb Xpb Zgb Q2c Qhc Ytc Ysc Ybb YBc Q1c Xmb XPc XQc X6a Zic Qxd YDc YEc YFc YGc Ztb Zgb Qfd Qbc Qjc tIf QLc Y4b List.getElem?_cons_zero List.getElem?_cons_succ List.set_cons_zero List.set_cons_succ Option.some.injEq V.int.injEq V.bl.injEq V.str.injEq V.ref.injEq exists_eq_left exists_eq_left' exists_eq_right exists_and_left List.cons.injEq and_true true_and List.append_nil decide_eq_true_eq Bool.not_eq_true' decide_eq_false_iff_not Bool.not_true Bool.not_false if_true if_false Bool.true_eq_false Bool.false_eq_true reduceCtorEq exists_const exists_false false_and and_false not_true_eq_false not_false_eq_true ite_true ite_false".splitOn " ").toArray.map λs => Ck s.toName; let y := ("Qkd Xhc Xic Xjc Juc".splitOn " ").toArray.map λs => Ck s.toName; `(tactic| try simp (maxSteps := 1000000) only [$[↓$y:ident],*, $[$x:ident],*])
local macro_rules | `(tactic| walk_at "side") => `(tactic| first | lia | decide | ((first | unfold Jda | unfold YYc | (refine ZYb.ok ?_; unfold ZYb) | unfold ZYb); first | lia | decide))
local macro_rules | `(tactic| walk_at "go") => `(tactic| (repeat refine And.intro (by walk_at "side") ?_))
def top(i:Nat):V0:=PySem.Challenge.pw_twigtable_k35_whole_pages_looked_at.main.body.getD i (.Pass ⟨0,0,0,0⟩)
def Xy(i j:Nat):V0:=match top i with | .ClassDef _ _ _ body _ _ _ _ _ _ _=>body.getD j (.Pass ⟨0,0,0,0⟩) | s=>s
abbrev Jr:V0:=Xy 3 0
theorem Zqa:Qo ["self","key"] ["self","key"] (Qi Jr):=by walk_at "sc"
abbrev Yp:V0:=Xy 4 0
theorem Yha:Qo ["self","number"] ["self","number"] (Qi Yp):=by walk_at "sc"
abbrev ZVa:V0:=top 6
theorem JFb:Qo ["value"] ["value"] (Qi ZVa):=by walk_at "sc"
abbrev Yq:V0:=top 12
theorem Z3:Qo ["key","mix","sign"] ["key"] (Qi Yq):=by walk_at "sc"
abbrev XN:V0:=Xy 16 0
theorem Qgb:Qo ["self","level","entries"] ["self","level","entries"] (Qi XN):=by walk_at "sc"
abbrev XO:V0:=Xy 16 1
theorem Qhb:Qo ["self"] ["self"] (Qi XO):=by walk_at "sc"
abbrev Y7:V0:=Xy 16 2
theorem YVa:Qo ["self"] ["self"] (Qi Y7):=by walk_at "sc"
abbrev Y8:V0:=Xy 20 0
theorem YWa:Qo ["self"] ["self"] (Qi Y8):=by walk_at "sc"
abbrev Yr:V0:=Xy 27 0
theorem Yia:Qo ["self","key","old","new"] ["self","key","old","new"] (Qi Yr):=by walk_at "sc"
abbrev Ys:V0:=Xy 27 0
theorem Yja:Qo ["self","key","old","new"] ["self","key","old","new"] (Qi Ys):=by walk_at "sc"
abbrev Yt:V0:=Xy 27 1
theorem Yka:Qo ["self"] ["self"] (Qi Yt):=by walk_at "sc"
abbrev Z4:V0:=top 35
theorem JJ:Qo ["others","heads","there","head"] ["others","heads"] (Qi Z4):=by walk_at "sc"
abbrev XQ:V0:=top 39
theorem Qib:Qo ["_law_script","_law_k"] ["_law_script","_law_k"] (Qi XQ):=by walk_at "sc"
abbrev XR:V0:=top 40
theorem QF:Qo ["_law_cell_here","_law_signs","_law_mix","_law_many","_law_at","_law_plain","_law_found","_law_k"] ["_law_cell_here"] (Qi XR):=by walk_at "sc"
abbrev XS:V0:=top 41
theorem Y9:Qo ["_law_cell_here","_law_left","_law_found"] ["_law_cell_here"] (Qi XS):=by walk_at "sc"
abbrev Xa:V0:=top 43
theorem QAa:Qo ["_law_cell_here","_law_found"] ["_law_cell_here"] (Qi Xa):=by walk_at "sc"
abbrev ZD:V0:=top 44
theorem Yu:Qo ["_law_known","_law_numbers","_law_texts"] ["_law_known"] (Qi ZD):=by walk_at "sc"
abbrev Yla:V0:=top 7
theorem XDb:Qo ["one","other"] ["one","other"] (Qi Yla):=by walk_at "sc"
abbrev Qjb:V0:=top 13
theorem Zub:Qo ["key","mix"] ["key"] (Qi Qjb):=by walk_at "sc"
abbrev XT:V0:=Xy 17 0
theorem Qkb:Qo ["self","rows"] ["self","rows"] (Qi XT):=by walk_at "sc"
abbrev XU:V0:=Xy 18 0
theorem Qlb:Qo ["self","level","heads"] ["self","level","heads"] (Qi XU):=by walk_at "sc"
abbrev Xb:V0:=Xy 20 1
theorem Yv:Qo ["self","page","told","number"] ["self","page"] (Qi Xb):=by walk_at "sc"
abbrev Xc:V0:=Xy 28 0
theorem YXa:Qo ["self","key","new"] ["self","key","new"] (Qi Xc):=by walk_at "sc"
abbrev JK:V0:=Xy 29 0
theorem ZWa:Qo ["self","key","old"] ["self","key","old"] (Qi JK):=by walk_at "sc"
abbrev QPa:V0:=top 42
theorem Jca:Qo ["_law_cell_here","_law_kind"] ["_law_cell_here"] (Qi QPa):=by walk_at "sc"
abbrev QQa:V0:=top 14
theorem JH:Qo ["key","rest","level"] ["key"] (Qi QQa):=by walk_at "sc"
abbrev JL:V0:=Xy 20 2
theorem ZXa:Qo ["self","number"] ["self","number"] (Qi JL):=by walk_at "sc"
abbrev XV:V0:=top 45
theorem Z5:Qo ["_law_script","_law_known","_law_start","_law_k","_law_cell_here"] ["_law_script"] (Qi XV):=by walk_at "sc"
abbrev J7:V0:=top 46
theorem Q8:Qo ["_law_rows_here","_law_script","_law_way","_law_half","_law_known","_law_cell_here","_law_key_here"] ["_law_rows_here","_law_script"] (Qi J7):=by walk_at "sc"
abbrev QRa:V0:=top 8
theorem XW:Qo ["values","ordered","value"] ["values"] (Qi QRa):=by walk_at "sc"
abbrev ZYa:V0:=top 19
theorem JGb:Qo ["level","entries"] ["level","entries"] (Qi ZYa):=by walk_at "sc"
abbrev Xd:V0:=Xy 20 4
theorem QBa:Qo ["self","number","told"] ["self","number"] (Qi Xd):=by walk_at "sc"
abbrev Xe:V0:=Xy 20 8
theorem QCa:Qo ["self","number","told"] ["self","number"] (Qi Xe):=by walk_at "sc"
abbrev ZHc:V0:=top 22
theorem JHb:Qo ["entries","level","parts","entry"] ["entries","level"] (Qi ZHc):=by walk_at "sc"
abbrev XX:V0:=top 31
theorem Qmb:Qo ["key","old","new"] ["key","old","new"] (Qi XX):=by walk_at "sc"
abbrev Xf:V0:=Xy 20 3
theorem QDa:Qo ["self","number","told"] ["self","number"] (Qi Xf):=by walk_at "sc"
abbrev QSa:V0:=top 23
theorem Yi:Qo ["pages","level","entries","heads","part","page"] ["pages","level","entries"] (Qi QSa):=by walk_at "sc"
abbrev ZZa:V0:=top 34
theorem Yma:Qo ["pages","root","level","card"] ["pages","root","level"] (Qi ZZa):=by walk_at "sc"
abbrev Z6:V0:=top 37
theorem Q5:Qo ["old_rows","new_rows","olds","news","changes","key"] ["old_rows","new_rows"] (Qi Z6):=by walk_at "sc"
abbrev Z0a:V0:=top 24
theorem J8:Qo ["pages","level","heads","top","above"] ["pages","level","heads"] (Qi Z0a):=by walk_at "sc"
abbrev Xg:V0:=top 36
theorem Yw:Qo ["pages","numbers","entries","number"] ["pages","numbers"] (Qi Xg):=by walk_at "sc"
abbrev JU:V0:=top 47
theorem ZK:Qo ["_law_pages","_law_root","_law_found","_law_ahead","_law_number","_law_told"] ["_law_pages","_law_root"] (Qi JU):=by walk_at "sc"
abbrev Qnb:V0:=top 25
theorem Zvb:Qo ["pages","rows","at"] ["pages","rows"] (Qi Qnb):=by walk_at "sc"
abbrev Yna:V0:=top 33
theorem Q9:Qo ["pages","one","other","ones","others","seen","level","only_one","only_other"] ["pages","one","other"] (Qi Yna):=by walk_at "sc"
abbrev Yx:V0:=top 48
theorem J9:Qo ["_law_pages","_law_one","_law_other","_law_due","_law_found"] ["_law_pages","_law_one","_law_other"] (Qi Yx):=by walk_at "sc"
abbrev ZA:V0:=top 49
theorem QZ:Qo ["_law_pages","_law_one","_law_other","_law_kept","_law_due","_law_there","_law_number","_law_found"] ["_law_pages","_law_one","_law_other"] (Qi ZA):=by walk_at "sc"
abbrev XGa:V0:=top 50
theorem Xh:Qo ["_law_script","_law_pages","_law_rows_here","_law_one","_law_other","_law_third","_law_at","_law_turned"] ["_law_script"] (Qi XGa):=by walk_at "sc"
structure Zs(mg:Str->Option Va):Prop where
 dict:mg "dict"=Vo
 int:mg "int"=Vo
 isinstance:mg "isinstance"=Vo
 len:mg "len"=Vo
 list:mg "list"=Vo
 ord:mg "ord"=Vo
 range:mg "range"=Vo
 set:mg "set"=Vo
 sorted:mg "sorted"=Vo
 str:mg "str"=Vo
 tuple:mg "tuple"=Vo
 MODULUS:∃ t,mg "MODULUS"=some (.int (2147483647) t)
 TOP_LEVEL:∃ t,mg "TOP_LEVEL"=some (.int (6) t)
def QBd(i j:Nat):Bool:=([(0,0),(1,0),(1,1),(2,0),(2,2),(3,3),(4,4),(5,4),(5,5),(6,4),(6,6),(7,4),(7,7)]:List (Nat×Nat)).contains (i,j)
structure Tx(K:VC)(mg:Str->Option Va)(CT:Vh)(cs:Nat->Vh)(ob:Nat->Vh):Prop where
 mg_Page:mg "Page"=some (.ref (ob 0))
 mg_Leaf:mg "Leaf"=some (.ref (ob 1))
 mg_Twig:mg "Twig"=some (.ref (ob 2))
 mg_Pages:mg "Pages"=some (.ref (ob 3))
 mg_Change:mg "Change"=some (.ref (ob 4))
 mg_PutIn:mg "PutIn"=some (.ref (ob 5))
 mg_TakenOut:mg "TakenOut"=some (.ref (ob 6))
 mg_Turned:mg "Turned"=some (.ref (ob 7))
 ob_:∀ i,i < 8->ObC K (ob i) ["level","rows","heads","entries","told_by_number","number_by_told","count","key","old","new"]
 isa:∀ i j,i < 8->j < 8->UU K (.ref (ob i)) (.ref (ob j))=some (QBd i j)
 top:Qsd K mg "TableError" CT
 mg_NoPage:mg "NoPage"=some (.ref (cs 0))
 mg_NotRising:mg "NotRising"=some (.ref (cs 1))
 cl:∀ i,i < 2->W.XCl K (cs i) CT
 no:∀ i,i < 2->∀ f∈(["number","key"]:List Str),Jn K (cs i) f
 tab:∀ i j,i < 2->j < 2->UU K (.ref (cs i)) (.ref (cs j))=some (decide (i=j))
 tv:∀ i,i < 2->UU K (.ref (cs i)) (.type "ValueError")=some true
seal PE PT PW PA PS PSs PI PG QY PGs PO in
theorem Yoa(Z:Zs mg)(T:Tx K mg CT cs ob)(F:Fun K "__init__" "NoPage.__init__" Yp f fd):QB P w K mg base CX0 1 f fd ["self","number"] (JHc (cs 0) ["number"]):=by
 refine F.ok Yha (λvs H Q E h=>?_) (λam A outer s H vs Q E hr h=>?_)
 ·obtain⟨e,ws,rfl,hl,_⟩:=h;obtain⟨_,rfl⟩:=length_eq_one_iff.mp hl;rfl
 obtain⟨e,ws,rfl,hl,he,q⟩:=h;obtain⟨w0,rfl⟩:=length_eq_one_iff.mp hl;refine⟨_,(Qb (QT (Q9b T.top rfl (Qg (pv 0) (Qg (pv 1) Qd))))
  (Qe (QTc CT rfl (pv 0) (pv 1) rfl))),?_⟩
 refine Qn (σ:=[some (.ref e),some w0]) rfl ?_
 walk_at "rd";simp only[tBI,Xqc,Qrd];walk_at "rd";exact⟨e,cs 0,[w0],⟨rfl,rfl⟩,by show 1<=1000;decide,he,T.cl 0 #[1],cs 0,he,T.cl 0 #[1],(T.no 0 #[1] _ #[1]),λd hd ay=>q d hd ay⟩
seal PE PT PW PA PS PSs PI PG QY PGs PO in
theorem Zra(Z:Zs mg)(T:Tx K mg CT cs ob)(F:Fun K "__init__" "NotRising.__init__" Jr f fd):QB P w K mg base CX0 1 f fd ["self","key"] (JHc (cs 1) ["key"]):=by
 refine F.ok Zqa (λvs H Q E h=>?_) (λam A outer s H vs Q E hr h=>?_)
 ·obtain⟨e,ws,rfl,hl,_⟩:=h;obtain⟨_,rfl⟩:=length_eq_one_iff.mp hl;rfl
 obtain⟨e,ws,rfl,hl,he,q⟩:=h;obtain⟨w0,rfl⟩:=length_eq_one_iff.mp hl;refine⟨_,(Qb (QT (Q9b T.top rfl (Qg (pv 0) (Qg (pv 1) Qd))))
  (Qe (QTc CT rfl (pv 0) (pv 1) rfl))),?_⟩
 refine Qn (σ:=[some (.ref e),some w0]) rfl ?_
 walk_at "rd";simp only[tBI,Xqc,Qrd];walk_at "rd";exact⟨e,cs 1,[w0],⟨rfl,rfl⟩,by show 1<=1000;decide,he,T.cl 1 #[1],cs 1,he,T.cl 1 #[1],(T.no 1 #[1] _ #[1]),λd hd ay=>q d hd ay⟩
section
variable{K:VC}
theorem Zwb:UU K (.type "tuple") (.type "tuple")=some true:=by rfl
theorem Zxb:UU K (.type "list") (.type "list")=some true:=by rfl
end
theorem Z7{n:Nat}(h:n<=1000):n<=Vr:=VJ (Qw h)
theorem at0(x:V)(r:List V):atI (x::r) 0=some x:=Z0 (j:=0) rfl
theorem at1(x y:V)(r:List V):atI (x::y::r) 1=some y:=Z0 (j:=1) rfl
namespace M11
def p:Int:=2147483647
theorem JIb(cs:List Int):∀ (a:Int),0<=a->a < 2147483647->0<=cs.foldl (λm c=>(m * 131+c) % 2147483647) a/\cs.foldl (λm c=>(m * 131+c) % 2147483647) a < 2147483647:=by
 induction cs with
 | nil=>intro a h1 h2;exact⟨h1,h2⟩
 | cons c cs ih =>
  intro a h1 h2;simp only[Ld]
  apply ih <;> lia
def lev:Nat->Int->Nat
 | 0,_=>0
 | n+1,m=>if m % 4=0 then lev n (m / 4)+1 else 0
theorem Zyb(n:Nat)(m:Int):lev (n+1) m=if m % 4=0 then lev n (m / 4)+1 else 0:=rfl
theorem ZIc:∀ (n:Nat) (m:Int),lev n m<=n
 | 0,_=>Ut _
 | n+1,m=>by
  unfold lev
  split
  ·have:=ZIc n (m / 4);lia
  ·lia
theorem ZJc{n:Nat}{m:Int}{r:Int}{l:Nat}(h:l+lev (n - l) r=lev n m)(hl:l < n)(e:r % 4=0):(l+1)+lev (n - (l+1)) (r / 4)=lev n m:=by
 have e1:n - l=(n - (l+1))+1:=by lia
 rw[e1,Zyb,if_pos e]at h
 lia
theorem YJb{n:Nat}{m:Int}{r:Int}{l:Nat}(h:l+lev (n - l) r=lev n m)(hl:¬ (l < n/\r % 4=0))(hn:l<=n):l=lev n m:=by
 by_cases h1:l < n
 ·have h2:r % 4≠0:=λe=>hl ⟨h1,e⟩
  have e1:n - l=(n - (l+1))+1:=by lia
  rw[e1,Zyb,if_neg h2]at h
  lia
 ·have e:n - l=0:=by lia
  rw[e]at h;simp only[lev]at h
  lia
end M11
def Zl:V->Prop
 | .int n => -(10 ^ 30) < n/\n < 10 ^ 30
 | .str z=>z.length<=40
 | _=>False
def QTa(z:Str):List Int:=z.cps.toList.map λ(c:Nat)=>(c:Int)
def XRc:V->Int
 | .int n=>(n * 48271+11) % 2147483647
 | .str z=>(QTa z).foldl (λm c=>(m * 131+c) % 2147483647) 7
 | _=>0
def Qob(v:V):Int:=Builtin.bitXor (XRc v) (XRc v / 32768)
def ZP(v:V):Nat:=M11.lev 6 (Qob v)
theorem XEb{α β:Type}{l:List α}{c:α}{f:β->α->β}{a:β}(h:l[i]?=some c):(l.take (i+1)).foldl f a=f ((l.take i).foldl f a) c:=by
 rw[Dy,h];simp
theorem J8c{z:Str}{c:Nat}(h:z.cps.toList[i]?=some c):(QTa z)[i]?=some (c:Int):=by
 unfold QTa;rw[Oj,h]
 rfl
theorem ZKc(z:Str):(QTa z).length=z.length:=by
 unfold QTa;rw[UO];simp[Str.length]
theorem J9c{α:Type}{l:List α}{k:Int}(h0:0<=k)(h1:k < (l.length:Int)):∃ c,atI l k=some c:=by
 have hk:k.toNat < l.length:=by lia
 have ek:k=((k.toNat:Nat):Int):=by lia
 have h:=Z0 (xs:=l) (j:=k.toNat) (Lq hk)
 rw[<- ek]at h;exact⟨_,h⟩
inductive Ya(aR:VC)(vs:List V)(H:Hp)(Q:VK)(E:XK):Prop
 | mk:∀ v,vs=[v]->Zl v->Q (.int (XRc v)) H->Ya aR vs H Q E
inductive Ypa(aR:VC)(vs:List V)(H:Hp)(Q:VK)(E:XK):Prop
 | mk:∀ v,vs=[v]->Zl v->Q (.int (Qob v)) H->Ypa aR vs H Q E
inductive XY(aR:VC)(vs:List V)(H:Hp)(Q:VK)(E:XK):Prop
 | mk:∀ v,vs=[v]->Zl v->Q (.int (ZP v)) H->XY aR vs H Q E
theorem XZ{K:VC}:UU K (.type "int") (.type "str")=some false:=by rfl
theorem X2{K:VC}:UU K (.type "str") (.type "str")=some true:=by rfl
seal PE PT PW PA PS PSs PI PG QY PGs PO in
theorem Yqa(Z:Zs mg)(T:Tx K mg CT cs ob)(F:Fun K "mixed_first" "mixed_first" Yq f fd):QB P w K mg base CX0 1 f fd ["key"] (Ya K):=by
 refine F.ok Z3 (λvs H Q E h=>?_) (λam A outer s H vs Q E hr h=>?_)
 ·walk_at "n"
 obtain⟨v,rfl,hv,q⟩:=h;refine⟨_,(Qb (QN (ZN (Zr (QR ZS rfl (Z.isinstance) Zo (Qg (pv 0) (Qg (Qca rfl (Z.str) XZa (v:=.ty "str") rfl) Qd))) (λ_=>rfl))) (Qe (Qp (Qk QD (Qk ZY (Qk Z1 (pv 0) Qc) Qc) (Jra (Z.MODULUS) rfl)))) Qs)
  (Qb (Qj 1 Z3.nd Qc)
  (Qb (ZO Cm rfl (Xdc (pv 0)) (Zc (i:=2) Z3.nd rfl (OJ rfl)) (Qe (Qj 1 Z3.nd (Qk QD (Qk ZY (Qk Z1 (pv 1) Qc) (QR X0b rfl (Z.ord) Xec (Qg (pv 2) Qd))) (Jra (Z.MODULUS) rfl)))))
  (Qe (Qp (pv 1)))))),?_⟩
 refine Qn (σ:=[some v,Vo,Vo]) rfl ?_
 walk_at "rd";cases v with
 | int n =>
  refine Yo (.int n) XZ ⟨_,rfl,?_⟩
  walk_at "rd";walk_at "go";exact q
 | str z =>
  refine Yo (.str z) X2 ⟨_,rfl,?_⟩
  walk_at "rd";refine Jyc (z:=z) (λi σ' H'=>H'=H/\∃ x,σ'=[some (.str z),some (.int (((QTa z).take i).foldl (λm c=>(m * 131+c) % 2147483647) 7)),x]) ⟨rfl,_,rfl⟩ ?_ ?_
  ·rintro i c σ' H' hc ⟨rfl,x,rfl⟩
   walk_at "rd";have hr:=M11.JIb ((QTa z).take i) 7 #[1] #[1]
   refine⟨by refine ZYb.ok ?_;unfold ZYb;lia,rfl,?_,_,rfl⟩
   rw[XEb (J8c hc)]
   rfl
  ·rintro σ' H' ⟨rfl,x,rfl⟩
   walk_at "rd";rw[IL (by rw[ZKc];exact Ut _)]
   exact q
 | _=>exact hv.elim
seal PE PT PW PA PS PSs PI PG QY PGs PO in
theorem ZLc(Z:Zs mg)(T:Tx K mg CT cs ob)(vp:Cal P w K mg base 1 "mixed_first" ["key"] (Ya K))(F:Fun K "mixed" "mixed" Qjb f fd):QB P w K mg base CX0 2 f fd ["key"] (Ypa K):=by
 refine F.ok Zub (λvs H Q E h=>?_) (λam A outer s H vs Q E hr h=>?_)
 ·walk_at "n"
 obtain⟨v,rfl,hv,q⟩:=h;refine⟨_,(Qb (Qj 1 Zub.nd (Qm vp hr (Qg (pv 0) Qd)))
  (Qe (Qp (Qk XYb (pv 1) (Qk Z0b (pv 1) Qc))))),?_⟩
 refine Qn (σ:=[some v,Vo]) rfl ?_
 walk_at "rd";refine⟨v,rfl,hv,?_⟩
 walk_at "rd";walk_at "go";exact q
seal PE PT PW PA PS PSs PI PG QY PGs PO in
theorem Zzb(Z:Zs mg)(T:Tx K mg CT cs ob)(vq:Cal P w K mg base 2 "mixed" ["key"] (Ypa K))(F:Fun K "level_of" "level_of" QQa f fd):QB P w K mg base CX0 3 f fd ["key"] (XY K):=by
 refine F.ok JH (λvs H Q E h=>?_) (λam A outer s H vs Q E hr h=>?_)
 ·walk_at "n"
 obtain⟨v,rfl,hv,q⟩:=h;refine⟨_,(Qb (Qj 1 JH.nd (Qm vq hr (Qg (pv 0) Qd)))
  (Qb (Qj 2 JH.nd Qc)
  (Qb (JBa Cm (PW.pt (ZWb (Qu Ync (pv 2) (Jra (Z.TOP_LEVEL) rfl) (Qz _)) (XRa (Qu Ji (Qk QD (pv 1) Qc) Qc (Qz _))))) (Qb (Qj 1 JH.nd (Qk Z0b (pv 1) Qc))
  (Qe (Qj 2 JH.nd (Qk ZY (pv 2) Qc)))))
  (Qe (Qp (pv 2)))))),?_⟩
 refine Qn (σ:=[some v,Vo,Vo]) rfl ?_
 walk_at "rd";refine⟨v,rfl,hv,?_⟩
 walk_at "rd";refine⟨λm σ' H'=>H'=H/\∃ (r:Int) (l:Nat),σ'=[some v,some (.int r),some (.int l)]/\l<=6/\m=6 - l/\l+M11.lev (6 - l) r=ZP v,⟨6,rfl,Qob v,0,rfl,by decide,rfl,by show 0+M11.lev 6 (Qob v)=ZP v;rw[Lb];rfl⟩,?_⟩
 rintro m σ' H' ⟨rfl,r,l,rfl,hl,rfl,e⟩;walk_at "rd"
 by_cases h1:l < 6
 ·rw[if_pos #[0]]
  walk_at "go"
  by_cases h2:r % 4=0
  ·rw[if_pos h2]
   refine⟨λσ2 H2=>H2=H'/\σ2=[some v,some (.int (r / 4)),some (.int ((l+1:Nat):Int))],λσ2 H2 ⟨a,b⟩=>⟨6 - (l+1),by lia,a,r / 4,l+1,b,by lia,rfl,M11.ZJc e h1 h2⟩,?_⟩
   walk_at "rd";exact⟨rfl,by lia⟩
  ·rw[if_neg h2]
   have:=M11.YJb e (λz=>h2 z.2) hl
   rw[this];exact q
 ·rw[if_neg #[0]]
  have:=M11.YJb e (λz=>h1 z.1) hl
  rw[this];exact q
def pgF(tw:Bool)(l:Int)(t:Vh):List (Str×V):=Zu (if tw=true then "heads" else "rows") (.ref t) (Zu "entries" (.ref t) (Zu "level" (.int l) []))
theorem XFb{tw:Bool}:(if tw=true then 2 else 1) < 8:=by cases tw <;> decide
inductive PgD(ob:Nat->Vh)(H:Hp)(a:Vh)(l:Int)(es:List Dt):Prop
 | mk (tw:Bool) (dx t:Vh) (e:tw=decide (l≠0)) (h:H a=some (.ins (ob (if tw=true then 2 else 1)) dx (pgF tw l t))) (r:TD H 7 (.t es) (.ref t)):PgD ob H a l es
theorem PgD.same(h:PgD ob H a l es)(s:Ql H H'):PgD ob H' a l es:=by
 obtain⟨tw,dx,t,e,h1,h2⟩:=h;exact⟨tw,dx,t,e,s _ _ h1,h2.same s⟩
section
variable{K:VC}{mg:Str->Option Va}{CT:Vh}{cs ob:Nat->Vh}{a t dx:Vh}{tw:Bool}{l:Int}{i:Nat}{σ:St}{H:Hp}{Q:VK}
theorem ZMc(T:Tx K mg CT cs ob)(hs:σ[i]?=some (some (.ref a)))(ha:H a=some (.ins (ob (if tw=true then 2 else 1)) dx (pgF tw l t)))(q:Q (.int l) H):YXb K (JC i) "level" σ H Q :=
 Q7 (T.ob_ _ XFb) #[1] hs ha (by cases tw <;> rfl) q
theorem Yra(T:Tx K mg CT cs ob)(hs:σ[i]?=some (some (.ref a)))(ha:H a=some (.ins (ob (if tw=true then 2 else 1)) dx (pgF tw l t)))(q:Q (.ref t) H):YXb K (JC i) "entries" σ H Q :=
 Q7 (T.ob_ _ XFb) #[1] hs ha (by cases tw <;> rfl) q
end
theorem Ybc{x:V}(h:xs[0]?=some x):atI xs 0=some x:=Z0 (j:=0) h
inductive QL(aR:VC)(ob:Nat->Vh)(vs:List V)(H:Hp)(Q:VK)(E:XK):Prop
 | mk:∀ a l es,vs=[.ref a]->PgD ob H a l es->(∀ r H',Ql H H'->H r=Vo->TD H' 8 (Zz l es) (.ref r)->Q (.ref r) H')->QL aR ob vs H Q E
seal PE PT PW PA PS PSs PI PG QY PGs PO in
theorem Xi(Z:Zs mg)(T:Tx K mg CT cs ob)(F:Fun K "told" "Page.told" XO f fd):QB P w K mg base (CX1 P w) 1 f fd ["self"] (QL K ob):=by
 refine F.ok1 Qhb (λvs H Q E h=>?_) (λam A outer s H vs Q E hr h=>?_)
 ·walk_at "n"
 obtain⟨a,l,es,rfl,hP,q⟩:=h;refine⟨_,(Qe (Qp (Zd (Qg (Q2 (pv 0) rfl) (Qg (Q2 (pv 0) rfl) Qd))))),?_⟩
 refine Qn (σ:=[some (.ref a)]) rfl ?_
 walk_at "rd";obtain⟨tw,dx,t,_,ha,ht⟩:=hP;exact ZMc T rfl ha (Yra T rfl ha ⟨Jp,λp hp=>q p _ (Qh hp _) hp (TD.pair Qa (.ofV rfl) (ht.same (Qh hp _)))⟩)
inductive Zp(aR:VC)(ob:Nat->Vh)(vs:List V)(H:Hp)(Q:VK)(E:XK):Prop
 | mk:∀ a l k r es,vs=[.ref a]->PgD ob H a l (.t (.v k::r)::es)->Q k H->Zp aR ob vs H Q E
seal PE PT PW PA PS PSs PI PG QY PGs PO in
theorem Yy(Z:Zs mg)(T:Tx K mg CT cs ob)(F:Fun K "first" "Page.first" Y7 f fd):QB P w K mg base (CX1 P w) 1 f fd ["self"] (Zp K ob):=by
 refine F.ok1 YVa (λvs H Q E h=>?_) (λam A outer s H vs Q E hr h=>?_)
 ·walk_at "n"
 obtain⟨a,l,k,r,es,rfl,hP,q⟩:=h;refine⟨_,(Qe (Qp (QO QP (QO QP (Q2 (pv 0) rfl) Qc (λ_ _=>rfl)) Qc (λ_ _=>rfl)))),?_⟩
 refine Qn (σ:=[some (.ref a)]) rfl ?_
 walk_at "rd";obtain⟨tw,dx,t,_,ha,ht⟩:=hP;obtain⟨_,_,xs,_,e,l8,rt⟩:=ht.tup;cases e;cases rt with
 | cons r1 _ =>
  obtain⟨_,b,ys,_,rfl,hb,rb⟩:=r1.tup;cases rb with
  | cons r2 _ =>
   obtain⟨_,rfl⟩:=r2.flat;exact Yra T rfl ha ⟨t,rfl,_,SqT.of l8,_,Ybc rfl,b,rfl,_,SqT.of hb,_,Ybc rfl,q⟩
inductive Z8(K:VC)(ob:Nat->Vh)(vs:List V)(H:Hp)(Q:VK)(E:XK):Prop
 | mk:∀ a tw dx l e b xs,vs=[.ref a,.int l,.ref e]->H a=some (.ins (ob (if tw=true then 2 else 1)) dx [])->HE b H e xs->xs.length<=900->(∀ t H',H' a=some (.ins (ob (if tw=true then 2 else 1)) dx (Zu "entries" (.ref t) (Zu "level" (.int l) [])))->H' t=some (.tup xs)->(∀ fs,Ql (upd H a (.ins (ob (if tw=true then 2 else 1)) dx fs)) (upd H' a (.ins (ob (if tw=true then 2 else 1)) dx fs)))->Q .non H')->Z8 K ob vs H Q E
seal PE PT PW PA PS PSs PI PG QY PGs PO in
theorem Qpb(Z:Zs mg)(T:Tx K mg CT cs ob)(F:Fun K "__init__" "Page.__init__" XN f fd):QB P w K mg base CX0 1 f fd ["self","level","entries"] (Z8 K ob):=by
 refine F.ok Qgb (λvs H Q E h=>?_) (λam A outer s H vs Q E hr h=>?_)
 ·walk_at "n"
 obtain⟨a,tw,dx,l,e,b,xs,rfl,ha,he,lx,q⟩:=h;refine⟨_,(Qb (ZZ (pv 0) (pv 1) rfl)
  (Qe (ZZ (pv 0) (Zm Qsa rfl (Z.tuple) JNa (Qg (pv 2) Qd)) rfl))),?_⟩
 refine Qn (σ:=[some (.ref a),some (.int l),some (.ref e)]) rfl ?_
 walk_at "rd";have c:=T.ob_ _ (XFb (tw:=tw));generalize ob (if tw=true then 2 else 1)=C at *
 refine ZMa c #[1] rfl (y:=.int l) (H1:=H) (λQ q=>q) ha #[1] ?_
 have gZ:HE b _ e xs:=HE.upd_ins (o:=.ins C dx (Zu "level" (.int l) [])) he ha;have last:∀ (t:Vh) (H1:Hp),H1 a=some (.ins C dx (Zu "level" (.int l) []))->H1 t=some (.tup xs)->(∀ fs,Ql (upd H a (.ins C dx fs)) (upd H1 a (.ins C dx fs)))->Q .non (upd H1 a (.ins C dx (Zu "entries" (.ref t) (Zu "level" (.int l) [])))):=by
  intro t H1 h1 ht jh;have ta:t≠a:=λz=>by rw[z,h1]at ht;cases ht
  exact q t _ Qa (by rw[Qf ta];exact ht) λfs=>by rw[Zt];exact jh fs
 cases b with
 | false =>
  refine⟨e,rfl,xs,.inl ⟨SqL.of gZ,λt ht=>⟨a,C,dx,_,rfl,Qh ht _ _ _ Qa,c.cl,c.no _ #[1],show 1 < 1000 by decide,?_⟩⟩⟩
  have ta:t≠a:=λz=>by rw[z,Qa]at ht;cases ht
  refine last t _ (Qh ht _ _ _ Qa) Qa λfs=>?_
  rw[Zfb (VR ta),Zt,<- Zfb (VR ta)];exact Qh (by rw[Qf ta]at ht ⊢;exact ht) _
 | true =>
  refine⟨e,rfl,xs,.inr ⟨SqT.of gZ,⟨a,C,dx,_,rfl,Qa,c.cl,c.no _ #[1],show 1 < 1000 by decide,?_⟩⟩⟩
  exact last e _ Qa gZ λfs=>by rw[Zt];exact Ql.refl _
theorem XHa{C dx C' kN:Vh}{fs dF:List (Str×V)}(ha:H a=some (.ins C dx fs))(s:Ql (upd H a (.ins C' kN dF)) H'):Zb H H':=λb xs e=>s _ _ (by rw[Qf (JP e ha (by intro z;cases z))];exact e)
inductive JV(K:VC)(ob:Nat->Vh)(vs:List V)(H:Hp)(Q:VK)(E:XK):Prop
 | mk:∀ a dx e b xs es,vs=[.ref a,.ref e]->H a=some (.ins (ob 1) dx [])->HE b H e xs->Vm (λd v=>TD H 6 d v) es xs->xs.length<=900->(∀ dx fs H',Ql (upd H a (.ins (ob 1) dx fs)) H'->PgD ob H' a 0 es->Q .non H')->JV K ob vs H Q E
seal PE PT PW PA PS PSs PI PG QY PGs PO in
theorem Qqb(Z:Zs mg)(T:Tx K mg CT cs ob)(aV:BaI P w K mg base 1 "Page" (Z8 K ob))(F:Fun K "__init__" "Leaf.__init__" XT f fd):QB P w K mg base CX0 2 f fd ["self","rows"] (JV K ob):=by
 refine F.ok Qkb (λvs H Q E h=>?_) (λam A outer s H vs Q E hr h=>?_)
 ·walk_at "n"
 obtain⟨a,dx,e,b,xs,es,rfl,ha,he,re,lx,q⟩:=h;refine⟨_,(Qb (QT (Qha aV (k:=1) hr #[1] rfl (Qg (pv 0) (Qg Qc (Qg (pv 1) Qd)))))
  (Qe (ZZ (pv 0) (Q2 (pv 0) rfl) rfl))),?_⟩
 refine Qn (σ:=[some (.ref a),some (.ref e)]) rfl ?_
 walk_at "rd";have c:=T.ob_ 1 #[1]
 refine⟨a,false,dx,0,e,b,xs,rfl,ha,he,lx,λt H1 h1 ht hs=>?_⟩
 have ta:t≠a:=λz=>by rw[z,h1]at ht;cases ht
 refine ZMa c #[1] rfl (y:=.ref t) (H1:=H1) (λQ q=>Q7 c #[1] rfl h1 rfl q) h1 (show 2 < 1000 by decide) ?_
 exact q dx _ _ (hs _) ⟨false,dx,t,rfl,Qa,TD.ofT (by rw[Qf ta];exact ht) (TDs.sameT re (XHa ha (hs _)))⟩
inductive JW(K:VC)(ob:Nat->Vh)(vs:List V)(H:Hp)(Q:VK)(E:XK):Prop
 | mk:∀ a dx l e b xs es,vs=[.ref a,.int l,.ref e]->l≠0->H a=some (.ins (ob 2) dx [])->HE b H e xs->Vm (λd v=>TD H 6 d v) es xs->xs.length<=900->(∀ dx fs H',Ql (upd H a (.ins (ob 2) dx fs)) H'->PgD ob H' a l es->Q .non H')->JW K ob vs H Q E
seal PE PT PW PA PS PSs PI PG QY PGs PO in
theorem Qrb(Z:Zs mg)(T:Tx K mg CT cs ob)(aV:BaI P w K mg base 1 "Page" (Z8 K ob))(F:Fun K "__init__" "Twig.__init__" XU f fd):QB P w K mg base CX0 2 f fd ["self","level","heads"] (JW K ob):=by
 refine F.ok Qlb (λvs H Q E h=>?_) (λam A outer s H vs Q E hr h=>?_)
 ·walk_at "n"
 obtain⟨a,dx,l,e,b,xs,es,rfl,hl,ha,he,re,lx,q⟩:=h;refine⟨_,(Qb (QT (Qha aV (k:=1) hr #[1] rfl (Qg (pv 0) (Qg (pv 1) (Qg (pv 2) Qd)))))
  (Qe (ZZ (pv 0) (Q2 (pv 0) rfl) rfl))),?_⟩
 refine Qn (σ:=[some (.ref a),some (.int l),some (.ref e)]) rfl ?_
 walk_at "rd";have c:=T.ob_ 2 #[1]
 refine⟨a,true,dx,l,e,b,xs,rfl,ha,he,lx,λt H1 h1 ht hs=>?_⟩
 have ta:t≠a:=λz=>by rw[z,h1]at ht;cases ht
 refine ZMa c #[1] rfl (y:=.ref t) (H1:=H1) (λQ q=>Q7 c #[1] rfl h1 rfl q) h1 (show 2 < 1000 by decide) ?_
 exact q dx _ _ (hs _) ⟨true,dx,t,(decide_eq_true hl).symm,Qa,TD.ofT (by rw[Qf ta];exact ht) (TDs.sameT re (XHa ha (hs _)))⟩
inductive Xj(aR:VC)(ob:Nat->Vh)(vs:List V)(H:Hp)(Q:VK)(E:XK):Prop
 | mk:∀ l e b xs es,vs=[.int l,.ref e]->HE b H e xs->Vm (λd v=>TD H 6 d v) es xs->xs.length<=900->(∀ a H',Ql H H'->H a=Vo->PgD ob H' a l es->Q (.ref a) H')->Xj aR ob vs H Q E
seal PE PT PW PA PS PSs PI PG QY PGs PO in
theorem JJb(Z:Zs mg)(T:Tx K mg CT cs ob)(nE:MkV P w K mg base 2 "Twig" (ob 2) (JW K ob))(nF:MkV P w K mg base 2 "Leaf" (ob 1) (JV K ob))(F:Fun K "page_of" "page_of" ZYa f fd):QB P w K mg base CX0 4 f fd ["level","entries"] (Xj K ob):=by
 refine F.ok JGb (λvs H Q E h=>?_) (λam A outer s H vs Q E hr h=>?_)
 ·walk_at "n"
 obtain⟨l,e,b,xs,es,rfl,he,re,lx,q⟩:=h;refine⟨_,(Qb (QN (Qu Ji (pv 0) Qc (Qz _)) (Qe (Qp (Q8b nF (k:=3) hr #[1] rfl (Qg (pv 1) Qd)))) Qs)
  (Qe (Qp (Q8b nE (k:=3) hr #[1] rfl (Qg (pv 0) (Qg (pv 1) Qd)))))),?_⟩
 refine Qn (σ:=[some (.int l),some (.ref e)]) rfl ?_
 walk_at "rd";have sH:∀ (x dx:Vh) (o u:HO),H x=Vo->H dx=Vo->Ql H (upd (upd H dx u) x o):=λx dx o u h1 h2=>Y3 h1 h2 (Ql.refl _)
 refine Jo (λh=>?_) λh=>?_
 ·refine λx dx hx a9 ay=>⟨x,dx,e,b,xs,es,rfl,Qa,he.same (sH _ _ _ _ hx a9),TDs.sameT re (sH _ _ _ _ hx a9).t,lx,λkN fs H' s' pg=>⟨rfl,q x H' ?_ hx ?_⟩⟩
  ·rw[Zt]at s';exact Y3 hx a9 s'
  ·subst h;exact pg
 ·refine λx dx hx a9 ay=>⟨x,dx,l,e,b,xs,es,rfl,h,Qa,he.same (sH _ _ _ _ hx a9),TDs.sameT re (sH _ _ _ _ hx a9).t,lx,λkN fs H' s' pg=>⟨rfl,q x H' ?_ hx pg⟩⟩
  rw[Zt]at s';exact Y3 hx a9 s'
abbrev StL:=List (Int×Dt×Vh)
def stF(d1 d2:Vh)(c:Int):List (Str×V):=Zu "count" (.int c) (Zu "number_by_told" (.ref d2) (Zu "told_by_number" (.ref d1) []))
def QEa(x:Int×Dt×Vh):Key×V:=(.inl x.1,.ref x.2.2)
def YO(x:Int×Dt×Vh):Dt×Vh×V:=(x.2.1,x.2.2,.int x.1)
def XSc(d:Dt):Prop:=∃ l k r,∃ es:List Dt,d=Zz l (.t (.v k::r)::es)/\hV k=true/\es.length < 900
structure QG(P:Vg)(w:Vb)(ob:Nat->Vh)(H:Hp)(p d1 d2:Vh)(st:StL)(c:Int):Prop where
 obj:∃ dx,H p=some (.ins (ob 3) dx (stF d1 d2 c))
 num:H d1=some (.dK (st.map QEa))
 tol:H d2=some (dN P w d2 (st.map YO))
 td:∀ x∈st,TD H 8 x.2.1 (.ref x.2.2)
 sh:∀ x∈st,XSc x.2.1
 lt:∀ x∈st,x.1 < c
 nn:(st.map (·.1)).Nodup
 nd:(st.map (·.2.1)).Nodup
 few:st.length<=16000000
section
variable{P:Vg}{w:Vb}{K:VC}{ob:Nat->Vh}{H H':Hp}{p d1 d2:Vh}{st:StL}{c:Int}
theorem QG.pd1(h:QG P w ob H p d1 d2 st c):p≠d1:=by
 obtain⟨dx,e⟩:=h.obj;exact JP e h.num (by intro z;cases z)
theorem QG.pd2(h:QG P w ob H p d1 d2 st c):p≠d2:=by
 obtain⟨dx,e⟩:=h.obj;exact JP e h.tol (by intro z;cases z)
theorem QG.d12(h:QG P w ob H p d1 d2 st c):d1≠d2:=JP h.num h.tol (by intro z;cases z)
theorem QG.keep(h:QG P w ob H p d1 d2 st c)(s:Zb H H')(hp:H' p=H p)(h1:H' d1=H d1)(h2:H' d2=H d2):QG P w ob H' p d1 d2 st c :=
 ⟨by rw[hp];exact h.obj,by rw[h1];exact h.num,by rw[h2];exact h.tol,λx hx=>TD.sameT s 8 (h.td x hx),h.sh,h.lt,h.nn,h.nd,h.few⟩
theorem QG.same(h:QG P w ob H p d1 d2 st c)(s:Ql H H'):QG P w ob H' p d1 d2 st c:=by
 obtain⟨dx,e⟩:=h.obj;exact h.keep s.t (by rw[s _ _ e,e]) (by rw[s _ _ h.num,h.num]) (by rw[s _ _ h.tol,h.tol])
theorem QG.dn(h:QG P w ob H p d1 d2 st c):XM P w K H d2 (st.map YO):=⟨h.tol,λx hx=>by
 obtain⟨y,hy,rfl⟩:=mem_map.mp hx;exact⟨(h.td y hy).rep,(h.td y hy).h⟩⟩
theorem QG.get(h:QG P w ob H p d1 d2 st c){x:Int×Dt×Vh}(hx:x∈st):Q4 (st.map QEa) (.inl x.1)=some (.ref x.2.2):=by
 rw[Xya];have:(λy:Int×Dt×Vh=>decide ((QEa y).1=(Vc x.1:Key)))=λy=>decide (y.1=x.1):=by
  funext y
  exact decide_eq_decide.mpr ⟨λe=>by injection e,λe=>by show Vc _=_;rw[e]⟩
 rw[this,YK (λy:Int×Dt×Vh=>y.1) h.nn hx];rfl
theorem QG.getN(h:QG P w ob H p d1 d2 st c){x:Int×Dt×Vh}(hx:x∈st):QNa (st.map YO) x.2.1=some (.int x.1):=by
 rw[Zjb];have:=YK (λy:Int×Dt×Vh=>y.2.1) h.nd hx
 rw[show(λy:Int×Dt×Vh=>decide ((YO y).1=x.2.1))=λy=>decide (y.2.1=x.2.1) from rfl,this];rfl
theorem QG.fun_(h:QG P w ob H p d1 d2 st c){n:Int}{d d':Dt}{t t':Vh}(h1:(n,d,t)∈st)(h2:(n,d',t')∈st):d=d'/\t=t':=by
 have e1:=YK (λy:Int×Dt×Vh=>y.1) h.nn h1
 have e2:=YK (λy:Int×Dt×Vh=>y.1) h.nn h2
 have e:=e1.symm.trans e2;injection e with e
 injection e with _ e
 injection e with a b
 exact⟨a,b⟩
theorem YJc{n:Int}(h:∀ x∈st,x.1≠n):Q4 (st.map QEa) (.inl n)=Vo:=by
 rw[Xya];have:(λy:Int×Dt×Vh=>decide ((QEa y).1=(Vc n:Key)))=λy=>decide (y.1=n):=by
  funext y
  exact decide_eq_decide.mpr ⟨λe=>by injection e,λe=>by show Vc _=_;rw[e]⟩
 rw[this,Yub (λy:Int×Dt×Vh=>y.1) h];rfl
theorem ZNc(h:∀ x∈st,x.2.1≠d):QNa (st.map YO) d=Vo:=by
 rw[Zjb];have:=Yub (λy:Int×Dt×Vh=>y.2.1) h
 rw[show(λy:Int×Dt×Vh=>decide ((YO y).1=d))=λy=>decide (y.2.1=d) from rfl,this];rfl
theorem Z9(h:QG P w ob H p d1 d2 st c)(s:QS [p,d1,d2] H H'):Zb H H':=λb xs e=>s b _ (λz=>by
 obtain⟨dx,eo⟩:=h.obj
 rcases mem_cons.mp z with z | z
 ·rw[z,eo]at e;cases e
 rcases mem_cons.mp z with z | z
 ·rw[z,h.num]at e;cases e
 ·rw[mem_singleton.mp z,h.tol]at e;cases e) e
end
inductive Ju(P:Vg)(w:Vb)(ob:Nat->Vh)(vs:List V)(H:Hp)(Q:VK)(E:XK):Prop
 | mk:∀ p dx,vs=[.ref p]->H p=some (.ins (ob 3) dx [])->(∀ d1 d2 H' dx fs,H d1=Vo->H d2=Vo->Ql (upd H p (.ins (ob 3) dx fs)) H'->QG P w ob H' p d1 d2 [] 0->Q .non H')->Ju P w ob vs H Q E
seal PE PT PW PA PS PSs PI PG QY PGs PO in
theorem YZa(Z:Zs mg)(T:Tx K mg CT cs ob)(F:Fun K "__init__" "Pages.__init__" Y8 f fd):QB P w K mg base CX0 1 f fd ["self"] (Ju P w ob):=by
 refine F.ok YWa (λvs H Q E h=>?_) (λam A outer s H vs Q E hr h=>?_)
 ·walk_at "n"
 obtain⟨a,dx,rfl,ha,q⟩:=h;refine⟨_,(Qb (ZZ (pv 0) Zaa rfl)
  (Qb (ZZ (pv 0) Zfc rfl)
  (Qe (ZZ (pv 0) Qc rfl)))),?_⟩
 refine Qn (σ:=[some (.ref a)]) rfl ?_
 walk_at "rd";have c:=T.ob_ 3 #[1]
 intro p hp;have pa:a≠p:=λz=>by rw[<- z,ha]at hp;cases hp
 refine⟨a,ob 3,dx,_,rfl,by rw[Qf pa];exact ha,c.cl,c.no _ #[1],by decide,?_⟩
 intro p2 bD;have nG:a≠p2:=λz=>by rw[<- z,Qa]at bD;cases bD
 have eO:upd H p (.dK []) p2=Vo:=by rw[Qf (VR nG)]at bD;exact bD
 have pp:p2≠p:=λz=>by rw[z,Qa]at eO;cases eO
 have fu:H p2=Vo:=by rw[Qf pp]at eO;exact eO
 refine⟨a,ob 3,dx,Zu "told_by_number" (.ref p) [],rfl,by rw[Qf nG];exact Qa,c.cl,c.no _ #[1],(show 1 < 1000 by decide),?_⟩
 refine⟨a,ob 3,dx,Zu "number_by_told" (.ref p2) (Zu "told_by_number" (.ref p) []),rfl,Qa,c.cl,c.no _ #[1],(show 2 < 1000 by decide),?_⟩
 show Q V.non _;rw[Zt];refine q p p2 _ dx (stF p p2 0) hp fu (λb o hb=>?_) ⟨⟨dx,Qa⟩,?_,?_,(λx hx=>nomatch hx),(λx hx=>nomatch hx),(λx hx=>nomatch hx),Dr,Dr,Ux _⟩
 ·by_cases e:b=a
  ·rw[e,Qa]at hb ⊢;exact hb
  ·rw[Qf e]at hb ⊢
   rw[Qf (Qr hb fu),Qf e,Qf (Qr hb hp)];exact hb
 ·rw[Qf (VR pa),Qf (VR pp),Qf (VR pa)];exact Qa
 ·rw[Qf (VR nG)];exact Qa
inductive Ze(P:Vg)(w:Vb)(cs ob:Nat->Vh)(vs:List V)(H:Hp)(Q:VK)(E:XK):Prop
 | mk:∀ p d1 d2 st c n,vs=[.ref p,.int n]->QG P w ob H p d1 d2 st c->(∀ d t,(n,d,t)∈st->Q (.ref t) H)->((∀ x∈st,x.1≠n)->∀ d,H d=Vo->E (.ref (cs 0)) (some d) (upd H d (xD d [("number",.int n)])))->Ze P w cs ob vs H Q E
seal PE PT PW PA PS PSs PI PG QY PGs PO in
theorem Z1a(Z:Zs mg)(T:Tx K mg CT cs ob)(nH:MkX P w K mg base 1 "NoPage" (cs 0) CT ["number"])(F:Fun K "told_at" "Pages.told_at" JL f fd):QB P w K mg base (CX1 P w) 3 f fd ["self","number"] (Ze P w cs ob):=by
 refine F.ok1 ZXa (λvs H Q E h=>?_) (λam A outer s H vs Q E hr h=>?_)
 ·walk_at "n"
 obtain⟨p,d1,d2,st,c,n,rfl,hS,q1,q2⟩:=h;refine⟨_,(Qb (QN (ZVb (Xoa hr.u1 (pv 1) (Q2 (pv 0) rfl))) (Qe (Xva Qfa rfl rfl rfl nH (k:=2) hr #[1] (Qg (pv 1) Qd))) Qs)
  (Qe (Qp (Ycb hr.u1 (Q2 (pv 0) rfl) (pv 1) (λ_ _=>rfl))))),?_⟩
 refine Qn (σ:=[some (.ref p),some (.int n)]) rfl ?_
 walk_at "rd";obtain⟨dx,ho⟩:=hS.obj;have cc:=T.ob_ 3 #[1]
 refine Q7 cc #[1] rfl ho rfl ⟨d1,rfl,_,YD.k (k:=.inl n) hS.num,?_⟩
 by_cases hx:∃ x∈st,x.1=n
 ·obtain⟨⟨n',d,t⟩,hm,rfl⟩:=hx
  rw[hS.get hm];rw[if_neg #[2]]
  exact Q7 cc #[1] rfl ho rfl ⟨d1,rfl,.ref t,by rw[<- hS.get hm];exact YD.k (k:=.inl _) hS.num,q1 d t hm⟩
 ·have bp:∀ x∈st,x.1≠n:=λx h e=>hx ⟨x,h,e⟩
  rw[YJc bp,if_pos #[1]]
  exact⟨rfl,show 1<=1000 by decide,λd hd=>q2 bp d hd⟩
inductive Jv(P:Vg)(w:Vb)(cs ob:Nat->Vh)(vs:List V)(H:Hp)(Q:VK)(E:XK):Prop
 | mk:∀ p d1 d2 st c n,vs=[.ref p,.int n]->QG P w ob H p d1 d2 st c->(∀ l es t,(n,Zz l es,t)∈st->∀ a H',Ql H H'->H a=Vo->PgD ob H' a l es->Q (.ref a) H')->((∀ x∈st,x.1≠n)->∀ d,H d=Vo->E (.ref (cs 0)) (some d) (upd H d (xD d [("number",.int n)])))->Jv P w cs ob vs H Q E
seal PE PT PW PA PS PSs PI PG QY PGs PO in
theorem Y0a(Z:Zs mg)(T:Tx K mg CT cs ob)(nI:Cal P w K mg base 4 "page_of" ["level","entries"] (Xj K ob))(QM:MeV P w K mg base 3 (ob 3) "told_at" (Ze P w cs ob))(F:Fun K "page" "Pages.page" Xf f fd):QB P w K mg base (CX1 P w) 5 f fd ["self","number"] (Jv P w cs ob):=by
 refine F.ok1 QDa (λvs H Q E h=>?_) (λam A outer s H vs Q E hr h=>?_)
 ·walk_at "n"
 obtain⟨p,d1,d2,st,c,n,rfl,hS,q1,q2⟩:=h;refine⟨_,(Qb (Qj 2 QDa.nd (PE1.pe (ZT (k:=4) (pv 0) hr rfl (Qg (pv 1) Qd)) Qfa))
  (Qe (Qp (Qm nI hr (Qg (QO QP (pv 2) Qc (λ_ _=>rfl)) (Qg (QO QP (pv 2) Qc (λ_ _=>rfl)) Qd)))))),?_⟩
 refine Qn (σ:=[some (.ref p),some (.int n),Vo]) rfl ?_
 walk_at "rd";obtain⟨dx,ho⟩:=hS.obj;have cc:=T.ob_ 3 #[1]
 refine JF rfl ho rfl cc.cl (QM.mono #[1]) ⟨p,d1,d2,st,c,n,rfl,hS,λd t hm=>?_,λhx d hd=>q2 hx d hd⟩
 obtain⟨l,k,r,es,ed,hk,le⟩:=hS.sh _ hm;have td:=hS.td _ hm;dsimp only at ed td;subst ed;obtain⟨_,x,z,e,ht,t1,t2⟩:=td.pair_of;cases e;obtain⟨_,rfl⟩:=t1.flat;obtain⟨m,e',xs,em,rfl,he,re⟩:=t2.tup;obtain rfl:m=6:=by lia
 refine⟨t,rfl,_,SqT.of ht,.int l,rfl,⟨t,rfl,_,SqT.of ht,.ref e',rfl,?_⟩⟩
 exact⟨l,e',true,xs,_,rfl,he,re,by have:=Vn re;simp at this;lia,λa H' s ha pg=>q1 l _ t hm a H' s ha pg⟩
inductive Jw(P:Vg)(w:Vb)(ob:Nat->Vh)(vs:List V)(H:Hp)(Q:VK)(E:XK):Prop
 | mk:∀ p d1 d2 st c a l es,vs=[.ref p,.ref a]->QG P w ob H p d1 d2 st c->PgD ob H a l es->XSc (Zz l es)->st.length < 16000000->(∀ n t,(n,Zz l es,t)∈st->∀ H',Ql H H'->Q (.int n) H')->((∀ x∈st,x.2.1≠Zz l es)->∀ t H',QS [p,d1,d2] H H'->QG P w ob H' p d1 d2 (st++[(c,Zz l es,t)]) (c+1)->Q (.int c) H')->Jw P w ob vs H Q E
seal PE PT PW PA PS PSs PI PG QY PGs PO in
theorem Y1a(Z:Zs mg)(T:Tx K mg CT cs ob)(Yj:MeV P w K mg base 1 (ob 0) "told" (QL K ob))(ZV:MeV P w K mg base 1 (ob 1) "told" (QL K ob))(ZW:MeV P w K mg base 1 (ob 2) "told" (QL K ob))(F:Fun K "kept" "Pages.kept" Xb f fd):QB P w K mg base (CX1 P w) 2 f fd ["self","page"] (Jw P w ob):=by
 refine F.ok1 Yv (λvs H Q E h=>?_) (λam A outer s H vs Q E hr h=>?_)
 ·walk_at "n"
 obtain⟨p,d1,d2,st,c,a,l,es,rfl,hS,hP,iD,few,q1,q2⟩:=h;refine⟨_,(Qb (Qj 2 Yv.nd (PE1.pe (J1a (k:=1) (pv 1) hr rfl) Qfa))
  (Qb (QN (ZVb (XBc hr.u9 (pv 2) (Q2 (pv 0) rfl))) (Qe (Qp (JMc hr.u9 (Q2 (pv 0) rfl) (pv 2) (λ_ _=>rfl)))) Qs)
  (Qb (Qj 3 Yv.nd (Q2 (pv 0) rfl))
  (Qb (YZ hr.u1 (Q2 (pv 0) rfl) (pv 3) (pv 2) rfl)
  (Qb (JNc hr.u9 (Q2 (pv 0) rfl) (pv 2) (pv 3) rfl)
  (Qb (ZZ (pv 0) (Qk ZY (pv 3) Qc) rfl)
  (Qe (Qp (pv 3))))))))),?_⟩
 refine Qn (σ:=[some (.ref p),some (.ref a),Vo,Vo]) rfl ?_
 walk_at "rd";obtain⟨dx,ho⟩:=hS.obj;have cc:=T.ob_ 3 #[1]
 obtain⟨tw,vr,t0,qx,ha,ht⟩:=id hP;have Mt:MeV P w K mg base 1 (ob (if tw=true then 2 else 1)) "told" (QL K ob):=by cases tw with | true=>exact ZW | false=>exact ZV
 refine ZNa rfl ha (by cases tw <;> rfl) (T.ob_ _ XFb).cl Mt ⟨a,l,es,rfl,hP,λr H1 s1 vt t1=>?_⟩
 have bn:=hS.same s1;have bN:=s1 _ _ ho;refine Q7 cc #[1] rfl bN rfl ⟨d2,rfl,r,rfl,_,bn.dn,Zz l es,t1.rep,t1.h,?_⟩
 by_cases hx:∃ x∈st,x.2.1=Zz l es
 ·obtain⟨⟨n,d,t⟩,hm,e⟩:=hx
  dsimp only at e;subst e;have g:=bn.getN hm;dsimp only at g;rw[g,if_pos (show(some (V.int n)).isSome=true from rfl)]
  exact Q7 cc #[1] rfl bN rfl ⟨d2,rfl,r,rfl,_,bn.dn,Zz l es,t1.rep,t1.h,_,g,q1 n t hm _ s1⟩
 ·have bp:∀ x∈st,x.2.1≠Zz l es:=λx h e=>hx ⟨x,h,e⟩
  have hc:∀ x∈st,x.1≠c:=λx h e=>by have:=hS.lt x h;lia
  rw[ZNc bp,if_neg #[1]]
  refine Q7 cc #[1] rfl bN rfl ?_
  refine Q7 cc #[1] rfl bN rfl ⟨d1,rfl,_,Jga.k (k:=.inl c) bn.num (by rw[UO,UB];lia),?_⟩
  rw[QVb _ (YJc hc)];have ji:QS [p,d1,d2] H1 (upd H1 d1 (.dK (st.map QEa++[(.inl c,.ref r)]))):=(QS.refl _ _).upd #[2]
  have cm:=Z9 bn ji;refine Q7 cc #[1] rfl (by rw[Qf hS.pd1];exact bN) rfl ⟨d2,rfl,r,rfl,st.map YO,⟨by rw[Qf (VR hS.d12)];exact bn.tol,λx hx=>?_⟩,Zz l es,(TD.sameT cm 8 t1).rep,t1.h,ZNc bp,by rw[UO,UB];lia,?_⟩
  ·obtain⟨y,hy,rfl⟩:=mem_map.mp hx
   exact⟨(TD.sameT cm 8 (bn.td y hy)).rep,(bn.td y hy).h⟩
  generalize e2:upd H1 d1 (.dK (st.map QEa++[(.inl c,.ref r)]))=H2 at ji cm;have hW:QS [p,d1,d2] H1 (upd H2 d2 (dN P w d2 (st.map YO++[(Zz l es,r,.int c)]))):=ji.upd #[2]
  have p3:upd H2 d2 (dN P w d2 (st.map YO++[(Zz l es,r,.int c)])) p=some (.ins (ob 3) dx (stF d1 d2 c)):=by rw[Qf hS.pd2,<- e2,Qf hS.pd1];exact bN
  refine ZMa (fs:=stF d1 d2 c) cc #[1] rfl (y:=.int (c+1)) (H1:=upd H2 d2 (dN P w d2 (st.map YO++[(Zz l es,r,.int c)]))) (λQ q=>by
   simp only[tOp,ZTb,ZUb,tC,rI0];exact⟨c,1,rfl,rfl,q⟩) p3 (show 3 < 1000 by decide) ?_
  have cK:QS [p,d1,d2] H1 (upd (upd H2 d2 (dN P w d2 (st.map YO++[(Zz l es,r,.int c)]))) p (.ins (ob 3) dx (stF d1 d2 (c+1)))):=hW.upd #[2]
  have cS:=Z9 bn cK;refine q2 bp r _ ((s1.x _).trans cK) ⟨⟨dx,Qa⟩,?_,?_,λx hx=>?_,λx hx=>?_,λx hx=>?_,?_,?_,?_⟩
  ·rw[Qf (VR hS.pd1),Qf hS.d12,<- e2,Qa,Dd];rfl
  ·rw[Qf (VR hS.pd2),Qa,Dd];rfl
  ·rcases mem_append.mp hx with h | h
   ·exact TD.sameT cS 8 (bn.td x h)
   ·rw[mem_singleton.mp h];exact TD.sameT cS 8 t1
  ·rcases mem_append.mp hx with h | h
   ·exact hS.sh x h
   ·rw[mem_singleton.mp h];exact iD
  ·rcases mem_append.mp hx with h | h
   ·have:=hS.lt x h;lia
   ·rw[mem_singleton.mp h];show c < c+1;lia
  ·rw[Dd,Ci]
   refine⟨hS.nn,by simp,λa ha b hb e=>?_⟩
   obtain⟨y,hy,rfl⟩:=mem_map.mp ha;simp at hb;exact hc y hy (by rw[e,hb])
  ·rw[Dd,Ci]
   refine⟨hS.nd,by simp,λa ha b hb e=>?_⟩
   obtain⟨y,hy,rfl⟩:=mem_map.mp ha;simp at hb;exact bp y hy (by rw[e,hb])
  ·rw[On];show _+1<=16000000;lia
inductive Yz(P:Vg)(w:Vb)(cs ob:Nat->Vh)(vs:List V)(H:Hp)(Q:VK)(E:XK):Prop
 | mk:∀ p d1 d2 st c n,vs=[.ref p,.int n]->QG P w ob H p d1 d2 st c->(∀ l k r es t,(n,Zz l (.t (.v k::r)::es),t)∈st->∀ a H',Ql H H'->H a=Vo->TD H' 1 (.t [.v (.int l),.v k]) (.ref a)->Q (.ref a) H')->((∀ x∈st,x.1≠n)->∀ d,H d=Vo->E (.ref (cs 0)) (some d) (upd H d (xD d [("number",.int n)])))->Yz P w cs ob vs H Q E
seal PE PT PW PA PS PSs PI PG QY PGs PO in
theorem Y2a(Z:Zs mg)(T:Tx K mg CT cs ob)(QM:MeV P w K mg base 3 (ob 3) "told_at" (Ze P w cs ob))(F:Fun K "card" "Pages.card" Xd f fd):QB P w K mg base (CX1 P w) 4 f fd ["self","number"] (Yz P w cs ob):=by
 refine F.ok1 QBa (λvs H Q E h=>?_) (λam A outer s H vs Q E hr h=>?_)
 ·walk_at "n"
 obtain⟨p,d1,d2,st,c,n,rfl,hS,q1,q2⟩:=h;refine⟨_,(Qb (Qj 2 QBa.nd (PE1.pe (ZT (k:=3) (pv 0) hr rfl (Qg (pv 1) Qd)) Qfa))
  (Qe (Qp (Zd (Qg (QO QP (pv 2) Qc (λ_ _=>rfl)) (Qg (QO QP (QO QP (QO QP (pv 2) Qc (λ_ _=>rfl)) Qc (λ_ _=>rfl)) Qc (λ_ _=>rfl)) Qd)))))),?_⟩
 refine Qn (σ:=[some (.ref p),some (.int n),Vo]) rfl ?_
 walk_at "rd";obtain⟨dx,ho⟩:=hS.obj;have cc:=T.ob_ 3 #[1]
 refine JF rfl ho rfl cc.cl (QM.mono #[1]) ⟨p,d1,d2,st,c,n,rfl,hS,λd t hm=>?_,λhx d hd=>q2 hx d hd⟩
 obtain⟨l,k,r,es,ed,hk,le⟩:=hS.sh _ hm;have td:=hS.td _ hm;dsimp only at ed td;subst ed;obtain⟨_,x,z,e,ht,t1,t2⟩:=td.pair_of;cases e;obtain⟨_,rfl⟩:=t1.flat;obtain⟨m,e',xs,em,rfl,he,re⟩:=t2.tup;cases re with
 | cons r1 _ =>
  obtain⟨_,b,ys,_,rfl,hb,rb⟩:=r1.tup;cases rb with
  | cons r2 _ =>
   obtain⟨_,rfl⟩:=r2.flat;exact⟨t,rfl,_,SqT.of ht,.int l,rfl,t,rfl,_,SqT.of ht,.ref e',rfl,e',rfl,_,SqT.of he,.ref b,Ybc rfl,b,rfl,_,SqT.of hb,_,Ybc rfl,Jp,λa ha=>q1 l _ _ _ t hm a _ (Qh ha _) ha (TD.pair Qa (.ofV rfl) (.ofV hk))⟩
inductive YA(P:Vg)(w:Vb)(cs ob:Nat->Vh)(vs:List V)(H:Hp)(Q:VK)(E:XK):Prop
 | mk:∀ p d1 d2 st c n,vs=[.ref p,.int n]->QG P w ob H p d1 d2 st c->((∃ x∈st,x.1=n)->∀ H',QS [p,d1,d2] H H'->QG P w ob H' p d1 d2 (st.filter λx=>decide (x.1≠n)) c->Q .non H')->((∀ x∈st,x.1≠n)->∀ d,H d=Vo->E (.ref (cs 0)) (some d) (upd H d (xD d [("number",.int n)])))->YA P w cs ob vs H Q E
seal PE PT PW PA PS PSs PI PG QY PGs PO in
theorem Y3a(Z:Zs mg)(T:Tx K mg CT cs ob)(QM:MeV P w K mg base 3 (ob 3) "told_at" (Ze P w cs ob))(F:Fun K "drop" "Pages.drop" Xe f fd):QB P w K mg base (CX1 P w) 4 f fd ["self","number"] (YA P w cs ob):=by
 refine F.ok1 QCa (λvs H Q E h=>?_) (λam A outer s H vs Q E hr h=>?_)
 ·walk_at "n"
 obtain⟨p,d1,d2,st,c,n,rfl,hS,q1,q2⟩:=h;refine⟨_,(Qb (Qj 2 QCa.nd (PE1.pe (ZT (k:=3) (pv 0) hr rfl (Qg (pv 1) Qd)) Qfa))
  (Qb (QT (Qnc (Q2 (pv 0) rfl) (pv 1) ⟨rfl,rfl,rfl,rfl⟩))
  (Qe (QT (JOc hr.u9 (Q2 (pv 0) rfl) (pv 2) ⟨rfl,rfl,rfl,rfl⟩))))),?_⟩
 refine Qn (σ:=[some (.ref p),some (.int n),Vo]) rfl ?_
 walk_at "rd";obtain⟨dx,ho⟩:=hS.obj;have cc:=T.ob_ 3 #[1]
 refine JF rfl ho rfl cc.cl (QM.mono #[1]) ⟨p,d1,d2,st,c,n,rfl,hS,λd t hm=>?_,λhx d hd=>q2 hx d hd⟩
 obtain⟨l,k,r0,es0,ed,hk,le⟩:=hS.sh _ hm;have t2:=hS.td _ hm;dsimp only at ed t2;show YXb K (JC 0) (LD "told_by_number") _ _ _;refine Q7 cc #[1] rfl ho rfl ⟨d1,rfl,.inl ⟨_,.inl hS.num⟩,_,hS.num,.inl n,rfl,.ref t,hS.get hm,?_⟩
 have hW:QS [p,d1,d2] H (upd H d1 (.dK (J3 (st.map QEa) (.inl n)))):=(QS.refl _ _).upd #[2]
 have aY:=Z9 hS hW;have qy:XM P w K (upd H d1 (.dK (J3 (st.map QEa) (.inl n)))) d2 (st.map YO):=⟨by rw[Qf (VR hS.d12)];exact hS.tol,λx hx=>by
  obtain⟨y,hy,rfl⟩:=mem_map.mp hx;exact⟨(TD.sameT aY 8 (hS.td y hy)).rep,(hS.td y hy).h⟩⟩
 obtain⟨j,hj⟩:=mem_iff_getElem?.mp hm;refine Q7 cc #[1] rfl (by rw[Qf hS.pd1];exact ho) rfl ⟨d2,rfl,_,qy,t,rfl,_,qy,d,(TD.sameT aY 8 t2).rep,t2.h,j,t,.int n,by rw[Oj,hj];rfl,?_⟩
 have cK:=hW.upd (a:=d2) (o:=dN P w d2 ((st.map YO).eraseIdx j)) #[2]
 have cS:=Z9 hS cK;have mf:∀ {x},x∈st.filter (λx=>decide (x.1≠n))->x∈st:=λh=>(mem_filter.mp h).1
 refine q1 ⟨_,hm,rfl⟩ _ cK ⟨⟨dx,by rw[Qf hS.pd2,Qf hS.pd1];exact ho⟩,?_,?_,λx hx=>TD.sameT cS 8 (hS.td x (mf hx)),λx hx=>hS.sh x (mf hx),λx hx=>hS.lt x (mf hx),?_,?_,VI (OR _ _) hS.few⟩
 ·rw[Qf hS.d12,Qa,Jnb]
  have:(λy:Int×Dt×Vh=>decide ((QEa y).1≠(Vc n:Key)))=λy=>decide (y.1≠n):=by
   funext y
   exact decide_eq_decide.mpr ⟨λh e=>h (by show Vc _=_;rw[e]),λh e=>h (by injection e)⟩
  rw[this]
 ·rw[Qa,L2.YJ,Zia (λy:Int×Dt×Vh=>y.1) hS.nn hj]
 ·exact(filter_sublist.map _).nodup hS.nn
 ·exact(filter_sublist.map _).nodup hS.nd
inductive Yb(aR:VC)(vs:List V)(H:Hp)(Q:VK)(E:XK):Prop
 | mk:∀ v,vs=[v]->QU v->(∀ p,H p=Vo->Q (.ref p) (upd H p (.tup (rk v))))->Yb aR vs H Q E
seal PE PT PW PA PS PSs PI PG QY PGs PO in
theorem JMb(Z:Zs mg)(T:Tx K mg CT cs ob)(F:Fun K "rank_of" "rank_of" ZVa f fd):QB P w K mg base CX0 1 f fd ["value"] (Yb K):=by
 refine F.ok JFb (λvs H Q E h=>?_) (λam A outer s H vs Q E hr h=>?_)
 ·walk_at "n"
 obtain⟨v,rfl,hv,q⟩:=h;refine⟨_,(Qb (QN (Qu ZFa (pv 0) ZG (Qz _)) (Qe (Qp (Zd (Qg Qc (Qg Qc Qd))))) Qs)
  (Qb (QN (Zr (QR ZS rfl (Z.isinstance) Zo (Qg (pv 0) (Qg (Qca rfl (Z.str) XZa (v:=.ty "str") rfl) Qd))) (λ_=>rfl)) (Qe (Qp (Zd (Qg Qc (Qg (pv 0) Qd))))) Qs)
  (Qe (Qp (Zd (Qg Qc (Qg (pv 0) Qd))))))),?_⟩
 refine Qn (σ:=[some v]) rfl ?_
 walk_at "rd";cases v with
 | non=>walk_at "rd";exact⟨by decide,q⟩
 | int n =>
  walk_at "rd";refine Yo (.int n) XZ ⟨_,rfl,?_⟩
  walk_at "rd";exact⟨by show 2<=Vr;decide,q⟩
 | str z =>
  walk_at "rd";refine Yo (.str z) X2 ⟨_,rfl,?_⟩
  walk_at "rd";exact⟨by show 2<=Vr;decide,q⟩
 | _=>exact hv.elim
inductive Qja(aR:VC)(vs:List V)(H:Hp)(Q:VK)(E:XK):Prop
 | mk:∀ a b,vs=[a,b]->QU a->QU b->(∀ H',Ql H H'->Q (.bl (ltV a b)) H')->Qja aR vs H Q E
seal PE PT PW PA PS PSs PI PG QY PGs PO in
theorem XGb(Z:Zs mg)(T:Tx K mg CT cs ob)(kO:Cal P w K mg base 1 "rank_of" ["value"] (Yb K))(F:Fun K "before" "before" Yla f fd):QB P w K mg base CX0 2 f fd ["one","other"] (Qja K):=by
 refine F.ok XDb (λvs H Q E h=>?_) (λam A outer s H vs Q E hr h=>?_)
 ·walk_at "n"
 obtain⟨a,b,rfl,ha,hb,q⟩:=h;refine⟨_,(Qe (Qp (Qda (Xbc (hr.units0)) (Qm kO hr (Qg (pv 0) Qd)) (Qm kO hr (Qg (pv 1) Qd)) (Qz _)))),?_⟩
 refine Qn (σ:=[some a,some b]) rfl ?_
 walk_at "rd";refine⟨a,rfl,ha,λp hp=>?_⟩
 walk_at "rd";refine⟨b,rfl,hb,λp2 bD=>?_⟩
 walk_at "rd";exact⟨rk a,SqT.of (by rw[Qf (Qr Qa bD)];exact Qa),rk b,SqT.of Qa,ltV a b,QIc ha hb,q _ ((Qh hp _).trans (Qh bD _))⟩
def Qsb(d:Dt):Prop:=∃ k r,d=.t (.v k::r)/\Zl k
theorem XIa{k:V}(h:Zl k):hV k=true:=by
 cases k with
 | int n=>rfl
 | str z=>rfl
 | _=>exact h.elim
theorem Xk{k:V}(h:Zl k):Pl.QU k:=by
 cases k with
 | int n=>exact h
 | str z=>exact h
 | _=>exact h.elim
theorem QCd(k:V):ZP k<=6:=M11.ZIc 6 _
theorem Qla{d:Vh}{o:HO}(s:Ql H H')(n:H d=Vo):Ql H (upd H' d o):=λb u hb=>by
 rw[Qf (Qr hb n)];exact s b u hb
structure JX(H:Hp)(p:Vh)(ps:List Vh)(af:List (List V)):Prop where
 at_:H p=some (.lst (ps.map V.ref))
 len:ps.length=af.length
 part:∀ (i:Nat) q l,ps[i]?=some q->af[i]?=some l->H q=some (.lst l)
 nd:(p::ps).Nodup
section
variable{H:Hp}{p:Vh}{ps:List Vh}{af:List (List V)}
theorem JX.more{q:Vh}{l:List V}(pa:JX H p ps af)(hq:H q=Vo):JX (upd (upd H q (.lst l)) p (.lst ((ps++[q]).map V.ref))) p (ps++[q]) (af++[l]):=by
 have qp:q≠p:=λz=>by rw[z,pa.at_]at hq;cases hq
 have qz:q∉ps:=λz=>by
  obtain⟨i,hi,e⟩:=mem_iff_getElem.mp z;have:=pa.part i q (af[i]'(by rw[<- pa.len];exact hi)) (by rw[Lq hi,e]) (Lq _)
  rw[hq]at this;cases this
 have qA:p∉ps:=(nodup_cons.mp pa.nd).1;refine⟨Qa,by simp[pa.len],λi r m e1 e2=>?_,?_⟩
 ·have rp:r≠p:=λz=>by
   have hm:=Om e1;rw[z]at hm
   rcases mem_append.mp hm with w | w
   ·exact qA w
   ·exact qp (by simpa using w:p=q).symm
  rw[Qf rp]
  by_cases hl:i < ps.length
  ·rw[Oi hl]at e1
   rw[Oi (by rw[<- pa.len];exact hl)]at e2
   have rq:r≠q:=λz=>qz (by rw[<- z];exact Om e1)
   rw[Qf rq];exact pa.part i r m e1 e2
  ·rw[Oh #[0]]at e1
   rw[Oh (by rw[<- pa.len];lia),<- pa.len]at e2
   have h0:i - ps.length=0:=by
    cases w:i - ps.length with
    | zero=>rfl
    | succ m=>rw[w]at e1;simp at e1
   rw[h0]at e1 e2;simp at e1 e2;subst e1 e2;exact Qa
 ·have:=pa.nd
  simp only[Ds,Ci,LK,Dg]at this ⊢;refine⟨λz=>z.elim qA λz=>qp z.symm,this.2,by simp,λa ha b hb=>?_⟩
  intro z;subst hb;subst z;exact qz ha
theorem JX.on{ini:List Vh}{q:Vh}{li:List (List V)}{last new:List V}(pa:JX H p (ini++[q]) (li++[last])):JX (upd H q (.lst new)) p (ini++[q]) (li++[new]):=by
 have nd:=pa.nd;have qp:p≠q:=λz=>(nodup_cons.mp nd).1 (by rw[z];simp)
 have nq:q∉ini:=λz=>by
  have:=(nodup_cons.mp nd).2;rw[Ci]at this;exact this.2.2 q z q #[2] rfl
 have len:ini.length=li.length:=by have:=pa.len;simp at this;exact this
 refine⟨by rw[Qf qp];exact pa.at_,by simp[len],λi r m e1 e2=>?_,nd⟩
 by_cases hl:i < ini.length
 ·rw[Oi hl]at e1
  rw[Oi #[0]]at e2
  have rq:r≠q:=λz=>nq (by rw[<- z];exact Om e1)
  rw[Qf rq];exact pa.part i r m (by rw[Oi hl];exact e1) (by rw[Oi #[0]];exact e2)
 ·rw[Oh #[0]]at e1
  rw[Oh #[0],<- len]at e2
  have h0:i - ini.length=0:=by
   cases w:i - ini.length with
   | zero=>rfl
   | succ m=>rw[w]at e1;simp at e1
  rw[h0]at e1 e2;simp at e1 e2;subst e1 e2;exact Qa
end
abbrev PP(H:Hp):List (List Dt)->List (List V)->Prop:=Vm λds vs=>Vm (λd v=>TD H 6 d v) ds vs
theorem Zsa{α β:Type}{F:α->β->Prop}:∀ {xs:List α} {us:List β} {u:β},Vm F xs (us++[u])->∃ ys y,xs=ys++[y]/\Vm F ys us/\F y u
 | [],us,u,h=>by have:=Vn h;simp at this
 | x::xs,[],u,h=>by
  cases h with
  | cons r t=>cases t;exact⟨[],x,rfl,.nil,r⟩
 | x::xs,v::us,u,h=>by
  cases h with
  | cons r t =>
   obtain⟨ys,y,rfl,t',f⟩:=Zsa t;exact⟨x::ys,y,rfl,.cons r t',f⟩
structure JI(H H':Hp)(l:Int)(es:List Dt)(i:Nat)(p:Vh)(ps:List Vh)(af:List (List V)):Prop where
 same:Ql H H'
 fresh:∀ q∈p::ps,H q=Vo
 pa:JX H' p ps af
 pp:PP H (ZI ZP l (es.take i)) af
 lp:af.length<=i
 lq:∀ part∈af,part.length<=i
section
variable{H H':Hp}{l:Int}{es rr:List Dt}{i:Nat}{p p1 q1 e:Vh}{ps ini:List Vh}{af li:List (List V)}{last:List V}{k:V}
theorem JI.start(hp:H p=Vo):JI H (upd H p (.lst [])) l es 0 p [] [] where
 same:=Qh hp _
 fresh:=λr hr=>by
  have:r=p:=by simpa using hr
  rw[this];exact hp
 pa:=⟨Qa,rfl,λi r m e=>by simp at e,by simp⟩
 pp:=.nil
 lp:=Ux _
 lq:=λx hx=>nomatch hx
theorem ZOc(hd:es[i]?=some (.t (.v k::rr))):ZI ZP l (es.take (i+1))=Tr.step ZP l (ZI ZP l (es.take i)) (.t (.v k::rr)):=by rw[Dy,hd];exact Xza _ _
theorem JI.at1(c:JI H H' l es i p ps af)(aZ:H' p1=Vo):upd (upd H' p1 (.lst [])) p (.lst (ps.map V.ref++[V.ref p1])) p1=some (.lst []):=by
 have nJ:p1≠p:=λz=>by rw[z,c.pa.at_]at aZ;cases aZ
 rw[Qf nJ];exact Qa
theorem JI.atp(c:JI H H' l es i p ps af)(aZ:H' p1=Vo):upd H' p1 (.lst []) p=some (.lst (ps.map V.ref)):=by
 have nJ:p1≠p:=λz=>by rw[z,c.pa.at_]at aZ;cases aZ
 rw[Qf (VR nJ)];exact c.pa.at_
theorem JI.more(c:JI H H' l es i p ps af)(hd:es[i]?=some (.t (.v k::rr)))(tx:TD H 6 (.t (.v k::rr)) (.ref e))(aZ:H' p1=Vo)(hc:ZI ZP l (es.take i)=[]\/l < (ZP k:Int)) :
 JI H (upd (upd (upd H' p1 (.lst [])) p (.lst (ps.map V.ref++[V.ref p1]))) p1 (.lst ([]++[V.ref e]))) l es (i+1) p (ps++[p1]) (af++[[.ref e]]):=by
 have np:=c.fresh p VM;have nK:H p1=Vo:=by
  cases e:H p1 with
  | none=>rfl
  | some o=>rw[c.same _ _ e]at aZ;cases aZ
 have em:ps.map V.ref++[V.ref p1]=(ps++[p1]).map V.ref:=by simp
 refine⟨Qla (Qla (Qla c.same nK) np) nK,λr hr=>?_,?_,?_,?_,?_⟩
 ·rcases mem_cons.mp hr with z | z
  ·rw[z];exact np
  ·rcases mem_append.mp z with z | z
   ·exact c.fresh r (VN _ z)
   ·have:r=p1:=by simpa using z
    rw[this];exact nK
 ·rw[em];exact(c.pa.more (l:=[]) aZ).on (new:=[]++[.ref e])
 ·rw[ZOc hd]
  unfold Tr.step;rw[if_pos (show _\/l < (ZP (Q6 (Dt.t (Dt.v k::rr))):Int) from hc)]
  exact OP c.pp (.cons tx .nil)
 ·have:=c.lp;simp;lia
 ·intro part hp
  rcases mem_append.mp hp with z | z
  ·have:=c.lq part z;lia
  ·rw[mem_singleton.mp z];simp
theorem JI.on(c:JI H H' l es i p (ini++[q1]) (li++[last]))(hd:es[i]?=some (.t (.v k::rr)))(tx:TD H 6 (.t (.v k::rr)) (.ref e))(hc:¬ l < (ZP k:Int)) :
 JI H (upd H' q1 (.lst (last++[.ref e]))) l es (i+1) p (ini++[q1]) (li++[last++[.ref e]]):=by
 obtain⟨iniD,lastD,ec,vv,vw⟩:=Zsa c.pp;refine⟨Qla c.same (c.fresh q1 #[2]),c.fresh,c.pa.on,?_,?_,?_⟩
 ·rw[ZOc hd,ec]
  unfold Tr.step;rw[if_neg (λz=>z.elim (λz=>by simp at z) λz=>hc z)]
  simp only[dropLast_concat,getLast?_append,getLast?_singleton,Option.some_or,Option.getD_some]
  exact OP vv (OP vw tx)
 ·have:=c.lp;simp at this ⊢;lia
 ·intro part hp
  rcases mem_append.mp hp with z | z
  ·have:=c.lq part (VS _ z);lia
  ·rw[mem_singleton.mp z]
   have:=c.lq last #[2]
   simp;lia
theorem JI.end_(c:JI H H' l es i p ps af)(h:ps≠[]):∃ ini q1 li last,ps=ini++[q1]/\af=li++[last]/\H' q1=some (.lst last)/\last.length<=i:=by
 obtain⟨ini,q1,rfl⟩:=Zja h;obtain⟨li,last,rfl⟩:=Zja (xs:=af) (λz=>by have:=c.pa.len;rw[z]at this;simp at this)
 have len:ini.length=li.length:=by have:=c.pa.len;simp at this;exact this
 exact⟨ini,q1,li,last,rfl,rfl,c.pa.part ini.length q1 last #[2] (by rw[len];simp),c.lq last #[2]⟩
theorem JI.none_(c:JI H H' l es i p ps af)(h:ps=[]):ZI ZP l (es.take i)=[]:=eq_nil_of_length_eq_zero (by rw[Vn c.pp,<- c.pa.len,h];rfl)
end
inductive JNb(K:VC)(vs:List V)(H:Hp)(Q:VK)(E:XK):Prop
 | mk:∀ (a:Vh) (b:Bool) (l:Int) (xs:List V) (es:List Dt),vs=[.ref a,.int l]->SqE b K H a xs->xs.length<=900->Vm (λd v=>TD H 6 d v) es xs->(∀ d∈es,Qsb d)->(∀ p ps af H',Ql H H'->(∀ q∈p::ps,H q=Vo)->JX H' p ps af->PP H (ZI ZP l es) af->Q (.ref p) H')->JNb K vs H Q E
seal PE PT PW PA PS PSs PI PG QY PGs PO in
theorem XTc(Z:Zs mg)(T:Tx K mg CT cs ob)(vx:Cal P w K mg base 3 "level_of" ["key"] (XY K))(F:Fun K "cut" "cut" ZHc f fd):QB P w K mg base CX0 4 f fd ["entries","level"] (JNb K):=by
 refine F.ok JHb (λvs H Q E h=>?_) (λam A outer s H vs Q E hr h=>?_)
 ·walk_at "n"
 obtain⟨a,b,l,xs,es,rfl,hS,h900,re,bo,q⟩:=h;refine⟨_,(Qb (Qj 2 JHb.nd (ZH Qd))
  (Qb (ZO Cm rfl (Xwc (pv 0)) (Zc (i:=3) JHb.nd rfl (OJ rfl)) (Qb (QN (PW.pt (Z8a (ZN (Q2a (pv 2) (λ_=>rfl))) (XA (Qu Xfa (Qm vx hr (Qg (QO QP (pv 3) Qc (λ_ _=>rfl)) Qd)) (pv 1) (Qz _))))) (Qe (QT (XC Cn Co Cp Zn (pv 2) (Qg (ZH Qd) Qd)))) Qs)
  (Qe (QT (XC Cn Co Cp Zn (QO Js (pv 2) (J0b XTa Qc) (λ_ _=>rfl)) (Qg (pv 3) Qd))))))
  (Qe (Qp (pv 2))))),?_⟩
 refine Qn (σ:=[some (.ref a),some (.int l),Vo,Vo]) rfl ?_
 walk_at "rd";refine⟨by decide,λp hp=>?_⟩
 refine⟨b,⟨_,hS.same (Qh hp _)⟩,?_⟩
 have le:=Vn re;refine JJc xs (λi σ' H'=>∃ (ps:List Vh) (af:List (List V)) (x3:Option V),σ'=[some (.ref a),some (.int l),some (.ref p),x3]/\JI H H' l es i p ps af) ⟨[],[],_,rfl,.start hp⟩ ?_ ?_ ?_
 ·rintro i σ' H' _ ⟨_,_,_,_,c⟩
  exact hS.same c.same
 ·rintro i x σ' H' hx ⟨ps,af,x3,rfl,c⟩
  have hi:=(List.getElem?_eq_some_iff.mp hx).1
  have hd:es[i]?=some (es[i]'#[0]):=Lq _
  have tx:=Qv re hd hx;obtain⟨k,rr,ed,hk⟩:=bo _ (Om hd);generalize es[i]'#[0]=d at hd tx ed
  subst ed;obtain⟨m,e,ws,_,rfl,he,jk⟩:=id tx.tup;have lp:=c.lp;walk_at "rd";refine⟨_,.inl ⟨_,SqL.of c.pa.at_,rfl⟩,Jo (λh=>?_) λh=>?_⟩
  ·have vy:ps=[]:=by simpa using h
   refine⟨.inl ⟨rfl,_,SqL.of c.pa.at_⟩,by decide,λp1 aZ=>?_⟩
   exact⟨_,c.atp aZ,Qw (by rw[UO,c.pa.len];lia),_,SqL.of Qa,.ref p1,Q6a _ _,.inl ⟨rfl,_,SqL.of (c.at1 aZ)⟩,p1,rfl,[],c.at1 aZ,by decide,_,_,c.more hd tx aZ (.inl (c.none_ vy))⟩
  ·have ay:ps≠[]:=λz=>h (by rw[z];rfl)
   cases jk with
   | @cons _ k' _ qB r1 aU =>
   obtain⟨_,rfl⟩:=r1.flat;refine⟨_,SqT.of (c.same _ _ he),_,at0 _ _,_,rfl,hk,_,rfl,Jo (λh2=>?_) λh2=>?_⟩
   ·refine⟨.inl ⟨rfl,_,SqL.of c.pa.at_⟩,by decide,λp1 aZ=>?_⟩
    exact⟨_,c.atp aZ,Qw (by rw[UO,c.pa.len];lia),_,SqL.of Qa,.ref p1,Q6a _ _,.inl ⟨rfl,_,SqL.of (c.at1 aZ)⟩,p1,rfl,[],c.at1 aZ,by decide,_,_,c.more hd tx aZ (.inr h2)⟩
   ·obtain⟨ini,q1,li,last,rfl,rfl,eQ,ll⟩:=c.end_ ay
    exact⟨_,SqL.of c.pa.at_,.ref q1,by rw[Dd];exact Q6a _ _,.inl ⟨rfl,_,SqL.of eQ⟩,q1,rfl,last,eQ,Qw #[0],_,_,c.on hd tx h2⟩
 ·rintro σ' H' ⟨ps,af,x3,rfl,c⟩
  walk_at "rd";have co:=c.pp;rw[IL #[0]]at co
  exact q p ps af H' c.same c.fresh c.pa co
def Qy(st:StL):List (Int×Dt):=st.map λx=>(x.1,x.2.1)
theorem QG.fn{p:Vh}(h:QG P w ob H p d1 d2 st c):Fn (Qy st) where
 num:=λn d d' h1 h2=>by
  obtain⟨⟨a,b,t⟩,m1,e1⟩:=mem_map.mp h1;obtain⟨⟨a',b',t'⟩,m2,e2⟩:=mem_map.mp h2;injection e1 with x1 y1
  injection e2 with x2 y2
  dsimp only at x1 y1 x2 y2;subst x1 y1 x2 y2;exact(h.fun_ m1 m2).1
 dat:=λn n' d h1 h2=>by
  obtain⟨⟨a,b,t⟩,m1,e1⟩:=mem_map.mp h1;obtain⟨⟨a',b',t'⟩,m2,e2⟩:=mem_map.mp h2;injection e1 with x1 y1
  injection e2 with x2 y2
  dsimp only at x1 y1 x2 y2;subst x1 y1 x2 y2;have q1:=h.getN m1;have q2:=h.getN m2;dsimp only at q1 q2;rw[q1]at q2;injection q2 with q2
  injection q2
def HdD(d:Dt):Prop:=∃ k n,d=Jq k n/\Zl k
theorem HdD.ent(h:HdD d):Qsb d:=by
 obtain⟨k,n,rfl,hk⟩:=h;exact⟨k,_,rfl,hk⟩
section
variable{P:Vg}{w:Vb}{ob:Nat->Vh}{H H':Hp}{p d1 d2 a:Vh}{st:StL}{c l:Int}{es:List Dt}{Q:VK}{E:XK}
theorem Ycc(hS:QG P w ob H p d1 d2 st c)(hP:PgD ob H a l es)(iD:XSc (Zz l es))(few:st.length < 16000000)
 (q:∀ n H3 aY c3,QS [p,d1,d2] H H3->QG P w ob H3 p d1 d2 aY c3->(n,Zz l es)∈Qy aY->(∀ x∈Qy st,x∈Qy aY)->aY.length<=st.length+1->Q (.int n) H3):Jw P w ob [.ref p,.ref a] H Q E :=
 ⟨p,d1,d2,st,c,a,l,es,rfl,hS,hP,iD,few,λn t hm H' s=>q n H' st c (s.x _) (hS.same s) (mem_map.mpr ⟨_,hm,rfl⟩) (λx h=>h) #[0],
  λ_ t H' s aS=>q c H' _ _ s aS (mem_map.mpr ⟨_,Uw _ (mem_singleton.mpr rfl),rfl⟩) (λx hx=>by
   obtain⟨y,hy,ey⟩:=mem_map.mp hx;exact mem_map.mpr ⟨y,VS _ hy,ey⟩) (by rw[On];exact Ut _)⟩
end
structure ZAb(P:Vg)(w:Vb)(ob:Nat->Vh)(H1 H':Hp)(p d1 d2 hh:Vh)(st:StL)(l:Int)(af:List (List Dt))(i:Nat)(ag:StL)(c':Int)(hs:List Dt)(ys:List V):Prop where
 sx:QS [p,d1,d2,hh] H1 H'
 tt:Zb H1 H'
 at_:H' hh=some (.lst ys)
 tys:Vm (λd v=>TD H' 6 d v) hs ys
 ehs:∀ d∈hs,HdD d
 hds:Zi (Qy ag) l (af.take i) hs
 stA:QG P w ob H' p d1 d2 ag c'
 sub:∀ x∈Qy st,x∈Qy ag
 len:ag.length<=st.length+i
section
variable{P:Vg}{w:Vb}{ob:Nat->Vh}{H1 H' H2 H3:Hp}{p d1 d2 hh u:Vh}{st ag aY:StL}{l c' c3 n:Int}{af:List (List Dt)}{i:Nat}{hs rr rest:List Dt}{ys:List V}{k:V}
theorem ZAb.nhh(h:ZAb P w ob H1 H' p d1 d2 hh st l af i ag c' hs ys):hh∉[p,d1,d2]:=λz=>by
 obtain⟨dx,ho⟩:=h.stA.obj;simp only[Dh,D0,or_false]at z
 rcases z with z | z | z
 ·exact JP h.at_ ho (by intro z;cases z) z
 ·exact JP h.at_ h.stA.num (by intro z;cases z) z
 ·exact JP h.at_ h.stA.tol (by intro z;cases z) z
theorem ZAb.next(h:ZAb P w ob H1 H' p d1 d2 hh st l af i ag c' hs ys)(cG:af[i]?=some (.t (.v k::rr)::rest))(hk:Zl k)(s2:Ql H' H2)(s3:QS [p,d1,d2] H2 H3)(bq:QG P w ob H3 p d1 d2 aY c3)
 (hm:(n,Zz l (.t (.v k::rr)::rest))∈Qy aY) (bZ:∀ x∈Qy ag,x∈Qy aY) (l3:aY.length<=ag.length+1) (hu:H3 u=Vo) :
 upd H3 u (.tup [k,.int n]) hh=some (.lst ys)/\ZAb P w ob H1 (upd (upd H3 u (.tup [k,.int n])) hh (.lst (ys++[.ref u]))) p d1 d2 hh st l af (i+1) aY c3 (hs++[Jq k n]) (ys++[.ref u]):=by
 have aW:=h.stA.same s2;have jl:=s3 _ _ h.nhh (s2 _ _ h.at_);have kP:upd H3 u (.tup [k,.int n]) hh=some (.lst ys):=Qh hu _ _ _ jl;have uh:u≠hh:=λz=>by rw[z,jl]at hu;cases hu
 have qC:Zb H3 (upd (upd H3 u (.tup [k,.int n])) hh (.lst (ys++[.ref u]))):=(Qh hu _).t.trans (J0 kP);have qD:=(Z9 aW s3).trans qC;have len:=h.len;refine⟨kP,h.sx.trans ((s2.x _).trans ((s3.mono #[2]).trans (((Qh hu _).x _).upd #[2]))),h.tt.trans (s2.t.trans qD),Qa,OP (TDs.sameT h.tys (s2.t.trans qD)) (TD.pair (by rw[Qf uh];exact Qa) (.ofV (XIa hk)) (.ofV rfl)),λd hd=>?_,?_,?_,λx hx=>bZ x (h.sub x hx),by lia⟩
 ·rcases mem_append.mp hd with z | z
  ·exact h.ehs d z
  ·rw[mem_singleton.mp z];exact⟨k,_,rfl,hk⟩
 ·rw[Dy,cG]
  exact(h.hds.mono bZ).snoc hm
 ·obtain⟨dx3,kM⟩:=bq.obj
  exact bq.keep qC (by rw[Qf (JP kM jl (by intro z;cases z)),Qf (Qr kM hu)]) (by rw[Qf (JP bq.num jl (by intro z;cases z)),Qf (Qr bq.num hu)]) (by rw[Qf (JP bq.tol jl (by intro z;cases z)),Qf (Qr bq.tol hu)])
theorem ZAb.few(h:ZAb P w ob H1 H' p d1 d2 hh st l af i ag c' hs ys):ys.length<=i:=by
 have h1:=Vn h.tys;have h2:=h.hds.length;rw[Of]at h2
 lia
end
theorem Z3a:(ZI lv l es).length<=es.length:=by
 have h1:∀ (ls:List (List Dt)),(∀ x∈ls,x≠[])->ls.length<=ls.flatten.length:=by
  intro ls
  induction ls with
  | nil=>intro _;exact Ut _
  | cons y ys ih =>
   intro h;have:=ih λx hx=>h x (VN _ hx)
   have:0 < y.length:=length_pos_iff.mpr (h y VM);simp only[UG,flatten_cons,On];lia
 have c:=JS (lv:=lv) l es;have:=h1 _ c.full;rw[c.flat]at this;exact this
theorem Ydc{ps:List Vh}{af:List (List V)}{H0:Hp}(pa:JX H1 a ps af)(pp:PP H0 (ZI ZP l es) af)(bo:∀ d∈es,Qsb d){i:Nat}{qa:Vh}(hX:ps[i]?=some qa) :
 ∃ k rr rest part,(ZI ZP l es)[i]?=some (.t (.v k::rr)::rest)/\Zl k/\H1 qa=some (.lst part)/\Vm (λd v=>TD H0 6 d v) (.t (.v k::rr)::rest) part/\part.length<=es.length/\rest.length < es.length:=by
 have hi:=(List.getElem?_eq_some_iff.mp hX).1
 have li:i < af.length:=by rw[<- pa.len];exact hi
 have qE:=Vn pp;have nL:=JS (lv:=ZP) l es;have qF:af[i]?=some af[i]:=Lq li
 have cG:(ZI ZP l es)[i]?=some ((ZI ZP l es)[i]'#[0]):=Lq _
 have tp:=Qv pp cG qF;have full:=nL.full _ (Om cG);have mem:∀ d∈(ZI ZP l es)[i]'#[0],d∈es:=λd hd=>by rw[<- nL.flat];exact mem_flatten.mpr ⟨_,Om cG,hd⟩
 have h1:=(sublist_flatten_of_mem (Om cG)).length_le;rw[nL.flat]at h1;generalize (ZI ZP l es)[i]'#[0]=partD at cG tp full mem h1
 match partD,full,cG,tp,mem,h1 with
 | d0::rest,_,cG,tp,mem,h1 =>
  obtain⟨k,rr,ed,hk⟩:=bo d0 (mem d0 VM);subst ed;have h2:=Vn tp;exact⟨k,rr,rest,_,cG,hk,pa.part i qa _ hX qF,tp,by lia,by simp at h1;lia⟩
inductive Yk(P:Vg)(w:Vb)(ob:Nat->Vh)(vs:List V)(H:Hp)(Q:VK)(E:XK):Prop
 | mk:∀ p d1 d2 st c l e b xs es,vs=[.ref p,.int l,.ref e]->QG P w ob H p d1 d2 st c->HE b H e xs->Vm (λd v=>TD H 6 d v) es xs->(∀ d∈es,Qsb d)->xs.length<=900->st.length+xs.length<=16000000->(∀ r H' ag c' hs ys,QS [p,d1,d2] H H'->H r=Vo->H' r=some (.lst ys)->Vm (λd v=>TD H' 6 d v) hs ys->(∀ d∈hs,HdD d)->Zi (Qy ag) l (ZI ZP l es) hs->QG P w ob H' p d1 d2 ag c'->(∀ x∈Qy st,x∈Qy ag)->ag.length<=st.length+xs.length->Q (.ref r) H')->Yk P w ob vs H Q E
seal PE PT PW PA PS PSs PI PG QY PGs PO in
theorem ZBb(Z:Zs mg)(T:Tx K mg CT cs ob)(vz:Cal P w K mg base 4 "cut" ["entries","level"] (JNb K))(nI:Cal P w K mg base 4 "page_of" ["level","entries"] (Xj K ob))(qG:MeV P w K mg base 1 (ob 0) "first" (Zp K ob))(Xl:MeV P w K mg base 1 (ob 1) "first" (Zp K ob))(Xm:MeV P w K mg base 1 (ob 2) "first" (Zp K ob))(Xn:MeV P w K mg base 2 (ob 3) "kept" (Jw P w ob))(F:Fun K "heads_of" "heads_of" QSa f fd):QB P w K mg base CX0 5 f fd ["pages","level","entries"] (Yk P w ob):=by
 refine F.ok Yi (λvs H Q E h=>?_) (λam A outer s H vs Q E hr h=>?_)
 ·walk_at "n"
 obtain⟨p,d1,d2,st,c,l,e,b,xs,es,rfl,hS,he,re,bo,lx,few,q⟩:=h;refine⟨_,(Qb (Qj 3 Yi.nd (ZH Qd))
  (Qb (ZO Cm rfl (ZC (Qm vz hr (Qg (pv 2) (Qg (pv 1) Qd)))) (Zc (i:=4) Yi.nd rfl (OJ rfl)) (Qb (Qj 5 Yi.nd (Qm nI hr (Qg (pv 1) (Qg (pv 4) Qd))))
  (Qe (QT (XC Cn Co Cp Zn (pv 3) (Qg (Zd (Qg (PE1.pe (J1a (k:=4) (pv 5) hr rfl) JR) (Qg (PE1.pe (ZT (k:=4) (pv 0) hr rfl (Qg (pv 5) Qd)) JR) Qd))) Qd))))))
  (Qe (Qp (pv 3))))),?_⟩
 refine Qn (σ:=[some (.ref p),some (.int l),some (.ref e),Vo,Vo,Vo]) rfl ?_
 walk_at "rd";have cc:=T.ob_ 3 #[1]
 have lre:=Vn re;refine⟨by decide,λhh nM=>?_⟩
 have s0:=Qh nM (.lst []);have gK:upd H hh (.lst []) hh=some (.lst []):=Qa;generalize upd H hh (.lst [])=H0 at s0 gK ⊢;have vC:SqE b K H0 e xs:=by
  have qH:=s0 _ _ he;cases b with
  | true=>exact SqT.of qH
  | false=>exact SqL.of qH
 refine⟨e,b,l,xs,es,rfl,vC,lx,TDs.sameT re s0.t,bo,λa ps af H1 s1 fr pa pp=>⟨a,rfl,⟨_,SqL.of pa.at_⟩,?_⟩⟩
 have qI:=s0.trans s1;have bn:=hS.same qI;obtain⟨dx1,bN⟩:=bn.obj;have vD:=s1 _ _ gK;have qJ:∀ q∈a::ps,∀ o,H1 q=some (.lst o)->q∉[p,d1,d2,hh]:=λq hq o nN z=>by
  simp only[Dh,D0,or_false]at z
  rcases z with z | z | z | z
  ·exact JP nN bN (by intro z;cases z) z
  ·exact JP nN bn.num (by intro z;cases z) z
  ·exact JP nN bn.tol (by intro z;cases z) z
  ·exact Qr gK (fr q hq) z.symm
 have qE:=Vn pp;have lpl:(ZI ZP l es).length<=es.length:=Z3a;refine ZJ (ps.map V.ref) (λi σ' H'=>∃ ag c' hs ys x4 x5,σ'=[some (.ref p),some (.int l),some (.ref e),some (.ref hh),x4,x5]/\ZAb P w ob H1 H' p d1 d2 hh st l (ZI ZP l es) i ag c' hs ys)
  ⟨st,c,[],[],_,_,rfl,QS.refl _ _,Zb.refl _,vD,.nil,(λd h=>nomatch h),.nil,bn,(λx h=>h),by lia⟩ (λi σ' H' _ ⟨_,_,_,_,_,_,_,h⟩=>SqL.of (h.sx _ _ (qJ a VM _ pa.at_) pa.at_)) ?_ ?_
 ·rintro i x σ' H' hx ⟨ag,c',hs,ys,x4,x5,rfl,hd⟩
  rw[Oj]at hx
  obtain⟨qa,hX,rfl⟩:=Option.map_eq_some_iff.mp hx;have hi:=(List.getElem?_eq_some_iff.mp hX).1
  have ar:=hd.len;have iC:=hd.few;have aN:=pa.len;obtain⟨k,rr,rest,part,cG,hk,eQ,tp,lpart,lrest⟩:=Ydc pa pp bo hX;have vE:=hd.sx _ _ (qJ qa (VN _ (Om hX)) _ eQ) eQ;walk_at "rd";refine⟨l,qa,false,part,_,rfl,vE,TDs.sameT tp (s1.t.trans hd.tt),by lia,λpg H2 s2 qK gL=>?_⟩
  have aW:=hd.stA.same s2;obtain⟨dx2,cQ⟩:=aW.obj;obtain⟨tw,vr,t0,qx,ie,ht⟩:=id gL;have Mf:MeV P w K mg base 1 (ob (if tw=true then 2 else 1)) "first" (Zp K ob):=by cases tw with | true=>exact Xm | false=>exact Xl
  refine⟨.inl ⟨rfl,_,SqL.of (s2 _ _ hd.at_)⟩,?_⟩
  refine ZNa rfl ie (by cases tw <;> rfl) (T.ob_ _ XFb).cl (Mf.mono #[1]) ⟨pg,l,k,rr,rest,rfl,gL,?_⟩
  refine JF rfl cQ rfl cc.cl (Xn.mono #[1]) ?_
  simp only[Xga,ZTb,ZUb,Jea];refine Ycc aW gL ⟨l,k,rr,rest,rfl,XIa hk,by lia⟩ #[0] λn H3 aY c3 s3 bq hm bZ l3=>?_
  show _/\_;refine⟨Jp,λu hu=>?_⟩
  obtain⟨kP,cf⟩:=hd.next cG hk s2 s3 bq hm bZ l3 hu;exact⟨ys,kP,Qw #[0],aY,c3,_,_,_,_,⟨rfl,rfl⟩,cf⟩
 ·rintro σ' H' ⟨ag,c',hs,ys,x4,x5,rfl,hd⟩
  walk_at "rd";have hds:=hd.hds;have l':=hd.len;rw[UO,IL (by rw[qE,<- pa.len];exact Ut _)]at hds
  rw[UO,pa.len]at l';exact q hh H' ag c' hs ys (λb o nb hb=>hd.sx b o (λz=>by
   simp only[Dh,D0,or_false]at z nb
   rcases z with z | z | z | z
   ·exact nb (.inl z)
   ·exact nb (.inr (.inl z))
   ·exact nb (.inr (.inr z))
   ·rw[z,nM]at hb;cases hb) (qI _ _ hb)) nM hd.at_ hd.tys hd.ehs hds hd.stA hd.sub #[0]
inductive Ups(lv:V->Nat)(tbl:List (Int×Dt))(j0:Nat)(dM:List Dt):Nat->List Dt->Prop
 | refl:Ups lv tbl j0 dM j0 dM
 | snoc {j:Nat} {hs gI:List Dt} (u:Ups lv tbl j0 dM j hs) (h1:1 < hs.length) (h2:Zi tbl ((j+1:Nat):Int) (ZI lv ((j+1:Nat):Int) hs) gI):Ups lv tbl j0 dM (j+1) gI
theorem Ups.mono{aD:List (Int×Dt)}{j0 j:Nat}{dM hs:List Dt}(u:Ups lv tbl j0 dM j hs)(s:∀ x∈tbl,x∈aD):Ups lv aD j0 dM j hs:=by
 induction u with
 | refl=>exact .refl
 | snoc _ h1 h2 ih=>exact .snoc ih h1 (h2.mono s)
theorem Ups.part{ax dM:List Dt}(h0:Zi tbl 0 (ZI lv 0 ax) dM){j:Nat}{hs:List Dt}(u:Ups lv tbl 0 dM j hs):∃ L,ZSa lv tbl ax (j+1) L/\L (j+1)=hs:=by
 induction u with
 | refl=>exact⟨_,ZSa.start h0,rfl⟩
 | @snoc j hs gI u h1 h2 ih =>
  obtain⟨L,p,e⟩:=ih;subst e;exact⟨_,p.next (λx h=>h) #[0] h1 h2,by show(if j+1+1=j+1+1 then gI else _)=gI;rw[if_pos rfl]⟩
inductive QUa(P:Vg)(w:Vb)(ob:Nat->Vh)(vs:List V)(H:Hp)(Q:VK)(E:XK):Prop
 | mk:∀ p d1 d2 st c e hs ys,∀ j:Nat,vs=[.ref p,.int j,.ref e]->j<=6->QG P w ob H p d1 d2 st c->H e=some (.lst ys)->Vm (λd v=>TD H 6 d v) hs ys->(∀ d∈hs,HdD d)->ys.length<=900->st.length+7 * ys.length<=16000000->(∀ H' ag c' m above v,QS [p,d1,d2] H H'->QG P w ob H' p d1 d2 ag c'->(∀ x∈Qy st,x∈Qy ag)->ag.length<=st.length+7 * ys.length->Ups ZP (Qy ag) j hs m above->m<=7->((hs=[]/\v=.non)\/(hs≠[]/\∃ k n,above=[Jq k n]/\v=.int n))->Q v H')->QUa P w ob vs H Q E
seal PE PT PW PA PS PSs PI PG QY PGs PO in
theorem JPb(Z:Zs mg)(T:Tx K mg CT cs ob)(nO:Cal P w K mg base 5 "heads_of" ["pages","level","entries"] (Yk P w ob))(F:Fun K "crowned" "crowned" Z0a f fd):QB P w K mg base CX0 6 f fd ["pages","level","heads"] (QUa P w ob):=by
 refine F.ok J8 (λvs H Q E h=>?_) (λam A outer s H vs Q E hr h=>?_)
 ·walk_at "n"
 obtain⟨p,d1,d2,st,c,e,hs,ys,j,rfl,hj,hS,he,re,vF,ly,few,q⟩:=h;refine⟨_,(Qb (Qj 3 J8.nd (pv 1))
  (Qb (Qj 4 J8.nd (pv 2))
  (Qb (JBa Cm (Qu Xfa (QR QV rfl (Z.len) Yn (Qg (pv 4) Qd)) Qc (Qz _)) (Qb (Qj 3 J8.nd (Qk ZY (pv 3) Qc))
  (Qe (Qj 4 J8.nd (Qm nO hr (Qg (pv 0) (Qg (pv 3) (Qg (pv 4) Qd))))))))
  (Qe (Qp (QLb (Q2a (pv 4) (λ_=>rfl)) (QO QP (QO Js (pv 4) Qc (λ_ _=>rfl)) Qc (λ_ _=>rfl)) ZG)))))),?_⟩
 refine Qn (σ:=[some (.ref p),some (.int j),some (.ref e),Vo,Vo]) rfl ?_
 walk_at "rd";refine⟨λm σ' H'=>∃ (t:Nat) (ag:StL) (c':Int) (b:Vh) (above:List Dt) (zs:List V),σ'=[some (.ref p),some (.int j),some (.ref e),some (.int t),some (.ref b)]/\m=7 - t/\t<=7/\(t=7->above.length<=1)/\j<=t/\QS [p,d1,d2] H H'/\H' b=some (.lst zs)/\Vm (λd v=>TD H' 6 d v) above zs/\(∀ d∈above,HdD d)/\zs.length<=ys.length/\QG P w ob H' p d1 d2 ag c'/\(∀ x∈Qy st,x∈Qy ag)/\ag.length<=st.length+(t - j) * ys.length/\Ups ZP (Qy ag) j hs t above/\(hs=[]↔above=[]),
  ⟨_,j,st,c,e,hs,ys,rfl,rfl,by lia,λz=>by lia,Ut _,QS.refl _ _,he,re,vF,Ut _,hS,λx h=>h,by lia,.refl,Iff.rfl⟩,?_⟩
 rintro m σ' H' ⟨t,ag,c',b,above,zs,rfl,rfl,ht,h7,hjt,sx,hb,tz,hd,lz,aS,sub,l',jm,ig⟩;have qL:=Vn tz;have e1:((t+1:Nat):Int)=(t:Int)+1:=by lia
 walk_at "rd";refine⟨zs,.inl (SqL.of hb),Jo (λh1=>?_) λh1=>?_⟩
 ·have qM:t<=6:=by
   rcases DC t 7 with z | z
   ·lia
   ·have:=h7 #[0];lia
  have cT:(t - j) * ys.length<=6 * ys.length:=Cq _ #[0]
  refine⟨λσ2 H2=>∃ (t2:Nat) (ag:StL) (c':Int) (b:Vh) (above:List Dt) (zs:List V),t2=t+1/\σ2=[some (.ref p),some (.int j),some (.ref e),some (.int t2),some (.ref b)]/\t2<=7/\(t2=7->above.length<=1)/\j<=t2/\QS [p,d1,d2] H H2/\H2 b=some (.lst zs)/\Vm (λd v=>TD H2 6 d v) above zs/\(∀ d∈above,HdD d)/\zs.length<=ys.length/\QG P w ob H2 p d1 d2 ag c'/\(∀ x∈Qy st,x∈Qy ag)/\ag.length<=st.length+(t2 - j) * ys.length/\Ups ZP (Qy ag) j hs t2 above/\(hs=[]↔above=[]),
   λσ2 H2 hZ=>(by obtain⟨t2,a1,a2,a3,a4,a5,a6,a7,b1,b2,b3,b4,b5⟩:=hZ;exact⟨7 - t2,by lia,t2,a1,a2,a3,a7,rfl,b1,a4,b2,b3,b4,a5,b5⟩),?_⟩
  walk_at "rd";refine⟨p,d1,d2,ag,c',(t:Int)+1,b,false,zs,above,rfl,aS,hb,tz,λd h=>(hd d h).ent,by lia,by lia,λr H2 cm c2 cN vG ji hr kQ jn dG dz aW jo l2=>?_⟩
  have nP:=dz.length;have lt2:=Vn jn;have lc:=Z3a (lv:=ZP) (l:=(t:Int)+1) (es:=above);have nQ:above≠[]:=λz=>by rw[z]at qL;simp at qL;lia
  refine⟨cm,c2,r,⟨by lia,rfl⟩,by lia,cN,λz=>?_,by lia,sx.trans ji,vG,kQ,jn,dG,by lia,aW,λx hx=>jo x (sub x hx),?_,.snoc (jm.mono jo) #[0] (by rw[e1];exact dz),?_⟩
  ·obtain rfl:t=6:=by lia
   rw[nP,Zkb nQ (λd _=>by have:=QCd (Q6 d);lia)]
   exact Ut _
  ·have:t+1 - j=(t - j)+1:=by lia
   rw[this,Nat.succ_mul]
   lia
  ·constructor
   ·intro z;exact absurd (ig.mp z) nQ
   ·intro z
    rw[z]at nP;exact absurd (length_eq_zero_iff.mp nP.symm) (Jwa nQ)
 ·have cT:(t - j) * ys.length<=7 * ys.length:=Cq _ #[0]
  cases tz with
  | nil =>
   refine⟨false,.inl ⟨_,SqL.of hb,rfl⟩,?_⟩
   rw[if_neg #[1]]
   exact q H' ag c' t [] .non sx aS sub #[0] jm ht (.inl ⟨ig.mpr rfl,rfl⟩)
  | @cons d z _ _ tz tz2 =>
   cases tz2 with
   | nil =>
    obtain⟨k,n,rfl,hk⟩:=hd d VM;obtain⟨u,x1,x2,rfl,hu,u1,u2⟩:=TD.pair_of tz;obtain⟨_,rfl⟩:=u1.flat;obtain⟨_,rfl⟩:=u2.flat;refine⟨true,.inl ⟨_,SqL.of hb,rfl⟩,?_⟩
    rw[if_pos rfl];exact⟨_,SqL.of hb,.ref u,rfl,u,rfl,_,SqT.of hu,.int n,rfl,q H' ag c' t [Jq x1 n] (.int n) sx aS sub #[0] jm ht (.inr ⟨(λz=>by have:=ig.mp z;cases this),x1,n,rfl,rfl⟩)⟩
   | cons _ _=>simp at h1;lia
def JAa(ks:List V)(i:Nat)(k:V):Prop:=ks[i+1]?=some k/\(∀ j,j < i->∀ a b,ks[j]?=some a->ks[j+1]?=some b->Pl.ltV a b=true)/\∀ a,ks[i]?=some a->Pl.ltV a k=false
theorem Qtb{ks:List V}(up:ks.Pairwise λa b=>Pl.ltV a b=true){i:Nat}{k:V}(h:JAa ks i k):False:=by
 obtain⟨a1,b1⟩:=List.getElem?_eq_some_iff.mp h.1
 have:=pairwise_iff_getElem.mp up i (i+1) #[0] a1 #[0]
 rw[b1,h.2.2 _ (Lq (show i < ks.length by lia))]at this
 cases this
inductive YQ(P:Vg)(w:Vb)(cs ob:Nat->Vh)(vs:List V)(H:Hp)(Q:VK)(E:XK):Prop
 | mk:∀ p d1 d2 st c e xs es,vs=[.ref p,.ref e]->QG P w ob H p d1 d2 st c->H e=some (.lst xs)->Vm (λd v=>TD H 6 d v) es xs->(∀ d∈es,Qsb d)->xs.length<=900->st.length+8 * xs.length<=16000000->(((es.map Q6).Pairwise (λa b=>Pl.ltV a b=true)/\∀ H' ag c' v,QS [p,d1,d2] H H'->QG P w ob H' p d1 d2 ag c'->(∀ x∈Qy st,x∈Qy ag)->ag.length<=st.length+8 * xs.length->((es=[]/\v=.non)\/(es≠[]/\∃ top L k n,top<=6/\Qxa ZP (Qy ag) es top L/\L (top+1)=[Jq k n]/\v=.int n))->Q v H')\/∃ i k,JAa (es.map Q6) i k/\∀ H' d,Ql H H'->H' d=Vo->E (.ref (cs 1)) (some d) (upd H' d (xD d [("key",k)])))->YQ P w cs ob vs H Q E
seal PE PT PW PA PS PSs PI PG QY PGs PO in
theorem ZPc(Z:Zs mg)(T:Tx K mg CT cs ob)(vH:Cal P w K mg base 6 "crowned" ["pages","level","heads"] (QUa P w ob))(nO:Cal P w K mg base 5 "heads_of" ["pages","level","entries"] (Yk P w ob))(nR:Cal P w K mg base 2 "before" ["one","other"] (Qja K))(X3:MkX P w K mg base 1 "NotRising" (cs 1) CT ["key"])(F:Fun K "built" "built" Qnb f fd):QB P w K mg base (CX1 P w) 7 f fd ["pages","rows"] (YQ P w cs ob):=by
 refine F.ok1 Zvb (λvs H Q E h=>?_) (λam A outer s H vs Q E hr h=>?_)
 ·walk_at "n"
 obtain⟨p,d1,d2,st,c,e,xs,es,rfl,hS,he,re,bo,lx,few,hq⟩:=h;refine⟨_,(Qb (ZO QNd rfl (YSb rfl (Z.range) (Qg Qc (Qg (QR QV rfl (Z.len) Yn (Qg (pv 1) Qd)) Qd))) (Zc (i:=2) Zvb.nd rfl (OJ rfl)) (Qe (QN (ZN (Zr (Qm nR hr (Qg (QO QP (QO Js (pv 1) (Qk J2 (pv 2) Qc) (λ_ _=>rfl)) Qc (λ_ _=>rfl)) (Qg (QO QP (QO Js (pv 1) (pv 2) (λ_ _=>rfl)) Qc (λ_ _=>rfl)) Qd))) (λ_=>rfl))) (Qe (Xva Qfa rfl rfl rfl X3 (k:=6) hr #[1] (Qg (QO QP (QO Js (pv 1) (pv 2) (λ_ _=>rfl)) Qc (λ_ _=>rfl)) Qd))) Qs)))
  (Qe (Qp (Qm vH hr (Qg (pv 0) (Qg Qc (Qg (Qm nO hr (Qg (pv 0) (Qg Qc (Qg (pv 1) Qd)))) Qd))))))),?_⟩
 refine Qn (σ:=[some (.ref p),some (.ref e),Vo]) rfl ?_
 walk_at "rd";have le:=Vn re;refine⟨xs,.inl (SqL.of he),1,_,⟨rfl,rfl⟩,⟨by decide,by decide,by lia,by lia⟩,?_⟩
 refine ZIa (λi σ' H'=>∃ x2,σ'=[some (.ref p),some (.ref e),x2]/\Ql H H'/\∀ i' k',JAa (es.map Q6) i' k'->i<=i') ⟨_,rfl,Ql.refl _,λ_ _ _=>Ux _⟩ ?_ ?_
 ·rintro i σ' H' hi ⟨x2,rfl,s1,nw⟩
  have bx:i+1 < xs.length:=by lia
  have row:∀ n,n < xs.length->∃ u k r,xs[n]?=some (.ref u)/\H' u=some (.tup (k::r))/\Zl k/\(es.map Q6)[n]?=some k:=λn hn=>by
   have hx:xs[n]?=some xs[n]:=Lq hn
   have hd:es[n]?=some (es[n]'#[0]):=Lq _
   have tx:=Qv re hd hx;obtain⟨k,rr,ed,hk⟩:=bo _ (Om hd);rw[ed]at tx;obtain⟨m,u,ws,_,eu,hu,jk⟩:=tx.tup;cases jk with
   | @cons _ k' _ qB r1 aU =>
   obtain⟨_,rfl⟩:=r1.flat;exact⟨u,_,qB,by rw[hx,eu],s1 _ _ hu,hk,by rw[Oj,hd,ed];rfl⟩
  obtain⟨u0,k0,r0,g0,t0,gA,m0⟩:=row i #[0]
  obtain⟨u1,k1,r1,g1,t1,gR,m1⟩:=row (i+1) bx;walk_at "rd";refine⟨_,SqL.of (s1 _ _ he),.ref u0,by rw[show(1:Int)+(i:Int) - 1=((i:Nat):Int) by lia];exact Z0 g0,u0,rfl,_,SqT.of t0,k0,at0 _ _,_,SqL.of (s1 _ _ he),.ref u1,by rw[show(1:Int)+(i:Int)=((i+1:Nat):Int) by lia];exact Z0 g1,u1,rfl,_,SqT.of t1,k1,at0 _ _,k0,k1,rfl,Xk gA,Xk gR,λH2 s2=>⟨_,rfl,?_⟩⟩
  rcases hq with ⟨up,q⟩ | ⟨iw,kw,⟨w1,w2,w3⟩,qe⟩
  ·have lt:Pl.ltV k0 k1=true:=by
    obtain⟨a0,b0⟩:=List.getElem?_eq_some_iff.mp m0
    obtain⟨a1,b1⟩:=List.getElem?_eq_some_iff.mp m1
    have:=pairwise_iff_getElem.mp up i (i+1) a0 a1 #[0]
    rw[b0,b1]at this;exact this
   rw[lt,if_neg #[1]]
   exact⟨s1.trans s2,λi' k' h=>(Qtb up h).elim⟩
  ·have wk:i<=iw:=nw iw kw ⟨w1,w2,w3⟩
   have nxt:Pl.ltV k0 k1=true->∀ i' k',JAa (es.map Q6) i' k'->i+1<=i':=λlt i' k' h=>by
    rcases DC i i' with z | z
    ·lia
    ·have e:i'=i:=by have:=nw i' k' h;lia
     subst e;have h1:=h.1;rw[m1]at h1;cases h1;rw[h.2.2 _ m0]at lt;cases lt
   by_cases e:i=iw
   ·subst e
    rw[m1]at w1;cases w1;rw[w3 _ m0,if_pos rfl];exact⟨e,xs,_,.ref u1,rfl,rfl,SqL.of ((s1.trans s2) _ _ he),by rw[show(1:Int)+(i:Int)=((i+1:Nat):Int) by lia];exact Z0 g1,u1,_,_,k1,rfl,rfl,SqT.of (s2 _ _ t1),at0 _ _,rfl,show 1<=1000 by decide,λd hd=>qe _ d (s1.trans s2) hd⟩
   ·have lt:=w2 i #[0] _ _ m0 m1
    rw[lt,if_neg #[1]]
    exact⟨s1.trans s2,nxt lt⟩
 ·rintro σ' H' ⟨x2,rfl,s1,nw⟩
  rcases hq with ⟨up,q⟩ | ⟨iw,kw,hw,qe⟩
  case inr =>
   have h1:=nw iw kw hw;have h2:=(List.getElem?_eq_some_iff.mp hw.1).1
   rw[UO]at h2
   lia
  walk_at "rd";refine⟨p,d1,d2,st,c,0,e,false,xs,es,rfl,hS.same s1,s1 _ _ he,TDs.sameT re s1.t,bo,lx,by lia,λr H2 cm c2 hs ys sx hr kQ tys hd fC aW sub l2=>?_⟩
  have lh:=fC.length;have lt:=Vn tys;have lc:=Z3a (lv:=ZP) (l:=0) (es:=es);refine⟨p,d1,d2,cm,c2,r,hs,ys,0,rfl,by decide,aW,kQ,tys,hd,by lia,by lia,λH3 aY c3 m above v hW bq bZ l3 jm hm hv=>?_⟩
  refine q H3 aY c3 v ((s1.x _).trans (sx.trans hW)) bq (λx hx=>bZ x (sub x hx)) #[0] ?_
  have ig:es=[]↔hs=[]:=by
   constructor
   ·intro z;exact length_eq_zero_iff.mp (by rw[lh,z];rfl)
   ·intro z
    rw[z]at lh;cases kR:es with
    | nil=>rfl
    | cons y eA=>exact absurd (length_eq_zero_iff.mp lh.symm) (Jwa (by rw[kR];simp))
  rcases hv with ⟨h1,h2⟩ | ⟨h1,k,n,ea,ev⟩
  ·exact .inl ⟨ig.mpr h1,h2⟩
  ·have kR:es≠[]:=λz=>h1 (ig.mp z)
   obtain⟨L,pt,eL⟩:=jm.part (fC.mono bZ);have vI:(L (m+1)).length=1:=by rw[eL,ea];rfl
   have m6:m<=6:=by
    rcases DC m 7 with z | z
    ·lia
    ·have a:=pt.top QCd kR #[0]
     have b:=pt.two 7 #[0] #[0]
     lia
   exact .inr ⟨kR,m,L,k,n,m6,pt.chain vI,by rw[eL,ea],ev⟩
def ZQ(st:StL)(es:List Dt)(v:V):Prop:=(es=[]/\v=.non)\/(es≠[]/\∃ top L k n,top<=6/\Qxa ZP (Qy st) es top L/\L (top+1)=[Jq k n]/\v=.int n)
section
variable{P:Vg}{w:Vb}{K:VC}{ob:Nat->Vh}{H H':Hp}{p d1 d2:Vh}{st:StL}{c:Int}
theorem QG.off(h:QG P w ob H p d1 d2 st c){b:Vh}{o:HO}(hb:H b=some o)(h1:∀ C dx fs,o≠.ins C dx fs)(h2:∀ ae,o≠.dK ae)(h3:∀ φ,o≠.ext φ):b∉[p,d1,d2]:=λz=>by
 obtain⟨dx,eo⟩:=h.obj;simp only[Dh,D0,or_false]at z
 rcases z with z | z | z
 ·rw[z,eo]at hb;injection hb with hb;exact h1 _ _ _ hb.symm
 ·rw[z,h.num]at hb;injection hb with hb;exact h2 _ hb.symm
 ·rw[z,h.tol]at hb;injection hb with hb;exact h3 _ hb.symm
theorem QG.lst(h:QG P w ob H p d1 d2 st c)(s:QS [p,d1,d2] H H'){b:Vh}{xs:List V}(hb:H b=some (.lst xs)):H' b=some (.lst xs):=s _ _ (h.off hb (by intros;intro z;cases z) (by intros;intro z;cases z) (by intros;intro z;cases z)) hb
theorem QG.seq(h:QG P w ob H p d1 d2 st c)(s:QS [p,d1,d2] H H'){b:Vh}{xs:List V}(hb:SqL K H b xs):SqL K H' b xs:=by
 rcases hb with hb | hb
 ·rcases hb with hb | ⟨o,hb⟩
  ·exact .inl (.inl (h.lst s hb))
  ·exact .inl (.inr ⟨o,s _ _ (h.off hb (by intros;intro z;cases z) (by intros;intro z;cases z) (by intros;intro z;cases z)) hb⟩)
 ·exact .inr hb
theorem QG.updL(h:QG P w ob H p d1 d2 st c){b:Vh}{xs ys:List V}(hb:H b=some (.lst xs)):QG P w ob (upd H b (.lst ys)) p d1 d2 st c:=by
 have n:=h.off hb (by intros;intro z;cases z) (by intros;intro z;cases z) (by intros;intro z;cases z)
 have go:∀ {a},a∈[p,d1,d2]->upd H b (.lst ys) a=H a:=λ{a} ha=>Qf (λz=>n (by rw[<- z];exact ha))
 exact h.keep (J0 hb) (go #[2]) (go #[2]) (go #[2])
end
theorem QEd(xs:List V)(k:Nat):Qna xs Vo (some (k:Int))=xs.take k:=by
 have e1:=HT.J7b xs.length xs.length k;have e2:HT.sIx xs.length 0 Vo=0:=rfl;unfold Qna;rw[e1,e2,CJ,Nat.sub_zero]
 rcases Nat.le_total k xs.length with h | h
 ·rw[Nat.min_eq_left h]
 ·rw[Nat.min_eq_right h,IL (Ut _),IL h]
theorem QFd(xs:List V)(k:Nat):Qna xs (some (k:Int)) Vo=xs.drop k:=by
 have e1:=HT.J7b xs.length 0 k;have e2:HT.sIx xs.length xs.length Vo=xs.length:=rfl;unfold Qna;rw[e1,e2]
 rcases Nat.le_total k xs.length with h | h
 ·rw[Nat.min_eq_left h,IL (by rw[Ov];exact Ut _)]
 ·rw[Nat.min_eq_right h,drop_of_length_le (Ut _),drop_of_length_le h];simp
theorem X4{α β:Type}{F:α->β->Prop}:∀ {xs:List α} {us:List β} (n:Nat),Vm F xs us->Vm F (xs.take n) (us.take n)
 | _,_,0,_=>.nil
 | _,_,_+1,.nil=>.nil
 | _,_,n+1,.cons r t=>.cons r (X4 n t)
theorem X5{α β:Type}{F:α->β->Prop}:∀ {xs:List α} {us:List β} (n:Nat),Vm F xs us->Vm F (xs.drop n) (us.drop n)
 | _,_,0,r=>r
 | _,_,_+1,.nil=>.nil
 | _,_,n+1,.cons _ t=>X5 n t
def chF(k o n:V):List (Str×V):=Zu "new" n (Zu "old" o (Zu "key" k []))
def Y4a:V->V->Nat
 | .non,_=>5
 | _,.non=>6
 | _,_=>7
theorem ci2(h:o≠.non):Y4a o .non=6:=by unfold Y4a;split <;> first | exact(h rfl).elim | rfl | (rename_i z;exact(z rfl).elim)
theorem ci3{n:V}(h:o≠.non)(h':n≠.non):Y4a o n=7:=by unfold Y4a;split <;> first | exact(h rfl).elim | exact(h' rfl).elim | rfl
theorem YKb(o n:V):Y4a o n < 8:=by unfold Y4a;split <;> decide
def XIb(ob:Nat->Vh)(H:Hp)(a:Vh)(k o n:V):Prop:=∃ dx,H a=some (.ins (ob (Y4a o n)) dx (chF k o n))
theorem XIb.same{k n:V}(h:XIb ob H a k o n)(s:Ql H H'):XIb ob H' a k o n:=by
 obtain⟨dx,e⟩:=h;exact⟨dx,s _ _ e⟩
inductive ZB(K:VC)(ob:Nat->Vh)(vs:List V)(H:Hp)(Q:VK)(E:XK):Prop
 | mk:∀ a i dx k o n,vs=[.ref a,k,o,n]->i < 8->H a=some (.ins (ob i) dx [])->Q .non (upd H a (.ins (ob i) dx (chF k o n)))->ZB K ob vs H Q E
seal PE PT PW PA PS PSs PI PG QY PGs PO in
theorem Yua(Z:Zs mg)(T:Tx K mg CT cs ob)(F:Fun K "__init__" "Change.__init__" Yr f fd):QB P w K mg base CX0 1 f fd ["self","key","old","new"] (ZB K ob):=by
 refine F.ok Yia (λvs H Q E h=>?_) (λam A outer s H vs Q E hr h=>?_)
 ·walk_at "n"
 obtain⟨a,i,dx,k,o,n,rfl,hi,ha,q⟩:=h;refine⟨_,(Qb (ZZ (pv 0) (pv 1) rfl)
  (Qb (ZZ (pv 0) (pv 2) rfl)
  (Qe (ZZ (pv 0) (pv 3) rfl)))),?_⟩
 refine Qn (σ:=[some (.ref a),some k,some o,some n]) rfl ?_
 walk_at "rd";have c:=T.ob_ _ hi;refine ZMa c #[1] rfl (y:=k) (H1:=H) (λQ q=>q) ha #[1] ?_
 refine⟨a,ob i,dx,_,rfl,Qa,c.cl,c.no _ #[1],show 1 < 1000 by decide,?_⟩
 refine⟨a,ob i,dx,_,rfl,Qa,c.cl,c.no _ #[1],show 2 < 1000 by decide,?_⟩
 rw[Zt,Zt];exact q
inductive Ja(K:VC)(ob:Nat->Vh)(vs:List V)(H:Hp)(Q:VK)(E:XK):Prop
 | mk:∀ a dx k o n,vs=[.ref a,k,o,n]->H a=some (.ins (ob 7) dx [])->Q .non (upd H a (.ins (ob 7) dx (chF k o n)))->Ja K ob vs H Q E
seal PE PT PW PA PS PSs PI PG QY PGs PO in
theorem Yva(Z:Zs mg)(T:Tx K mg CT cs ob)(F:Fun K "__init__" "Change.__init__" Ys f fd):QB P w K mg base CX0 1 f fd ["self","key","old","new"] (Ja K ob):=by
 refine F.ok Yja (λvs H Q E h=>?_) (λam A outer s H vs Q E hr h=>?_)
 ·walk_at "n"
 obtain⟨a,dx,k,o,n,rfl,ha,q⟩:=h;refine⟨_,(Qb (ZZ (pv 0) (pv 1) rfl)
  (Qb (ZZ (pv 0) (pv 2) rfl)
  (Qe (ZZ (pv 0) (pv 3) rfl)))),?_⟩
 refine Qn (σ:=[some (.ref a),some k,some o,some n]) rfl ?_
 walk_at "rd";have c:=T.ob_ 7 #[1]
 refine ZMa c #[1] rfl (y:=k) (H1:=H) (λQ q=>q) ha #[1] ?_
 refine⟨a,ob 7,dx,_,rfl,Qa,c.cl,c.no _ #[1],show 1 < 1000 by decide,?_⟩
 refine⟨a,ob 7,dx,_,rfl,Qa,c.cl,c.no _ #[1],show 2 < 1000 by decide,?_⟩
 rw[Zt,Zt];exact q
inductive Jx(K:VC)(ob:Nat->Vh)(vs:List V)(H:Hp)(Q:VK)(E:XK):Prop
 | mk:∀ a dx k n,vs=[.ref a,k,n]->H a=some (.ins (ob 5) dx [])->Q .non (upd H a (.ins (ob 5) dx (chF k .non n)))->Jx K ob vs H Q E
seal PE PT PW PA PS PSs PI PG QY PGs PO in
theorem Y5a(Z:Zs mg)(T:Tx K mg CT cs ob)(aG:BaI P w K mg base 1 "Change" (ZB K ob))(F:Fun K "__init__" "PutIn.__init__" Xc f fd):QB P w K mg base CX0 2 f fd ["self","key","new"] (Jx K ob):=by
 refine F.ok YXa (λvs H Q E h=>?_) (λam A outer s H vs Q E hr h=>?_)
 ·walk_at "n"
 obtain⟨a,dx,k,n,rfl,ha,q⟩:=h;refine⟨_,(Qe (QT (Qha aG (k:=1) hr #[1] rfl (Qg (pv 0) (Qg (pv 1) (Qg ZG (Qg (pv 2) Qd))))))),?_⟩
 refine Qn (σ:=[some (.ref a),some k,some n]) rfl ?_
 walk_at "rd";exact⟨a,5,dx,k,.non,n,rfl,by decide,ha,q⟩
inductive ZE(K:VC)(ob:Nat->Vh)(vs:List V)(H:Hp)(Q:VK)(E:XK):Prop
 | mk:∀ a dx k o,vs=[.ref a,k,o]->H a=some (.ins (ob 6) dx [])->Q .non (upd H a (.ins (ob 6) dx (chF k o .non)))->ZE K ob vs H Q E
seal PE PT PW PA PS PSs PI PG QY PGs PO in
theorem Z4a(Z:Zs mg)(T:Tx K mg CT cs ob)(aG:BaI P w K mg base 1 "Change" (ZB K ob))(F:Fun K "__init__" "TakenOut.__init__" JK f fd):QB P w K mg base CX0 2 f fd ["self","key","old"] (ZE K ob):=by
 refine F.ok ZWa (λvs H Q E h=>?_) (λam A outer s H vs Q E hr h=>?_)
 ·walk_at "n"
 obtain⟨a,dx,k,o,rfl,ha,q⟩:=h;refine⟨_,(Qe (QT (Qha aG (k:=1) hr #[1] rfl (Qg (pv 0) (Qg (pv 1) (Qg (pv 2) (Qg ZG Qd))))))),?_⟩
 refine Qn (σ:=[some (.ref a),some k,some o]) rfl ?_
 walk_at "rd";exact⟨a,6,dx,k,o,.non,rfl,by decide,ha,q⟩
inductive Xo(aR:VC)(ob:Nat->Vh)(vs:List V)(H:Hp)(Q:VK)(E:XK):Prop
 | mk:∀ k o n,vs=[k,o,n]->(∀ a H',Ql H H'->H a=Vo->XIb ob H' a k o n->Q (.ref a) H')->Xo aR ob vs H Q E
seal PE PT PW PA PS PSs PI PG QY PGs PO in
theorem Qub(Z:Zs mg)(T:Tx K mg CT cs ob)(nT:MkV P w K mg base 1 "Turned" (ob 7) (Ja K ob))(nU:MkV P w K mg base 2 "PutIn" (ob 5) (Jx K ob))(nV:MkV P w K mg base 2 "TakenOut" (ob 6) (ZE K ob))(F:Fun K "change_of" "change_of" XX f fd):QB P w K mg base CX0 4 f fd ["key","old","new"] (Xo K ob):=by
 refine F.ok Qmb (λvs H Q E h=>?_) (λam A outer s H vs Q E hr h=>?_)
 ·walk_at "n"
 obtain⟨k,o,n,rfl,q⟩:=h;refine⟨_,(Qb (QN (Qu ZFa (pv 1) ZG (Qz _)) (Qe (Qp (Q8b nU (k:=3) hr #[1] rfl (Qg (pv 0) (Qg (pv 2) Qd))))) Qs)
  (Qb (QN (Qu ZFa (pv 2) ZG (Qz _)) (Qe (Qp (Q8b nV (k:=3) hr #[1] rfl (Qg (pv 0) (Qg (pv 1) Qd))))) Qs)
  (Qe (Qp (Q8b nT (k:=3) hr #[1] rfl (Qg (pv 0) (Qg (pv 1) (Qg (pv 2) Qd)))))))),?_⟩
 refine Qn (σ:=[some k,some o,some n]) rfl ?_
 walk_at "rd";refine Jo (λho=>?_) λho=>?_
 ·refine λx dx hx a9 ay=>⟨x,dx,k,n,rfl,Qa,rfl,?_⟩
  rw[Zt];exact q x _ (Y3 hx a9 (Ql.refl _)) hx ⟨dx,by rw[ho];exact Qa⟩
 refine Jo (λhn=>?_) λhn=>?_
 ·refine λx dx hx a9 ay=>⟨x,dx,k,o,rfl,Qa,rfl,?_⟩
  rw[Zt];exact q x _ (Y3 hx a9 (Ql.refl _)) hx ⟨dx,by rw[hn,show Y4a o .non=6 from ci2 ho];exact Qa⟩
 ·refine λx dx hx a9 ay=>⟨x,dx,k,o,n,rfl,Qa,rfl,?_⟩
  rw[Zt];exact q x _ (Y3 hx a9 (Ql.refl _)) hx ⟨dx,by rw[ci3 ho hn];exact Qa⟩
def X6(k o n:V):List V:=if o=.non then [.str (LD "in"),k,n] else if n=.non then [.str (LD "out"),k,o] else [.str (LD "turned"),k,o,n]
inductive QK(aR:VC)(ob:Nat->Vh)(vs:List V)(H:Hp)(Q:VK)(E:XK):Prop
 | mk:∀ a k o n,vs=[.ref a]->XIb ob H a k o n->(∀ r H',Ql H H'->H r=Vo->H' r=some (.tup (X6 k o n))->Q (.ref r) H')->QK aR ob vs H Q E
seal PE PT PW PA PS PSs PI PG QY PGs PO in
theorem Jb(Z:Zs mg)(T:Tx K mg CT cs ob)(F:Fun K "told" "Change.told" Yt f fd):QB P w K mg base (CX1 P w) 1 f fd ["self"] (QK K ob):=by
 refine F.ok1 Yka (λvs H Q E h=>?_) (λam A outer s H vs Q E hr h=>?_)
 ·walk_at "n"
 obtain⟨a,k,o,n,rfl,hC,q⟩:=h;refine⟨_,(Qb (QN (Qu ZFa (Q2 (pv 0) rfl) ZG (Qz _)) (Qe (Qp (Zd (Qg Jm (Qg (Q2 (pv 0) rfl) (Qg (Q2 (pv 0) rfl) Qd)))))) Qs)
  (Qb (QN (Qu ZFa (Q2 (pv 0) rfl) ZG (Qz _)) (Qe (Qp (Zd (Qg Jm (Qg (Q2 (pv 0) rfl) (Qg (Q2 (pv 0) rfl) Qd)))))) Qs)
  (Qe (Qp (Zd (Qg Jm (Qg (Q2 (pv 0) rfl) (Qg (Q2 (pv 0) rfl) (Qg (Q2 (pv 0) rfl) Qd))))))))),?_⟩
 refine Qn (σ:=[some (.ref a)]) rfl ?_
 walk_at "rd";obtain⟨dx,ha⟩:=hC;have c:=T.ob_ _ (YKb o n);have fin:∀ zs,zs=X6 k o n->∀ p,H p=Vo->Q (.ref p) (upd H p (.tup zs)):=λzs e p hp=>q p _ (Qh hp _) hp (by rw[e];exact Qa)
 refine Q7 c #[1] rfl ha rfl (Jo (λho=>?_) λho=>?_)
 ·exact Q7 c #[1] rfl ha rfl (Q7 c #[1] rfl ha rfl ⟨show 3<=Vr by decide,fin _ (by unfold X6;rw[if_pos ho])⟩)
 refine Q7 c #[1] rfl ha rfl (Jo (λhn=>?_) λhn=>?_)
 ·exact Q7 c #[1] rfl ha rfl (Q7 c #[1] rfl ha rfl ⟨show 3<=Vr by decide,fin _ (by unfold X6;rw[if_neg ho,if_pos hn])⟩)
 ·exact Q7 c #[1] rfl ha rfl (Q7 c #[1] rfl ha rfl (Q7 c #[1] rfl ha rfl ⟨show 4<=Vr by decide,fin _ (by unfold X6;rw[if_neg ho,if_neg hn])⟩))
def ltK(a b:V):Prop:=Zl a/\Zl b/\Pl.ltV a b=true
theorem ltK.irr(a:V):¬ ltK a a:=λh=>by
 have h2:=h.2.2;rw[Pl.irr (Xk h.1)]at h2;exact Uc h2
theorem ltK.tr{a b c:V}(h:ltK a b)(h':ltK b c):ltK a c:=⟨h.1,h'.2.1,Pl.tr (Xk h.1) (Xk h.2.1) (Xk h'.2.1) h.2.2 h'.2.2⟩
theorem ltK.tri{a b:V}(ha:Zl a)(hb:Zl b):ltK a b\/a=b\/ltK b a:=by
 cases h1:Pl.ltV a b with
 | true=>exact .inl ⟨ha,hb,h1⟩
 | false =>
  cases h2:Pl.ltV b a with
  | true=>exact .inr (.inr ⟨hb,ha,h2⟩)
  | false=>exact .inr (.inl (Pl.tri (Xk ha) (Xk hb) h1 h2))
theorem Qsb.key(h:Qsb d):Zl (Q6 d):=by
 obtain⟨k,r,rfl,hk⟩:=h;exact hk
def Yc(d:Dt):Prop:=∃ k c,d=.t [.v k,.t c]/\Zl k
theorem Yc.ent(h:Yc d):Qsb d:=by obtain⟨k,c,rfl,hk⟩:=h;exact⟨k,_,rfl,hk⟩
structure QSd(es:List Dt):Prop where
 row:∀ d∈es,Yc d
 up:UpR ltK es
 len:es.length<=900
theorem ZQ.sc(h:ZQ st es v):v=.non\/∃ n,v=.int n:=by
 rcases h with ⟨_,h⟩ | ⟨_,_,_,_,n,_,_,_,h⟩
 ·exact .inl h
 ·exact .inr ⟨n,h⟩
theorem ZQ.mono{ag:StL}(h:ZQ st es v)(s:∀ x∈Qy st,x∈Qy ag):ZQ ag es v:=by
 rcases h with h | ⟨a,top,L,k,n,b,c,d⟩
 ·exact .inl h
 ·exact .inr ⟨a,top,L,k,n,b,c.mono s,d⟩
inductive Jc(K:VC)(vs:List V)(H:Hp)(Q:VK)(E:XK):Prop
 | mk:∀ (a:Vh) (ns:List Int) (k:Nat),vs=[.ref a,.int k]->SqL K H a (ns.map V.int)->ns.length<=63->(∀ c,Q (.int c) H)->Jc K vs H Q E
seal PE PT PW PA PS PSs PI PG QY PGs PO in
theorem Qwb(Z:Zs mg)(T:Tx K mg CT cs ob)(F:Fun K "_law_cell" "_law_cell" XQ f fd):QB P w K mg base CX0 1 f fd ["_law_script","_law_k"] (Jc K):=by
 refine F.ok Qib (λvs H Q E h=>?_) (λam A outer s H vs Q E hr h=>?_)
 ·walk_at "n"
 obtain⟨a,ns,k,rfl,hS,hl,q⟩:=h;refine⟨_,(Qb (QN (Qu Ync (pv 1) (QR QV rfl (Z.len) Yn (Qg (pv 0) Qd)) (Qz _)) (Qe (Qp (QO Js (pv 0) (pv 1) (λ_ _=>rfl)))) Qs)
  (Qe (Qp Qc))),?_⟩
 refine Qn (σ:=[some (.ref a),some (.int k)]) rfl ?_
 walk_at "rd";refine⟨_,.inl hS,Jo (λh=>?_) λ_=>?_⟩
 ·rw[UO]at h
  have hk:k < ns.length:=by lia
  exact⟨_,hS,.int ns[k],Z0 (j:=k) (by simp[hk]),q _⟩
 ·exact q 0
theorem XJb:(LD " !\"#$&'()*+,-./0123456789:;<=>?@ABCDEFGHIJKLMNOPQRSTUVWXYZ[\\]^_`"++LD "abcdefghijklmnopqrstuvwxyz{|}~").cps.toList.length=94:=by decide +kernel
inductive Xp(aR:VC)(vs:List V)(H:Hp)(Q:VK)(E:XK):Prop
 | mk:∀ c:Int,vs=[.int c]->(∀ z:Str,z.length<=40->Q (.str z) H)->Xp aR vs H Q E
inductive TxI(H:Hp)(c:Int)(i:Nat)(σ':St)(H':Hp):Prop
 | mk:H'=H->∀ (m:Int) (z:Str) (x:Option V) (gM:Option V) (at':Int) (plain:Bool),σ'=[some (.int c),some (.str (LD " !\"#$&'()*+,-./0123456789:;<=>?@ABCDEFGHIJKLMNOPQRSTUVWXYZ[\\]^_`"++LD "abcdefghijklmnopqrstuvwxyz{|}~")),some (.int m),gM,some (.int at'),some (.bl plain),some (.str z),x]->0<=m->m < 2147483629->z.length=i->i<=40->TxI H c i σ' H'
seal PE PT PW PA PS PSs PI PG QY PGs PO in
theorem Qxb(Z:Zs mg)(T:Tx K mg CT cs ob)(F:Fun K "_law_text" "_law_text" XR f fd):QB P w K mg base CX0 1 f fd ["_law_cell_here"] (Xp K):=by
 refine F.ok QF (λvs H Q E h=>?_) (λam A outer s H vs Q E hr h=>?_)
 ·walk_at "n"
 obtain⟨c,rfl,q⟩:=h;refine⟨_,(Qb (Qj 1 QF.nd Jm)
  (Qb (Qj 1 QF.nd (Qk YU (pv 1) Jm))
  (Qb (Qj 2 QF.nd (Qk QD (Qk ZY (Qk Z1 (Qk QD (pv 0) Qc) Qc) Qc) Qc))
  (Qb (Qj 3 QF.nd (Qk ZY Qc (Qk QD (pv 2) Qc)))
  (Qb (QN (Qu Ji (Qk QD (Qk QH (pv 2) Qc) Qc) Qc (Qz _)) (Qe (Qj 3 QF.nd (Qk ZY Qc (Qk QD (Qk QH (pv 2) Qc) Qc)))) Qs)
  (Qb (Qj 4 QF.nd (Qk QD (Qk QH (pv 2) Qc) (pv 3)))
  (Qb (Qj 5 QF.nd (Qda Ji (Qk QD (Qk QH (pv 2) Qc) Qc) Qc (Qz _)))
  (Qb (Qj 6 QF.nd Jm)
  (Qb (ZO Cm rfl (Xea rfl (Z.range) (Qg (pv 3) Qd)) (Zc (i:=7) QF.nd rfl (OJ rfl)) (Qb (Qj 2 QF.nd (Qk QD (Qk ZY (Qk Z1 (pv 2) Qc) Qc) Qc))
  (Qe (QN (PW.pt (ZWb (Zr (pv 5) (λ_=>rfl)) (XRa (Qu J4b (pv 7) (pv 4) (Qz _))))) (Qe (Qj 6 QF.nd (Qk YU (pv 6) Jm))) (Qe (Qj 6 QF.nd (Qk YU (pv 6) (QO Y3c (pv 1) (Qk QD (pv 2) Qc) (λ_ _=>rfl)))))))))
  (Qe (Qp (pv 6)))))))))))),?_⟩
 refine Qn (σ:=[some (.int c),Vo,Vo,Vo,Vo,Vo,Vo,Vo]) rfl ?_
 walk_at "rd";refine⟨by decide,?_⟩
 walk_at "go";refine Jo (λ_=>?_) λ_=>?_
 all_goals
  walk_at "go";refine ZIa (λi σ' H'=>TxI H c i σ' H') ⟨rfl,_,_,_,_,_,_,rfl,by lia,by lia,rfl,by decide⟩ ?_ ?_
  ·rintro i σ' H' hi ⟨rfl,m,z,x,gM,at',plain,rfl,h1,h2,h3,h4⟩
   walk_at "rd";refine⟨by walk_at "side",?_⟩
   have gN:i+1<=40:=by lia
   have sg:∃ x,atI (LD " !\"#$&'()*+,-./0123456789:;<=>?@ABCDEFGHIJKLMNOPQRSTUVWXYZ[\\]^_`"++LD "abcdefghijklmnopqrstuvwxyz{|}~").cps.toList ((m * 48271+12345) % 2147483629 % 94)=some x:=J9c #[0] (by rw[XJb];lia)
   have lz:∀ y:Str,y.length=1->z.length+y.length<=Vr/\(z++y).length=i+1:=λy hy=>⟨by rw[hy];exact VJ (Qw #[0]),by rw[strLen_append,hy,h3]⟩
   have one:∀ x:Nat,z.length+({ cps:=#[x] }:Str).length<=Vr/\(z++({ cps:=#[x] }:Str)).length=i+1:=λx=>lz _ rfl
   obtain⟨x,hx⟩:=sg;refine Jo (λ_=>Jo (λ_=>?_) λ_=>?_) λ_=>?_
   ·exact⟨(lz _ rfl).1,rfl,_,_,_,_,_,_,rfl,by lia,by lia,(lz _ rfl).2,gN⟩
   ·exact⟨by decide,x,hx,(one x).1,rfl,_,_,_,_,_,_,rfl,by lia,by lia,(one x).2,gN⟩
   ·exact⟨by decide,x,hx,(one x).1,rfl,_,_,_,_,_,_,rfl,by lia,by lia,(one x).2,gN⟩
  ·rintro σ' H' ⟨rfl,m,z,x,gM,at',plain,rfl,h1,h2,h3,h4⟩
   exact q z #[0]
inductive Xq(aR:VC)(vs:List V)(H:Hp)(Q:VK)(E:XK):Prop
 | mk:∀ c:Int,vs=[.int c]->(∀ i,0<=i->i < 2147483647->Q (.int i) H)->Xq aR vs H Q E
seal PE PT PW PA PS PSs PI PG QY PGs PO in
theorem Qyb(Z:Zs mg)(T:Tx K mg CT cs ob)(F:Fun K "_law_tall" "_law_tall" XS f fd):QB P w K mg base CX0 1 f fd ["_law_cell_here"] (Xq K):=by
 refine F.ok Y9 (λvs H Q E h=>?_) (λam A outer s H vs Q E hr h=>?_)
 ·walk_at "n"
 obtain⟨c,rfl,q⟩:=h;refine⟨_,(Qb (Qj 1 Y9.nd (Qk YZc (Qk QD (Qk QH (pv 0) Qc) Qc) (Qk Z1 Qc (Qk QD (pv 0) Qc))))
  (Qb (Qj 2 Y9.nd (Qk XYb (pv 1) (Qk Z0b (pv 1) Qc)))
  (Qe (Qp (Qk QD (Qk Z1 (Qk J2 (pv 2) Qc) Qc) Qc))))),?_⟩
 refine Qn (σ:=[some (.int c),Vo,Vo]) rfl ?_
 walk_at "rd";walk_at "go";exact q _ (Cr _ #[1]) (Int.emod_lt_of_pos _ #[1])
theorem Yec{i a b:Int}(h0:0<=i)(h1:i < 2147483647)(ha:a=0\/a=1)(hb:0<=b/\b < 10 ^ 19):Zl (.int (i - a * 2147483647 * b)):=by
 show _/\_
 rcases ha with rfl | rfl <;> lia
inductive Yl(aR:VC)(vs:List V)(H:Hp)(Q:VK)(E:XK):Prop
 | mk:∀ c:Int,vs=[.int c]->(∀ v,Zl v->Q v H)->Yl aR vs H Q E
seal PE PT PW PA PS PSs PI PG QY PGs PO in
theorem ZCb(Z:Zs mg)(T:Tx K mg CT cs ob)(vJ:Cal P w K mg base 1 "_law_text" ["_law_cell_here"] (Xp K))(vK:Cal P w K mg base 1 "_law_tall" ["_law_cell_here"] (Xq K))(F:Fun K "_law_key" "_law_key" QPa f fd):QB P w K mg base CX0 2 f fd ["_law_cell_here"] (Yl K):=by
 refine F.ok Jca (λvs H Q E h=>?_) (λam A outer s H vs Q E hr h=>?_)
 ·walk_at "n"
 obtain⟨c,rfl,q⟩:=h;refine⟨_,(Qb (Qj 1 Jca.nd (Qk QD (pv 0) Qc))
  (Qb (QN (Qu Ji (pv 1) Qc (Qz _)) (Qe (Qp (Qk J2 (Qk QD (Qk QH (pv 0) Qc) (Qk J2 (Qk Z1 Qc (Qk JFa Qc Qc)) Qc)) (Qk J2 (Qk JFa Qc Qc) Qc)))) Qs)
  (Qb (QN (Qu Ji (pv 1) Qc (Qz _)) (Qe (Qp (Qk J2 (Qk QD (Qk QH (pv 0) Qc) Qc) Qc))) Qs)
  (Qb (QN (Qu Ji (pv 1) Qc (Qz _)) (Qe (Qp (Qm vJ hr (Qg (Qk QH (pv 0) Qc) Qd)))) Qs)
  (Qe (Qp (Qk J2 (Qm vK hr (Qg (Qk QH (pv 0) Qc) Qd)) (Qk Z1 (Qk Z1 (Qk J2 (pv 1) Qc) Qc) (Qk QD (Qk QH (pv 0) Qc) (Qk JFa Qc Qc)))))))))),?_⟩
 refine Qn (σ:=[some (.int c),Vo]) rfl ?_
 walk_at "rd";walk_at "go";refine Jo (λ_=>?_) λ_=>Jo (λ_=>?_) λ_=>Jo (λ_=>?_) λ_=>?_
 ·walk_at "go"
  exact q _ (show _/\_ by lia)
 ·walk_at "go"
  exact q _ (show _/\_ by lia)
 ·walk_at "go"
  exact⟨_,rfl,λz hz=>q _ (show _<=_ by lia)⟩
 ·walk_at "go"
  refine⟨_,rfl,λi h0 h1=>?_⟩
  walk_at "rd";walk_at "go";exact q _ (Yec h0 h1 #[0] #[0])
theorem JQb:∀ n:Fin 1000,(LD (toString ((n.val:Nat):Int))).length<=10:=by decide +kernel
theorem XKb(h:0<=c/\c < 1000):(LD "x ").length+(LD (toString c)).length<=Vr:=by
 obtain⟨n,rfl⟩:=Int.eq_ofNat_of_zero_le h.1;have:=JQb ⟨n,by lia⟩
 have e:(LD "x ").length=2:=by decide
 rw[e];exact VJ (Qw (by simp only at this;lia))
inductive Jy(K:VC)(vs:List V)(H:Hp)(Q:VK)(E:XK):Prop
 | mk:∀ (c:Int),vs=[.int c]->(∀ r H',Ql H H'->FzH H' 4 (.ref r)->(∃ zs,H' r=some (.tup zs)/\zs.length<=3)->Q (.ref r) H')->Jy K vs H Q E
seal PE PT PW PA PS PSs PI PG QY PGs PO in
theorem Y6a(Z:Zs mg)(T:Tx K mg CT cs ob)(F:Fun K "_law_cells" "_law_cells" Xa f fd):QB P w K mg base CX0 1 f fd ["_law_cell_here"] (Jy K):=by
 refine F.ok QAa (λvs H Q E h=>?_) (λam A outer s H vs Q E hr h=>?_)
 ·walk_at "n"
 obtain⟨c,rfl,q⟩:=h;refine⟨_,(Qb (Qj 1 QAa.nd (ZH Qd))
  (Qb (QN (Qu Ji (Qk QD (pv 0) Qc) Qc (Qz _)) (Qe (QT (XC Cn Co Cp Zn (pv 1) (Qg (Zd (Qg Jm (Qg (Qk J2 (Qk QD (Qk QH (pv 0) Qc) Qc) Qc) Qd))) Qd)))) Qs)
  (Qb (QN (Qu Ji (Qk QD (Qk QH (pv 0) Qc) Qc) Qc (Qz _)) (Qe (QT (XC Cn Co Cp Zn (pv 1) (Qg (Zd (Qg Jm (Qg (Qk YU Jm (Zm XUa rfl (Z.str) XZa (Qg (Qk QD (Qk QH (pv 0) Qc) Qc) Qd))) Qd))) Qd)))) Qs)
  (Qb (QN (Qu Ji (Qk QD (Qk QH (pv 0) Qc) Qc) Qc (Qz _)) (Qe (QT (XC Cn Co Cp Zn (pv 1) (Qg (Zd (Qg Jm (Qg (Zd (Qg ZG (Qg (Zd (Qg (Qk QD (Qk QH (pv 0) Qc) Qc) (Qg Jm Qd))) Qd))) Qd))) Qd)))) Qs)
  (Qe (Qp (Zm Qsa rfl (Z.tuple) JNa (Qg (pv 1) Qd)))))))),?_⟩
 refine Qn (σ:=[some (.int c),Vo]) rfl ?_
 refine Yvb λR hR=>?_
 have f1:∀ p H1 xs,Jj H 3 p H1 xs->xs.length<=1->R [some (.int c),some (.ref p)] H1:=by
  intro p H1 xs c1 l1;refine hR _ _ (Qbb λR2 gO=>?_)
  have f2:∀ H1 xs,Jj H 3 p H1 xs->xs.length<=2->R2 [some (.int c),some (.ref p)] H1:=by
   intro H1 xs c2 l2;refine gO _ _ (Qbb λR3 qN=>?_)
   have f3:∀ H1 xs,Jj H 3 p H1 xs->xs.length<=3->R3 [some (.int c),some (.ref p)] H1:=by
    intro H1 xs c3 l3;refine qN _ _ ?_
    walk_at "rd";exact⟨_,.inl ⟨SqL.of c3.at_,λr hr=>q r _ ((c3.same).trans (Qh hr _)) (.t Qa λx hx=>(c3.fz x hx).same (Qh hr _)) ⟨_,Qa,l3⟩⟩⟩
   clear qN gO;walk_at "rd";refine⟨by walk_at "side",Jo (λ_=>?_) λ_=>?_⟩
   ·refine⟨.inl ⟨rfl,_,SqL.of c2.at_⟩,by walk_at "side",Jp,λpa ha=>⟨Jp,λpb hb=>⟨Jp,λpc hc=>⟨_,Qh hc _ _ _ (Qh hb _ _ _ (Qh ha _ _ _ c2.at_)),Qw #[0],?_⟩⟩⟩⟩
    exact f3 _ _ (Jj.nest (n:=0) (.str (LD "zz")) .non (.int (c / 24 % 90)) (.str (LD "x")) c2 ha hb hc) (by simp;lia)
   ·exact f3 _ _ c2 #[0]
  clear gO hR;walk_at "rd";refine⟨by walk_at "side",Jo (λ_=>?_) λ_=>?_⟩
  ·refine⟨.inl ⟨rfl,_,SqL.of c1.at_⟩,by walk_at "side",Xoc #[0],XKb #[0],Jp,λp1 aZ=>⟨_,Qh aZ _ _ _ c1.at_,Qw #[0],?_⟩⟩
   exact f2 _ _ (Jj.pair (.str (LD "b")) (.str (LD "x "++LD (toString (c / 6 % 1000)))) c1 aZ) (by simp;lia)
  ·exact f2 _ _ c1 #[0]
 clear hR;walk_at "rd";refine⟨by decide,λp hp=>?_⟩
 have c0:=Jj.start (n:=3) hp;refine Jo (λ_=>?_) λ_=>?_
 ·refine⟨.inl ⟨rfl,_,SqL.of c0.at_⟩,by walk_at "side",Jp,λp0 i6=>⟨_,Qh i6 _ _ _ c0.at_,Qw #[2],?_⟩⟩
  exact f1 _ _ _ (Jj.pair (.str (LD "ab")) (.int (c / 2 % 2000 - 1000)) c0 i6) #[2]
 ·exact f1 _ _ _ c0 #[2]
theorem YY(h:Zl v):∃ k:Key,v=kV k:=by
 cases v with
 | int n=>exact⟨.inl n,rfl⟩
 | str z=>exact⟨.inr z,rfl⟩
 | _=>exact h.elim
theorem XJa(h:Zl v):Pl.QU v:=by
 cases v with
 | int n=>exact h
 | str z=>exact h
 | _=>exact h.elim
theorem ZQc{k:Key}{p:Key×V}(h:p∈ZX ae k v):p=(k,v)\/p∈ae:=by
 unfold ZX at h
 split at h
 ·obtain⟨q,hq,e⟩:=mem_map.mp h
  split at e
  ·rename_i ek
   subst e;exact .inl (by rw[ek])
  ·subst e
   exact .inr hq
 ·rcases mem_append.mp h with h | h
  ·exact .inr h
  ·exact .inl (by simpa using h)
theorem JRb{k:Key}(h:(ae.map Cs).Nodup):((ZX ae k v).map Cs).Nodup:=by
 unfold ZX
 split
 ·rw[map_map]
  have e:ae.map (Cs ∘ λq=>if q.1=k then (q.1,v) else q)=ae.map Cs:=map_congr_left λq _=>by
   show(if q.1=k then (q.1,v) else q).1=q.1
   split <;> rfl
  rw[e];exact h
 ·rename_i hn
  rw[Dd,Ci];refine⟨h,by simp,λa ha b hb=>?_⟩
  have hb:b=k:=by simpa using hb
  subst hb;intro z;subst z;obtain⟨q,hq,e⟩:=mem_map.mp ha;exact hn (any_eq_true.mpr ⟨q,hq,decide_eq_true e⟩)
theorem Yxa{a b:Key}(h:kV a=kV b):a=b:=by
 cases a <;> cases b <;> cases h <;> rfl
def Z5a:V->Bool | .int _=>true | _=>false
def Z6a:V->Bool | .str _=>true | _=>false
theorem JSb{l:List V}(h:∀ v∈l,Zl v):(l.filter Z5a++l.filter Z6a).Perm l:=by
 have e:l.filter Z6a=l.filter (λv=>!Z5a v):=filter_congr λv hv=>by
  have:=h v hv;cases v <;> first | rfl | exact this.elim
 rw[e];exact filter_append_perm _ _
theorem ZFb{K:VC}:UU K (.type "int") (.type "int")=some true:=by rfl
theorem ZGb{K:VC}:UU K (.type "str") (.type "int")=some false:=by rfl
theorem XLb{K:VC}{k:Key}(q:Q (.bl (Z5a (kV k))) H):Y5b K [kV k,.ty "int"] H Q:=by
 cases k with
 | inl n=>exact Yo (.int n) ZFb q
 | inr z=>exact Yo (.str z) ZGb q
theorem XMb{K:VC}{k:Key}(q:Q (.bl (Z6a (kV k))) H):Y5b K [kV k,.ty "str"] H Q:=by
 cases k with
 | inl n=>exact Yo (.int n) XZ q
 | inr z=>exact Yo (.str z) X2 q
theorem Yya{H2:Hp}{d:Vh}{x y:HO}(n:H1 d=some y)(s2:Ql (upd H1 d x) H2):Ql H1 (upd H2 d y):=λb o hb=>by
 by_cases z:b=d
 ·subst z;rw[n]at hb;rw[Qa,hb]
 ·rw[Qf z];exact s2 b o (by rw[Qf z];exact hb)
theorem YKc{ys:List V}(hk:∀ v∈ys,Zl v)(ho:(∀ v∈ys,∃ n,v=.int n)\/∀ v∈ys,∃ z,v=.str z)(nd:ys.Nodup)(h:ys.Pairwise λa b=>ltP b a=false):ys.Pairwise λa b=>Pl.ltV a b=true:=by
 refine Ct (λ{a b} ha hb hab=>?_) (h.and nd)
 obtain⟨h1,h2⟩:=hab;have e:Pl.ltV b a=false:=by
  rcases ho with ho | ho
  ·obtain⟨x,rfl⟩:=ho a ha
   obtain⟨y,rfl⟩:=ho b hb;rw[Pl.Yjb];exact h1
  ·obtain⟨x,rfl⟩:=ho a ha
   obtain⟨y,rfl⟩:=ho b hb;rw[Pl.Ykb];exact h1
 cases e2:Pl.ltV a b with
 | true=>rfl
 | false=>exact(h2 (Pl.tri (XJa (hk a ha)) (XJa (hk b hb)) e2 e)).elim
structure JTb(H:Hp)(ae:List (Key×V))(ks xs:List V):Prop where
 len:xs.length=ks.length
 at_:∀ (i:Nat) x,xs[i]?=some x->∃ a k v,x=.ref a/\ks[i]?=some (kV k)/\H a=some (.tup [kV k,v])/\(k,v)∈ae
 up:ks.Pairwise λa b=>Pl.ltV a b=true
 perm:ks.Perm (ae.map λp=>kV p.1)
theorem ZRc{k:Key}{w':V}(h:(k,w')∈ae):∃ w,Q4 ae k=some w/\(k,w)∈ae:=by
 unfold Q4;cases e:ae.find? λkv=>decide (kv.1=k) with
 | none =>
  have:=find?_eq_none.mp e _ h
  simp at this
 | some p =>
  have h1:=find?_some e
  have h2:=mem_of_find?_eq_some e
  have h1:p.1=k:=by simpa using h1
  exact⟨p.2,rfl,by rw[<- h1];exact h2⟩
inductive Zq(K:VC)(vs:List V)(H:Hp)(Q:VK)(E:XK):Prop
 | mk:∀ d ae,vs=[.ref d]->H d=some (.dK ae)->ae.length<=400->(∀ p∈ae,Zl (kV p.1))->(ae.map Cs).Nodup->(∀ r H' xs ks,Ql H H'->H r=Vo->H' r=some (.lst xs)->JTb H' ae ks xs->Q (.ref r) H')->Zq K vs H Q E
seal PE PT PW PA PS PSs PI PG QY PGs PO in
theorem Y7a(Z:Zs mg)(T:Tx K mg CT cs ob)(F:Fun K "_law_risen" "_law_risen" ZD f fd):QB P w K mg base CX0 1 f fd ["_law_known"] (Zq K):=by
 refine F.ok Yu (λvs H Q E h=>?_) (λam A outer s H vs Q E hr h=>?_)
 ·walk_at "n"
 obtain⟨d,ae,rfl,g1,l1,k1,vL,q⟩:=h;refine⟨_,(Qb (Qj 1 Yu.nd (QR Y2 rfl (Z.sorted) YG (Qg (Yob (YE ["_law_known","_law_numbers","_law_texts"] rfl (JOa (N:=["_law_known","_law_numbers","_law_texts"]) (dsc:=Qi ZD) rfl rfl (by decide +kernel)) (Ynb (pv 0)) (λ_ _ _ _ _=>(XYa (Zr (QR (r:=Y5b K) ZS rfl (Z.isinstance) Zo (Qg (pv 0) (Qg (Qca rfl (Z.int) Xfc (v:=.ty "int") rfl) Qd))) (λ_=>rfl)))) (λ_ _ _ _ _=>(pv 0)))) Qd)))
  (Qb (Qj 2 Yu.nd (QR Y2 rfl (Z.sorted) YG (Qg (Yob (YE ["_law_known","_law_numbers","_law_texts"] rfl (JOa (N:=["_law_known","_law_numbers","_law_texts"]) (dsc:=Qi ZD) rfl rfl (by decide +kernel)) (Ynb (pv 0)) (λ_ _ _ _ _=>(XYa (Zr (QR (r:=Y5b K) ZS rfl (Z.isinstance) Zo (Qg (pv 0) (Qg (Qca rfl (Z.str) XZa (v:=.ty "str") rfl) Qd))) (λ_=>rfl)))) (λ_ _ _ _ _=>(pv 0)))) Qd)))
  (Qe (Qp (YE ["_law_known","_law_numbers","_law_texts"] rfl (JOa (N:=["_law_known","_law_numbers","_law_texts"]) (dsc:=Qi ZD) rfl rfl (by decide +kernel)) (ZC (Qk XD (pv 1) (pv 2))) (λ_ _ _ _ _=>Jqa) (λ_ _ _ _ _=>(Zd (Qg (pv 0) (Qg (Ycb hr.u1 (pv 1) (pv 0) (λ_ _=>rfl)) Qd))))))))),?_⟩
 refine Qn (σ:=[some (.ref d),Vo,Vo]) rfl ?_
 walk_at "rd";have kl:∀ v∈ae.map λq=>kV q.1,Zl v:=λv hv=>by
  obtain⟨r,hr,rfl⟩:=mem_map.mp hv;exact k1 r hr
 have qO:(ae.map λq=>kV q.1).Nodup:=by
  have:=List.Pairwise.map (S:=(·≠·)) kV (λa b h e=>h (Yxa e)) vL
  rw[map_map]at this;exact this
 refine⟨ae,g1,λob nf=>Zdb Z5a (Z7 #[0]) Qa (λk v H3 R hm s3 hR=>?_) λD H2 hD s2 hy=>?_⟩
 ·walk_at "rd"
  exact XLb ⟨_,rfl,hR _ (Ql.refl _)⟩
 have dD:D≠d:=λz=>by rw[z,Qa]at hD;cases hD
 have lf:∀ p:V->Bool,((ae.map λq=>kV q.1).filter p).length<=400:=λp=>VI (OR _ _) (by rw[UO];lia)
 have kf:∀ p:V->Bool,∀ v∈(ae.map λq=>kV q.1).filter p,Zl v/\p v=true:=λp v hv=>by
  obtain⟨h1,h2⟩:=mem_filter.mp hv;exact⟨kl v h1,h2⟩
 have i1:∀ v∈(ae.map λq=>kV q.1).filter Z5a,∃ n,v=.int n:=λv hv=>by
  have:=(kf _ v hv).2;cases v <;> first | exact⟨_,rfl⟩ | cases this
 have i2:∀ v∈(ae.map λq=>kV q.1).filter Z6a,∃ n,v=.str n:=λv hv=>by
  have:=(kf _ v hv).2;cases v <;> first | exact⟨_,rfl⟩ | cases this
 have t2:Ql H (upd H2 d (.dK ae)):=Yya g1 s2;refine⟨d,nf,ob,ae,s2 _ _ Qa,D,_,ltP,rfl,SqL.of (by rw[Qf dD];exact hy),by have:=lf Z5a;lia,JZa i1,λD2 H3 ys s3 kK nW pm so=>?_⟩
 have g3:H3 d=some (.dK ae):=s3 _ _ Qa;have qP:D2≠d:=λz=>by rw[z,g3]at nW;cases nW
 refine⟨ae,g3,λp9 vM=>Zdb Z6a (Z7 #[0]) Qa (λk v H3 R hm s3 hR=>?_) λE1 H4 hE s4 vN=>?_⟩
 ·walk_at "rd"
  exact XMb ⟨_,rfl,hR _ (Ql.refl _)⟩
 have dE:E1≠d:=λz=>by rw[z,Qa]at hE;cases hE
 have t4:Ql H (upd H4 d (.dK ae)):=(t2.trans s3).trans (Yya g3 s4);refine⟨d,vM,p9,ae,s4 _ _ Qa,E1,_,ltP,rfl,SqL.of (by rw[Qf dE];exact vN),by have:=lf Z6a;lia,QYc i2,λD3 H5 zs s5 qj vO cY vP=>?_⟩
 have l2:ys.length<=ae.length:=by rw[pm.length_eq];exact VI (OR _ _) (by rw[UO];exact Ut _)
 have l3:zs.length<=ae.length:=by rw[cY.length_eq];exact VI (OR _ _) (by rw[UO];exact Ut _)
 have g5:H5 d=some (.dK ae):=s5 _ _ Qa;have t5:=t4.trans s5;refine⟨D2,rfl,D3,rfl,ys,s5 _ _ (by rw[Qf qP];exact s4 _ _ (by rw[Qf qP];exact nW)),zs,vO,Z7 #[0],λp hp=>?_⟩
 have bb:(ys++zs).Perm (ae.map λp=>kV p.1):=(pm.append cY).trans (JSb kl)
 have up:(ys++zs).Pairwise λa b=>Pl.ltV a b=true:=by
  rw[pairwise_append];refine⟨YKc (λv hv=>(kf _ v (pm.mem_iff.mp hv)).1) (.inl λv hv=>i1 v (pm.mem_iff.mp hv)) (pm.nodup_iff.mpr (qO.filter _)) so,YKc (λv hv=>(kf _ v (cY.mem_iff.mp hv)).1) (.inr λv hv=>i2 v (cY.mem_iff.mp hv)) (cY.nodup_iff.mpr (qO.filter _)) vP,λa ha b hb=>?_⟩
  obtain⟨x,rfl⟩:=i1 a (pm.mem_iff.mp ha);obtain⟨y,rfl⟩:=i2 b (cY.mem_iff.mp hb);exact Pl.QJc _ _
 have lk:(ys++zs).length<=400:=by rw[bb.length_eq,UO];exact l1
 generalize ys++zs=ks at bb up lk ⊢;have s6:Ql H5 (upd H5 p (.lst ks)):=Qh hp _;have g6:upd H5 p (.lst ks) p=some (.lst ks):=Qa;have np:H p=Vo:=by
  cases e:H p with
  | none=>rfl
  | some o=>rw[t5 _ _ e]at hp;cases hp
 generalize upd H5 p (.lst ks)=H6 at s6 g6 ⊢;refine⟨⟨_,SqL.of g6⟩,Xsa ks (λH' i v=>∃ a k w,v=.ref a/\ks[i]?=some (kV k)/\H' a=some (.tup [kV k,w])/\(k,w)∈ae) (λH H' i v st ⟨a,k,w,e1,e2,e3,e4⟩=>⟨a,k,w,e1,e2,st _ _ e3,e4⟩) (SqL.of g6) (Z7 #[0]) (λi x H7 R hx s7 hR=>?_) λr H7 xs bT s7 ii le pe=>?_⟩
 ·obtain⟨⟨k,w'⟩,hm,ek⟩:=mem_map.mp (bb.mem_iff.mp (Om hx))
  obtain⟨w,hw,vQ⟩:=ZRc hm;subst ek;walk_at "rd";exact⟨w,hw ▸ YD.k (k:=k) ((s6.trans s7) _ _ g5),Jp,λq1 eQ=>hR _ _ ⟨q1,k,w,rfl,hx,Qa,vQ⟩ (Qh eQ _)⟩
 ·refine q r H7 xs ks (t5.trans (s6.trans s7)) ?_ ii ⟨le,pe,up,bb⟩
  cases e:H r with
  | none=>rfl
  | some o=>rw[(t5.trans s6) _ _ e]at bT;cases bT
theorem Zf{d:Vh}{o:HO}(h:H d=some (.dK ae)):Zb H (upd H d o):=λb xs hb=>by
 rw[Qf (JP hb h (by intro z;cases z))];exact hb
theorem ZSc{s:Int}(hi : -(10 ^ 21) < s/\s < 10 ^ 21/\i < 1000):Zl (.int (s+(0+(i:Int)) * (1+c % 5))):=by
 have h0:0<=(0+(i:Int)) * (1+c % 5):=Int.mul_nonneg #[0] #[0]
 have h1:(0+(i:Int)) * (1+c % 5)<=1000 * 5:=Int.mul_le_mul #[0] #[0] #[0] #[1]
 show _/\_
 lia
structure DkD(H:Hp)(ae:List (Key×V))(es:List Dt):Prop where
 row:∀ d∈es,Yc d
 up:UpR ltK es
 nd:(ae.map Cs).Nodup
 to:∀ k w,(k,w)∈ae->∃ c,TD H 5 (.t c) w/\Dt.t [.v (kV k),.t c]∈es
 of:∀ d∈es,∃ k w c,(k,w)∈ae/\d=.t [.v (kV k),.t c]/\TD H 5 (.t c) w
theorem DkD.sameT(h:DkD H ae es)(s:Zb H H'):DkD H' ae es :=
 ⟨h.row,h.up,h.nd,λk w hm=>let ⟨c,t,m⟩:=h.to k w hm;⟨c,TD.sameT s 5 t,m⟩,λd hd=>let ⟨k,w,c,a,b,t⟩:=h.of d hd;⟨k,w,c,a,b,TD.sameT s 5 t⟩⟩
theorem DkD.key(h:DkD H ae es){k:Key}{w:V}(hm:(k,w)∈ae):Zl (kV k):=by
 obtain⟨c,_,m⟩:=h.to k w hm;exact(h.row _ m).ent.key
theorem Qzb(nd:(ae.map Cs).Nodup){k:Key}{w:V}(h:(k,w)∈ae):Q4 ae k=some w:=by
 have:=YK Cs nd h;unfold Q4;rw[this];rfl
theorem QAb{k:Key}{w:V}(h:Q4 ae k=some w):(k,w)∈ae:=by
 unfold Q4 at h;rw[DH]at h;obtain⟨⟨k',w'⟩,h1,h2⟩:=h;have h3:=find?_some h1
 simp only[decide_eq_true_eq]at h3;dsimp only at h2;subst h2 h3;exact mem_of_find?_eq_some h1
theorem Yfc{k:V}{row:Dt}(jq:∀ d∈es,Yc d)(up:UpR ltK es)(hk:Zl k):∃ es',XBb ltK k row es es':=by
 induction es with
 | nil=>exact⟨[row],[],[],rfl,.inl rfl,(λa h=>nomatch h),λa h=>nomatch h⟩
 | cons x r ih =>
  have ur:=pairwise_cons.mp up
  rcases ltK.tri (jq x #[2]).ent.key hk with z | z | z
  ·obtain⟨es',A,C,e,e2,h1,h2⟩:=ih (λd hd=>jq d (VN _ hd)) ur.2
   refine⟨x::es',x::A,C,by rw[e];rfl,?_,λa ha=>?_,h2⟩
   ·rcases e2 with e2 | ⟨o,e2,ho⟩
    ·exact .inl (by rw[e2];rfl)
    ·exact .inr ⟨o,by rw[e2];rfl,ho⟩
   ·rcases mem_cons.mp ha with y | y
    ·rw[y];exact z
    ·exact h1 a y
  ·exact⟨row::r,[],r,rfl,.inr ⟨x,rfl,z⟩,(λa h=>nomatch h),λc hc=>by rw[<- z];exact ur.1 c hc⟩
  ·refine⟨row::x::r,[],x::r,rfl,.inl rfl,(λa h=>nomatch h),λc hc=>?_⟩
   rcases mem_cons.mp hc with y | y
   ·rw[y];exact z
   ·exact ltK.tr z (ur.1 c y)
theorem DkD.put{es':List Dt}{k:Key}{w:V}{c:List Dt}(h:DkD H ae es)(hk:Zl (kV k))(t:TD H 5 (.t c) w)(p:XBb ltK (kV k) (.t [.v (kV k),.t c]) es es'):DkD H (ZX ae k w) es':=by
 have mem:∀ k' w',(k',w')∈ZX ae k w↔(k'=k/\w'=w)\/(k'≠k/\(k',w')∈ae):=λk' w'=>by
  unfold ZX
  by_cases e:(ae.any λx=>decide (x.1=k))=true
  ·rw[if_pos e,mem_map]
   constructor
   ·rintro⟨⟨k2,w2⟩,hm,e2⟩
    dsimp only at e2
    split at e2
    ·rename_i z;injection e2 with a b;exact .inl ⟨by rw[<- a];exact z,b.symm⟩
    ·rename_i z;injection e2 with a b;subst a b;exact .inr ⟨z,hm⟩
   ·rintro(⟨rfl,rfl⟩ | ⟨ay,hm⟩)
    ·obtain⟨⟨k2,w2⟩,cV,e2⟩:=any_eq_true.mp e
     have e2:k2=k':=by simpa using e2
     exact⟨(k2,w2),cV,by dsimp only;rw[if_pos e2,e2]⟩
    ·exact⟨(k',w'),hm,by dsimp only;rw[if_neg ay]⟩
  ·rw[if_neg e,LK,Dg]
   constructor
   ·rintro(hm | e2)
    ·refine .inr ⟨λz=>e ?_,hm⟩
     exact any_eq_true.mpr ⟨(k',w'),hm,by simpa using z⟩
    ·injection e2 with a b;exact .inl ⟨a,b⟩
   ·rintro(⟨rfl,rfl⟩ | ⟨_,hm⟩)
    ·exact .inr rfl
    ·exact .inl hm
 refine⟨λd hd=>?_,p.up h.up rfl ltK.tr,JRb h.nd,λk' w' hm=>?_,λd hd=>?_⟩
 ·rcases(p.mem ltK.irr d).mp hd with z | z
  ·rw[z];exact⟨_,c,rfl,hk⟩
  ·exact h.row d z.1
 ·rcases(mem k' w').mp hm with ⟨rfl,rfl⟩ | ⟨ay,hm⟩
  ·exact⟨c,t,(p.mem ltK.irr _).mpr (.inl rfl)⟩
  ·obtain⟨c',t',m'⟩:=h.to k' w' hm
   exact⟨c',t',(p.mem ltK.irr _).mpr (.inr ⟨m',λz=>ay (Yxa z)⟩)⟩
 ·rcases(p.mem ltK.irr d).mp hd with z | ⟨z,ay⟩
  ·exact⟨k,w,c,(mem k w).mpr (.inl ⟨rfl,rfl⟩),z,t⟩
  ·obtain⟨k',w',c',hm,rfl,t'⟩:=h.of d z
   exact⟨k',w',c',(mem k' w').mpr (.inr ⟨λy=>ay (by rw[y];rfl),hm⟩),rfl,t'⟩
theorem DkD.drop{es':List Dt}{k:Key}(h:DkD H ae es)(p:Ztc (kV k) es es'):DkD H (J3 ae k) es':=by
 have mem:∀ x,x∈J3 ae k↔x∈ae/\x.1≠k:=λx=>by
  unfold J3;rw[mem_filter];simp
 refine⟨λd hd=>h.row d ((p.mem h.up ltK.irr d).mp hd).1,p.up h.up,?_,λk' w' hm=>?_,λd hd=>?_⟩
 ·unfold J3
  exact(filter_sublist.map _).nodup h.nd
 ·obtain⟨h1,h2⟩:=(mem _).mp hm
  obtain⟨c',t',m'⟩:=h.to k' w' h1;exact⟨c',t',(p.mem h.up ltK.irr _).mpr ⟨m',λz=>h2 (Yxa z)⟩⟩
 ·obtain⟨h1,ay⟩:=(p.mem h.up ltK.irr d).mp hd
  obtain⟨k',w',c',hm,rfl,t'⟩:=h.of d h1;exact⟨k',w',c',(mem _).mpr ⟨hm,λy=>ay (by rw[<- y];rfl)⟩,rfl,t'⟩
theorem JTb.dk{ks:List V}(h:JTb H ae ks xs)(nd:(ae.map Cs).Nodup)(hk:∀ p∈ae,Zl (kV p.1))(hc:∀ p∈ae,∃ c,TD H 5 (.t c) p.2):∃ es,DkD H ae es/\Vm (λd v=>TD H 6 d v) es xs:=by
 obtain⟨es,re,pd⟩:=TDs.of (H:=H) (n:=6) (Pd:=λd=>∃ k w c,(k,w)∈ae/\d=Dt.t [.v (kV k),.t c]/\TD H 5 (.t c) w) (xs:=xs) λx hx=>by
  obtain⟨i,hi⟩:=mem_iff_getElem?.mp hx;obtain⟨a,k,w,rfl,_,ha,hm⟩:=h.at_ i x hi;obtain⟨c,t⟩:=hc _ hm;exact⟨_,TD.pair ha (.ofV (XIa (hk _ hm))) t,k,w,c,hm,rfl,t⟩
 have le:=Vn re;have dA:∀ (i:Nat) d,es[i]?=some d->ks[i]?=some (Q6 d):=λi d hd=>by
  have hi:=(List.getElem?_eq_some_iff.mp hd).1
  have hx:xs[i]?=some (xs[i]'#[0]):=Lq _
  obtain⟨a,k,w,ex,gH,ha,hm⟩:=h.at_ i _ hx;have tx:=Qv re hd hx;obtain⟨k',w',c,_,rfl,_⟩:=pd d (Om hd);obtain⟨a',u1,u2,ea,mM,x1,_⟩:=TD.pair_of (n:=5) tx;rw[ex]at ea;cases ea;rw[ha]at mM;cases mM;obtain⟨_,e⟩:=x1.flat;rw[gH,e];rfl
 refine⟨es,⟨λd hd=>?_,?_,nd,λk w hm=>?_,pd⟩,re⟩
 ·obtain⟨k,w,c,hm,rfl,_⟩:=pd d hd
  exact⟨kV k,c,rfl,hk _ hm⟩
 ·refine pairwise_iff_getElem.mpr λi j hi hj cr=>?_
  obtain⟨li,e1⟩:=List.getElem?_eq_some_iff.mp (dA i _ (Lq hi))
  obtain⟨lj,e2⟩:=List.getElem?_eq_some_iff.mp (dA j _ (Lq hj))
  have:=pairwise_iff_getElem.mp h.up i j li lj cr;rw[e1,e2]at this;have kk:∀ d∈es,Zl (Q6 d):=λd hd=>by obtain⟨k,w,c,hm,rfl,_⟩:=pd d hd;exact hk _ hm
  exact⟨kk _ (Lo hi),kk _ (Lo hj),this⟩
 ·have:kV k∈ks:=h.perm.mem_iff.mpr (mem_map.mpr ⟨(k,w),hm,rfl⟩)
  obtain⟨i,hi,e⟩:=mem_iff_getElem.mp this;have lx:=h.len;have hd:es[i]?=some (es[i]'#[0]):=Lq _
  have cy:=dA i _ hd;rw[Lq hi,e]at cy
  obtain⟨k',w',c,mN,ed,t⟩:=pd _ (Om hd);rw[ed]at cy;injection cy with cy
  have ek:k=k':=Yxa cy;subst ek;have ew:w=w':=by have a:=Qzb nd hm;rw[Qzb nd mN]at a;injection a with a;exact a.symm
  subst ew;exact⟨c,t,by rw[<- ed];exact Om hd⟩
def YR(H:Hp)(ae:List (Key×V)):Prop:=∃ es,DkD H ae es
theorem YR.nil:YR H []:=⟨[],λd h=>(nomatch h),.nil,.nil,λk w h=>(nomatch h),λd h=>(nomatch h)⟩
theorem ZTc(fz:FzH H 4 (.ref r)):∃ cd,TD H 4 (.t cd) (.ref r):=by
 obtain⟨d,td⟩:=fz.td;cases d with
 | v z=>obtain⟨hz,e⟩:=td.flat;rw[<- e]at hz;cases hz
 | l ds=>cases td.h
 | t cd=>exact⟨cd,td⟩
theorem YR.put{k:Key}(h:YR H ae)(s:Zb H H')(hk:Zl (kV k))(hv:FzH H' 4 (.ref r)):YR H' (ZX ae k (.ref r)):=by
 obtain⟨es,dk⟩:=h;have fE:=dk.sameT s;obtain⟨cd,tc⟩:=ZTc hv;obtain⟨es',pr⟩:=Yfc (row:=.t [.v (kV k),.t cd]) fE.row fE.up hk;exact⟨es',DkD.put fE hk (TD.mono 4 #[1] tc) pr⟩
def XNb(H:Hp)(ae:List (Key×V)):Prop:=∀ q∈ae,∃ b zs,q.2=V.ref b/\H b=some (.tup zs)/\zs.length<=3
theorem XNb.put{k:Key}(h:XNb H ae)(s:Zb H H')(hv:∃ zs,H' r=some (.tup zs)/\zs.length<=3):XNb H' (ZX ae k (.ref r)):=λq hq=>by
 rcases ZQc hq with e | e
 ·obtain⟨zs,a,b⟩:=hv;exact⟨r,zs,by rw[e],a,b⟩
 ·obtain⟨b,zs,e1,e2,e3⟩:=h q e;exact⟨b,zs,e1,s _ _ e2,e3⟩
def QGd(es:List Dt):Prop:=∀ k c,Dt.t [.v k,.t c]∈es->c.length<=3
inductive Xr(K:VC)(vs:List V)(H:Hp)(Q:VK)(E:XK):Prop
 | mk:∀ (a:Vh) (ns:List Int),vs=[.ref a]->SqL K H a (ns.map V.int)->ns.length<=63->(∀ r H' xs es,Ql H H'->H r=Vo->H' r=some (.lst xs)->Vm (λd v=>TD H' 6 d v) es xs->(∀ d∈es,Yc d)->UpR ltK es->es.length<=91->QGd es->Q (.ref r) H')->Xr K vs H Q E
seal PE PT PW PA PS PSs PI PG QY PGs PO in
theorem QBb(Z:Zs mg)(T:Tx K mg CT cs ob)(Xs:Cal P w K mg base 1 "_law_risen" ["_law_known"] (Zq K))(Zg:Cal P w K mg base 1 "_law_cell" ["_law_script","_law_k"] (Jc K))(Jd:Cal P w K mg base 1 "_law_cells" ["_law_cell_here"] (Jy K))(nX:Cal P w K mg base 2 "_law_key" ["_law_cell_here"] (Yl K))(F:Fun K "_law_rows" "_law_rows" XV f fd):QB P w K mg base CX0 3 f fd ["_law_script"] (Xr K):=by
 refine F.ok Z5 (λvs H Q E h=>?_) (λam A outer s H vs Q E hr h=>?_)
 ·walk_at "n"
 obtain⟨a,ns,rfl,hS,ij,q⟩:=h;refine⟨_,(Qb (Qj 1 Z5.nd Zaa)
  (Qb (QN (Qu Ji (Qk QD (Qm Zg hr (Qg (pv 0) (Qg Qc Qd))) Qc) Qc (Qz _)) (Qb (Qj 2 Z5.nd (Qk J2 (Qk QD (Qm Zg hr (Qg (pv 0) (Qg Qc Qd))) (Qk JFa Qc Qc)) (Qk JFa Qc Qc)))
  (Qe (ZO Cm rfl (Xea rfl (Z.range) (Qg (Qk QD (Qm Zg hr (Qg (pv 0) (Qg Qc Qd))) Qc) Qd)) (Zc (i:=3) Z5.nd rfl (OJ rfl)) (Qe (YZ hr.u1 (pv 1) (Qk ZY (pv 2) (Qk Z1 (pv 3) (Qk ZY Qc (Qk QD (Qm Zg hr (Qg (pv 0) (Qg Qc Qd))) Qc)))) (Qm Jd hr (Qg (Qk ZY (pv 2) (Qk Z1 (pv 3) Qc)) Qd)) rfl))))) (Qe (ZO Cm rfl (ZC (YC Qea (pv 0) (Yf Qc) (Yf Qc))) (Zc (i:=4) Z5.nd rfl (OJ rfl)) (Qe (YZ hr.u1 (pv 1) (Qm nX hr (Qg (pv 4) Qd)) (Qm Jd hr (Qg (Qk QH (pv 4) Qc) Qd)) rfl)))))
  (Qe (Qp (Qm Xs hr (Qg (pv 1) Qd)))))),?_⟩
 refine Qn (σ:=[some (.ref a),Vo,Vo,Vo,Vo]) rfl ?_
 walk_at "rd";intro d fF;have s0:Ql H (upd H d (.dK [])):=Qh fF _;have g0:upd H d (.dK []) d=some (.dK []):=Qa;generalize upd H d (.dK [])=H0 at s0 g0 ⊢;have fin:∀ (H1:Hp) (ae:List (Key×V)),Ql H H1->H1 d=some (.dK ae)->ae.length<=91->YR H1 ae/\XNb H1 ae->Zq K [.ref d] H1 Q E0:=λH1 ae s1 g1 l1 ⟨⟨es,dk⟩,few⟩=>⟨d,ae,rfl,g1,by lia,λp hp=>dk.key (w:=p.2) hp,dk.nd,λr H' xs ks s2 bT hr ra=>?_⟩
 ·refine⟨a,ns,0,rfl,s0.seq hS,ij,λc0=>⟨_,rfl,?_⟩⟩
  refine Jo (λ_=>?_) λ_=>?_
  ·refine⟨a,ns,1,rfl,s0.seq hS,ij,λc1=>⟨by walk_at "side",_,rfl,by decide,by walk_at "side",?_⟩⟩
   refine⟨a,ns,2,rfl,s0.seq hS,ij,λc2=>⟨_,rfl,by lia,by lia,?_⟩⟩
   refine ZIa (λi σ' H'=>∃ (ae:List (Key×V)) (x3:Option V),σ'=[some (.ref a),some (.ref d),some (.int (c1 % 10 ^ 20 - 10 ^ 10)),x3,Vo]/\Ql H H'/\H' d=some (.dK ae)/\ae.length<=i/\YR H' ae/\XNb H' ae) ⟨[],_,rfl,s0,g0,Ux _,YR.nil,(λ_ h=>nomatch h)⟩ ?_ ?_
   ·rintro i σ' H' hi ⟨ae,x3,rfl,s1,g1,l1,k1⟩
    walk_at "rd";refine⟨by walk_at "side",_,rfl,λr H2 s2 fz zf=>?_⟩
    have g2:=s2 _ _ g1;refine⟨a,ns,1,rfl,s2.seq (s1.seq hS),ij,λc3=>⟨_,rfl,by walk_at "side",_,Jga.k (k:=.inl _) g2 (Qw #[0]),YH (s1.trans s2) fF,_,Qa,VI (Za _ _ _) #[0],?_⟩⟩
    exact⟨k1.1.put (s2.t.trans (Zf g2)) (ZSc #[0]) (fz.sameT (Zf g2)),k1.2.put (s2.t.trans (Zf g2)) (let ⟨z,a,b⟩:=zf;⟨z,Zf g2 _ _ a,b⟩)⟩
   ·rintro σ' H1 ⟨ae,x3,rfl,s1,g1,l1,k1⟩
    walk_at "rd";exact fin H1 ae s1 g1 #[0] k1
  ·refine⟨_,s0.seq hS,λp hp=>?_⟩
   obtain⟨ms,em,lm,hm⟩:=Q1b V.int ns (some 3) (some 63);rw[em];have jt:Ql H (upd H0 p (.lst (ms.map V.int))):=s0.trans (Qh hp _);have ju:upd H0 p (.lst (ms.map V.int)) d=some (.dK []):=Qh hp _ _ _ g0;have gp:upd H0 p (.lst (ms.map V.int)) p=some (.lst (ms.map V.int)):=Qa;have dp:p≠d:=λz=>by rw[z,g0]at hp;cases hp
   generalize upd H0 p (.lst (ms.map V.int))=H00 at jt ju gp ⊢;refine⟨⟨_,SqL.of gp⟩,?_⟩
   refine ZJ (ms.map V.int) (λi σ' H'=>∃ (ae:List (Key×V)) (x4:Option V),σ'=[some (.ref a),some (.ref d),Vo,Vo,x4]/\Ql H H'/\H' p=some (.lst (ms.map V.int))/\H' d=some (.dK ae)/\ae.length<=i/\YR H' ae/\XNb H' ae) ⟨[],_,rfl,jt,gp,ju,Ux _,YR.nil,(λ_ h=>nomatch h)⟩ (λi σ' H' _ ⟨_,_,_,_,h,_⟩=>SqL.of h) ?_ ?_
   ·rintro i x σ' H' hx ⟨ae,x4,rfl,s1,fG,g1,l1,k1⟩
    have hi:i < 63:=by
     have:=(List.getElem?_eq_some_iff.mp hx).1
     rw[UO]at this
     lia
    rw[Oj]at hx
    obtain⟨n,_,rfl⟩:=Option.map_eq_some_iff.mp hx;walk_at "rd";refine⟨by walk_at "side",_,rfl,λr H2 s2 fz zf=>⟨n,rfl,λy hy=>?_⟩⟩
    have g2:=s2 _ _ g1;obtain⟨k,rfl⟩:=YY hy;refine⟨_,Jga.k g2 (Qw #[0]),YH (s1.trans s2) fF,by rw[Qf dp];exact s2 _ _ fG,_,Qa,VI (Za _ _ _) #[0],?_⟩
    exact⟨k1.1.put (s2.t.trans (Zf g2)) hy (fz.sameT (Zf g2)),k1.2.put (s2.t.trans (Zf g2)) (let ⟨z,a,b⟩:=zf;⟨z,Zf g2 _ _ a,b⟩)⟩
   ·rintro σ' H1 ⟨ae,x4,rfl,s1,fG,g1,l1,k1⟩
    rw[UO]at l1;walk_at "rd";exact fin H1 ae s1 g1 #[0] k1
 ·obtain⟨nY,ik,jv⟩:=ra.dk dk.nd (λq hq=>dk.key (w:=q.2) hq) λq hq=>by obtain⟨c,t,_⟩:=dk.to q.1 q.2 hq;exact⟨c,t.same s2⟩
  have vR:=Vn jv;have vS:ks.length=ae.length:=by rw[ra.perm.length_eq,UO]
  have vT:=ra.len;refine q r H' xs nY (s1.trans s2) ?_ hr jv ik.row ik.up #[0] (λk c hm=>?_)
  ·cases e:H r with
   | none=>rfl
   | some o=>rw[s1 _ _ e]at bT;cases bT
  ·obtain⟨k',w',c',hk,e,td⟩:=ik.of _ hm
   injection e with e
   injection e with _ e
   injection e with e _
   injection e with e
   subst e;obtain⟨b,zs,eb,hb,lz⟩:=few _ hk;dsimp only at eb;subst eb;obtain⟨_,b',zs',_,vU,bE,pz⟩:=TD.tup td;cases vU;rw[s2 _ _ hb]at bE;cases bE;have:=Vn pz
   lia
def oD:Option (List Dt)->Dt
 | none=>.v .non
 | some c=>.t c
theorem XUc{a b:Option (List Dt)}(h:oD a=oD b):a=b:=by
 cases a <;> cases b <;> first | rfl | (injection h with h;rw[h]) | (injection h)
def QYa(es:List Dt)(k:V):Option (List Dt)->Prop
 | none=>∀ d∈es,Q6 d≠k
 | some c=>Dt.t [.v k,.t c]∈es
theorem XVc(up:UpR ltK es){a b:Dt}(ha:a∈es)(hb:b∈es)(e:Q6 a=Q6 b):a=b:=by
 obtain⟨i,hi,ea⟩:=mem_iff_getElem.mp ha;obtain⟨j,hj,eb⟩:=mem_iff_getElem.mp hb
 rcases Nat.lt_trichotomy i j with h | h | h
 ·have:=pairwise_iff_getElem.mp up i j hi hj h
  rw[ea,eb,e]at this;exact absurd this (ltK.irr _)
 ·subst h;rw[<- ea,<- eb]
 ·have:=pairwise_iff_getElem.mp up j i hj hi h
  rw[ea,eb,e]at this;exact absurd this (ltK.irr _)
theorem QYa.det{k:V}(up:UpR ltK es){a b:Option (List Dt)}(h:QYa es k a)(h':QYa es k b):a=b:=by
 cases a with
 | none=>cases b with
  | none=>rfl
  | some c=>exact absurd rfl (h _ h')
 | some c=>cases b with
  | none=>exact absurd rfl (h' _ h)
  | some c' =>
   have:=XVc up h h' rfl;injection this with this
   injection this with _ this
   injection this with this
   injection this with this
   rw[this]
theorem QYa.ex(es:List Dt)(k:V)(h:∀ d∈es,Yc d):∃ o,QYa es k o:=by
 by_cases e:∃ d∈es,Q6 d=k
 ·obtain⟨d,hd,ed⟩:=e
  obtain⟨k',c,rfl,_⟩:=h d hd;have:k'=k:=ed;subst this;exact⟨some c,hd⟩
 ·exact⟨Vo,λd hd z=>e ⟨d,hd,z⟩⟩
def ChD(ob:Nat->Vh)(H:Hp)(a:Vh)(k:V)(o n:Option (List Dt)):Prop:=∃ ov nv,XIb ob H a k ov nv/\TD H 5 (oD o) ov/\TD H 5 (oD n) nv
theorem ChD.same{k:V}{o n:Option (List Dt)}(h:ChD ob H a k o n)(s:Ql H H'):ChD ob H' a k o n:=by
 obtain⟨ov,nv,h1,h2,h3⟩:=h;exact⟨ov,nv,h1.same s,h2.same s,h3.same s⟩
theorem XWc{k n:V}:stF d1 d2 c≠chF k o n:=λhf=>by
 have:=congrArg (UL ("key":Str)) hf;have e1:(stF d1 d2 c).lookup ("key":Str)=Vo:=rfl;have e2:(chF k o n).lookup ("key":Str)=some k:=rfl;rw[e1,e2]at this;cases this
theorem ChD.x{p:Vh}{k:V}{o n:Option (List Dt)}(h:ChD ob H a k o n)(hS:QG P w ob H p d1 d2 st c)(s:QS [p,d1,d2] H H'):ChD ob H' a k o n:=by
 obtain⟨ov,nv,⟨dx,h1⟩,h2,h3⟩:=h;have t:=Z9 hS s;refine⟨ov,nv,⟨dx,s _ _ (λz=>?_) h1⟩,TD.sameT t 5 h2,TD.sameT t 5 h3⟩
 obtain⟨kN,ho⟩:=hS.obj;simp only[Dh,D0,or_false]at z
 rcases z with z | z | z
 ·rw[z,ho]at h1
  injection h1 with h1
  injection h1 with _ _ hf
  exact XWc hf
 ·rw[z,hS.num]at h1;cases h1
 ·rw[z,hS.tol]at h1;cases h1
theorem JUb{k:V}(h:Zl k):∃ kk:Key,k=kV kk:=by
 cases k with
 | int n=>exact⟨.inl n,rfl⟩
 | str z=>exact⟨.inr z,rfl⟩
 | _=>exact h.elim
theorem ZUc{k:Key}(h:k∉ae.map Cs):Q4 ae k=Vo:=by
 cases e:Q4 ae k with
 | none=>rfl
 | some w=>exact(h (mem_map.mpr ⟨_,QAb e,rfl⟩)).elim
theorem QZa(nd:(ae.map Cs).Nodup):Ym [] ae=ae:=by
 suffices h:∀ (r p:List (Key×V)),((p++r).map Cs).Nodup->Ym p r=p++r by exact h ae [] (by simpa using nd)
 intro r
 induction r with
 | nil=>intro p _;simp[Ym]
 | cons x r ih =>
  intro p nd;have e:p++x::r=(p++[x])++r:=by simp
  have hx:x.1∉p.map Cs:=by
   rw[Dd,UM]at nd;intro h;exact(nodup_append.mp nd).2.2 x.1 h x.1 #[2] rfl
  show Ym (ZX p x.1 x.2) r=_;rw[QVb _ (ZUc hx),e];rw[e]at nd;exact ih _ nd
theorem Zua:∀ {es:List Dt} {xs:List V},Vm (λd v=>TD H 6 d v) es xs->(∀ d∈es,Yc d)->∃ ae:List (Key×V),Vm (λ(kv:Key×V) y=>∃ t,y=.ref t/\H t=some (.tup [kV kv.1,kv.2])) ae xs/\Vm (λd (kv:Key×V)=>∃ c,d=.t [.v (kV kv.1),.t c]/\TD H 5 (.t c) kv.2) es ae
 | _,_,.nil,_=>⟨[],.nil,.nil⟩
 | _,_,.cons (a:=d) (b:=x) r t,h=>by
  obtain⟨ae,p1,p2⟩:=Zua t λd hd=>h d (VN _ hd)
  obtain⟨k,c,ed,hk⟩:=h d VM;rw[ed]at r;obtain⟨b,v1,v2,eb,hb,w1,w2⟩:=TD.pair_of r;obtain⟨_,rfl⟩:=w1.flat;obtain⟨kk,ek⟩:=JUb hk;subst ek;exact⟨(kk,v2)::ae,.cons ⟨b,eb,hb⟩ p1,.cons ⟨c,ed,w2⟩ p2⟩
abbrev ZHb(H:Hp)(d:Dt)(kv:Key×V):Prop:=∃ c,d=.t [.v (kV kv.1),.t c]/\TD H 5 (.t c) kv.2
theorem QCb(p:Vm (ZHb H) es ae)(up:UpR ltK es):(ae.map Cs).Nodup:=by
 rw[List.Nodup,DG];have l:=Vn p;refine pairwise_iff_getElem.mpr λi j hi hj cr e=>?_
 have h:=pairwise_iff_getElem.mp up i j #[0] #[0] cr
 obtain⟨c1,e1,_⟩:=Qv p (Lq #[0]) (Lq hi)
 obtain⟨c2,e2,_⟩:=Qv p (Lq #[0]) (Lq hj)
 rw[e1,e2,show Q6 (.t [.v (kV ae[i].1),.t c1])=kV ae[i].1 from rfl,show Q6 (.t [.v (kV ae[j].1),.t c2])=kV ae[j].1 from rfl,e]at h
 exact ltK.irr _ h
theorem QDb(p:Vm (ZHb H) es ae)(row:∀ d∈es,Yc d)(up:UpR ltK es):DkD H ae es:=by
 have l:=Vn p;have at_:∀ k w,(k,w)∈ae->∃ c,TD H 5 (.t c) w/\Dt.t [.v (kV k),.t c]∈es:=λk w hm=>by
  obtain⟨i,hi,ei⟩:=mem_iff_getElem.mp hm;obtain⟨c,e,t⟩:=Qv p (Lq #[0]) (List.getElem?_eq_some_iff.mpr ⟨hi,ei⟩)
  exact⟨c,t,by rw[<- e];exact Lo _⟩
 refine⟨row,up,QCb p up,at_,λd hd=>?_⟩
 obtain⟨i,hi,ei⟩:=mem_iff_getElem.mp hd;obtain⟨c,e,t⟩:=Qv p (List.getElem?_eq_some_iff.mpr ⟨hi,ei⟩) (Lq #[0])
 exact⟨_,_,c,Lo #[0],e,t⟩
theorem DkD.get(h:DkD H ae es)(k:Key):∃ o,QYa es (kV k) o/\TD H 5 (oD o) ((Q4 ae k).getD .non):=by
 cases e:Q4 ae k with
 | none =>
  refine⟨Vo,λd hd z=>?_,.ofV rfl⟩
  obtain⟨k',w,c,hm,rfl,_⟩:=h.of d hd;have:k'=k:=Yxa z;subst this;rw[Qzb h.nd hm]at e;cases e
 | some w =>
  obtain⟨c,t,m⟩:=h.to k w (QAb e);exact⟨some c,m,t⟩
theorem Jz{H0:Hp}{b:Vh}(s:Ql H0 H1)(h:H1 b=Vo):H0 b=Vo:=by
 cases e:H0 b with
 | none=>rfl
 | some o=>rw[s _ _ e]at h;cases h
theorem QG.find_{p:Vh}{n:Int}(_:QG P w ob H p d1 d2 st c)(hm:(n,d)∈Qy st):∃ t,(n,d,t)∈st:=by
 obtain⟨⟨a,b,t⟩,m1,e1⟩:=mem_map.mp hm;cases e1;exact⟨t,m1⟩
def Xz:V->Int
 | .int n=>n
 | _=>0
def Yza(tbl:List (Int×Dt))(v:V):Option (Int×Nat×V)->Prop
 | none=>v=.non
 | some (n,top,k)=>v=.int n/\∃ part,(n,Zz (top:Int) part)∈tbl/\Zjc part=k
inductive Q0a(P:Vg)(w:Vb)(_cs ob:Nat->Vh)(vs:List V)(H:Hp)(Q:VK)(E:XK):Prop
 | mk:∀ p d1 d2 st c v o,∀ l:Nat,vs=[.ref p,v,.int l]->QG P w ob H p d1 d2 st c->Yza (Qy st) v o->(∀ r H' xs,Ql H H'->H r=Vo->H' r=some (.lst xs)->Vm (λd v=>TD H' 6 d v) (Qx o l) xs->Q (.ref r) H')->Q0a P w _cs ob vs H Q E
seal PE PT PW PA PS PSs PI PG QY PGs PO in
theorem JVb(Z:Zs mg)(T:Tx K mg CT cs ob)(Xt:MeV P w K mg base 4 (ob 3) "card" (Yz P w cs ob))(F:Fun K "root_at" "root_at" ZZa f fd):QB P w K mg base CX0 5 f fd ["pages","root","level"] (Q0a P w cs ob):=by
 refine F.ok Yma (λvs H Q E h=>?_) (λam A outer s H vs Q E hr h=>?_)
 ·walk_at "n"
 obtain⟨p,d1,d2,st,c,v,o,l,rfl,hS,hv,q⟩:=h;refine⟨_,(Qb (QN (Qu ZFa (pv 1) ZG (Qz _)) (Qe (Qp (ZH Qd))) Qs)
  (Qb (Qj 3 Yma.nd (PE1.pe (ZT (k:=4) (pv 0) hr rfl (Qg (pv 1) Qd)) JR))
  (Qe (Qp (QLb (Qu Ji (QO QP (pv 3) Qc (λ_ _=>rfl)) (pv 2) (Qz _)) (ZH (Qg (Zd (Qg (QO QP (pv 3) Qc (λ_ _=>rfl)) (Qg (pv 1) Qd))) Qd)) (ZH Qd)))))),?_⟩
 refine Qn (σ:=[some (.ref p),some v,some (.int l),Vo]) rfl ?_
 walk_at "rd";have none_:∀ H',Ql H H'->Qx o l=[]->[].length (α:=V)<=Vr/\∀ r,H' r=Vo->Q (.ref r) (upd H' r (.lst [])):=λH' s e=>⟨by decide,λr hr=>q r _ [] (s.trans (Qh hr _)) (Jz s hr) Qa (by rw[e];exact .nil)⟩
 cases o with
 | none =>
  obtain rfl:v=.non:=hv;rw[if_pos rfl];exact none_ H (Ql.refl _) rfl
 | some x =>
  obtain⟨n,top,k⟩:=x;obtain⟨rfl,part,hm,hk⟩:=hv;rw[if_neg (by intro z;cases z)]
  obtain⟨dx,ho⟩:=hS.obj;obtain⟨t0,fH⟩:=hS.find_ hm;refine JF rfl ho rfl (T.ob_ 3 #[1]).cl (Xt.mono #[1]) ⟨p,d1,d2,st,c,n,rfl,hS,λl2 k2 r2 bj t2 cV a H2 s2 ha vV=>?_,λz=>(z _ fH rfl).elim⟩
  obtain⟨el,ep⟩:=YL (hS.fun_ fH cV).1;subst el;have ek:k=k2:=by rw[<- hk,ep];rfl
  subst ek;obtain⟨a',u1,u2,ea,fJ,x1,x2⟩:=TD.pair_of vV;cases ea;obtain⟨_,rfl⟩:=x1.flat;obtain⟨f2,e2⟩:=x2.flat;rw[e2]at fJ;refine⟨a,rfl,_,SqT.of fJ,_,at0 _ _,rfl,?_⟩
  by_cases e:top=l
  ·subst e
   rw[if_pos rfl];refine⟨a,rfl,_,SqT.of fJ,_,rfl,Jp,λb hb=>⟨show 1<=Vr by decide,λr hr=>?_⟩⟩
   have s3:=Qh hb (.tup [k,.int n]);have s4:=Qh hr (.lst [.ref b]);refine q r _ [.ref b] (s2.trans (s3.trans s4)) (Jz (s2.trans s3) hr) Qa ?_
   rw[show Qx (some (n,top,k)) top=[Jq k n] from if_pos rfl]
   exact .cons (TD.mono 1 #[1] (TD.pair (n:=0) (s4 _ _ Qa) (.ofV f2) (.ofV rfl))) .nil
  ·rw[if_neg (λz=>e (by injection z with z;lia))]
   exact none_ H2 s2 (if_neg e)
def XKa(hs:List Dt):Prop:=∀ d∈hs,∃ k n,d=Jq k n
theorem XLa{hs:List Dt}(h:Vm (λd v=>TD H 6 d v) hs xs)(ok:XKa hs){i:Nat}{x:V}(hx:xs[i]?=some x):∃ d t k,hs[i]?=some d/\x=.ref t/\H t=some (.tup [k,.int (Zj d)]):=by
 have l:=Vn h;have hi:=(List.getElem?_eq_some_iff.mp hx).1
 have e:=Lq (l:=hs) (i:=i) #[0]
 have td:=Qv h e hx;obtain⟨k,n,ed⟩:=ok _ (Om e);rw[ed]at td;obtain⟨a',u1,u2,ea,fJ,x1,x2⟩:=TD.pair_of td;obtain⟨_,rfl⟩:=x2.flat;exact⟨_,a',u1,e,ea,by rw[ed];exact fJ⟩
inductive JM(aR:VC)(vs:List V)(H:Hp)(Q:VK)(E:XK):Prop
 | mk:∀ (a b:Vh) (xs ys:List V) (hs gs:List Dt),vs=[.ref a,.ref b]->H a=some (.lst xs)->H b=some (.lst ys)->Vm (λd v=>TD H 6 d v) hs xs->Vm (λd v=>TD H 6 d v) gs ys->XKa hs->XKa gs->hs.length<=1000->gs.length<=1000->(∀ r H',Ql H H'->H r=Vo->H' r=some (.lst (((gs.map Zj).filter λn=>!decide (n∈hs.map Zj)).map V.int))->Q (.ref r) H')->JM aR vs H Q E
seal PE PT PW PA PS PSs PI PG QY PGs PO in
theorem Jla(Z:Zs mg)(T:Tx K mg CT cs ob)(F:Fun K "missing_from" "missing_from" Z4 f fd):QB P w K mg base CX0 1 f fd ["others","heads"] (JM K):=by
 refine F.ok JJ (λvs H Q E h=>?_) (λam A outer s H vs Q E hr h=>?_)
 ·walk_at "n"
 obtain⟨a,b,xs,ys,hs,gs,rfl,ha,hb,ph,pg,nZ,jw,lh,lg,q⟩:=h;refine⟨_,(Qb (Qj 2 JJ.nd Zaa)
  (Qb (ZO Cm rfl (ZC (pv 0)) (Zc (i:=3) JJ.nd rfl (OJ rfl)) (Qe (YZ hr.u1 (pv 2) (QO QP (pv 3) Qc (λ_ _=>rfl)) Qpa rfl)))
  (Qe (Qp (YE ["others","heads","there",""] rfl (JOa (N:=["others","heads","there","head"]) (dsc:=Qi Z4) rfl rfl (by decide +kernel)) (ZC (pv 1)) (λ_ _ _ _ _=>(XYa (ZVb (Xoa hr.u1 (QO (r:=X7b K) QP (pv 0) Qc (λ_ _=>rfl)) (pv 3))))) (λ_ _ _ _ _=>(QO (r:=X7b K) QP (pv 0) Qc (λ_ _=>rfl)))))))),?_⟩
 refine Qn (σ:=[some (.ref a),some (.ref b),Vo,Vo]) rfl ?_
 have lx:=Vn ph;have ly:=Vn pg;walk_at "rd";intro p hp;have s1:=Qh hp (.dK []);refine⟨⟨_,SqL.of (s1 _ _ ha)⟩,ZJ xs (λi σ' H'=>∃ ae x3,σ'=[some (.ref a),some (.ref b),some (.ref p),x3]/\Ql H H'/\H' p=some (.dK ae)/\ae.length<=i/\∀ n,(Q4 ae (.inl n)).isSome=true↔n∈(hs.take i).map Zj) ⟨[],_,rfl,s1,Qa,Ut _,λn=>by simp[Q4]⟩ (λi σ' H' _ ⟨ae,x3,_,s',_⟩=>SqL.of (s' _ _ ha)) ?_ ?_⟩
 ·rintro i x σ' H' hx ⟨ae,x3,rfl,s',g',lk,hk⟩
  obtain⟨d,t,k,hd,rfl,ht⟩:=XLa ph nZ hx;have hi:=(List.getElem?_eq_some_iff.mp hx).1
  walk_at "rd";refine⟨_,SqT.of (s' _ _ ht),_,rfl,_,Jga.k (k:=.inl (Zj d)) g' (Qw #[0]),s'.updL hp _,_,Qa,VI (Za _ _ _) #[0],λn=>?_⟩
  rw[QUb,LI,hd,Dd,LK,<- hk n]
  by_cases e:n=Zj d
  ·subst e;simp
  ·rw[if_neg (λz=>e (by injection z))];simp[e]
 ·rintro σ' H' ⟨ae,x3,rfl,s',g',lk,hk⟩
  have ek:∀ n,(Q4 ae (.inl n)).isSome=decide (n∈hs.map Zj):=λn=>by
   have:=hk n;rw[<- lx,LL]at this;rw[UA,this,decide_eq_true_iff]
  walk_at "rd";refine⟨⟨_,SqL.of (s' _ _ hb)⟩,Q5c ys (λx=>!decide (Xz (XH H x)∈hs.map Zj)) (XH H) (SqL.of (s' _ _ hb)) (Z7 #[0]) (λi x H2 R hx s2 r=>?_) (λi x H2 R hx _ s2 r=>?_) λD H2 hD s2 hd=>?_⟩
  ·obtain⟨d,t,k,hd,rfl,ht⟩:=XLa pg jw hx
   rw[XI ht,show Xz (.int (Zj d))=Zj d from rfl,<- ek]at r
   walk_at "rd";exact⟨_,SqT.of (s2 _ _ (s' _ _ ht)),_,rfl,_,YD.k (k:=.inl (Zj d)) (s2 _ _ g'),r⟩
  ·obtain⟨d,t,k,hd,rfl,ht⟩:=XLa pg jw hx
   rw[XI ht]at r;walk_at "rd";exact⟨_,SqT.of (s2 _ _ (s' _ _ ht)),_,rfl,r⟩
  ·refine q D H2 (s'.trans s2) (Jz s' hD) ?_
   have em:ys.map (XH H)=(gs.map Zj).map V.int:=by
    refine Lf λi=>?_
    rw[Oj,Oj,Oj]
    cases e:ys[i]? with
    | none=>rw[Dc (by have:=List.getElem?_eq_none_iff.mp e;lia)];rfl
    | some x =>
     obtain⟨d,t,k,hd,rfl,ht⟩:=XLa pg jw e;rw[hd];show some (XH H (.ref t))=some (V.int (Zj d));rw[XI ht]
   rw[hd];have:(ys.filter λx=>!decide (Xz (XH H x)∈hs.map Zj)).map (XH H)=(ys.map (XH H)).filter λy=>!decide (Xz y∈hs.map Zj):=by rw[filter_map];rfl
   rw[this,em,filter_map]
   rfl
inductive YB(P:Vg)(w:Vb)(_cs ob:Nat->Vh)(vs:List V)(H:Hp)(Q:VK)(E:XK):Prop
 | mk:∀ p d1 d2 st c a l ns es,vs=[.ref p,.ref a]->QG P w ob H p d1 d2 st c->H a=some (.lst (ns.map V.int))->Pgs (Qy st) l ns es->es.length<=1000->ns.length<=1000->(∀ r H' xs,Ql H H'->H r=Vo->H' r=some (.lst xs)->Vm (λd v=>TD H' 6 d v) es xs->Q (.ref r) H')->YB P w _cs ob vs H Q E
seal PE PT PW PA PS PSs PI PG QY PGs PO in
theorem Y8a(Z:Zs mg)(T:Tx K mg CT cs ob)(ZF:MeV P w K mg base 5 (ob 3) "page" (Jv P w cs ob))(F:Fun K "entries_of" "entries_of" Xg f fd):QB P w K mg base CX0 6 f fd ["pages","numbers"] (YB P w cs ob):=by
 refine F.ok Yw (λvs H Q E h=>?_) (λam A outer s H vs Q E hr h=>?_)
 ·walk_at "n"
 obtain⟨p,d1,d2,st,c,a,l,ns,es,rfl,hS,ha,pg,le,ln,q⟩:=h;refine⟨_,(Qb (Qj 2 Yw.nd (ZH Qd))
  (Qb (ZO Cm rfl (ZC (pv 1)) (Zc (i:=3) Yw.nd rfl (OJ rfl)) (Qe (QT (XC Cn PySem.F.slot_list_extend PySem.F.type_list_extend J3a (pv 2) (Qg (Q2 (PE1.pe (ZT (k:=5) (pv 0) hr rfl (Qg (pv 3) Qd)) JR) rfl) Qd)))))
  (Qe (Qp (pv 2))))),?_⟩
 refine Qn (σ:=[some (.ref p),some (.ref a),Vo,Vo]) rfl ?_
 walk_at "rd";refine⟨by decide,λr hr=>?_⟩
 have s1:=Qh hr (.lst []);refine⟨⟨_,SqL.of (s1 _ _ ha)⟩,ZJ (ns.map V.int) (λi σ' H'=>∃ xs x3 aE bj,σ'=[some (.ref p),some (.ref a),some (.ref r),x3]/\Ql H H'/\H' r=some (.lst xs)/\es=aE++bj/\Pgs (Qy st) l (ns.drop i) bj/\Vm (λd v=>TD H' 6 d v) aE xs) ⟨[],_,[],es,rfl,s1,Qa,rfl,pg,.nil⟩ (λi σ' H' _ ⟨xs,x3,aE,bj,_,s',_⟩=>SqL.of (s' _ _ ha)) ?_ ?_⟩
 ·rintro i x σ' H' hx ⟨xs,x3,aE,bj,rfl,s',g',ee,jx,re⟩
  rw[Oj]at hx
  obtain⟨n,hn,rfl⟩:=Option.map_eq_some_iff.mp hx;have hi:=(List.getElem?_eq_some_iff.mp hn).1
  rw[IN hi,(List.getElem?_eq_some_iff.mp hn).2]at jx
  obtain⟨part,rest,⟨hm,_⟩,vW,e2⟩:=jx;have lx:=Vn re;have aS:=hS.same s';obtain⟨t0,fH⟩:=aS.find_ hm;obtain⟨dx,ho⟩:=aS.obj;walk_at "rd";refine⟨.inl ⟨rfl,_,SqL.of g'⟩,?_⟩
  unfold YXb;refine JF rfl ho rfl (T.ob_ 3 #[1]).cl (ZF.mono #[1]) ⟨p,d1,d2,st,c,n,rfl,aS,λl2 qu t2 cV qQ H2 s2 qK gL=>?_,λz=>(z _ fH rfl).elim⟩
  obtain⟨el,e3⟩:=YL (aS.fun_ fH cV).1;subst el e3;obtain⟨tw,dy,t,_,ie,kH⟩:=gL;obtain⟨m,b,zs,em,eb,hb,pz⟩:=TD.tup kH;cases em;cases eb;have lz:=Vn pz;have le':es.length=aE.length+(part.length+rest.length):=by rw[ee,e2];simp
  have oc:=T.ob_ (if tw=true then 2 else 1) XFb
  have g2:=s2 _ _ g';have tt:Zb H2 (upd H2 r (.lst (xs++zs))):=J0 g2;exact⟨qQ,_,dy,_,.ref t,rfl,ie,oc.cl,oc.no _ #[1],by cases tw <;> rfl,t,rfl,xs,g2,zs,.inr (SqT.of hb),Z7 #[0],(s'.trans s2).updL hr _,_,Qa,aE++part,rest,by rw[ee,e2,IJ],vW,Zh (TDs.sameT re (s2.t.trans tt)) (TDs.sameT pz tt)⟩
 ·rintro σ' H' ⟨xs,x3,aE,bj,rfl,s',g',ee,jx,re⟩
  rw[UO,drop_length]at jx;rw[show bj=[] from jx,U0]at ee
  subst ee;walk_at "rd";exact q r H' xs s' hr g' re
inductive X7(aR:VC)(vs:List V)(H:Hp)(Q:VK)(E:XK):Prop
 | mk:∀ (a:Vh) (xs:List V),vs=[.ref a]->H a=some (.lst xs)->(∀ v∈xs,QU v)->xs.length < 1000->(∀ (r:Vh) (H':Hp) (ys:List V),Ql H H'->H r=Vo->H' r=some (.lst ys)->ys.length<=xs.length->Qnd xs ys->Q (.ref r) H')->X7 aR vs H Q E
theorem ZVc{K:VC}(h:∀ v∈xs,QU v):Jhb K (Yb K) H xs rk ltV :=
 ⟨λv _=>Qmd v,λv hv H2 _ R hR=>⟨v,rfl,h v hv,λp hp=>hR p _ (Qh hp _) (SqT.of Qa)⟩,λv hv u hu=>QIc (h v hv) (h u hu),swo h⟩
seal PE PT PW PA PS PSs PI PG QY PGs PO in
theorem ZIb(Z:Zs mg)(T:Tx K mg CT cs ob)(nR:Cal P w K mg base 2 "before" ["one","other"] (Qja K))(kO:Cal P w K mg base 1 "rank_of" ["value"] (Yb K))(F:Fun K "in_order" "in_order" QRa f fd):QB P w K mg base CX0 4 f fd ["values"] (X7 K):=by
 refine F.ok XW (λvs H Q E h=>?_) (λam A outer s H vs Q E hr h=>?_)
 ·walk_at "n"
 obtain⟨a,xs,rfl,ha,px,vX,q⟩:=h;refine⟨_,(Qb (Qj 1 XW.nd (ZH Qd))
  (Qb (ZO Cm rfl (ZC (Q5b kO (k:=3) hr #[1] rfl (Z.sorted) rfl (pv 0))) (Zc (i:=2) XW.nd rfl (OJ rfl)) (Qe (QN (PW.pt (Z8a (ZN (Q2a (pv 1) (λ_=>rfl))) (XA (Zr (Qm nR hr (Qg (QO Js (pv 1) (J0b XTa Qc) (λ_ _=>rfl)) (Qg (pv 2) Qd))) (λ_=>rfl))))) (Qe (QT (XC Cn Co Cp Zn (pv 1) (Qg (pv 2) Qd)))) Qs)))
  (Qe (Qp (pv 1))))),?_⟩
 refine Qn (σ:=[some (.ref a),Vo,Vo]) rfl ?_
 walk_at "rd";refine⟨by decide,λf hf=>?_⟩
 have n5:a≠f:=Qr ha hf;refine⟨xs,SqL.of (by rw[Qf n5];exact ha),vX,_,_,ZVc px,λD H1 ys s1 iU hD hp so=>?_⟩
 have py:∀ v∈ys,QU v:=λv hv=>px v (hp.mem_iff.mp hv)
 have vY:f≠D:=λz=>by rw[<- z,Qa]at iU;cases iU
 have sf:Ql H H1:=(Qh hf _).trans s1;have ly:=hp.length_eq;refine⟨⟨_,SqL.of hD⟩,ZJ ys (λi σ' H'=>∃ (fs:List V) (x2:Option V),σ'=[some (.ref a),some (.ref f),x2]/\Ql H H'/\H' D=some (.lst ys)/\H' f=some (.lst fs)/\ZJa ys i fs) ?_ ?_ ?_ ?_⟩
 ·exact⟨[],_,rfl,sf,hD,s1 _ _ Qa,ZJa.start ys⟩
 ·rintro i σ' H' _ ⟨fs,x2,rfl,sm,h1,h2,g⟩
  exact SqL.of h1
 ·rintro i x σ' H' hx ⟨fs,x2,rfl,sm,h1,h2,g⟩
  have hi:i < ys.length:=(List.getElem?_eq_some_iff.mp hx).1
  have pf:∀ v∈fs,QU v:=λv hv=>py v (Iv ((g.mem v).mp hv))
  have pX:=py x (Om hx);have lf:=g.len;have app:∀ H2:Hp,Ql H' H2->(∀ l,fs.getLast?=some l->ltV l x=true)->tyV K "list" (.ref f) H2/\∃ cF,H2 f=some (.lst cF)/\cF.length < Vr/\Ql H (upd H2 f (.lst (cF++[x])))/\upd H2 f (.lst (cF++[x])) D=some (.lst ys)/\∃ dF:List V,upd H2 f (.lst (cF++[x])) f=some (.lst dF)/\ZJa ys (i+1) dF:=λH2 s2 hl =>
   ⟨.inl ⟨rfl,_,SqL.of (s2 _ _ h2)⟩,fs,s2 _ _ h2,Qw #[0],(sm.trans s2).updL hf _,by rw[Qf (VR vY)];exact s2 _ _ h1,fs++[x],Qa,g.put py so hx hl⟩
  walk_at "rd";refine⟨_,.inl ⟨fs,SqL.of h2,rfl⟩,?_⟩
  cases hemp:fs.isEmpty with
  | true =>
   rw[if_pos #[1]]
   have e0:fs=[]:=isEmpty_iff.mp hemp;exact app _ (Ql.refl _) λl hl=>by rw[e0]at hl;cases hl
  | false =>
   rw[if_neg #[2]]
   obtain⟨l,hl⟩:∃ l,fs.getLast?=some l:=by
    cases q:fs.getLast? with
    | none=>rw[getLast?_eq_none_iff]at q;rw[q]at hemp;cases hemp
    | some l=>exact⟨l,rfl⟩
   obtain⟨dF,ef⟩:=getLast?_eq_some_iff.mp hl
   have pl:QU l:=pf l (LJ hl);refine⟨fs,SqL.of h2,l,by rw[ef];exact Q6a _ _,l,x,rfl,pl,pX,λH2 s2=>⟨_,rfl,?_⟩⟩
   cases aA:ltV l x with
   | true =>
    rw[if_pos rfl];exact app _ s2 λl' eE=>by rw[hl]at eE;cases eE;exact aA
   | false =>
    rw[if_neg Uc];exact⟨sm.trans s2,s2 _ _ h1,fs,s2 _ _ h2,g.skip py so hx hl aA⟩
 ·rintro σ' H' ⟨fs,x2,rfl,sm,h1,h2,g⟩
  walk_at "rd";have:=g.len;exact q f H' fs sm hf h2 #[0] (g.rise hp)
theorem ChD.updO{p:Vh}{k:V}{o n:Option (List Dt)}{u v:HO}(h:ChD ob H a k o n)(hp:H p=some u)(h1:∀ C dx fs,u≠.ins C dx fs)(t:Zb H (upd H p v)):ChD ob (upd H p v) a k o n:=by
 obtain⟨ov,nv,⟨dx,ha⟩,to,tn⟩:=h;refine⟨ov,nv,⟨dx,?_⟩,TD.sameT t 5 to,TD.sameT t 5 tn⟩
 rw[Qf λz=>by rw[z,hp]at ha;injection ha with ha;exact h1 _ _ _ ha]
 exact ha
structure Dif(es fs:List Dt)(aL:List (V×Option (List Dt)×Option (List Dt))):Prop where
 up:aL.Pairwise λa b=>ltK a.1 b.1
 mem:∀ k o n,(k,o,n)∈aL↔Zl k/\QYa es k o/\QYa fs k n/\o≠n
inductive ZR(aR:VC)(ob:Nat->Vh)(vs:List V)(H:Hp)(Q:VK)(E:XK):Prop
 | mk:∀ (a b:Vh) (xs ys:List V) (es fs:List Dt),vs=[.ref a,.ref b]->H a=some (.lst xs)->H b=some (.lst ys)->Vm (λd v=>TD H 6 d v) es xs->Vm (λd v=>TD H 6 d v) fs ys->(∀ d∈es,Yc d)->UpR ltK es->(∀ d∈fs,Yc d)->UpR ltK fs->es.length<=400->fs.length<=400->(∀ r H' as aL,Ql H H'->H r=Vo->H' r=some (.lst (as.map V.ref))->Vm (λch a=>ChD ob H' a ch.1 ch.2.1 ch.2.2) aL as->Dif es fs aL->aL.length<=es.length+fs.length->Q (.ref r) H')->ZR aR ob vs H Q E
inductive BtI(ob:Nat->Vh)(H2:Hp)(a b D D' r r7:Vh)(dO:List V)(es fs:List Dt)(i:Nat)(σ':St)(H':Hp):Prop
 | mk:∀ (as:List Vh) (aL:List (V×Option (List Dt)×Option (List Dt))) (x5:Option V),σ'=[some (.ref a),some (.ref b),some (.ref D),some (.ref D'),some (.ref r),x5]->Ql H2 H'->H' r7=some (.lst dO)->H' r=some (.lst (as.map V.ref))->Vm (λch a=>ChD ob H' a ch.1 ch.2.1 ch.2.2) aL as->aL.Pairwise (λa b=>ltK a.1 b.1)->(∀ k o n,(k,o,n)∈aL↔k∈dO.take i/\QYa es k o/\QYa fs k n/\o≠n)->aL.length<=i->BtI ob H2 a b D D' r r7 dO es fs i σ' H'
seal PE PT PW PA PS PSs PI PG QY PGs PO in
theorem Q1a(Z:Zs mg)(T:Tx K mg CT cs ob)(vZ:Cal P w K mg base 4 "in_order" ["values"] (X7 K))(v0:Cal P w K mg base 4 "change_of" ["key","old","new"] (Xo K ob))(F:Fun K "changes_between" "changes_between" Z6 f fd):QB P w K mg base CX0 5 f fd ["old_rows","new_rows"] (ZR K ob):=by
 refine F.ok Q5 (λvs H Q E h=>?_) (λam A outer s H vs Q E hr h=>?_)
 ·walk_at "n"
 obtain⟨a,b,xs,ys,es,fs,rfl,ha,hb,re,rf,row,up,bQ,dP,le,lf,q⟩:=h;refine⟨_,(Qb (Qj 2 Q5.nd (Zm (QOa hr.hd) rfl (Z.dict) Qeb (Qg (pv 0) Qd)))
  (Qb (Qj 3 Q5.nd (Zm (QOa hr.hd) rfl (Z.dict) Qeb (Qg (pv 1) Qd)))
  (Qb (Qj 4 Q5.nd (ZH Qd))
  (Qb (ZO Cm rfl (ZC (Qm vZ hr (Qg (Qk XD (Zm (J9a hr.hd) rfl (Z.list) Zda (Qg (pv 2) Qd)) (Zm (J9a hr.hd) rfl (Z.list) Zda (Qg (pv 3) Qd))) Qd))) (Zc (i:=5) Q5.nd rfl (OJ rfl)) (Qe (QN (Qu (QWc (hr.units)) (Zba hr.u1 (pv 2) (pv 5) ⟨rfl,rfl,rfl,rfl⟩) (Zba hr.u1 (pv 3) (pv 5) ⟨rfl,rfl,rfl,rfl⟩) (Qz _)) (Qe (QT (XC Cn Co Cp Zn (pv 4) (Qg (Qm v0 hr (Qg (pv 5) (Qg (Zba hr.u1 (pv 2) (pv 5) ⟨rfl,rfl,rfl,rfl⟩) (Qg (Zba hr.u1 (pv 3) (pv 5) ⟨rfl,rfl,rfl,rfl⟩) Qd)))) Qd)))) Qs)))
  (Qe (Qp (pv 4))))))),?_⟩
 refine Qn (σ:=[some (.ref a),some (.ref b),Vo,Vo,Vo,Vo]) rfl ?_
 have lx:=Vn re;have ly:=Vn rf;walk_at "rd";obtain⟨ae,n6,dB⟩:=Zua re row;have dB:Vm (ZHb H) es ae:=dB;refine⟨a,xs,ae,rfl,ha,by lia,n6,λD hD=>?_⟩
 rw[QZa (QCb dB up)];have s1:=Qh hD (.dK ae);have gD:upd H D (.dK ae) D=some (.dK ae):=Qa;have dk:=(QDb dB row up).sameT s1.t;generalize upd H D (.dK ae)=H1 at s1 gD dk ⊢;obtain⟨aM,n8,dC⟩:=Zua (TDs.sameT rf s1.t) bQ;have dC:Vm (ZHb H1) fs aM:=dC;refine⟨b,ys,aM,rfl,s1 _ _ hb,by lia,n8,λD' fm=>?_⟩
 rw[QZa (QCb dC dP)];have s2:=Qh fm (.dK aM);have jy:upd H1 D' (.dK aM) D'=some (.dK aM):=Qa;have fE:=(QDb dC bQ dP).sameT s2.t;have n9:=s2 _ _ gD;have kT:=dk.sameT s2.t;have lk:=Vn dB;have lk':=Vn dC;generalize upd H1 D' (.dK aM)=H2 at s2 jy fE n9 kT ⊢;have dQ:=s1.trans s2;refine⟨by decide,λr hr=>?_⟩
 have s3:=Qh hr (.lst []);have gr:upd H2 r (.lst []) r=some (.lst []):=Qa;generalize upd H2 r (.lst [])=H3 at s3 gr ⊢;refine⟨D,ae,rfl,s3 _ _ n9,by lia,λl1 eI=>?_⟩
 have s4:=Qh eI (.lst (ae.map λp=>kV p.1))
 have g4:upd H3 l1 (.lst (ae.map λp=>kV p.1)) l1=some (.lst (ae.map λp=>kV p.1)):=Qa
 generalize upd H3 l1 (.lst (ae.map λp=>kV p.1))=H4 at s4 g4 ⊢
 refine⟨D',aM,rfl,s4 _ _ (s3 _ _ jy),by lia,λl2 dX=>?_⟩
 have s5:=Qh dX (.lst (aM.map λp=>kV p.1))
 have g5:upd H4 l2 (.lst (aM.map λp=>kV p.1)) l2=some (.lst (aM.map λp=>kV p.1)):=Qa
 generalize upd H4 l2 (.lst (aM.map λp=>kV p.1))=H5 at s5 g5 ⊢
 refine⟨l1,rfl,l2,rfl,_,s5 _ _ g4,_,g5,Z7 (by simp;lia),λl3 v3=>?_⟩
 have s6:=Qh v3 (.lst ((ae.map λp=>kV p.1)++aM.map λp=>kV p.1))
 have g6:upd H5 l3 (.lst ((ae.map λp=>kV p.1)++aM.map λp=>kV p.1)) l3=some (.lst ((ae.map λp=>kV p.1)++aM.map λp=>kV p.1)):=Qa
 generalize upd H5 l3 (.lst ((ae.map λp=>kV p.1)++aM.map λp=>kV p.1))=H6 at s6 g6 ⊢
 have hK:∀ v∈(ae.map λp=>kV p.1)++aM.map λp=>kV p.1,Zl v:=λv hv=>by
  rcases mem_append.mp hv with z | z
  ·obtain⟨q,hq,rfl⟩:=mem_map.mp z;exact kT.key (w:=q.2) hq
  ·obtain⟨q,hq,rfl⟩:=mem_map.mp z;exact fE.key (w:=q.2) hq
 refine⟨l3,_,rfl,g6,(λv hv=>Xk (hK v hv)),by simp;lia,λr7 H7 dO s7 ii g7 l7 rise=>⟨r7,rfl,⟨_,SqL.of g7⟩,?_⟩⟩
 have qR:=s4.trans (s5.trans (s6.trans s7));have v5:=s3.trans qR;have oa:r7≠r:=λz=>by rw[z,(s4.trans (s5.trans s6)) _ _ gr]at ii;cases ii
 have kx:∀ v∈dO,Zl v:=λv hv=>hK v ((rise.mem v).mp hv)
 have l7':dO.length<=800:=by simp at l7;lia
 refine ZJ dO (λi σ' H'=>BtI ob H2 a b D D' r r7 dO es fs i σ' H') ⟨[],[],_,rfl,v5,g7,qR _ _ gr,.nil,Ir,(λk o n=>by simp),Ut _⟩ (λi σ' H' _ ⟨_,_,_,_,_,g,_,_,_,_,_⟩=>SqL.of g) ?_ ?_
 ·rintro i x σ' H' hx ⟨as,aL,x5,rfl,s',og,jz,pc,pu,pm,lc⟩
  have hi:=(List.getElem?_eq_some_iff.mp hx).1
  have qS:=kx x (Om hx);obtain⟨k,rfl⟩:=JUb qS;walk_at "rd";have d1:=s' _ _ n9;have d2:=s' _ _ jy;obtain⟨o,ho,to⟩:=(kT.sameT s'.t).get k;obtain⟨n,hn,tn⟩:=(fE.sameT s'.t).get k;have tk:∀ v,v∈dO.take (i+1)↔v∈dO.take i\/v=kV k:=λv=>by rw[LI,hx];simp
  refine⟨.inl ⟨_,.inl d1⟩,_,YD.k (k:=k) d1,.inl ⟨_,.inl d2⟩,_,YD.k (k:=k) d2,XCc (n:=5) #[1] to tn ⟨_,rfl,?_⟩⟩
  by_cases e:oD o=oD n
  ·rw[decide_eq_true e,if_neg #[1]]
   refine⟨as,aL,_,rfl,s',og,jz,pc,pu,λk2 o2 n2=>?_,by lia⟩
   rw[pm,tk];refine⟨λ⟨a1,a2⟩=>⟨.inl a1,a2⟩,λ⟨a1,a2,a3,a4⟩=>⟨a1.elim id λz=>?_,a2,a3,a4⟩⟩
   subst z;exact absurd (by rw[QYa.det up a2 ho,QYa.det dP a3 hn];exact XUc e) a4
  ·rw[decide_eq_false e,if_pos #[1]]
   refine⟨.inl ⟨rfl,_,SqL.of jz⟩,.inl ⟨_,.inl d1⟩,_,YD.k (k:=k) d1,.inl ⟨_,.inl d2⟩,_,YD.k (k:=k) d2,kV k,_,_,rfl,λca H8 s8 hca cM=>?_⟩
   have g8:=s8 _ _ jz;have la:=Vn pc;have t8:Zb H8 (upd H8 r (.lst (as.map V.ref++[.ref ca]))):=J0 g8;refine⟨_,g8,Qw (by simp;lia),as++[ca],aL++[(kV k,o,n)],_,rfl,(s'.trans s8).updL hr _,by rw[Qf oa];exact s8 _ _ og,by rw[Dd];exact Qa,Zh (Paired.mapP pc λ_ _ z=>(z.same s8).updO g8 (by intros;intro z;cases z) t8) (.cons (ChD.updO ⟨_,_,cM,to.same s8,tn.same s8⟩ g8 (by intros;intro z;cases z) t8) .nil),pairwise_append.mpr ⟨pu,pairwise_singleton _ _,λc hc d hd=>?_⟩,λk2 o2 n2=>?_,by simp;lia⟩
   ·rw[mem_singleton.mp hd]
    obtain⟨k3,o3,n3⟩:=c;have hm:=((pm k3 o3 n3).mp hc).1;obtain⟨j,hj,ej⟩:=mem_iff_getElem.mp hm;rw[Of]at hj;rw[getElem_take]at ej;have:=pairwise_iff_getElem.mp rise.up j i #[0] hi #[0]
    rw[ej,(List.getElem?_eq_some_iff.mp hx).2]at this
    exact⟨kx k3 (Iv hm),qS,this⟩
   ·rw[LK,Dg,pm,tk]
    constructor
    ·rintro(⟨a1,a2⟩ | z)
     ·exact⟨.inl a1,a2⟩
     ·injection z with z1 z2
      injection z2 with z2 z3
      subst z1 z2 z3;exact⟨.inr rfl,ho,hn,λz=>e (by rw[z])⟩
    ·rintro⟨a1 | a1,a2,a3,a4⟩
     ·exact .inl ⟨a1,a2,a3,a4⟩
     ·subst a1
      exact .inr (by rw[QYa.det up a2 ho,QYa.det dP a3 hn])
 ·rintro σ' H' ⟨as,aL,x5,rfl,s',og,jz,pc,pu,pm,lc⟩
  walk_at "rd";rw[LL]at pm;refine q r H' as aL (dQ.trans s') (Jz dQ hr) jz pc ⟨pu,λk o n=>(pm k o n).trans ⟨λ⟨a1,a2⟩=>⟨kx k a1,a2⟩,λ⟨a1,a2,a3,a4⟩=>⟨(rise.mem k).mpr ?_,a2,a3,a4⟩⟩⟩ (by simp at l7;lia)
  have qT:∀ {H:Hp} {ae:List (Key×V)} {es:List Dt} {c:List Dt},DkD H ae es->QYa es k (some c)->k∈ae.map λp=>kV p.1:=λ{H ae es c} dk hg=>by
   obtain⟨k',w',c',hm,e1,_⟩:=dk.of _ hg;rw[show k=kV k' from congrArg Q6 e1]
   exact mem_map.mpr ⟨_,hm,rfl⟩
  cases o with
  | some c=>exact VS _ (qT kT a2)
  | none=>cases n with
   | some c=>exact Uw _ (qT fE a3)
   | none=>exact absurd rfl a4
theorem Z7a:∀ {zs:List V},(∀ x∈zs,V.int (Xz x)=x)->zs=(zs.map Xz).map V.int
 | [],_=>rfl
 | x::zs,h=>by rw[UM,UM,h x VM,<- Z7a λy hy=>h y (VN _ hy)]
theorem Zva{n:Nat}(h:n<=100000):n<=Vr:=VI h #[1]
theorem YAa(up:UpR ltK es):es.Nodup:=by
 unfold UpR at up;exact List.Pairwise.imp (λ{a b} h (e:a=b)=>ltK.irr _ (by rw[e]at h;exact h)) up
theorem ZQ.rootV(h:ZQ st es v):∃ o,Yza (Qy st) v o/\(∀ x,o=some x->Lev (Qy st) x.2.1 [x.1] es/\x.2.1<=6)/\(o=Vo->es=[]):=by
 rcases h with ⟨a,b⟩ | ⟨a,top,L,k,n,h6,c,e,b⟩
 ·exact⟨Vo,b,(λx z=>nomatch z),λ_=>a⟩
 ·obtain⟨k',n',e',hm,_⟩:=c.root
  rw[e]at e';injection e' with e'
  obtain⟨_,en⟩:=Zkc e';subst en;refine⟨some (n,top,Zjc (L top)),⟨b,_,hm,rfl⟩,λx z=>?_,λz=>nomatch z⟩
  cases z;have t:=c.tow (top+1) (Ut _);rw[e]at t;exact⟨t.lev,by lia⟩
inductive Qma(P:Vg)(w:Vb)(_cs ob:Nat->Vh)(vs:List V)(H:Hp)(Q:VK)(E:XK):Prop
 | mk:∀ p d1 d2 st c v u oA oB R S sf,vs=[.ref p,v,u]->QG P w ob H p d1 d2 st c->Yza (Qy st) v oA->Yza (Qy st) u oB->Rn (Qy st) oA oB 7 [] [] [] R S sf->(∀ d∈R,Yc d)->UpR ltK R->(∀ d∈S,Yc d)->UpR ltK S->(∀ r lc ls H' as aL (ss:List Int),Ql H H'->H r=Vo->H' r=some (.tup [.ref lc,.ref ls])->H lc=Vo->H' lc=some (.lst (as.map V.ref))->Vm (λch a=>ChD ob H' a ch.1 ch.2.1 ch.2.2) aL as->Dif R S aL->aL.length<=600->H ls=Vo->H' ls=some (.lst (ss.map V.int))->ss.Perm sf->ss.Pairwise (λa b=>a<=b)->Q (.ref r) H')->Qma P w _cs ob vs H Q E
inductive UnI(st:StL)(H:Hp)(p:Vh)(v u:V)(oA oB:Option (Int×Nat×V))(R S:List Dt)(sf:List Int)(i:Nat)(σ':St)(H':Hp):Prop
 | mk:∀ (b1 b2 b3:Vh) (xs ys:List V) (hs gs:List Dt) (ss:List Int) (x6 x7 x8:Option V),σ'=[some (.ref p),some v,some u,some (.ref b1),some (.ref b2),some (.ref b3),x6,x7,x8]->Ql H H'->H' b1=some (.lst xs)->H' b2=some (.lst ys)->H' b3=some (.lst (ss.map V.int))->Vm (λd v=>TD H' 6 d v) hs xs->Vm (λd v=>TD H' 6 d v) gs ys->Rn (Qy st) oA oB (7 - i) hs gs ss R S sf->ss.length<=600 * i->hs.length<=300->gs.length<=300->UnI st H p v u oA oB R S sf i σ' H'
seal PE PT PW PA PS PSs PI PG QY PGs PO in
theorem XOb(Z:Zs mg)(T:Tx K mg CT cs ob)(X8:Cal P w K mg base 1 "missing_from" ["others","heads"] (JM K))(qU:Cal P w K mg base 6 "entries_of" ["pages","numbers"] (YB P w cs ob))(v9:Cal P w K mg base 5 "changes_between" ["old_rows","new_rows"] (ZR K ob))(qV:Cal P w K mg base 5 "root_at" ["pages","root","level"] (Q0a P w cs ob))(F:Fun K "unlike" "unlike" Yna f fd):QB P w K mg base CX0 7 f fd ["pages","one","other"] (Qma P w cs ob):=by
 refine F.ok Q9 (λvs H Q E h=>?_) (λam A outer s H vs Q E hr h=>?_)
 ·walk_at "n"
 obtain⟨p,d1,d2,st,c,v,u,oA,oB,R,S,sf,rfl,hS,vA,vB,run,rR,uR,rS,uS,q⟩:=h;refine⟨_,(Qb (Qj 3 Q9.nd (ZH Qd))
  (Qb (Qj 4 Q9.nd (ZH Qd))
  (Qb (Qj 5 Q9.nd (ZH Qd))
  (Qb (ZO Cm rfl (Xob rfl (Z.range) (Qg (Jra (Z.TOP_LEVEL) rfl) (Qg (J0b XTa Qc) (Qg (J0b XTa Qc) Qd)))) (Zc (i:=6) Q9.nd rfl (OJ rfl)) (Qb (Qj 3 Q9.nd (Qk XD (pv 3) (Qm qV hr (Qg (pv 0) (Qg (pv 1) (Qg (pv 6) Qd))))))
  (Qb (Qj 4 Q9.nd (Qk XD (pv 4) (Qm qV hr (Qg (pv 0) (Qg (pv 2) (Qg (pv 6) Qd))))))
  (Qb (Qj 7 Q9.nd (Qm X8 hr (Qg (pv 4) (Qg (pv 3) Qd))))
  (Qb (Qj 8 Q9.nd (Qm X8 hr (Qg (pv 3) (Qg (pv 4) Qd))))
  (Qb (Qj 5 Q9.nd (Qk XD (Qk XD (pv 5) (pv 7)) (pv 8)))
  (Qb (Qj 3 Q9.nd (Qm qU hr (Qg (pv 0) (Qg (pv 7) Qd))))
  (Qe (Qj 4 Q9.nd (Qm qU hr (Qg (pv 0) (Qg (pv 8) Qd))))))))))))
  (Qe (Qp (Zd (Qg (Qm v9 hr (Qg (pv 3) (Qg (pv 4) Qd))) (Qg (QR Y2 rfl (Z.sorted) YG (Qg (pv 5) Qd)) Qd))))))))),?_⟩
 refine Qn (σ:=[some (.ref p),some v,some u,Vo,Vo,Vo,Vo,Vo,Vo]) rfl ?_
 walk_at "rd";refine⟨by decide,λa1 h1=>⟨by decide,λa2 h2=>⟨by decide,λa3 h3=>⟨6,-1,⟨rfl,rfl⟩,by decide,?_⟩⟩⟩⟩
 have s1:=Qh h1 (.lst []);have s2:=Qh h2 (.lst []);have s3:=Qh h3 (.lst []);have g1:upd (upd (upd H a1 (.lst [])) a2 (.lst [])) a3 (.lst []) a1=some (.lst []):=s3 _ _ (s2 _ _ Qa);have g2:upd (upd (upd H a1 (.lst [])) a2 (.lst [])) a3 (.lst []) a2=some (.lst []):=s3 _ _ Qa;have g3:upd (upd (upd H a1 (.lst [])) a2 (.lst [])) a3 (.lst []) a3=some (.lst []):=Qa;have il:=s1.trans (s2.trans s3);generalize upd (upd (upd H a1 (.lst [])) a2 (.lst [])) a3 (.lst [])=H3 at il g1 g2 g3 ⊢;rw[show((6:Int) - -1).toNat=7 from rfl]
 refine Q8c (λi σ' H'=>UnI st H p v u oA oB R S sf i σ' H')
  ⟨a1,a2,a3,[],[],[],[],[],_,_,_,rfl,il,g1,g2,g3,.nil,.nil,run,by simp,by simp,by simp⟩ ?_ ?_
 ·rintro i σ' H' hi ⟨b1,b2,b3,xs,ys,hs,gs,ss,x6,x7,x8,rfl,s',k1,k2,k3,ph,pg,run,ls,lhs,wa⟩
  obtain⟨l,hl⟩:∃ l,7 - i=l+1:=⟨6 - i,by lia⟩
  rw[hl]at run;rw[show(6:Int) - (i:Int)=(l:Int) by lia]
  walk_at "rd";obtain⟨⟨nZ,jw⟩,_,aE,bj,oh,oj,⟨pZ,wb⟩,run⟩:=run;have lx:=Vn ph;have ly:=Vn pg;have oH:XKa (hs++Qx oA l):=λd hd=>(mem_append.mp hd).elim (nZ d) (XCa oA l d)
  have oG:XKa (gs++Qx oB l):=λd hd=>(mem_append.mp hd).elim (jw d) (XCa oB l d)
  have rl1:=Yea oA l;have rl2:=Yea oB l;have wc:=oh.len;have we:=oj.len;refine⟨p,d1,d2,st,c,v,oA,l,rfl,hS.same s',vA,λr5 H5 zs s5 ol g5 pz=>⟨r5,rfl,xs,s5 _ _ k1,zs,g5,Z7 (by have:=Vn pz;lia),λc1 wg=>?_⟩⟩
  have lz:=Vn pz;have s6:=Qh wg (.lst (xs++zs));have g6:upd H5 c1 (.lst (xs++zs)) c1=some (.lst (xs++zs)):=Qa;generalize upd H5 c1 (.lst (xs++zs))=H6 at s6 g6 ⊢;have im:=s5.trans s6;have wj:=Zh (TDs.sameT ph im.t) (TDs.sameT pz s6.t);refine⟨p,d1,d2,st,c,u,oB,l,rfl,hS.same (s'.trans im),vB,λr7 H7 ws s7 ii g7 pw=>⟨r7,rfl,ys,s7 _ _ (im _ _ k2),ws,g7,Z7 (by have:=Vn pw;lia),λc2 bC=>?_⟩⟩
  have lw:=Vn pw;have s8:=Qh bC (.lst (ys++ws));have g8:upd H7 c2 (.lst (ys++ws)) c2=some (.lst (ys++ws)):=Qa;generalize upd H7 c2 (.lst (ys++ws))=H8 at s8 g8 ⊢;have eR:=s7.trans s8;have qW:=TDs.sameT wj eR.t;have qX:=Zh (TDs.sameT pg (im.trans eR).t) (TDs.sameT pw s8.t);have qY:=eR _ _ g6;refine⟨c2,c1,_,_,_,_,rfl,g8,qY,qX,qW,oG,oH,by rw[On];lia,by rw[On];lia,λm1 H9 s9 pY kU=>⟨c1,c2,_,_,_,_,rfl,s9 _ _ qY,s9 _ _ g8,TDs.sameT qW s9.t,TDs.sameT qX s9.t,oH,oG,by rw[On];lia,by rw[On];lia,λm2 kW fL cV jA=>?_⟩⟩
  have kU:H9 m1=some (.lst ((J6 (hs++Qx oA l) (gs++Qx oB l)).map V.int)):=kU;have jA:kW m2=some (.lst ((J6 (gs++Qx oB l) (hs++Qx oA l)).map V.int)):=jA;generalize J6 (hs++Qx oA l) (gs++Qx oB l)=N1 at kU oh run wc;generalize J6 (gs++Qx oB l) (hs++Qx oA l)=N2 at jA oj run we;have om:=s'.trans (im.trans (eR.trans (s9.trans fL)));have oq:=(im.trans (eR.trans (s9.trans fL))) _ _ k3;have jB:=fL _ _ kU;refine⟨m1,rfl,_,oq,_,jB,Zva (by simp only[UO];lia),λc3 wl=>?_⟩
  have jC:=Qh wl (.lst (ss.map V.int++N1.map V.int));have qZ:upd kW c3 (.lst (ss.map V.int++N1.map V.int)) c3=some (.lst (ss.map V.int++N1.map V.int)):=Qa;generalize upd kW c3 (.lst (ss.map V.int++N1.map V.int))=ou at jC qZ ⊢;refine⟨m2,rfl,_,qZ,_,jC _ _ jA,Zva (by simp only[UO,On];lia),λc4 wm=>?_⟩
  have q8:=Qh wm (.lst ((ss.map V.int++N1.map V.int)++N2.map V.int));have rg:upd ou c4 (.lst ((ss.map V.int++N1.map V.int)++N2.map V.int)) c4=_:=Qa;generalize upd ou c4 (.lst ((ss.map V.int++N1.map V.int)++N2.map V.int))=H12 at q8 rg ⊢;have bR:=jC.trans q8;refine⟨p,d1,d2,st,c,m1,l,_,aE,rfl,hS.same (om.trans bR),bR _ _ jB,oh,by lia,by lia,λwn H13 cF eS cT wo px=>?_⟩
  refine⟨p,d1,d2,st,c,m2,l,_,bj,rfl,hS.same (om.trans (bR.trans eS)),eS _ _ (bR _ _ jA),oj,by lia,by lia,λwp H14 eA kX hb2 wq py=>?_⟩
  have eE:7 - (i+1)=l:=by lia
  exact⟨wn,wp,c4,cF,eA,aE,bj,(ss++N1)++N2,_,_,_,rfl,om.trans (bR.trans (eS.trans kX)),kX _ _ wo,wq,(by rw[Dd,Dd];exact(eS.trans kX) _ _ rg),TDs.sameT px kX.t,py,by rw[eE];exact run,by rw[On,On];lia,pZ,wb⟩
 ·rintro σ' H' ⟨b1,b2,b3,xs,ys,hs,gs,ss,x6,x7,x8,rfl,s',k1,k2,k3,ph,pg,run,ls,lhs,wa⟩
  walk_at "rd";obtain⟨eh,eg,es⟩:=run;subst eh eg es;refine⟨b1,b2,xs,ys,hs,gs,rfl,k1,k2,ph,pg,rR,uR,rS,uS,by lia,by lia,λr5 H5 as aL s5 ol g5 pc df lc=>?_⟩
  refine⟨b3,_,_,rfl,SqL.of (s5 _ _ k3),by rw[UO];lia,JZa (λx hx=>let ⟨n,_,e⟩:=mem_map.mp hx;⟨n,e.symm⟩),λD H6 zs s6 hD g6 pm pw=>⟨Jp,λr hr=>?_⟩⟩
  have ez:zs=(zs.map Xz).map V.int:=by
   have hz:∀ x∈zs,V.int (Xz x)=x:=λx hx=>by
    obtain⟨n,_,e⟩:=mem_map.mp (pm.mem_iff.mp hx);rw[<- e];rfl
   exact Z7a hz
  have s7:=Qh hr (.tup [.ref r5,.ref D]);have pn:(zs.map Xz).Perm ss:=by
   have:=pm.map Xz;rw[map_map]at this
   simpa[Function.comp_def,Xz]using this
  refine q r r5 D _ as aL (zs.map Xz) (s'.trans (s5.trans (s6.trans s7))) (Jz (s'.trans (s5.trans s6)) hr) Qa (Jz s' ol) (s7 _ _ (s6 _ _ g5)) (Paired.mapP pc λ_ _ z=>z.same (s6.trans s7)) df #[0] (Jz (s'.trans s5) hD) (by rw[<- ez];exact s7 _ _ g6) pn ?_
  rw[DG];refine Ct (λ{a b} ha hb h=>?_) pw
  obtain⟨n,_,rfl⟩:=mem_map.mp (pm.mem_iff.mp ha);obtain⟨m,_,rfl⟩:=mem_map.mp (pm.mem_iff.mp hb);have:¬ m < n:=by simpa[ltP]using h
  show n<=m
  lia
theorem Ygc(re:Vm (λd v=>TD H 6 d v) es xs)(bo:∀ d∈es,Qsb d){i:Nat}{x:V}(hx:xs[i]?=some x):∃ d b r,es[i]?=some d/\x=.ref b/\H b=some (.tup (Q6 d::r))/\Zl (Q6 d)/\TD H 6 d x:=by
 have hi:=(List.getElem?_eq_some_iff.mp hx).1
 have le:=Vn re;have hd:es[i]?=some (es[i]'#[0]):=Lq _
 have tx:=Qv re hd hx;obtain⟨k,rr,ed,hk⟩:=bo _ (Om hd);generalize es[i]'#[0]=d at hd tx ed
 subst ed;obtain⟨m,b,ws,_,eb,hb,jk⟩:=id tx.tup;cases jk with
 | cons r1 _ =>
  obtain⟨_,rfl⟩:=r1.flat;exact⟨_,b,_,hd,eb,hb,hk,tx⟩
theorem YR.same(h:YR H ae)(s:Zb H H'):YR H' ae:=let ⟨es,dk⟩:=h;⟨es,dk.sameT s⟩
theorem YR.del{k:Key}{w:V}(h:YR H ae)(hv:Q4 ae k=some w):YR H (J3 ae k):=by
 obtain⟨es,dk⟩:=h;obtain⟨c,_,hm⟩:=dk.to k w (QAb hv);obtain⟨A,C,e⟩:=D1 hm;exact⟨A++C,dk.drop ⟨A,_,C,e,rfl,rfl⟩⟩
inductive JN(K:VC)(vs:List V)(H:Hp)(Q:VK)(E:XK):Prop
 | mk:∀ (r a:Vh) (xs:List V) (es:List Dt) (ns:List Int),vs=[.ref r,.ref a]->H r=some (.lst xs)->Vm (λd v=>TD H 6 d v) es xs->(∀ d∈es,Yc d)->UpR ltK es->es.length<=91->SqL K H a (ns.map V.int)->ns.length<=63->(∀ r H' xs es,Ql H H'->H r=Vo->H' r=some (.lst xs)->Vm (λd v=>TD H' 6 d v) es xs->(∀ d∈es,Yc d)->UpR ltK es->es.length<=218->Q (.ref r) H')->JN K vs H Q E
inductive ChI(H:Hp)(r a p d:Vh)(c0:Int)(xs:List V)(ms:List Int)(i:Nat)(σ':St)(H':Hp):Prop
 | mk:∀ (ae:List (Key×V)) (x5 x6:Option V),σ'=[some (.ref r),some (.ref a),some (.int (c0 / 4 % 6)),some (.int ((xs.length:Int) / 2)),some (.ref d),x5,x6]->Ql H H'->H' p=some (.lst (ms.map V.int))->H' d=some (.dK ae)->ae.length<=91+2 * i->YR H' ae->ChI H r a p d c0 xs ms i σ' H'
seal PE PT PW PA PS PSs PI PG QY PGs PO in
theorem Jma(Z:Zs mg)(T:Tx K mg CT cs ob)(Xs:Cal P w K mg base 1 "_law_risen" ["_law_known"] (Zq K))(Zg:Cal P w K mg base 1 "_law_cell" ["_law_script","_law_k"] (Jc K))(Jd:Cal P w K mg base 1 "_law_cells" ["_law_cell_here"] (Jy K))(nX:Cal P w K mg base 2 "_law_key" ["_law_cell_here"] (Yl K))(F:Fun K "_law_changed" "_law_changed" J7 f fd):QB P w K mg base CX0 3 f fd ["_law_rows_here","_law_script"] (JN K):=by
 refine F.ok Q8 (λvs H Q E h=>?_) (λam A outer s H vs Q E hr h=>?_)
 ·walk_at "n"
 obtain⟨r,a,xs,es,ns,rfl,bT,re,row,up,le,hS,ij,q⟩:=h;refine⟨_,(Qb (Qj 2 Q8.nd (Qk QD (Qk QH (Qm Zg hr (Qg (pv 1) (Qg Qc Qd))) Qc) Qc))
  (Qb (Qj 3 Q8.nd (Qk QH (QR QV rfl (Z.len) Yn (Qg (pv 0) Qd)) Qc))
  (Qb (QN (Qu Ji (pv 2) Qc (Qz _)) (Qe (Qp (Zm Q7a rfl (Z.list) Zda (Qg (pv 0) Qd)))) Qs)
  (Qb (QN (Qu Ji (pv 2) Qc (Qz _)) (Qe (Qp (YC Qea (pv 0) Jpa (Yf (pv 3))))) Qs)
  (Qb (QN (Qu Ji (pv 2) Qc (Qz _)) (Qe (Qp (YC Qea (pv 0) (Yf (pv 3)) Jpa))) Qs)
  (Qb (Qj 4 Q8.nd (Zm (QOa hr.hd) rfl (Z.dict) Qeb (Qg (pv 0) Qd)))
  (Qb (ZO Cm rfl (ZC (YC Qea (pv 1) (Yf Qc) (Yf Qc))) (Zc (i:=5) Q8.nd rfl (OJ rfl)) (Qb (QN (PW.pt (ZWb (Qu Ji (Qk QD (Qk QH (pv 5) Qc) (Qk J2 (pv 2) Qc)) Qc (Qz _)) (XRa (Qu Xfa (QR QV rfl (Z.len) Yn (Qg (pv 0) Qd)) Qc (Qz _))))) (Qb (Qj 6 Q8.nd (QO QP (QO Js (pv 0) (Qk QD (Qk QH (pv 5) Qc) (QR QV rfl (Z.len) Yn (Qg (pv 0) Qd))) (λ_ _=>rfl)) Qc (λ_ _=>rfl)))
  (Qe (QN (Qu Ji (Qk QD (Qk QH (pv 5) Qc) Qc) Qc (Qz _)) (Qe (QT (Qoc (pv 4) (pv 6) ZG ⟨rfl,rfl,rfl,rfl⟩))) (Qe (YZ hr.u1 (pv 4) (pv 6) (Qm Jd hr (Qg (Qk QH (pv 5) Qc) Qd)) rfl))))) Qs)
  (Qe (QN (Qu Ji (Qk QD (Qk QH (pv 5) Qc) Qc) Qc (Qz _)) (Qe (YZ hr.u1 (pv 4) (Qm nX hr (Qg (Qk ZY (Qk QH (pv 5) Qc) (pv 2)) Qd)) (Qm Jd hr (Qg (Qk QH (pv 5) Qc) Qd)) rfl)) Qs))))
  (Qe (Qp (Qm Xs hr (Qg (pv 4) Qd))))))))))),?_⟩
 refine Qn (σ:=[some (.ref r),some (.ref a),Vo,Vo,Vo,Vo,Vo]) rfl ?_
 have lx:=Vn re;walk_at "rd";have jD:((xs.length:Int) / 2)=((xs.length / 2:Nat):Int):=by lia
 refine⟨a,ns,0,rfl,hS,ij,λc0=>⟨c0,rfl,by unfold Jda;decide,xs,.inl (SqL.of bT),by unfold Jda;decide,?_⟩⟩
 have c6:=Cr (c0 / 4) (show(6:Int)≠0 by decide)
 refine Jo (λ_=>⟨xs,.inl (SqL.of bT),λl hl=>q l _ xs es (Qh hl _) hl Qa (TDs.sameT re (Qh hl _).t) row up #[0]⟩) λn0=>?_
 refine Jo (λ_=>⟨xs,SqL.of bT,λl hl=>?_⟩) λn1=>?_
 ·rw[jD,QEd]
  exact q l _ _ (es.take (xs.length / 2)) (Qh hl _) hl Qa (X4 _ (TDs.sameT re (Qh hl _).t)) (λd hd=>row d (Iv hd)) (Cu (Ol _ _) up) (by rw[Of];lia)
 refine Jo (λ_=>⟨xs,SqL.of bT,λl hl=>?_⟩) λn2=>?_
 ·rw[jD,QFd]
  exact q l _ _ (es.drop (xs.length / 2)) (Qh hl _) hl Qa (X5 _ (TDs.sameT re (Qh hl _).t)) (λd hd=>row d (Iu hd)) (Cu (drop_sublist _ _) up) (by rw[Ov];lia)
 have w3:0 < c0 / 4 % 6 - 1:=by
  have e0:c0 / 4 % 6≠0:=λz=>n0 (by rw[z])
  have e1:c0 / 4 % 6≠1:=λz=>n1 (by rw[z])
  lia
 obtain⟨bt,n6,dB⟩:=Zua re row;have dB:Vm (ZHb H) es bt:=dB;have lk0:=Vn dB;refine⟨r,xs,bt,rfl,bT,by lia,n6,λd fF=>?_⟩
 rw[QZa (QCb dB up)];have s0:=Qh fF (.dK bt);have g0:upd H d (.dK bt) d=some (.dK bt):=Qa;have rh:YR (upd H d (.dK bt)) bt:=⟨es,(QDb dB row up).sameT s0.t⟩;generalize upd H d (.dK bt)=H0 at s0 g0 rh ⊢;have fin:∀ (H1:Hp) (ae:List (Key×V)),Ql H H1->H1 d=some (.dK ae)->ae.length<=218->YR H1 ae->Zq K [.ref d] H1 Q E0:=λH1 ae s1 g1 l1 ⟨es,dk⟩=>⟨d,ae,rfl,g1,by lia,λp hp=>dk.key (w:=p.2) hp,dk.nd,λr H' xs ks s2 bT hr ra=>by
  obtain⟨nY,ik,jv⟩:=ra.dk dk.nd (λq hq=>dk.key (w:=q.2) hq) λq hq=>by obtain⟨c,t,_⟩:=dk.to q.1 q.2 hq;exact⟨c,t.same s2⟩
  have vR:=Vn jv;have vS:ks.length=ae.length:=by rw[ra.perm.length_eq,UO]
  have vT:=ra.len;exact q r H' xs nY (s1.trans s2) (Jz s1 bT) hr jv ik.row ik.up #[0]⟩
 refine⟨_,s0.seq hS,λp hp=>?_⟩
 obtain⟨ms,em,lm,hm⟩:=Q1b V.int ns (some 3) (some 63);rw[em];have jt:Ql H (upd H0 p (.lst (ms.map V.int))):=s0.trans (Qh hp _);have ju:upd H0 p (.lst (ms.map V.int)) d=some (.dK bt):=Qh hp _ _ _ g0;have gp:upd H0 p (.lst (ms.map V.int)) p=some (.lst (ms.map V.int)):=Qa;have dp:p≠d:=λz=>by rw[z,g0]at hp;cases hp
 have jE:=rh.same (Qh hp (.lst (ms.map V.int))).t;generalize upd H0 p (.lst (ms.map V.int))=H00 at jt ju gp jE ⊢;refine⟨⟨_,SqL.of gp⟩,?_⟩
 refine ZJ (ms.map V.int) (λi σ' H'=>ChI H r a p d c0 xs ms i σ' H') ⟨bt,_,_,rfl,jt,gp,ju,by lia,jE⟩ (λi σ' H' _ ⟨_,_,_,_,_,h,_,_,_⟩=>SqL.of h) ?_ ?_
 ·rintro i x σ' H' hx ⟨ae,x5,x6,rfl,s1,fG,g1,l1,k1⟩
  have hi:i < 63:=by
   have:=(List.getElem?_eq_some_iff.mp hx).1
   rw[UO]at this
   lia
  rw[Oj]at hx
  obtain⟨n,_,rfl⟩:=Option.map_eq_some_iff.mp hx;refine Qbb (σ:=[some (.ref r),some (.ref a),some (.int (c0 / 4 % 6)),some (.int ((xs.length:Int) / 2)),some (.ref d),some (.int n),x6]) λR hR=>?_
  have two:∀ (ae:List (Key×V)) (x6:Option V) (H2:Hp),Ql H H2->H2 p=some (.lst (ms.map V.int))->H2 d=some (.dK ae)->ae.length<=91+2 * i+1->YR H2 ae->R [some (.ref r),some (.ref a),some (.int (c0 / 4 % 6)),some (.int ((xs.length:Int) / 2)),some (.ref d),some (.int n),x6] H2:=by
   intro ae x6 H2 s2 ri g2 l2 k2;refine hR _ _ ?_
   clear hR;walk_at "rd";refine⟨by unfold Jda;decide,Jo (λ_=>⟨by unfold Jda;decide,_,rfl,λrc H3 s3 fz _=>⟨by unfold Jda;decide,_,rfl,λy hy=>?_⟩⟩) λ_=>⟨ae,_,_,rfl,s2,ri,g2,by lia,k2⟩⟩
   have g3:=s3 _ _ g2;obtain⟨k,rfl⟩:=YY hy;exact⟨_,Jga.k g3 (Qw #[0]),_,_,_,rfl,YH (s2.trans s3) fF,by rw[Qf dp];exact s3 _ _ ri,Qa,VI (Za _ _ _) #[0],k2.put (s3.t.trans (Zf g3)) hy (fz.sameT (Zf g3))⟩
  clear hR;walk_at "rd";have nxt:=two ae x6 H' s1 fG g1 #[0] k1
  refine⟨by unfold Jda;decide,?_⟩
  try refine⟨w3,?_⟩
  refine Jo (λ_=>⟨xs,.inl (SqL.of (s1 _ _ bT)),Jo (λhp=>?_) λ_=>nxt⟩) λ_=>nxt
  have h1:=Cr (n / 15) (show(xs.length:Int)≠0 by lia)
  have h2:=Int.emod_lt_of_pos (n / 15) (show(0:Int) < xs.length by lia)
  have hj:(n / 15 % (xs.length:Int)).toNat < xs.length:=by lia
  have ow:=Z0 (xs:=xs) (j:=(n / 15 % (xs.length:Int)).toNat) (Lq hj)
  rw[show(((n / 15 % (xs.length:Int)).toNat:Nat):Int)=n / 15 % (xs.length:Int) by lia]at ow
  obtain⟨e,b,ws,_,eb,hb,oy,_⟩:=Ygc re (λd hd=>(row d hd).ent) (Lq hj)
  rw[eb]at ow;obtain⟨k2,wr⟩:=JUb oy;rw[wr]at hb oy;refine⟨by unfold Jda;decide,xs,.inl (SqL.of (s1 _ _ bT)),hp,xs,SqL.of (s1 _ _ bT),_,ow,b,rfl,_,SqT.of (s1 _ _ hb),_,at0 _ _,by unfold Jda;decide,Jo (λ_=>?_) λ_=>?_⟩
  ·refine⟨.inl ⟨_,.inl g1⟩,ae,g1,k2,rfl,λv hv=>?_,λ_=>two ae _ H' s1 fG g1 #[0] k1⟩
   have ld:=QWb ae k2;exact two _ _ _ (YH s1 fF) (by rw[Qf dp];exact fG) Qa #[0] ((k1.del hv).same (Zf g1))
  ·refine⟨by unfold Jda;decide,_,rfl,λrc H3 s3 fz _=>?_⟩
   have g3:=s3 _ _ g1;exact⟨_,Jga.k (k:=k2) g3 (Qw #[0]),two _ _ _ (YH (s1.trans s3) fF) (by rw[Qf dp];exact s3 _ _ fG) Qa (VI (Za _ _ _) #[0]) (k1.put (s3.t.trans (Zf g3)) oy (fz.sameT (Zf g3)))⟩
 ·rintro σ' H1 ⟨ae,x5,x6,rfl,s1,fG,g1,l1,k1⟩
  rw[UO]at l1;walk_at "rd";exact fin H1 ae s1 g1 #[0] k1
theorem Yhc{K:VC}{CT:Vh}(T:Tx K mg CT cs ob){k1 k2 k:Nat}(M1:MeV P w K mg base k1 (ob 1) "told" (QL K ob))(M2:MeV P w K mg base k2 (ob 2) "told" (QL K ob))(h1:k1<=k)(h2:k2<=k)
 {H:Hp} {pg:Vh} {l:Int} {part:List Dt} {Q:VK} {E:XK} (hP:PgD ob H pg l part)
 (q:∀ u H' e ys,Ql H H'->H' u=some (.tup [.int l,.ref e])->H' e=some (.tup ys)->Vm (λd v=>TD H' 6 d v) part ys->Q (.ref u) H'):∃ a,V.ref pg=.ref a/\∃ C dx fs,H a=some (.ins C dx fs)/\fs.lookup ("told":Str)=Vo/\Cls K C/\∃ sp,MeV P w K mg base k C "told" sp/\sp [.ref pg] H Q E:=by
 obtain⟨tw,dx,t,qx,ie,ht⟩:=id hP;have fin:QL K ob [.ref pg] H Q E:=⟨pg,l,part,rfl,hP,λu H' s hu td=>by
  obtain⟨b,x,y,eb,hb,tx,ty⟩:=TD.pair_of td;cases eb;obtain⟨_,rfl⟩:=tx.flat;obtain⟨mm,e,ys,em,ee,he,pe⟩:=TD.tup ty;subst ee;obtain rfl:mm=6:=by lia
  exact q _ H' e ys s hb he pe⟩
 cases tw with
 | false=>exact⟨pg,rfl,_,dx,_,ie,rfl,(T.ob_ 1 #[1]).cl,_,M1.mono h1,fin⟩
 | true=>exact⟨pg,rfl,_,dx,_,ie,rfl,(T.ob_ 2 #[1]).cl,_,M2.mono h2,fin⟩
theorem YLb{stack rest:List Int}(h:Rch tbl stack rest):stack.length<=rest.length:=by
 induction h with
 | nil=>exact Ut _
 | leaf _ _ ih=>simp only[UG];lia
 | twig _ _ _ ih=>simp only[UG,On]at ih ⊢;lia
inductive JA(P:Vg)(w:Vb)(_cs ob:Nat->Vh)(vs:List V)(H:Hp)(Q:VK)(E:XK):Prop
 | mk:∀ p d1 d2 st c v fs,vs=[.ref p,v]->QG P w ob H p d1 d2 st c->((v=.non/\fs=[])\/∃ n,v=.int n/\Rch (Qy st) [n] fs)->fs.length<=2000->(∀ r H',Ql H H'->H r=Vo->H' r=some (.lst (fs.map V.int))->Q (.ref r) H')->JA P w _cs ob vs H Q E
inductive RcI(st:StL)(H:Hp)(p:Vh)(v:V)(a b:Vh)(fs:List Int)(m:Nat)(σ':St)(H':Hp):Prop
 | mk:∀ (done rest:List Int) (xs:List V) (x4 x5:Option V),σ'=[some (.ref p),some v,some (.ref a),some (.ref b),x4,x5]->Ql H H'->H' a=some (.lst (done.map V.int))->H' b=some (.lst xs)->fs=done++rest->((xs=[.non]/\rest=[]/\m=1)\/∃ stack,xs=(stack.reverse).map V.int/\Rch (Qy st) stack rest/\m=rest.length)->RcI st H p v a b fs m σ' H'
seal PE PT PW PA PS PSs PI PG QY PGs PO in
theorem Y9a(Z:Zs mg)(T:Tx K mg CT cs ob)(Yj:MeV P w K mg base 1 (ob 0) "told" (QL K ob))(ZV:MeV P w K mg base 1 (ob 1) "told" (QL K ob))(ZW:MeV P w K mg base 1 (ob 2) "told" (QL K ob))(ZF:MeV P w K mg base 5 (ob 3) "page" (Jv P w cs ob))(F:Fun K "_law_reach" "_law_reach" JU f fd):QB P w K mg base CX0 6 f fd ["_law_pages","_law_root"] (JA P w cs ob):=by
 refine F.ok ZK (λvs H Q E h=>?_) (λam A outer s H vs Q E hr h=>?_)
 ·walk_at "n"
 obtain⟨p,d1,d2,st,c,v,fs,rfl,hS,hv,lf,q⟩:=h;refine⟨_,(Qb (Qj 2 ZK.nd (ZH Qd))
  (Qb (Qj 3 ZK.nd (ZH (Qg (pv 1) Qd)))
  (Qb (JBa Cm (Qu Xfa (QR QV rfl (Z.len) Yn (Qg (pv 3) Qd)) Qc (Qz _)) (Qb (Qj 4 ZK.nd (X9b Cn PySem.F.slot_list_pop PySem.F.type_list_pop Y4c (pv 3)))
  (Qe (QN (Qu Jgc (pv 4) ZG (Qz _)) (Qb (QT (XC Cn Co Cp Zn (pv 2) (Qg (pv 4) Qd)))
  (Qb (Qj 5 ZK.nd (PE1.pe (Job (k:=5) (ZT (k:=5) (pv 0) hr rfl (Qg (pv 4) Qd)) hr rfl) JR))
  (Qe (QN (Qu Xfa (QO QP (pv 5) Qc (λ_ _=>rfl)) Qc (Qz _)) (Qe (QT (XC Cn PySem.F.slot_list_extend PySem.F.type_list_extend J3a (pv 3) (Qg (YE ["_law_pages","_law_root","_law_found","_law_ahead","_law_number","_law_told"] rfl (JOa (N:=["_law_pages","_law_root","_law_found","_law_ahead","_law_number","_law_told"]) (dsc:=Qi JU) rfl rfl (by decide +kernel)) (YVc (QO QP (pv 5) Qc (λ_ _=>rfl))) (λ_ _ _ _ _=>Jqa) (λ_ _ _ _ _=>(QO (r:=X7b K) QP (pv 0) Qc (λ_ _=>rfl)))) Qd)))) Qs)))) Qs))))
  (Qe (Qp (pv 2)))))),?_⟩
 refine Qn (σ:=[some (.ref p),some v,Vo,Vo,Vo,Vo]) rfl ?_
 walk_at "rd";refine⟨by decide,λa ha=>⟨(show 1<=Vr by decide),λb hb=>?_⟩⟩
 have s1:=Qh ha (.lst []);have s2:=Qh hb (.lst [v]);have ga:upd (upd H a (.lst [])) b (.lst [v]) a=some (.lst []):=s2 _ _ Qa;have gb:upd (upd H a (.lst [])) b (.lst [v]) b=some (.lst [v]):=Qa;have dQ:=s1.trans s2;have nb:=Jz s1 hb;have ne:a≠b:=λz=>by rw[<- z,Qa]at hb;cases hb
 generalize upd (upd H a (.lst [])) b (.lst [v])=H2 at ga gb dQ ⊢;refine⟨λm σ' H'=>RcI st H p v a b fs m σ' H',?_,?_⟩
 ·rcases hv with ⟨rfl,rfl⟩ | ⟨n,rfl,hr⟩
  ·exact⟨1,[],[],[.non],_,_,rfl,dQ,ga,gb,rfl,.inl ⟨rfl,rfl,rfl⟩⟩
  ·exact⟨_,[],fs,[.int n],_,_,rfl,dQ,ga,gb,rfl,.inr ⟨[n],rfl,hr,rfl⟩⟩
 ·rintro m σ' H' ⟨done,rest,xs,x4,x5,rfl,s',kY,io,ef,hx⟩
  walk_at "rd";refine⟨xs,.inl (SqL.of io),Jo (λh1=>?_) λh1=>?_⟩
  ·rcases hx with ⟨rfl,rfl,rfl⟩ | ⟨stack,rfl,hr,rfl⟩
   ·refine⟨λσ2 H2=>RcI st H p v a b fs 0 σ2 H2,λσ2 H2 h=>⟨0,by decide,h⟩,?_⟩
    walk_at "rd";refine⟨.inl ⟨rfl,_,SqL.of io⟩,_,io,.non,rfl,?_⟩
    rw[if_neg (λz=>z rfl)]
    exact⟨done,[],[],_,_,rfl,s'.updL nb _,by rw[Qf ne];exact kY,Qa,ef,.inr ⟨[],rfl,.nil,rfl⟩⟩
   ·refine⟨λσ2 H2=>RcI st H p v a b fs (rest.length - 1) σ2 H2,λσ2 H2 h=>⟨_,?_,h⟩,?_⟩
    ·have:=YLb hr
     rw[UO,CA]at h1
     lia
    obtain⟨n,aC,rfl⟩:∃ n s',stack=n::s':=by
     cases stack with
     | nil=>exact absurd h1 #[2]
     | cons n s'=>exact⟨n,s',rfl⟩
    have wt:done.length+rest.length<=2000:=by rw[ef,On]at lf;exact lf
    have ex:((n::aC).reverse).map V.int=(aC.reverse.map V.int)++[V.int n]:=by simp
    rw[ex]at io;walk_at "rd";refine⟨.inl ⟨rfl,_,SqL.of io⟩,_,io,.int n,by simp,?_⟩
    rw[if_pos (λz=>by cases z),dropLast_concat]
    refine⟨.inl ⟨rfl,_,SqL.of (show upd H' b _ a=_ by rw[Qf ne];exact kY)⟩,_,(by rw[Qf ne];exact kY),by rw[UO];exact OI (show done.length<=2000 by lia) #[1],?_⟩
    have sa:=(s'.updL nb (.lst (aC.reverse.map V.int))).updL ha (.lst (done.map V.int++[V.int n]));have kZ:upd (upd H' b (.lst (aC.reverse.map V.int))) a (.lst (done.map V.int++[V.int n])) a=some (.lst (done.map V.int++[V.int n])):=Qa;have k4:upd (upd H' b (.lst (aC.reverse.map V.int))) a (.lst (done.map V.int++[V.int n])) b=some (.lst (aC.reverse.map V.int)):=by rw[Qf (VR ne)];exact Qa
    generalize upd (upd H' b (.lst (aC.reverse.map V.int))) a (.lst (done.map V.int++[V.int n]))=H3 at sa kZ k4 ⊢;obtain⟨l,part,aX,hm,er,hk⟩:∃ (l:Nat) (part:List Dt) (aX:List Int),(n,Zz (l:Int) part)∈Qy st/\rest=n::aX/\((l=0/\Rch (Qy st) aC aX)\/(0 < l/\XKa part/\Rch (Qy st) ((part.map Zj).reverse++aC) aX)):=by
     cases hr with
     | leaf m h=>exact⟨0,_,_,m,rfl,.inl ⟨rfl,h⟩⟩
     | twig m o h=>exact⟨_,_,_,m,rfl,.inr ⟨D9 _,o,h⟩⟩
    subst er;have bq:=hS.same sa;obtain⟨t0,fH⟩:=bq.find_ hm;obtain⟨dx,ho⟩:=bq.obj;refine JF rfl ho rfl (T.ob_ 3 #[1]).cl (ZF.mono #[1]) ⟨p,d1,d2,st,c,n,rfl,bq,λl2 qu t2 cV qQ H4 s4 qK gL=>?_,λz=>(z _ fH rfl).elim⟩
    obtain⟨el,e3⟩:=YL (bq.fun_ fH cV).1;subst el e3;refine Yhc T ZV ZW #[1] #[1] gL λu H5 e ys s5 gu ge py=>?_
    have jF:=s4.trans s5;refine⟨u,rfl,_,SqT.of gu,_,at0 _ _,_,rfl,?_⟩
    have ed:done.map V.int++[V.int n]=(done++[n]).map V.int:=by simp
    have rl:fs=(done++[n])++aX:=by rw[ef,IJ];rfl
    rw[ed]at kZ
    rcases hk with ⟨rfl,lu⟩ | ⟨hl,ok,lu⟩
    ·rw[if_neg #[1]]
     exact⟨done++[n],aX,_,_,_,rfl,sa.trans jF,jF _ _ kZ,jF _ _ k4,rl,.inr ⟨aC,rfl,lu,by simp⟩⟩
    ·rw[if_pos #[0]]
     have ly:=Vn py;have lk:part.length+aC.length<=2000:=by
      have:=YLb lu;rw[On,CA,UO]at this;rw[UG]at wt
      lia
     refine⟨.inl ⟨rfl,_,SqL.of (jF _ _ k4)⟩,u,rfl,_,SqT.of gu,_,at1 _ _ _,e,rfl,⟨_,SqT.of ge⟩,JKc ys (λ_=>true) (XH H5) (SqT.of ge) (Zva #[0]) (λi x H6 R hx s6 hR=>hR) (λi x H6 R hx _ s6 hR=>?_) λD H6 hD s6 gD=>?_⟩
     ·obtain⟨d,t,k,hd,rfl,ht⟩:=XLa py ok hx
      rw[XI ht]at hR;walk_at "rd";exact⟨_,SqT.of (s6 _ _ ht),_,rfl,hR⟩
     ·have em:ys.map (XH H5)=(part.map Zj).map V.int:=by
       refine Lf λi=>?_
       rw[Oj,Oj,Oj]
       cases ex:ys[i]? with
       | none=>rw[Dc (by have:=List.getElem?_eq_none_iff.mp ex;lia)];rfl
       | some x =>
        obtain⟨d,t,k,hd,rfl,ht⟩:=XLa py ok ex;rw[hd];show some (XH H5 (.ref t))=some (V.int (Zj d));rw[XI ht]
      rw[filter_eq_self.mpr (λ_ _=>rfl),em]at gD
      have oz:=jF.trans s6;refine⟨D,rfl,_,oz _ _ k4,_,.inl (SqL.of gD),Zva (by simp only[UO,CA];lia),done++[n],aX,_,_,_,rfl,(sa.trans oz).updL nb _,by rw[Qf ne];exact oz _ _ kZ,Qa,rl,.inr ⟨_,?_,lu,by simp⟩⟩
      rw[La,Cz,Dd]
  ·walk_at "rd"
   rcases hx with ⟨rfl,rfl,rfl⟩ | ⟨stack,rfl,hr,rfl⟩
   ·exact absurd (show(0:Int) < 1 by decide) h1
   ·have e0:stack=[]:=by
     cases stack with
     | nil=>rfl
     | cons n s'=>exact absurd #[2] h1
    subst e0;cases hr;rw[U0]at ef;subst ef;exact q a H' s' ha kY
theorem Xu{A:List Dt}(f:Fn (Qy st))(h:ZQ st A v)(up:UpR ltK A):∃ o fs,Yza (Qy st) v o/\(∀ x,o=some x->Lev (Qy st) x.2.1 [x.1] A/\x.2.1<=6)/\(o=Vo->A=[]) /\
 ((v=.non/\fs=[])\/∃ n,v=.int n/\Rch (Qy st) [n] fs)/\fs.Nodup/\(∀ m,m∈fs↔∃ j,At (Qy st) o j m)/\fs.length<=7 * A.length:=by
 obtain⟨o,r,hl,hz⟩:=h.rootV;cases o with
 | none=>exact⟨Vo,[],r,hl,hz,.inl ⟨r,rfl⟩,Dr,λm=>⟨(λz=>nomatch z),(λ⟨_,_,e,_⟩=>nomatch e)⟩,Ux _⟩
 | some x =>
  obtain⟨fs,a,b,c,d⟩:=XFa f _ _ _ (hl x rfl).1 (YAa up);have h6:=(hl x rfl).2;have:=a [] [] .nil;rw[U0]at this;refine⟨some x,fs,r,hl,hz,.inr ⟨x.1,r.1,this⟩,b,λm=>(c m).trans ⟨λ⟨j,u⟩=>⟨j,x,rfl,u⟩,λ⟨j,_,e,u⟩=>⟨j,by cases e;exact u⟩⟩,VI d (Cq _ #[0])⟩
theorem YMb{oA oB:Rt}(f:Fn tbl){RA RB:List Dt}(hA:∀ x,oA=some x->Lev tbl x.2.1 [x.1] RA)(hB:∀ x,oB=some x->Lev tbl x.2.1 [x.1] RB)(n:Int):(∃ j,JEb tbl oA oB j n)↔(((∃ j,At tbl oA j n)/\¬ ∃ j,At tbl oB j n)\/((¬ ∃ j,At tbl oA j n)/\∃ j,At tbl oB j n)):=by
 have one:∀ {i j:Nat},At tbl oA i n->At tbl oB j n->i=j:=λa b=>by
  obtain⟨_,s⟩:=a.lev f hA;obtain⟨_,t⟩:=b.lev f hB;exact(Jza f s t).1
 constructor
 ·rintro⟨j,⟨a,b⟩ | ⟨a,b⟩⟩
  ·exact .inl ⟨⟨j,a⟩,λ⟨i,z⟩=>b (one a z ▸ z)⟩
  ·exact .inr ⟨λ⟨i,z⟩=>b ((one z a) ▸ z),⟨j,a⟩⟩
 ·rintro(⟨⟨j,a⟩,b⟩ | ⟨a,⟨j,b⟩⟩)
  ·exact⟨j,.inl ⟨a,λz=>b ⟨j,z⟩⟩⟩
  ·exact⟨j,.inr ⟨b,λz=>a ⟨j,z⟩⟩⟩
theorem YNb{a b:List Int}(p:a.Perm b)(ha:a.Pairwise λx y=>x<=y)(hb:b.Pairwise λx y=>x<=y):a=b :=
 p.eq_of_pairwise (λx y _ _ h1 h2=>by lia) ha hb
theorem Zya{K:VC}{b:Vh}{ns:List Int}(h:H b=some (.lst (ns.map V.int))):Rep K H 1 (.l ((ns.map V.int).map Dt.v)) (.ref b):=.l (SqL.of h) #[2] λi d x h1 h2=>by
 rw[Oj,h2]at h1
 cases h1;obtain⟨n,_,rfl⟩:=mem_map.mp (Om h2);exact .v rfl
inductive Je(P:Vg)(w:Vb)(_cs ob:Nat->Vh)(vs:List V)(H:Hp)(Q:VK)(E:XK):Prop
 | mk:∀ p d1 d2 st c v u A B,vs=[.ref p,v,u]->QG P w ob H p d1 d2 st c->ZQ st A v->ZQ st B u->(∀ d∈A,Yc d)->UpR ltK A->(∀ d∈B,Yc d)->UpR ltK B->A.length<=220->B.length<=220->(∀ H',Ql H H'->Q (.bl true) H')->Je P w _cs ob vs H Q E
seal PE PT PW PA PS PSs PI PG QY PGs PO in
theorem YBa(Z:Zs mg)(T:Tx K mg CT cs ob)(lC:Cal P w K mg base 7 "unlike" ["pages","one","other"] (Qma P w cs ob))(Jf:Cal P w K mg base 6 "_law_reach" ["_law_pages","_law_root"] (JA P w cs ob))(F:Fun K "_law_looked" "_law_looked" Yx f fd):QB P w K mg base CX0 8 f fd ["_law_pages","_law_one","_law_other"] (Je P w cs ob):=by
 refine F.ok J9 (λvs H Q E h=>?_) (λam A outer s H vs Q E hr h=>?_)
 ·walk_at "n"
 obtain⟨p,d1,d2,st,c,v,u,RA,RB,rfl,hS,lE,lF,rA,uA,rB,uB,lA,lB,q⟩:=h;refine⟨_,(Qb (Qj 3 J9.nd (Jzb (Qm Jf hr (Qg (pv 0) (Qg (pv 1) Qd))) (Qm Jf hr (Qg (pv 0) (Qg (pv 2) Qd))) hr.hd rfl (Z.set) rfl (Z.sorted)))
  (Qb (Qj 4 J9.nd (Qm lC hr (Qg (pv 0) (Qg (pv 1) (Qg (pv 2) Qd)))))
  (Qb (QN (PW.pt (Z8a (ZN (Zr (QR ZS rfl (Z.isinstance) Zo (Qg (pv 4) (Qg (Qca rfl (Z.tuple) JNa (v:=.ty "tuple") rfl) Qd))) (λ_=>rfl))) (XA (Qu J4b (QR QV rfl (Z.len) Yn (Qg (pv 4) Qd)) Qc (Qz _))))) (Qe (Qp Qpa)) Qs)
  (Qb (QN (PW.pt (Z8a (ZN (Zr (QR ZS rfl (Z.isinstance) Zo (Qg (QO QP (pv 4) Qc (λ_ _=>rfl)) (Qg (Qca rfl (Z.list) Zda (v:=.ty "list") rfl) Qd))) (λ_=>rfl))) (XA (Qu (QWc (hr.units)) (QO QP (pv 4) Qc (λ_ _=>rfl)) (pv 3) (Qz _))))) (Qe (Qp Qpa)) Qs)
  (Qb (QT (X9b Cn PySem.F.slot_list_clear PySem.F.type_list_clear Qcc (QO QP (pv 4) Qc (λ_ _=>rfl))))
  (Qe (Qp Qpa))))))),?_⟩
 refine Qn (σ:=[some (.ref p),some v,some u,Vo,Vo]) rfl ?_
 have fn:=hS.fn;obtain⟨oA,fA,vA,hA,zA,cA,nA,mA,wu⟩:=Xu fn lE uA;obtain⟨oB,fB,vB,hB,zB,cB,nB,mB,wv⟩:=Xu fn lF uB;obtain⟨R,S,sf,run,cL,rn,oC⟩:=YIb fn hA (YAa uA) hB (YAa uB) #[0] #[0] zA zB
 walk_at "rd";have kk:∀ l:List Int,(l.map (Vc:Int->Key)).map kV=l.map V.int:=λl=>by rw[map_map];rfl
 refine⟨p,d1,d2,st,c,v,fA,rfl,hS,cA,by lia,λl1 H1 s1 eI g1=>⟨l1,rfl,fA.map Vc,(by rw[kk];exact SqL.of g1),by rw[UO];lia,by rw[UO];lia,?_⟩⟩
 refine⟨p,d1,d2,st,c,u,fB,rfl,hS.same s1,cB,by lia,λl2 H2 s2 dX g2=>⟨l2,rfl,fB.map Vc,(by rw[kk];exact SqL.of g2),by rw[UO];lia,by rw[UO];lia,λzs nz mz=>?_⟩⟩
 have zi:∀ k∈zs,∃ n,k=(.inl n:Key):=λk hk=>by
  rcases(mz k).mp hk with ⟨a,_⟩ | ⟨_,a⟩
  ·obtain⟨n,_,e⟩:=mem_map.mp a;exact⟨n,e.symm⟩
  ·obtain⟨n,_,e⟩:=mem_map.mp a;exact⟨n,e.symm⟩
 refine⟨ltP,JZa (λx hx=>?_),λD H3 ys s3 hD g3 py pw=>?_⟩
 ·obtain⟨k,hk,rfl⟩:=mem_map.mp hx
  obtain⟨n,rfl⟩:=zi k hk;exact⟨n,rfl⟩
 have il:=s1.trans (s2.trans s3);have yi:∀ y∈ys,∃ n,y=V.int n/\(.inl n:Key)∈zs:=λy hy=>by
  obtain⟨k,hk,e⟩:=mem_map.mp (py.mem_iff.mp hy);obtain⟨n,rfl⟩:=zi k hk;exact⟨n,e.symm,hk⟩
 have ey:ys=(ys.map Xz).map V.int:=Z7a λy hy=>by obtain⟨n,rfl,_⟩:=yi y hy;rfl
 have ry:(ys.map Xz).Pairwise λx y=>x<=y:=by
  rw[DG];refine Ct (λ{a b} ha hb h=>?_) pw
  obtain⟨n,rfl,_⟩:=yi a ha;obtain⟨m,rfl,_⟩:=yi b hb;have:¬ m < n:=by simpa[ltP]using h
  show n<=m
  lia
 have my:∀ n,n∈ys.map Xz↔n∈sf:=λn=>by
  have:n∈ys.map Xz↔(.inl n:Key)∈zs:=by
   rw[mem_map]
   constructor
   ·rintro⟨y,hy,e⟩
    obtain⟨m,rfl,hm⟩:=yi y hy;have e:m=n:=e;rw[<- e];exact hm
   ·intro h
    exact⟨.int n,py.mem_iff.mpr (mem_map.mpr ⟨_,h,rfl⟩),rfl⟩
  have inl:∀ l:List Int,(.inl n:Key)∈l.map Vc↔n∈l:=λl=>by
   rw[mem_map];exact⟨λ⟨m,hm,e⟩=>by cases e;exact hm,λh=>⟨n,h,rfl⟩⟩
  rw[this,mz,oC,inl,inl,YMb fn (λx e=>(hA x e).1) (λx e=>(hB x e).1),mA,mB]
 have ny:(ys.map Xz).Nodup:=by
  have z:(zs.map kV).Nodup:=by
   unfold List.Nodup;rw[DG];refine Ct (λ{a b} ha hb h e=>h ?_) nz
   obtain⟨n,rfl⟩:=zi a ha;obtain⟨m,rfl⟩:=zi b hb;injection e with e
   rw[e]
  have z:=py.nodup_iff.mpr z;rw[ey]at z;unfold List.Nodup at z ⊢;rw[DG]at z;exact z.imp λh e=>h (by rw[e])
 generalize ys.map Xz=ns at ey ry my ny;subst ey;refine⟨p,d1,d2,st,c,v,u,oA,oB,R,S,sf,rfl,hS.same il,vA,vB,run,(λd hd=>rA d (cL.a.subset hd)),Cu cL.a uA,(λd hd=>rB d (cL.b.subset hd)),Cu cL.b uB,λr lc ls H4 as aL ss s4 hr gr ww oE rC oF rE rF ip lG oI=>?_⟩
 have e:ss=ns:=YNb ((perm_ext_iff_of_nodup (lG.nodup_iff.mpr rn) ny).mpr λn=>by rw[lG.mem_iff,my]) oI ry
 subst e;have sq:=SqT.of (K:=K) gr;refine Yo (.tup gr) Zwb ⟨true,rfl,?_⟩
 rw[if_neg #[1]]
 refine⟨r,rfl,_,.inr sq,?_⟩
 rw[if_neg #[2]]
 refine⟨r,rfl,_,sq,_,at1 _ _ _,Yo (.lst ip) Zxb ⟨true,rfl,?_⟩⟩
 rw[if_neg #[1]]
 refine⟨r,rfl,_,sq,_,at1 _ _ _,X8a (n:=1) #[1] (Zya ip) (Zya (s4 _ _ g3)) ⟨false,rfl,?_⟩⟩
 rw[if_neg #[1]]
 exact⟨r,rfl,_,sq,_,at1 _ _ _,.inl ⟨rfl,_,SqL.of ip⟩,ls,rfl,_,ip,q _ ((il.trans s4).updL (Jz il rF) _)⟩
def YOb:V×Option (List Dt)×Option (List Dt)->Dt
 | (k,Vo,Vo)=>.v k
 | (k,Vo,some n)=>.t [.v (.str "in"),.v k,.t n]
 | (k,some o,Vo)=>.t [.v (.str "out"),.v k,.t o]
 | (k,some o,some n)=>.t [.v (.str "turned"),.v k,.t o,.t n]
theorem ZWc{p:Vh}{k ov nv:V}{o n:Option (List Dt)}(hp:H p=some (.tup (X6 k ov nv)))(hk:Zl k)(to:TD H 5 (oD o) ov)(tn:TD H 5 (oD n) nv)(ne:o≠n):TD H 7 (YOb (k,o,n)) (.ref p):=by
 have nn:∀ {c:List Dt} {x:V},TD H 5 (.t c) x->x≠.non:=λ{c x} t z=>by obtain⟨_,_,_,_,e,_⟩:=TD.tup t;rw[z]at e;cases e
 have en:∀ {x:V},TD H 5 (oD Vo) x->x=.non:=λ{x} t=>t.flat.2
 cases o with
 | none =>
  cases n with
  | none=>exact absurd rfl ne
  | some c =>
   rw[show X6 k ov nv=[.str (LD "in"),k,nv] from if_pos (en to)]at hp
   exact⟨p,_,rfl,hp,.cons (.ofV rfl) (.cons (.ofV (XIa hk)) (.cons (TD.mono 5 #[1] tn) .nil))⟩
 | some c0 =>
  cases n with
  | none =>
   rw[show X6 k ov nv=[.str (LD "out"),k,ov] by unfold X6;rw[if_neg (nn to),if_pos (en tn)]]at hp
   exact⟨p,_,rfl,hp,.cons (.ofV rfl) (.cons (.ofV (XIa hk)) (.cons (TD.mono 5 #[1] to) .nil))⟩
  | some c =>
   rw[show X6 k ov nv=[.str (LD "turned"),k,ov,nv] by unfold X6;rw[if_neg (nn to),if_neg (nn tn)]]at hp
   exact⟨p,_,rfl,hp,.cons (.ofV rfl) (.cons (.ofV (XIa hk)) (.cons (TD.mono 5 #[1] to) (.cons (TD.mono 5 #[1] tn) .nil)))⟩
theorem Dif.uniq{fs:List Dt}{a b:List (V×Option (List Dt)×Option (List Dt))}(h:Dif es fs a)(h':Dif es fs b):a=b:=by
 have pw:=h.up;have lH:=h'.up;have me:∀ x,x∈a↔x∈b:=λ⟨k,o,n⟩=>(h.mem k o n).trans (h'.mem k o n).symm
 clear h h'
 induction a generalizing b with
 | nil=>cases b with
  | nil=>rfl
  | cons y b=>exact absurd ((me y).mpr VM) #[2]
 | cons x a ih =>
  cases b with
  | nil=>exact absurd ((me x).mp VM) #[2]
  | cons y b =>
   rw[pairwise_cons]at pw lH;have e:x=y:=by
    rcases mem_cons.mp ((me x).mp VM) with z | z
    ·exact z
    ·rcases mem_cons.mp ((me y).mpr VM) with z' | z'
     ·exact z'.symm
     ·exact absurd (ltK.tr (lH.1 x z) (pw.1 y z')) (ltK.irr _)
   subst e;rw[ih pw.2 lH.2 λz=>⟨λhz=>?_,λhz=>?_⟩]
   ·rcases mem_cons.mp ((me z).mp (VN _ hz)) with q | q
    ·rw[q]at hz;exact absurd (pw.1 x hz) (ltK.irr _)
    ·exact q
   ·rcases mem_cons.mp ((me z).mpr (VN _ hz)) with q | q
    ·rw[q]at hz;exact absurd (lH.1 x hz) (ltK.irr _)
    ·exact q
theorem XNa{α β:Type}{F:α->β->Prop}:∀ {a:List α} {b:List β},a.length=b.length->(∀ (i:Nat) x y,a[i]?=some x->b[i]?=some y->F x y)->Vm F a b
 | [],[],_,_=>.nil
 | x::a,y::b,l,h=>.cons (h 0 x y rfl rfl) (XNa (by simpa using l) λi x' y' e1 e2=>h (i+1) x' y' e1 e2)
theorem ZKb{K:VC}{CT:Vh}(T:Tx K mg CT cs ob){k k1 k2 k3:Nat}(M1:MeV P w K mg base k1 (ob 5) "told" (QK K ob))(M2:MeV P w K mg base k2 (ob 6) "told" (QK K ob))(M3:MeV P w K mg base k3 (ob 7) "told" (QK K ob))(h1:k1<=k)(h2:k2<=k)(h3:k3<=k){H:Hp}{σ:St}{Q:VK}{l:Vh}{as:List Vh}{aL:List (V×Option (List Dt)×Option (List Dt))}{es fs:List Dt}(g:H l=some (.lst (as.map V.ref)))(pc:Vm (λch a=>ChD ob H a ch.1 ch.2.1 ch.2.2) aL as)(df:Dif es fs aL)(le:aL.length<=600)
 (q:∀ D H' ys,Ql H H'->H D=Vo->H' D=some (.lst ys)->Vm (λd v=>TD H' 7 d v) (aL.map YOb) ys->Q (.ref D) H'):LcR (Itl K l) Y4b (Zvc P w K mg base k "told" (JC 0)) σ Q H:=by
 have lp:=Vn pc;have tol:∀ oo nn:V,MeV P w K mg base k (ob (Y4a oo nn)) "told" (QK K ob):=λoo nn=>by
  unfold Y4a
  split
  ·exact M1.mono h1
  ·exact M2.mono h2
  ·exact M3.mono h3
 refine Xsa (as.map V.ref) (λH' i v=>∀ ch,aL[i]?=some ch->TD H' 7 (YOb ch) v) (λH' H'' i v t h ch e=>TD.sameT t 7 (h ch e)) (SqL.of g) (VJ (Qw (by rw[UO];lia))) (λi x H2 R hx s2 hR=>?_) λD H2 ys hD s2 gD ly py=>?_
 ·rw[Oj,DH]at hx
  obtain⟨a,ha,rfl⟩:=hx;have hi:=(List.getElem?_eq_some_iff.mp ha).1
  have hc:=Lq (l:=aL) (i:=i) #[0]
  obtain⟨ov,nv,hA,tO,tN⟩:=Qv pc hc ha;have hm:=(df.mem _ _ _).mp (Om (show aL[i]?=some (aL[i].1,aL[i].2.1,aL[i].2.2) from hc))
  obtain⟨dx,ea⟩:=hA.same s2;refine ZNa rfl ea rfl (T.ob_ _ (YKb ov nv)).cl (tol ov nv) ⟨a,_,ov,nv,rfl,⟨dx,ea⟩,λp3 H3 s3 m8 g3=>hR _ _ (λch e=>?_) s3⟩
  rw[hc]at e;cases e;exact ZWc g3 hm.1 ((tO.same s2).same s3) ((tN.same s2).same s3) hm.2.2.2
 ·exact q D H2 ys s2 hD gD (XNa (by rw[UO,ly,UO,lp]) λi d v e1 e2=>by
   rw[Oj,DH]at e1
   obtain⟨ch,hc,rfl⟩:=e1;exact py i v e2 ch hc)
inductive ThI(H:Hp)(p:Vh)(v u:V)(r D dd l2:Vh)(fB:List Int)(i:Nat)(σ':St)(H':Hp):Prop
 | mk:∀ (ae:List (Key×V)) (x6:Option V),σ'=[some (.ref p),some v,some u,some (.ref r),some (.ref D),some (.ref dd),x6,Vo]->Ql H H'->H' l2=some (.lst (fB.map V.int))->H' dd=some (.dK ae)->ae.length<=i->(∀ n,Q4 ae (.inl n)=if n∈fB.take i then some (.bl (decide (V.int n≠v) && decide (V.int n≠u))) else Vo)->ThI H p v u r D dd l2 fB i σ' H'
inductive DrI(P:Vg)(w:Vb)(ob:Nat->Vh)(H:Hp)(p d1 d2:Vh)(v u:V)(r D dd:Vh)(st:StL)(c:Int)(fA fB:List Int)(i:Nat)(σ':St)(H':Hp):Prop
 | mk:∀ (ag:StL) (x6:Option V),σ'=[some (.ref p),some v,some u,some (.ref r),some (.ref D),some (.ref dd),x6,Vo]->QS [p,d1,d2] H H'->QG P w ob H' p d1 d2 ag c->(∀ x∈st,¬ (x.1∈fA/\x.1∈fB/\V.int x.1≠v/\V.int x.1≠u)->x∈ag)->(∀ x∈st,x.1∉fA.take i->x∈ag)->DrI P w ob H p d1 d2 v u r D dd st c fA fB i σ' H'
inductive JO(P:Vg)(w:Vb)(_cs ob:Nat->Vh)(vs:List V)(H:Hp)(Q:VK)(E:XK):Prop
 | mk:∀ p d1 d2 st c v u A B,vs=[.ref p,v,u]->QG P w ob H p d1 d2 st c->ZQ st A v->ZQ st B u->(∀ d∈A,Yc d)->UpR ltK A->(∀ d∈B,Yc d)->UpR ltK B->A.length<=220->B.length<=220->(∀ H',Q (.bl true) H')->JO P w _cs ob vs H Q E
seal PE PT PW PA PS PSs PI PG QY PGs PO in
theorem Jna(Z:Zs mg)(T:Tx K mg CT cs ob)(lC:Cal P w K mg base 7 "unlike" ["pages","one","other"] (Qma P w cs ob))(Jf:Cal P w K mg base 6 "_law_reach" ["_law_pages","_law_root"] (JA P w cs ob))(rG:MeV P w K mg base 1 (ob 4) "told" (QK K ob))(JY:MeV P w K mg base 1 (ob 5) "told" (QK K ob))(ZM:MeV P w K mg base 1 (ob 6) "told" (QK K ob))(JB:MeV P w K mg base 1 (ob 7) "told" (QK K ob))(Xv:MeV P w K mg base 4 (ob 3) "drop" (YA P w cs ob))(F:Fun K "_law_without" "_law_without" ZA f fd):QB P w K mg base CX0 8 f fd ["_law_pages","_law_one","_law_other"] (JO P w cs ob):=by
 refine F.ok QZ (λvs H Q E h=>?_) (λam A outer s H vs Q E hr h=>?_)
 ·walk_at "n"
 obtain⟨p,d1,d2,st,c,v,u,RA,RB,rfl,hS,lE,lF,rA,uA,rB,uB,lA,lB,q⟩:=h;refine⟨_,(Qb (Qj 3 QZ.nd (Qm lC hr (Qg (pv 0) (Qg (pv 1) (Qg (pv 2) Qd)))))
  (Qb (Qqc (j:=4) ["_law_pages","_law_one","_law_other","_law_kept","_law_due","_law_there","_law_number","_law_found"] rfl QZ.nd rfl rfl (JOa (N:=["_law_pages","_law_one","_law_other","_law_kept","_law_due","_law_there","_law_number","_law_found"]) (dsc:=Qi ZA) rfl rfl (by decide +kernel)) (ZC (QO QP (pv 3) Qc (λ_ _=>rfl))) (λ_ _ _ _ _=>Jqa) (λ_ _ _ _ _=>(XDa (P:=P) (w:=w) (K:=K) (mg:=mg) (base:=base) (k:=7) rfl rfl rfl rfl rfl (pv 0) hr)))
  (Qb (Qj 5 QZ.nd Zaa)
  (Qb (ZO Cm rfl (ZC (Qm Jf hr (Qg (pv 0) (Qg (pv 2) Qd)))) (Zc (i:=6) QZ.nd rfl (OJ rfl)) (Qe (YZ hr.u1 (pv 5) (pv 6) (XTb (Qda J4b (pv 6) (pv 1) (Qz _)) (XSb (Qda J4b (pv 6) (pv 2) (Qz _)))) rfl)))
  (Qb (ZO Cm rfl (ZC (Qm Jf hr (Qg (pv 0) (Qg (pv 1) Qd)))) (Zc (i:=6) QZ.nd rfl (OJ rfl)) (Qe (QN (Q2a (Qmc hr.u1 (pv 5) (pv 6) Qpa ⟨rfl,rfl,rfl,rfl⟩) (λ_=>rfl)) (Qe (QT (PE1.pe (ZT (k:=7) (pv 0) hr rfl (Qg (pv 6) Qd)) JR))) Qs)))
  (Qb (Qj 7 QZ.nd (Qm lC hr (Qg (pv 0) (Qg (pv 1) (Qg (pv 2) Qd)))))
  (Qe (Qp (XTb (Qda (QVc (hr.units)) (YE ["_law_pages","_law_one","_law_other","_law_kept","_law_due","_law_there","_law_number","_law_found"] rfl (JOa (N:=["_law_pages","_law_one","_law_other","_law_kept","_law_due","_law_there","_law_number","_law_found"]) (dsc:=Qi ZA) rfl rfl (by decide +kernel)) (ZC (QO QP (pv 7) Qc (λ_ _=>rfl))) (λ_ _ _ _ _=>Jqa) (λ_ _ _ _ _=>(XDa (P:=P) (w:=w) (K:=K) (mg:=mg) (base:=base) (k:=7) rfl rfl rfl rfl rfl (pv 0) hr))) (pv 4) (Qz _)) (XSb (Qda (QVc (hr.units)) (QO QP (pv 7) Qc (λ_ _=>rfl)) (QO QP (pv 3) Qc (λ_ _=>rfl)) (Qz _)))))))))))),?_⟩
 refine Qn (σ:=[some (.ref p),some v,some u,Vo,Vo,Vo,Vo,Vo]) rfl ?_
 have fn:=hS.fn;have wx:∀ n,Xx (.int n) v=true:=λn=>by rcases lE.sc with e | ⟨m,e⟩ <;> (rw[e];rfl)
 have wy:∀ n,Xx (.int n) u=true:=λn=>by rcases lF.sc with e | ⟨m,e⟩ <;> (rw[e];rfl)
 obtain⟨oA,fA,vA,hA,zA,cA,nA,mA,wu⟩:=Xu fn lE uA;obtain⟨oB,fB,vB,hB,zB,cB,nB,mB,wv⟩:=Xu fn lF uB;obtain⟨R,S,sf,run,cL,rn,oC⟩:=YIb fn hA (YAa uA) hB (YAa uB) #[0] #[0] zA zB
 walk_at "rd";refine⟨p,d1,d2,st,c,v,u,oA,oB,R,S,sf,rfl,hS,vA,vB,run,(λd hd=>rA d (cL.a.subset hd)),Cu cL.a uA,(λd hd=>rB d (cL.b.subset hd)),Cu cL.b uB,λr lc ls H1 as aL ss s1 vt g1 ww oE rC oF rE rF ip lG oI=>?_⟩
 refine⟨r,rfl,_,SqT.of g1,_,at0 _ _,lc,rfl,⟨_,SqL.of oE⟩,ZKb T JY ZM JB #[1] #[1] #[1] oE rC oF rE λD H2 ys s2 hD gD wz dd fM=>?_⟩
 have s3:=Qh fM (.dK []);have gd:upd H2 dd (.dK []) dd=some (.dK []):=Qa;generalize upd H2 dd (.dK [])=H3 at s3 gd ⊢;have dQ:=s1.trans s2;refine⟨p,d1,d2,st,c,u,fB,rfl,hS.same (dQ.trans s3),cB,by lia,λl2 H4 s4 dX g4=>⟨l2,rfl,⟨_,SqL.of g4⟩,?_⟩⟩
 have n2:l2≠dd:=λz=>by rw[z,gd]at dX;cases dX
 refine ZJ (fB.map V.int) (λi σ' H'=>ThI H2 p v u r D dd l2 fB i σ' H') ⟨[],_,rfl,s3.trans s4,g4,s4 _ _ gd,Ut _,λn=>by simp[Q4]⟩ (λi σ' H' _ ⟨_,_,_,_,h,_,_,_⟩=>SqL.of h) ?_ ?_
 ·rintro i x σ' H' hx ⟨ae,x6,rfl,s',gl,g',lk,hk⟩
  rw[Oj,DH]at hx
  obtain⟨n,hn,rfl⟩:=hx;have hi:=(List.getElem?_eq_some_iff.mp hn).1
  walk_at "rd";have put:∀ b:Bool,b=(decide (V.int n≠v) && decide (V.int n≠u))->ThI H2 p v u r D dd l2 fB (i+1) [some (.ref p),some v,some u,some (.ref r),some (.ref D),some (.ref dd),some (.int n),Vo] (upd H' dd (.dK (ZX ae (.inl n) (.bl b)))):=λb eb=>by
   refine⟨_,_,rfl,s'.updL fM _,by rw[Qf n2];exact gl,Qa,VI (Za _ _ _) #[0],λm=>?_⟩
   rw[QUb,LI,hn,hk]
   by_cases e:m=n
   ·subst e;rw[if_pos rfl,if_pos #[2],eb]
   ·rw[if_neg (λz=>e (by injection z))]
    by_cases mm:m∈fB.take i
    ·rw[if_pos mm,if_pos (VS _ mm)]
    ·rw[if_neg mm,if_neg (by simp[mm,e])]
  refine⟨wx n,?_⟩
  by_cases e:V.int n=v
  ·rw[if_neg (λz=>z e)]
   exact⟨_,Jga.k (k:=.inl n) g' (OI (show ae.length<=2000 by lia) #[1]),put false (by simp[e])⟩
  ·rw[if_pos e]
   exact⟨wy n,_,Jga.k (k:=.inl n) g' (OI (show ae.length<=2000 by lia) #[1]),put _ (by simp[e])⟩
 ·rintro σ' H' ⟨ae,x6,rfl,s',gl,g',lk,hk⟩
  rw[IL (by rw[UO];exact Ut _)]at hk
  walk_at "rd";have rH:=dQ.trans s';refine⟨p,d1,d2,st,c,v,fA,rfl,hS.same rH,cA,by lia,λl1 H5 s5 eI g5=>⟨l1,rfl,⟨_,SqL.of g5⟩,?_⟩⟩
  have dR:=hS.same (rH.trans s5);have gk:=s5 _ _ g';have wA:dd∉[p,d1,d2]:=λz=>by
   have h0:=hS.same dQ;obtain⟨dx,ho⟩:=h0.obj;simp only[Dh,D0,or_false]at z
   rcases z with z | z | z
   ·rw[z,ho]at fM;cases fM
   ·rw[z,h0.num]at fM;cases fM
   ·rw[z,h0.tol]at fM;cases fM
  have has:∀ n∈fA,∃ x∈st,x.1=n:=λn hn=>by
   obtain⟨j,a⟩:=(mA n).mp hn;obtain⟨_,s⟩:=a.lev fn λx e=>(hA x e).1
   obtain⟨part,hm⟩:=JBb s;obtain⟨t,ht⟩:=hS.find_ hm;exact⟨_,ht,rfl⟩
  refine ZJ (fA.map V.int) (λi σ' H'=>DrI P w ob H5 p d1 d2 v u r D dd st c fA fB i σ' H') ⟨st,_,rfl,QS.refl _ _,dR,λx hx _=>hx,λx hx _=>hx⟩ (λi σ' H' _ ⟨_,_,_,sx,_,_,_⟩=>SqL.of (dR.lst sx g5)) ?_ ?_
  ·rintro i x σ' H' hx ⟨ag,x6,rfl,sx,aS,k1,k2⟩
   rw[Oj,DH]at hx
   obtain⟨n,hn,rfl⟩:=hx;have hi:=(List.getElem?_eq_some_iff.mp hn).1
   walk_at "rd";have rJ:=sx _ _ wA gk;refine⟨.inl ⟨_,.inl rJ⟩,_,YD.k (k:=.inl n) rJ,?_⟩
   rw[hk];have tk:fA.take (i+1)=fA.take i++[n]:=by rw[LI,hn];rfl
   have stay:DrI P w ob H5 p d1 d2 v u r D dd st c fA fB (i+1) [some (.ref p),some v,some u,some (.ref r),some (.ref D),some (.ref dd),some (.int n),Vo] H':=⟨ag,_,rfl,sx,aS,k1,λx hx h=>k2 x hx λz=>h (by rw[tk];exact VS _ z)⟩
   by_cases mb:n∈fB
   ·rw[if_pos mb]
    refine⟨_,rfl,?_⟩
    by_cases cn:(decide (V.int n≠v) && decide (V.int n≠u))=true
    ·rw[if_pos cn]
     have rK:=Om hn;obtain⟨x,hx,ex⟩:=has n rK;have nt:n∉fA.take i:=λz=>by
      have nd:=nA;rw[<- II i fA]at nd;refine(nodup_append.mp nd).2.2 n z n ?_ rfl
      rw[IN hi,(List.getElem?_eq_some_iff.mp hn).2]
      exact VM
     have bp:=k2 x hx (by rw[ex];exact nt)
     obtain⟨dx,ho⟩:=aS.obj;rw[Il,decide_eq_true_eq,decide_eq_true_eq]at cn;refine JF rfl ho rfl (T.ob_ 3 #[1]).cl (Xv.mono #[1]) ⟨p,d1,d2,ag,c,n,rfl,aS,λ_ H6 jG oJ=>⟨_,_,rfl,sx.trans jG,oJ,λy hy h=>mem_filter.mpr ⟨k1 y hy h,decide_eq_true λe=>h (by rw[e];exact⟨rK,mb,cn⟩)⟩,λy hy h=>mem_filter.mpr ⟨k2 y hy λz=>h (by rw[tk];exact VS _ z),decide_eq_true λe=>h (by rw[tk,e];simp)⟩⟩,λz=>(z x bp ex).elim⟩
    ·rw[if_neg cn];exact stay
   ·rw[if_neg mb]
    refine⟨false,rfl,?_⟩
    rw[if_neg #[1]];exact stay
  ·rintro σ' H' ⟨ag,x6,rfl,sx,aS,k1,k2⟩
   walk_at "rd";have kt:∀ n d,(n,d)∈Qy st->¬ (n∈fA/\n∈fB/\V.int n≠v/\V.int n≠u)->(n,d)∈Qy ag:=λn d hm hn=>by
    obtain⟨t,ht⟩:=hS.find_ hm;exact mem_map.mpr ⟨_,k1 _ ht hn,rfl⟩
   have wB:Yza (Qy ag) v oA:=by
    cases oA with
    | none=>exact vA
    | some x=>obtain⟨e,part,hm,hk⟩:=vA;exact⟨e,part,kt _ _ hm (λz=>z.2.2.1 e.symm),hk⟩
   have wC:Yza (Qy ag) u oB:=by
    cases oB with
    | none=>exact vB
    | some x=>obtain⟨e,part,hm,hk⟩:=vB;exact⟨e,part,kt _ _ hm (λz=>z.2.2.2 e.symm),hk⟩
   have oK:Rn (Qy ag) oA oB 7 [] [] [] R S sf:=run.keep λn d hn hm=>kt n d hm λz=>by
    have:=(YMb fn (λx e=>(hA x e).1) (λx e=>(hB x e).1) n).mp ((oC n).mp hn)
    rw[<- mA,<- mB]at this
    rcases this with h | h
    ·exact h.2 z.2.1
    ·exact h.1 z.1
   refine⟨p,d1,d2,ag,c,v,u,oA,oB,R,S,sf,rfl,aS,wB,wC,oK,(λd hd=>rA d (cL.a.subset hd)),Cu cL.a uA,(λd hd=>rB d (cL.b.subset hd)),Cu cL.b uB,λr' wD ls' H7 as' oM wE s7 ii g7 hlc7 jH oN jI oO hls7 oP oQ oR=>?_⟩
   obtain rfl:=jI.uniq oF;have es:wE=ss:=YNb (oQ.trans lG.symm) oR oI;subst es;refine⟨r',rfl,_,SqT.of g7,_,at0 _ _,wD,rfl,⟨_,SqL.of jH⟩,ZKb T JY ZM JB #[1] #[1] #[1] jH oN jI oO λD' H8 eA s8 fm jy jJ=>?_⟩
   have oS:=s'.trans s5;have eR:=s7.trans s8;have wF:H8 D=some (.lst ys):=eR _ _ (dR.lst sx (oS _ _ gD));have t8:Zb H2 H8:=oS.t.trans ((Z9 dR sx).trans eR.t);have jK:Vm (λd v=>TD H8 7 d v) (oM.map YOb) ys:=Paired.mapP wz λ_ _ z=>TD.sameT t8 7 z
   refine X8a (n:=8) #[1] (.l (SqL.of jy) (Vn jJ) λi d x h1 h2=>(Qv jJ h1 h2).rep) (.l (SqL.of wF) (Vn jK) λi d x h1 h2=>(Qv jK h1 h2).rep) ⟨true,rfl,?_⟩
   rw[if_pos rfl];exact⟨r',rfl,_,SqT.of (s8 _ _ g7),_,at1 _ _ _,_,SqT.of (s2.t.trans t8 _ _ g1),_,at1 _ _ _,X8a (n:=1) #[1] (Zya (s8 _ _ oP)) (Zya (eR _ _ (dR.lst sx ((s2.trans oS) _ _ ip)))) (q _)⟩
section
variable{P:Vg}{w:Vb}{K:VC}{cs ob:Nat->Vh}{H H':Hp}{p d1 d2 r r2:Vh}{st:StL}{c:Int}{v u:V}{xs ys:List V}{es fs:List Dt}{Q:VK}{E:XK}
theorem ZXc(hS:QG P w ob H p d1 d2 st c)(g:H r=some (.lst xs))(re:Vm (λd v=>TD H 6 d v) es xs)(row:∀ d∈es,Yc d)(up:UpR ltK es)(le:es.length<=220)(ls:st.length<=10000)
 (q:∀ H' ag c' v,QS [p,d1,d2] H H'->QG P w ob H' p d1 d2 ag c'->(∀ x∈Qy st,x∈Qy ag)->ag.length<=st.length+1760->ZQ ag es v->Q v H') (l:Vh) (hl:H l=Vo):YQ P w cs ob [.ref p,.ref l] (upd H l (.lst xs)) Q E:=by
 have s3:=Qh hl (.lst xs);have lx:=Vn re;have oU:(es.map Q6).Pairwise λa b=>Pl.ltV a b=true:=by rw[DG];exact List.Pairwise.imp (λ{a b} h=>h.2.2) up
 exact⟨p,d1,d2,st,c,l,xs,es,rfl,hS.same s3,Qa,TDs.sameT re s3.t,(λd hd=>(row d hd).ent),by lia,by lia,.inl ⟨oU,λH4 cS c4 v4 cK jL eT l4 jM=>q H4 cS c4 v4 (λb o nb e=>cK b o nb (s3 _ _ e)) jL eT #[0] jM⟩⟩
end
theorem QRd{n:Nat}{cs:List Dt}{zs:List V}(h:Vm (λd v=>TD H n d v) cs zs)(s:Ql H H'):Vm (λd v=>TD H' n d v) cs zs:=Paired.mapP h λ_ _ z=>z.same s
def Tre(st:StL)(A:List Dt)(v:V):Prop:=ZQ st A v/\(∀ d∈A,Yc d)/\UpR ltK A/\A.length<=220
theorem JZ{p:Vh}{u:V}{A B:List Dt}(hS:QG P w ob H p d1 d2 st c)(h1:Tre st A v)(h2:Tre st B u)(q:∀ H',Ql H H'->Q (.bl true) H'):Je P w cs ob [.ref p,v,u] H Q E :=
 ⟨p,d1,d2,st,c,v,u,A,B,rfl,hS,h1.1,h2.1,h1.2.1,h1.2.2.1,h2.2.1,h2.2.2.1,h1.2.2.2,h2.2.2.2,q⟩
theorem ZLb{p l:Vh}(hS:QG P w ob H p d1 d2 st c)(g:H l=some (.lst xs))(re:Vm (λd v=>TD H 6 d v) es xs)(row:∀ d∈es,Yc d)(up:UpR ltK es)(le:es.length<=220)(ls:st.length<=10000)
 (q:∀ H' ag c' v,QS [p,d1,d2] H H'->QG P w ob H' p d1 d2 ag c'->(∀ x∈Qy st,x∈Qy ag)->ag.length<=st.length+1760->ZQ ag es v->Q v H'):YQ P w cs ob [.ref p,.ref l] H Q E:=by
 have lx:=Vn re;have oU:(es.map Q6).Pairwise λa b=>Pl.ltV a b=true:=by rw[DG];exact List.Pairwise.imp (λ{a b} h=>h.2.2) up
 exact⟨p,d1,d2,st,c,l,xs,es,rfl,hS,g,re,(λd hd=>(row d hd).ent),by lia,by lia,.inl ⟨oU,λH4 cS c4 v4 cK jL eT l4 jM=>q H4 cS c4 v4 cK jL eT #[0] jM⟩⟩
inductive YCa(K:VC)(vs:List V)(H:Hp)(Q:VK)(E:XK):Prop
 | mk:∀ (a:Vh) (ns:List Int),vs=[.ref a]->SqL K H a (ns.map V.int)->ns.length<=63->(∀ H',Q (.bl true) H')->YCa K vs H Q E
seal PE PT PW PA PS PSs PI PG QY PGs PO in
theorem XXc(Z:Zs mg)(T:Tx K mg CT cs ob)(wG:Cal P w K mg base 3 "_law_rows" ["_law_script"] (Xr K))(oV:JEc P w K mg base 7 "built" ["pages","rows"] (YQ P w cs ob))(wH:Cal P w K mg base 8 "_law_without" ["_law_pages","_law_one","_law_other"] (JO P w cs ob))(wI:Cal P w K mg base 3 "_law_changed" ["_law_rows_here","_law_script"] (JN K))(QW:Cal P w K mg base 8 "_law_looked" ["_law_pages","_law_one","_law_other"] (Je P w cs ob))(Zg:Cal P w K mg base 1 "_law_cell" ["_law_script","_law_k"] (Jc K))(oW:MkV P w K mg base 1 "Pages" (ob 3) (Ju P w ob))(F:Fun K "law" "law" XGa f fd):QB P w K mg base CX0 9 f fd ["_law_script"] (YCa K):=by
 refine F.ok Xh (λvs H Q E h=>?_) (λam A outer s H vs Q E hr h=>?_)
 ·walk_at "n"
 obtain⟨a,ns,rfl,hS,oX,q⟩:=h;refine⟨_,(Qb (Qj 1 Xh.nd (Xyc oW (k:=8) hr #[1] rfl))
  (Qb (Qj 2 Xh.nd (Qm wG hr (Qg (pv 0) Qd)))
  (Qb (Qj 3 Xh.nd (PE1.pe (Yfa oV hr (Qg (pv 1) (Qg (Zm Q7a rfl (Z.list) Zda (Qg (pv 2) Qd)) Qd))) JR))
  (Qb (Qj 4 Xh.nd (PE1.pe (Yfa oV hr (Qg (pv 1) (Qg (Qm wI hr (Qg (pv 2) (Qg (pv 0) Qd))) Qd))) JR))
  (Qb (Qj 5 Xh.nd (pv 3))
  (Qb (QN (Qu Xfa (QR QV rfl (Z.len) Yn (Qg (pv 2) Qd)) Qc (Qz _)) (Qb (Qj 6 Xh.nd (Qk QD (Qk QH (Qm Zg hr (Qg (pv 0) (Qg Qc Qd))) Qc) (QR QV rfl (Z.len) Yn (Qg (pv 2) Qd))))
  (Qb (Qj 7 Xh.nd (Zd (Qg (QO QP (QO Js (pv 2) (pv 6) (λ_ _=>rfl)) Qc (λ_ _=>rfl)) (Qg (Qk J7c (QO QP (QO Js (pv 2) (pv 6) (λ_ _=>rfl)) Qc (λ_ _=>rfl)) (Zd (Qg (Zd (Qg Jm (Qg (pv 6) Qd))) Qd))) Qd))))
  (Qe (Qj 5 Xh.nd (PE1.pe (Yfa oV hr (Qg (pv 1) (Qg (JVc (Qk XD (Qk XD (YC Qea (pv 2) Jpa (Yf (pv 6))) (ZH (Qg (pv 7) Qd))) (YC Qea (pv 2) (Yf (Qk ZY (pv 6) Qc)) Jpa))) Qd))) JR))))) Qs)
  (Qb (QN (PW.pt (Z8a (ZN (Zr (Qm QW hr (Qg (pv 1) (Qg (pv 3) (Qg (pv 4) Qd)))) (λ_=>rfl))) (XA (ZN (Zr (Qm QW hr (Qg (pv 1) (Qg (pv 4) (Qg (pv 3) Qd)))) (λ_=>rfl)))))) (Qe (Qp Qpa)) Qs)
  (Qb (QN (PW.pt (Z8a (ZN (Zr (Qm QW hr (Qg (pv 1) (Qg (pv 3) (Qg (pv 5) Qd)))) (λ_=>rfl))) (XA (ZN (Zr (Qm QW hr (Qg (pv 1) (Qg (pv 5) (Qg (pv 4) Qd)))) (λ_=>rfl)))))) (Qe (Qp Qpa)) Qs)
  (Qb (QN (PW.pt (Z8a (ZN (Zr (Qm QW hr (Qg (pv 1) (Qg ZG (Qg (pv 3) Qd)))) (λ_=>rfl))) (XA (ZN (Zr (Qm QW hr (Qg (pv 1) (Qg (pv 4) (Qg ZG Qd)))) (λ_=>rfl)))))) (Qe (Qp Qpa)) Qs)
  (Qb (QN (PW.pt (Z8a (ZN (Zr (Qm QW hr (Qg (pv 1) (Qg (pv 3) (Qg (pv 3) Qd)))) (λ_=>rfl))) (XA (ZN (Zr (Qm QW hr (Qg (pv 1) (Qg (pv 3) (Qg (pv 4) Qd)))) (λ_=>rfl)))))) (Qe (Qp Qpa)) Qs)
  (Qb (QN (ZN (Zr (Qm QW hr (Qg (pv 1) (Qg ZG (Qg ZG Qd)))) (λ_=>rfl))) (Qe (Qp Qpa)) Qs)
  (Qe (Qp (Qm wH hr (Qg (pv 1) (Qg (pv 3) (Qg (pv 4) Qd))))))))))))))))),?_⟩
 refine Qn (σ:=[some (.ref a),Vo,Vo,Vo,Vo,Vo,Vo,Vo]) rfl ?_
 refine JQc λR hR=>?_
 have go:∀ p d1 d2 r st c v u xs es fs H1,QG P w ob H1 p d1 d2 st c->Tre st es v->Tre st fs u->H1 r=some (.lst xs)->Vm (λd v=>TD H1 6 d v) es xs->SqL K H1 a (ns.map V.int)->es.length<=91->QGd es->st.length<=8000->R [some (.ref a),some (.ref p),some (.ref r),some v,some u,Vo,Vo,Vo] H1:=by
  intro p d1 d2 r st c v u xs es fs H1 hA t1 t2 l1 p1 sq n1 few ls;refine hR _ _ (Yvb λR2 gO=>?_)
  clear hR;have rL:∀ st c w3 C H2 x6 x7,QG P w ob H2 p d1 d2 st c->Tre st es v->Tre st fs u->Tre st C w3->R2 [some (.ref a),some (.ref p),some (.ref r),some v,some u,some w3,x6,x7] H2:=by
   intro st c w3 C H2 x6 x7 aW t1 t2 t3;refine gO _ _ ?_
   clear gO;walk_at "rd";have z0:Tre st [] .non:=⟨.inl ⟨rfl,rfl⟩,(λd hd=>nomatch hd),Ir,Ux _⟩
   refine JZ aW t1 t2 λH3 s3=>⟨true,rfl,?_⟩
   rw[if_neg #[1]]
   refine JZ (aW.same s3) t2 t1 λH4 s4=>⟨true,rfl,?_⟩
   rw[if_neg #[1]]
   replace s4:=s3.trans s4;refine JZ (aW.same s4) t1 t3 λH5 s5=>⟨true,rfl,?_⟩
   rw[if_neg #[1]]
   replace s5:=s4.trans s5;refine JZ (aW.same s5) t3 t2 λH6 s6=>⟨true,rfl,?_⟩
   rw[if_neg #[1]]
   replace s6:=s5.trans s6;refine JZ (aW.same s6) z0 t1 λH7 s7=>⟨true,rfl,?_⟩
   rw[if_neg #[1]]
   replace s7:=s6.trans s7;refine JZ (aW.same s7) t2 z0 λH8 s8=>⟨true,rfl,?_⟩
   rw[if_neg #[1]]
   replace s8:=s7.trans s8;refine JZ (aW.same s8) t1 t1 λH9 s9=>⟨true,rfl,?_⟩
   rw[if_neg #[1]]
   replace s9:=s8.trans s9;refine JZ (aW.same s9) t1 t2 λkW fL=>⟨true,rfl,?_⟩
   rw[if_neg #[1]]
   replace fL:=s9.trans fL;refine JZ (aW.same fL) z0 z0 λou jC=>⟨true,rfl,?_⟩
   rw[if_neg #[1]]
   exact⟨p,d1,d2,st,c,v,u,es,fs,rfl,aW.same (fL.trans jC),t1.1,t2.1,t1.2.1,t1.2.2.1,t2.2.1,t2.2.2.1,t1.2.2.2,t2.2.2.2,q⟩
  clear gO;walk_at "rd";have lx:=Vn p1;refine⟨xs,.inl (SqL.of l1),?_⟩
  by_cases hx:0 < (xs.length:Int)
  ·rw[if_pos hx]
   refine⟨a,ns,0,rfl,sq,oX,λc0=>⟨c0,rfl,by unfold Jda;decide,xs,.inl (SqL.of l1),hx,xs,SqL.of l1,?_⟩⟩
   have h1:=Cr (c0 / 24) (show(xs.length:Int)≠0 by lia)
   have h2:=Int.emod_lt_of_pos (c0 / 24) hx;generalize c0 / 24 % (xs.length:Int)=jj at h1 h2;obtain⟨J,rfl⟩:=Int.eq_ofNat_of_zero_le h1;have hJ:J < xs.length:=by lia
   have gx:=Lq hJ
   have gd:=Lq (l:=es) (i:=J) #[0]
   have td:=Qv p1 gd gx;obtain⟨k,cc,ed,kv⟩:=t1.2.1 _ (Om gd);rw[ed]at td;obtain⟨a',u1,u2,ea,fJ,x1,x2⟩:=TD.pair_of td;obtain⟨_,rfl⟩:=x1.flat;obtain⟨m,b,zs,em,eb,hb,pz⟩:=TD.tup x2;subst eb;obtain rfl:m=4:=by lia
   rw[ea]at gx;refine⟨_,Z0 gx,a',rfl,_,SqT.of fJ,_,at0 _ _,_,SqL.of l1,_,Z0 gx,a',rfl,_,SqT.of fJ,_,at1 _ _ _,Jp,λq1 eQ=>⟨(show 1<=Vr by decide),λq2 rM=>?_⟩⟩
   have s1:=Qh eQ (.tup [.str (LD "zzz"),.int (J:Int)]);have rN:upd H1 q1 (.tup [.str (LD "zzz"),.int (J:Int)]) q1=some (.tup [.str (LD "zzz"),.int (J:Int)]):=Qa;generalize upd H1 q1 (.tup [.str (LD "zzz"),.int (J:Int)])=H2 at s1 rN rM ⊢;have s2:=Qh rM (.tup [.ref q1]);have oY:upd H2 q2 (.tup [.ref q1]) q2=some (.tup [.ref q1]):=Qa;generalize upd H2 q2 (.tup [.ref q1])=H3 at s2 oY ⊢;have eS:=s1.trans s2;have sp:es=es.take J++[Dt.t [.v u1,.t cc]]++es.drop (J+1):=by
    rw[<- ed,IJ];show es=es.take J++(es[J]::es.drop (J+1));rw[<- IN,II]
   have fin:∀ (y:V) (H4:Hp),Ql H1 H4->TD H4 5 (.t (cc++[.t [.v (.str (LD "zzz")),.v (.int J)]])) y->[u1,y].length<=Vr/\∀ p_1,H4 p_1=Vo ->
    YAb (tOp Jbb (tOp Jbb (tSl (Z8b K) (JC 2) YW (JIa (JC 6))) (Y1c (Xga (JC 7) Jea))) (tSl (Z8b K) (JC 2) (JIa (tOp (rI0 λi j=>V.int (i+j)) (JC 6) (tC (V.int 1)))) YW))
     [some (V.ref a),some (V.ref p),some (V.ref r),some v,some u,some v,some (V.int J),some (V.ref p_1)] (upd H4 p_1 (HO.tup [u1,y])) λx H1 =>
     YQ P w cs ob [V.ref p,x] H1 (λx H1=>R2 [some (V.ref a),some (V.ref p),some (V.ref r),some v,some u,some x,some (V.int J),some (V.ref p_1)] H1) E0:=by
    intro y H4 s4 ty;refine⟨Jp,λt ht=>?_⟩
    have s5:=Qh ht (.tup [u1,y]);have gt:upd H4 t (.tup [u1,y]) t=some (.tup [u1,y]):=Qa;generalize upd H4 t (.tup [u1,y])=H5 at s5 gt ⊢;have oZ:=s4.trans s5;refine XFc (ia:=2) (ic:=2) rfl rfl (λ_ _ q=>q) (λ_ _ q=>⟨_,_,rfl,rfl,q⟩) (λH0 R s0 r=>⟨(show 1<=Vr by decide),λp hp=>r p _ (Qh hp _) Qa⟩) (oZ _ _ l1) (oZ _ _ l1) #[0] #[0] (show 1<=1000 by decide) λr3 H6 s6 hr3 g6=>?_
    rw[QEd,show(J:Int)+1=((J+1:Nat):Int) by lia,QFd]at g6
    have o4:=oZ.trans s6;have pp:=TDs.sameT p1 o4.t;have wJ:TD H6 6 (.t [.v u1,.t (cc++[.t [.v (.str (LD "zzz")),.v (.int J)]])]) (.ref t):=TD.pair (n:=5) (s6 _ _ gt) (TD.same x1 o4) (ty.same (s5.trans s6));have pr:=Zh (Zh (X4 J pp) (.cons wJ .nil)) (X5 (J+1) pp);have bQ:∀ d∈es.take J++[Dt.t [.v u1,.t (cc++[.t [.v (.str (LD "zzz")),.v (.int J)]])]]++es.drop (J+1),Yc d:=λd hd=>by
     rcases mem_append.mp hd with hd | hd
     ·rcases mem_append.mp hd with hd | hd
      ·exact t1.2.1 d (Iv hd)
      ·rw[mem_singleton.mp hd];exact⟨_,_,rfl,kv⟩
     ·exact t1.2.1 d (Iu hd)
    have dP:UpR ltK (es.take J++[Dt.t [.v u1,.t (cc++[.t [.v (.str (LD "zzz")),.v (.int J)]])]]++es.drop (J+1)):=by
     have h:=t1.2.2.1;rw[sp]at h;unfold UpR at h ⊢;rw[<- DG (f:=Q6) (R:=ltK)]at h ⊢;rw[Dd,Dd]at h ⊢;exact h
    have len:(es.take J++[Dt.t [.v u1,.t (cc++[.t [.v (.str (LD "zzz")),.v (.int J)]])]]++es.drop (J+1)).length<=92:=by
     rw[On,On,Of,Ov,OD]
     lia
    refine ZLb (hA.same o4) g6 pr bQ dP #[0] #[0] λH7 wK c7 v7 sx7 wL jN l7 wM=>?_
    exact rL wK c7 v7 _ H7 _ _ wL ⟨t1.1.mono jN,t1.2⟩ ⟨t2.1.mono jN,t2.2⟩ ⟨wM,bQ,dP,by lia⟩
   have tq:TD H3 4 (.t [.v (.str (LD "zzz")),.v (.int J)]) (.ref q1):=TD.mono 1 #[1] (TD.pair (n:=0) (s2 _ _ rN) (.ofV rfl) (.ofV rfl))
   have lz:=Vn pz;refine⟨b,q2,zs,[.ref q1],rfl,rfl,SqT.of (eS _ _ hb),SqT.of oY,by simp,?_,λe=>fin _ _ eS ?_,λe q3 rO=>fin _ _ (eS.trans (Qh rO _)) ?_⟩
   ·have:=few u1 cc (by rw[<- ed];exact Lo _)
    exact Zva (by rw[OD];lia)
   ·have ez:cc=[]:=length_eq_zero_iff.mp (by rw[lz,e];rfl)
    rw[ez,CC];exact⟨q2,_,rfl,oY,.cons tq .nil⟩
   ·have s3:=Qh rO (.tup (zs++[.ref q1]))
    exact⟨q3,_,rfl,Qa,Zh (QRd pz (eS.trans s3)) (.cons (tq.same s3) .nil)⟩
  ·rw[if_neg hx]
   exact rL st c v es H1 _ _ hA t1 t2 t1
 clear hR;walk_at "rd";intro x0 wN wO o5 hne0;refine⟨x0,wN,rfl,Qa,λd1 d2 H1 dx fs f1 f2 s1 wP=>⟨rfl,?_⟩⟩
 have S1:Ql H H1:=by rw[Zt]at s1;exact Y3 wO o5 s1
 walk_at "rd";refine⟨a,ns,rfl,S1.seq hS,oX,λr H2 xs es s2 kQ g2 re row up le few=>?_⟩
 have aY:=wP.same s2;have sq:=(S1.trans s2).seq hS;refine⟨r,rfl,xs,.inl (SqL.of g2),ZXc aY g2 re row up #[0] #[2] λH4 cS c4 v4 cK jL eT l4 jM=>?_⟩
 have g2:=aY.lst cK g2;have re:=TDs.sameT re (Z9 aY cK);have sq:=aY.seq cK sq;refine⟨r,a,xs,es,ns,rfl,g2,re,row,up,le,sq,oX,λr2 H5 ys fs s5 ol g5 rf bQ dP lf=>?_⟩
 have dR:=jL.same s5;simp at l4;refine ZLb dR g5 rf bQ dP #[0] #[0] λH6 st6 c6 v6 jG oJ o6 l6 qM=>?_
 exact go _ _ _ _ _ _ _ _ _ _ _ _ oJ ⟨jM.mono o6,row,up,by lia⟩ ⟨qM,bQ,dP,by lia⟩ (dR.lst jG (s5 _ _ g2)) (TDs.sameT re (s5.t.trans (Z9 dR jG))) (dR.seq jG (s5.seq sq)) le few #[0]
theorem XYc{K:VC}{ns:List Int}(hl:ns.length<=63)(_:∀ i∈ns,Ip i<=2 ^ 20)(hS:SqL K H a (ns.map V.int)):YCa K [.ref a] H (λv _=>v=.bl true) λ_ _ _=>False :=
 ⟨a,ns,rfl,hS,hl,λ_=>rfl⟩
theorem Yd{α:Type}{C:List α->Prop}(h:∀ a,C [a]):∀ us:List α,us.length=1->C us:=λus hl=>by
 match us,hl with
 | [_],_=>exact h _
theorem Jl{α:Type}{C:List α->Prop}(h:∀ a b,C [a,b]):∀ us:List α,us.length=2->C us:=λus hl=>by
 match us,hl with
 | [_,_],_=>exact h _ _
theorem X9{α:Type}{C:List α->Prop}(h:∀ a b c,C [a,b,c]):∀ us:List α,us.length=3->C us:=λus hl=>by
 match us,hl with
 | [_,_,_],_=>exact h _ _ _
theorem YLc{α:Type}{C:List α->Prop}(h:∀ a b c d,C [a,b,c,d]):∀ us:List α,us.length=4->C us:=λus hl=>by
 match us,hl with
 | [_,_,_,_],_=>exact h _ _ _ _
theorem cq0{P:Vg}{w:Vb}{K:VC}{mg:Str->Option Va}{base h:Vp}(X:K.In h)(G:h.Ns VD mg){k:Nat}{f:Vh}{fd:UZ}{ps:List Str}{sp:Sp}{x:Str}(F:QB P w K mg base CX0 k f fd ps sp)(b:Zv K fd ps [])(kk:UN K (.ref f)=true)(a:LS K VD x=some (some (.ref f))):Cal P w K mg base k x ps sp:=⟨_,_,F,b,kk,Cv X G a⟩
theorem cq1{P:Vg}{w:Vb}{K:VC}{mg:Str->Option Va}{base h:Vp}(X:K.In h)(G:h.Ns VD mg){k:Nat}{f:Vh}{fd:UZ}{ps:List Str}{sp:Sp}{x:Str}(F:QB P w K mg base (CX1 P w) k f fd ps sp)(b:Zv K fd ps [])(kk:UN K (.ref f)=true)(a:LS K VD x=some (some (.ref f))):JEc P w K mg base k x ps sp:=⟨_,_,F,b,kk,Cv X G a⟩
theorem mq1{P:Vg}{w:Vb}{K:VC}{mg:Str->Option Va}{base:Vp}{k:Nat}{C f:Vh}{fd:UZ}{ps:List Str}{sp:Sp}{m:Str}(F:QB P w K mg base (CX1 P w) k f fd ps sp)(b:Zv K fd ps [])(a:UD K (.ref C) m=some (some (.ref f)))(j:UE K (.ref f)=true)(kk:UN K (.ref f)=true):MeV P w K mg base k C m sp:=⟨_,_,_,⟨a,j,kk⟩,F,b⟩
theorem XZc{l:W.OpenLaw}{K:VC}{h:Vp}{fa:Vh}(X:K.In h)(G:h.Ns VD mg)(n5:mg "law"=some (.ref fa))
 {f1 f2 f3 f4 f5 f6 f7 f8 f9 o7 iq rP rQ rT rV rW rX rY rZ o8 o9 pi pk pq r6 r9 pA sd se si sj pB pC sk sr pD su sv sw sC sD sE sF sG sI sJ sK:Vh} {d1 d2 d3 d4 d5 d6 d7 d8 d9 wQ wR d12 wS wT wU wV wW wX wY wZ w6 w9 xa xb xc xf xg xh xk xl xm xn xo xp xq xr xt xu xw xx xy xz xA xB xC xE xF:UZ}
 (ta:UT K (.builtin "object.__class__") "__get__"=some (some (.builtin "getset_descriptor.__get__"))) (tb:W.takesIn K (.builtin "object.__class__")=some true)
 {O0:Vh} (oa0:LS K VD "Page"=some (some (.ref O0))) (of0:W.Zy K O0 ["level","rows","heads","entries","told_by_number","number_by_told","count","key","old","new"]=true)
 {O1:Vh} (oa1:LS K VD "Leaf"=some (some (.ref O1))) (of1:W.Zy K O1 ["level","rows","heads","entries","told_by_number","number_by_told","count","key","old","new"]=true)
 (om1:UI K O1=true) (ok1:UN K (.ref O1)=true)
 {O2:Vh} (oa2:LS K VD "Twig"=some (some (.ref O2))) (of2:W.Zy K O2 ["level","rows","heads","entries","told_by_number","number_by_told","count","key","old","new"]=true)
 (om2:UI K O2=true) (ok2:UN K (.ref O2)=true)
 {O3:Vh} (oa3:LS K VD "Pages"=some (some (.ref O3))) (of3:W.Zy K O3 ["level","rows","heads","entries","told_by_number","number_by_told","count","key","old","new"]=true)
 (om3:UI K O3=true) (ok3:UN K (.ref O3)=true)
 {O4:Vh} (oa4:LS K VD "Change"=some (some (.ref O4))) (of4:W.Zy K O4 ["level","rows","heads","entries","told_by_number","number_by_told","count","key","old","new"]=true)
 {O5:Vh} (oa5:LS K VD "PutIn"=some (some (.ref O5))) (of5:W.Zy K O5 ["level","rows","heads","entries","told_by_number","number_by_told","count","key","old","new"]=true)
 (om5:UI K O5=true) (ok5:UN K (.ref O5)=true)
 {O6:Vh} (oa6:LS K VD "TakenOut"=some (some (.ref O6))) (of6:W.Zy K O6 ["level","rows","heads","entries","told_by_number","number_by_told","count","key","old","new"]=true)
 (om6:UI K O6=true) (ok6:UN K (.ref O6)=true)
 {O7:Vh} (oa7:LS K VD "Turned"=some (some (.ref O7))) (of7:W.Zy K O7 ["level","rows","heads","entries","told_by_number","number_by_told","count","key","old","new"]=true)
 (om7:UI K O7=true) (ok7:UN K (.ref O7)=true)
 (oo:W.Q3c K [O0,O1,O2,O3,O4,O5,O6,O7] QBd=true)
 {CT:Vh} {sL:Bool} {sM yq:Str} {yN:Vh} {sN:List Va} {sO:List Str} {jO:List Va} {sP:Bool} {jP:Option Bool} {sQ:Option Vh} {sR sS sT sU sV:Option Va}
 (t1:LS K VD "TableError"=some (some (.ref CT))) (t2:K.lookup CT=some (LR sM yq CT yN sN W.bmV sL sO jO sP jP sQ sR sS sT sU sV "ValueError.__new__")) (t3:W.nsOkIn K yN=true) (t4:LS K yN "__init__"=some Vo) (t5:W.tailIn K W.bmV W.bmV=true)
 (t6:UT K (.ref CT) "__getattribute__"=some (some (.builtin "type.__getattribute__"))) (t7:W.readsIn K CT (.type "type")=true) (t8:W.findCls K (.ref CT) (.type "type") "__init__"=some (.val (.builtin "ValueError.__init__")))
 (t9:W.tailIn K W.bmV (.ref CT::W.bmV)=true)
 {C0:Vh} {jQ sW:Str} {pE:Vh} {jR:List Va} {jS:List Str} {fN:List Va} {jT:Bool} {fO:Option Bool} {jU:Option Vh} {jV jW jX jY jZ:Option Va}
 (p0:LS K VD "NoPage"=some (some (.ref C0))) (q0:K.lookup C0=some (LR jQ sW C0 pE jR (.ref CT::W.bmV) true jS fN jT fO jU jV jW jX jY jZ "ValueError.__new__")) (r0:W.nsOkIn K pE=true) (u0:W.ZLa K C0 ["number","key"]=true)
 (o0:UN K (.ref C0)=true)
 {C1:Vh} {j4 sX:Str} {pF:Vh} {ke:List Va} {ki:List Str} {fP:List Va} {kj:Bool} {fQ:Option Bool} {km:Option Vh} {kn ko kq ku ky:Option Va}
 (p1:LS K VD "NotRising"=some (some (.ref C1))) (q1:K.lookup C1=some (LR j4 sX C1 pF ke (.ref CT::W.bmV) true ki fP kj fQ km kn ko kq ku ky "ValueError.__new__")) (r1:W.nsOkIn K pF=true) (u1:W.ZLa K C1 ["number","key"]=true)
 (o1:UN K (.ref C1)=true)
 (tt:W.QUc K [C0,C1]=true) (tu:W.Xtc K [C0,C1]=true)
 (a1:UD K (.ref C1) "__init__"=some (some (.ref f1))) (j1:UE K (.ref f1)=true)
 (F1:Fun K "__init__" "NotRising.__init__" Jr f1 d1)
 (a2:UD K (.ref C0) "__init__"=some (some (.ref f2))) (j2:UE K (.ref f2)=true)
 (F2:Fun K "__init__" "NoPage.__init__" Yp f2 d2)
 (a3:LS K VD "rank_of"=some (some (.ref f3)))
 (F3:Fun K "rank_of" "rank_of" ZVa f3 d3)
 (a4:LS K VD "mixed_first"=some (some (.ref f4)))
 (F4:Fun K "mixed_first" "mixed_first" Yq f4 d4)
 (a5_0:UD K (.ref O0) "__init__"=some (some (.ref f5)))
 (j5:UE K (.ref f5)=true)
 (F5:Fun K "__init__" "Page.__init__" XN f5 d5)
 (e5:W.clI K O0 f5=true)
 (a6_0:UD K (.ref O0) "told"=some (some (.ref f6)))
 (a6_1:UD K (.ref O1) "told"=some (some (.ref f6)))
 (a6_2:UD K (.ref O2) "told"=some (some (.ref f6)))
 (j6:UE K (.ref f6)=true)
 (F6:Fun K "told" "Page.told" XO f6 d6)
 (a7_0:UD K (.ref O0) "first"=some (some (.ref f7)))
 (a7_1:UD K (.ref O1) "first"=some (some (.ref f7)))
 (a7_2:UD K (.ref O2) "first"=some (some (.ref f7)))
 (j7:UE K (.ref f7)=true)
 (F7:Fun K "first" "Page.first" Y7 f7 d7)
 (a8_3:UD K (.ref O3) "__init__"=some (some (.ref f8)))
 (j8:UE K (.ref f8)=true)
 (F8:Fun K "__init__" "Pages.__init__" Y8 f8 d8)
 (a9_4:UD K (.ref O4) "__init__"=some (some (.ref f9)))
 (j9:UE K (.ref f9)=true)
 (F9:Fun K "__init__" "Change.__init__" Yr f9 d9)
 (e9:W.clI K O4 f9=true)
 (a10_7:UD K (.ref O7) "__init__"=some (some (.ref o7)))
 (j10:UE K (.ref o7)=true)
 (F10:Fun K "__init__" "Change.__init__" Ys o7 wQ)
 (a11_4:UD K (.ref O4) "told"=some (some (.ref iq)))
 (a11_5:UD K (.ref O5) "told"=some (some (.ref iq)))
 (a11_6:UD K (.ref O6) "told"=some (some (.ref iq)))
 (a11_7:UD K (.ref O7) "told"=some (some (.ref iq)))
 (j11:UE K (.ref iq)=true)
 (F11:Fun K "told" "Change.told" Yt iq wR)
 (a12:LS K VD "missing_from"=some (some (.ref rP)))
 (F12:Fun K "missing_from" "missing_from" Z4 rP d12)
 (a13:LS K VD "_law_cell"=some (some (.ref rQ)))
 (F13:Fun K "_law_cell" "_law_cell" XQ rQ wS)
 (a14:LS K VD "_law_text"=some (some (.ref rT)))
 (F14:Fun K "_law_text" "_law_text" XR rT wT)
 (a15:LS K VD "_law_tall"=some (some (.ref rV)))
 (F15:Fun K "_law_tall" "_law_tall" XS rV wU)
 (a16:LS K VD "_law_cells"=some (some (.ref rW)))
 (F16:Fun K "_law_cells" "_law_cells" Xa rW wV)
 (a17:LS K VD "_law_risen"=some (some (.ref rX)))
 (F17:Fun K "_law_risen" "_law_risen" ZD rX wW)
 (a18:LS K VD "before"=some (some (.ref rY)))
 (F18:Fun K "before" "before" Yla rY wX)
 (a19:LS K VD "mixed"=some (some (.ref rZ)))
 (F19:Fun K "mixed" "mixed" Qjb rZ wY)
 (a20_1:UD K (.ref O1) "__init__"=some (some (.ref o8)))
 (j20:UE K (.ref o8)=true)
 (F20:Fun K "__init__" "Leaf.__init__" XT o8 wZ)
 (a21_2:UD K (.ref O2) "__init__"=some (some (.ref o9)))
 (j21:UE K (.ref o9)=true)
 (F21:Fun K "__init__" "Twig.__init__" XU o9 w6)
 (a22_3:UD K (.ref O3) "kept"=some (some (.ref pi)))
 (j22:UE K (.ref pi)=true)
 (F22:Fun K "kept" "Pages.kept" Xb pi w9)
 (a23_5:UD K (.ref O5) "__init__"=some (some (.ref pk)))
 (j23:UE K (.ref pk)=true)
 (F23:Fun K "__init__" "PutIn.__init__" Xc pk xa)
 (a24_6:UD K (.ref O6) "__init__"=some (some (.ref pq)))
 (j24:UE K (.ref pq)=true)
 (F24:Fun K "__init__" "TakenOut.__init__" JK pq xb)
 (a25:LS K VD "_law_key"=some (some (.ref r6)))
 (F25:Fun K "_law_key" "_law_key" QPa r6 xc)
 (a26:LS K VD "level_of"=some (some (.ref r9)))
 (F26:Fun K "level_of" "level_of" QQa r9 xf)
 (a27_3:UD K (.ref O3) "told_at"=some (some (.ref pA)))
 (j27:UE K (.ref pA)=true)
 (F27:Fun K "told_at" "Pages.told_at" JL pA xg)
 (a28:LS K VD "_law_rows"=some (some (.ref sd)))
 (F28:Fun K "_law_rows" "_law_rows" XV sd xh)
 (a29:LS K VD "_law_changed"=some (some (.ref se)))
 (F29:Fun K "_law_changed" "_law_changed" J7 se xk)
 (a30:LS K VD "in_order"=some (some (.ref si)))
 (F30:Fun K "in_order" "in_order" QRa si xl)
 (a31:LS K VD "page_of"=some (some (.ref sj)))
 (F31:Fun K "page_of" "page_of" ZYa sj xm)
 (a32_3:UD K (.ref O3) "card"=some (some (.ref pB)))
 (j32:UE K (.ref pB)=true)
 (F32:Fun K "card" "Pages.card" Xd pB xn)
 (a33_3:UD K (.ref O3) "drop"=some (some (.ref pC)))
 (j33:UE K (.ref pC)=true)
 (F33:Fun K "drop" "Pages.drop" Xe pC xo)
 (a34:LS K VD "cut"=some (some (.ref sk)))
 (F34:Fun K "cut" "cut" ZHc sk xp)
 (a35:LS K VD "change_of"=some (some (.ref sr)))
 (F35:Fun K "change_of" "change_of" XX sr xq)
 (a36_3:UD K (.ref O3) "page"=some (some (.ref pD)))
 (j36:UE K (.ref pD)=true)
 (F36:Fun K "page" "Pages.page" Xf pD xr)
 (a37:LS K VD "heads_of"=some (some (.ref su)))
 (F37:Fun K "heads_of" "heads_of" QSa su xt)
 (a38:LS K VD "root_at"=some (some (.ref sv)))
 (F38:Fun K "root_at" "root_at" ZZa sv xu)
 (a39:LS K VD "changes_between"=some (some (.ref sw)))
 (F39:Fun K "changes_between" "changes_between" Z6 sw xw)
 (a40:LS K VD "crowned"=some (some (.ref sC)))
 (F40:Fun K "crowned" "crowned" Z0a sC xx)
 (a41:LS K VD "entries_of"=some (some (.ref sD)))
 (F41:Fun K "entries_of" "entries_of" Xg sD xy)
 (a42:LS K VD "_law_reach"=some (some (.ref sE)))
 (F42:Fun K "_law_reach" "_law_reach" JU sE xz)
 (a43:LS K VD "built"=some (some (.ref sF)))
 (F43:Fun K "built" "built" Qnb sF xA)
 (a44:LS K VD "unlike"=some (some (.ref sG)))
 (F44:Fun K "unlike" "unlike" Yna sG xB)
 (a45:LS K VD "_law_looked"=some (some (.ref sI)))
 (F45:Fun K "_law_looked" "_law_looked" Yx sI xC)
 (a46:LS K VD "_law_without"=some (some (.ref sJ)))
 (F46:Fun K "_law_without" "_law_without" ZA sJ xE)
 (a47:LS K VD "law"=some (some (.ref sK)))
 (F47:Fun K "law" "law" XGa sK xF)
 (z1:LS K VD "dict"=some Vo)
 (z2:LS K VD "int"=some Vo)
 (z3:LS K VD "isinstance"=some Vo)
 (z4:LS K VD "len"=some Vo)
 (z5:LS K VD "list"=some Vo)
 (z6:LS K VD "ord"=some Vo)
 (z7:LS K VD "range"=some Vo)
 (z8:LS K VD "set"=some Vo)
 (z9:LS K VD "sorted"=some Vo)
 (z10:LS K VD "str"=some Vo)
 (z11:LS K VD "tuple"=some Vo)
 {mT:Tok} (g1:LS K VD "MODULUS"=some (some (.int (2147483647) mT)))
 {xG:Tok} (g2:LS K VD "TOP_LEVEL"=some (some (.int (6) xG)))
 : ∃ fd:UZ,(∀ (s:VG) (v:Va),BindsTo s fd ⟨[v],[]⟩ [("_law_script",v)])/\∀ base:Vp,K.In base->base.Ns VD mg->QB l.prog w K mg base CX0 9 fa fd ["_law_script"] (YCa K):=by
 have e:=n5.symm.trans (Cv X G a47);cases e;have k1:=F1.kp;have b1:=F1.binds (ps:=["self","key"]) λ_ _ _ _ _ _=>Jl λ_ _=>rfl
 have k2:=F2.kp;have b2:=F2.binds (ps:=["self","number"]) λ_ _ _ _ _ _=>Jl λ_ _=>rfl
 have k5:=F5.kp;have b5:=F5.binds (ps:=["self","level","entries"]) λ_ _ _ _ _ _=>X9 λ_ _ _=>rfl
 have k6:=F6.kp;have b6:=F6.binds (ps:=["self"]) λ_ _ _ _ _ _=>Yd λ_=>rfl
 have k7:=F7.kp;have b7:=F7.binds (ps:=["self"]) λ_ _ _ _ _ _=>Yd λ_=>rfl
 have k8:=F8.kp;have b8:=F8.binds (ps:=["self"]) λ_ _ _ _ _ _=>Yd λ_=>rfl
 have k9:=F9.kp;have b9:=F9.binds (ps:=["self","key","old","new"]) λ_ _ _ _ _ _=>YLc λ_ _ _ _=>rfl
 have k10:=F10.kp;have xH:=F10.binds (ps:=["self","key","old","new"]) λ_ _ _ _ _ _=>YLc λ_ _ _ _=>rfl
 have lI:=F11.kp;have lJ:=F11.binds (ps:=["self"]) λ_ _ _ _ _ _=>Yd λ_=>rfl
 have k20:=F20.kp;have xI:=F20.binds (ps:=["self","rows"]) λ_ _ _ _ _ _=>Jl λ_ _=>rfl
 have k21:=F21.kp;have xJ:=F21.binds (ps:=["self","level","heads"]) λ_ _ _ _ _ _=>X9 λ_ _ _=>rfl
 have xK:=F22.kp;have xL:=F22.binds (ps:=["self","page"]) λ_ _ _ _ _ _=>Jl λ_ _=>rfl
 have k23:=F23.kp;have xM:=F23.binds (ps:=["self","key","new"]) λ_ _ _ _ _ _=>X9 λ_ _ _=>rfl
 have k24:=F24.kp;have xO:=F24.binds (ps:=["self","key","old"]) λ_ _ _ _ _ _=>X9 λ_ _ _=>rfl
 have xP:=F27.kp;have xQ:=F27.binds (ps:=["self","number"]) λ_ _ _ _ _ _=>Jl λ_ _=>rfl
 have xR:=F32.kp;have xS:=F32.binds (ps:=["self","number"]) λ_ _ _ _ _ _=>Jl λ_ _=>rfl
 have xV:=F33.kp;have xW:=F33.binds (ps:=["self","number"]) λ_ _ _ _ _ _=>Jl λ_ _=>rfl
 have xX:=F36.kp;have xY:=F36.binds (ps:=["self","number"]) λ_ _ _ _ _ _=>Jl λ_ _=>rfl
 have Z:Zs mg:=⟨Cw X G z1,Cw X G z2,Cw X G z3,Cw X G z4,Cw X G z5,Cw X G z6,Cw X G z7,Cw X G z8,Cw X G z9,Cw X G z10,Cw X G z11,⟨_,Cv X G g1⟩,⟨_,Cv X G g2⟩⟩;have X0:W.XCl K C0 CT:=W.XCl.of ⟨jQ,sW,pE,jR,jS,fN,jT,fO,jU,jV,jW,jX,jY,jZ,q0,r0⟩ t9 u0 ta tb;have X1:W.XCl K C1 CT:=W.XCl.of ⟨j4,sX,pF,ke,ki,fP,kj,fQ,km,kn,ko,kq,ku,ky,q1,r1⟩ t9 u1 ta tb;have T:Tx K mg CT (λi=>[C0,C1].getD i 0) (λi=>[O0,O1,O2,O3,O4,O5,O6,O7].getD i 0):=⟨Cv X G oa0,
  Cv X G oa1,
  Cv X G oa2,
  Cv X G oa3,
  Cv X G oa4,
  Cv X G oa5,
  Cv X G oa6,
  Cv X G oa7,
  λi hi=>match i,hi with | 0,_=>ObC.of of0 ta tb | 1,_=>ObC.of of1 ta tb | 2,_=>ObC.of of2 ta tb | 3,_=>ObC.of of3 ta tb | 4,_=>ObC.of of4 ta tb | 5,_=>ObC.of of5 ta tb | 6,_=>ObC.of of6 ta tb | 7,_=>ObC.of of7 ta tb | m+8,h=>absurd h #[0],
  W.Xxc oo,
  ⟨Cv X G t1,⟨⟨sM,yq,yN,sN,sL,sO,jO,sP,jP,sQ,sR,sS,sT,sU,sV,t2,t3,t4⟩,t5⟩,t6,t7,t8⟩,
  Cv X G p0,
  Cv X G p1,
  λi hi=>match i,hi with | 0,_=>X0 | 1,_=>X1 | m+2,h=>absurd h #[0],
  λi hi=>match i,hi with | 0,_=>λf hf=>W.Xua u0 hf | 1,_=>λf hf=>W.Xua u1 hf | m+2,h=>absurd h #[0],
  W.JGc tt,
  W.Xuc tu⟩
 have FL:=F47;obtain⟨_,_,kV,dc,pm,an,am,ct,_,rfl,_,_⟩:=FL.ex;refine⟨Oo "law" "law" (Q8a XGa) (YX XGa) (Qi XGa) .none kV dc pm an am ct,λs v=>.of_eq rfl,λbase _ _=>?_⟩
 have c0:=@cq0 l.prog w K mg base h X G;have c1:=@cq1 l.prog w K mg base h X G;have m1:=@mq1 l.prog w K mg base;have X3:MkX l.prog w K mg base 1 "NotRising" C1 CT ["key"]:=⟨_,_,_,Zra Z T F1,b1,X1,a1,j1,o1,Cv X G p1⟩;have nH:MkX l.prog w K mg base 1 "NoPage" C0 CT ["number"]:=⟨_,_,_,Yoa Z T F2,b2,X0,a2,j2,o0,Cv X G p0⟩;have sY:=c0 (JMb Z T  F3) (F3.binds λ_ _ _ _ _ _=>Yd λ_=>rfl) F3.kp a3
 have xZ:=c0 (Yqa Z T  F4) (F4.binds λ_ _ _ _ _ _=>Yd λ_=>rfl) F4.kp a4
 have aV:BaI l.prog w K mg base 1 "Page" (Z8 K (λi=>[O0,O1,O2,O3,O4,O5,O6,O7].getD i 0)):=⟨O0,_,_,_,Cv X G oa0,ClI.of e5,k5,Qpb Z T  F5,b5⟩
 have Yj:=m1 (Xi Z T  F6) b6 a6_0 j6 k6;have ZV:=m1 (Xi Z T  F6) b6 a6_1 j6 k6;have ZW:=m1 (Xi Z T  F6) b6 a6_2 j6 k6;have qG:=m1 (Yy Z T  F7) b7 a7_0 j7 k7;have Xl:=m1 (Yy Z T  F7) b7 a7_1 j7 k7;have Xm:=m1 (Yy Z T  F7) b7 a7_2 j7 k7;have oW:MkV l.prog w K mg base 1 "Pages" O3 (Ju l.prog w (λi=>[O0,O1,O2,O3,O4,O5,O6,O7].getD i 0)):=⟨_,_,_,⟨om3,a8_3,j8,ok3⟩,YZa Z T  F8,b8,Cv X G oa3⟩
 have aG:BaI l.prog w K mg base 1 "Change" (ZB K (λi=>[O0,O1,O2,O3,O4,O5,O6,O7].getD i 0)):=⟨O4,_,_,_,Cv X G oa4,ClI.of e9,k9,Yua Z T  F9,b9⟩
 have nT:MkV l.prog w K mg base 1 "Turned" O7 (Ja K (λi=>[O0,O1,O2,O3,O4,O5,O6,O7].getD i 0)):=⟨_,_,_,⟨om7,a10_7,j10,ok7⟩,Yva Z T  F10,xH,Cv X G oa7⟩
 have rG:=m1 (Jb Z T  F11) lJ a11_4 j11 lI;have JY:=m1 (Jb Z T  F11) lJ a11_5 j11 lI;have ZM:=m1 (Jb Z T  F11) lJ a11_6 j11 lI;have JB:=m1 (Jb Z T  F11) lJ a11_7 j11 lI;have x9:=c0 (Jla Z T  F12) (F12.binds λ_ _ _ _ _ _=>Jl λ_ _=>rfl) F12.kp a12
 have pG:=c0 (Qwb Z T  F13) (F13.binds λ_ _ _ _ _ _=>Jl λ_ _=>rfl) F13.kp a13
 have ya:=c0 (Qxb Z T  F14) (F14.binds λ_ _ _ _ _ _=>Yd λ_=>rfl) F14.kp a14
 have yb:=c0 (Qyb Z T  F15) (F15.binds λ_ _ _ _ _ _=>Yd λ_=>rfl) F15.kp a15
 have sZ:=c0 (Y6a Z T  F16) (F16.binds λ_ _ _ _ _ _=>Yd λ_=>rfl) F16.kp a16
 have tf:=c0 (Y7a Z T  F17) (F17.binds λ_ _ _ _ _ _=>Yd λ_=>rfl) F17.kp a17
 have tm:=c0 (XGb Z T sY F18) (F18.binds λ_ _ _ _ _ _=>Jl λ_ _=>rfl) F18.kp a18
 have yc:=c0 (ZLc Z T xZ F19) (F19.binds λ_ _ _ _ _ _=>Yd λ_=>rfl) F19.kp a19
 have nF:MkV l.prog w K mg base 2 "Leaf" O1 (JV K (λi=>[O0,O1,O2,O3,O4,O5,O6,O7].getD i 0)):=⟨_,_,_,⟨om1,a20_1,j20,ok1⟩,Qqb Z T aV F20,xI,Cv X G oa1⟩
 have nE:MkV l.prog w K mg base 2 "Twig" O2 (JW K (λi=>[O0,O1,O2,O3,O4,O5,O6,O7].getD i 0)):=⟨_,_,_,⟨om2,a21_2,j21,ok2⟩,Qrb Z T aV F21,xJ,Cv X G oa2⟩
 have Xn:=m1 (Y1a Z T Yj ZV ZW F22) xL a22_3 j22 xK;have nU:MkV l.prog w K mg base 2 "PutIn" O5 (Jx K (λi=>[O0,O1,O2,O3,O4,O5,O6,O7].getD i 0)):=⟨_,_,_,⟨om5,a23_5,j23,ok5⟩,Y5a Z T aG F23,xM,Cv X G oa5⟩
 have nV:MkV l.prog w K mg base 2 "TakenOut" O6 (ZE K (λi=>[O0,O1,O2,O3,O4,O5,O6,O7].getD i 0)):=⟨_,_,_,⟨om6,a24_6,j24,ok6⟩,Z4a Z T aG F24,xO,Cv X G oa6⟩
 have tD:=c0 (ZCb Z T ya yb F25) (F25.binds λ_ _ _ _ _ _=>Yd λ_=>rfl) F25.kp a25
 have yd:=c0 (Zzb Z T yc F26) (F26.binds λ_ _ _ _ _ _=>Yd λ_=>rfl) F26.kp a26
 have QM:=m1 (Z1a Z T nH F27) xQ a27_3 j27 xP;have ye:=c0 (QBb Z T tf pG sZ tD F28) (F28.binds λ_ _ _ _ _ _=>Yd λ_=>rfl) F28.kp a28
 have yf:=c0 (Jma Z T tf pG sZ tD F29) (F29.binds λ_ _ _ _ _ _=>Jl λ_ _=>rfl) F29.kp a29
 have yg:=c0 (ZIb Z T tm sY F30) (F30.binds λ_ _ _ _ _ _=>Yd λ_=>rfl) F30.kp a30
 have tE:=c0 (JJb Z T nE nF F31) (F31.binds λ_ _ _ _ _ _=>Jl λ_ _=>rfl) F31.kp a31
 have Xt:=m1 (Y2a Z T QM F32) xS a32_3 j32 xR;have Xv:=m1 (Y3a Z T QM F33) xW a33_3 j33 xV;have yh:=c0 (XTc Z T yd F34) (F34.binds λ_ _ _ _ _ _=>Jl λ_ _=>rfl) F34.kp a34
 have yj:=c0 (Qub Z T nT nU nV F35) (F35.binds λ_ _ _ _ _ _=>X9 λ_ _ _=>rfl) F35.kp a35
 have ZF:=m1 (Y0a Z T tE QM F36) xY a36_3 j36 xX;have tF:=c0 (ZBb Z T yh tE qG Xl Xm Xn F37) (F37.binds λ_ _ _ _ _ _=>X9 λ_ _ _=>rfl) F37.kp a37
 have yk:=c0 (JVb Z T Xt F38) (F38.binds λ_ _ _ _ _ _=>X9 λ_ _ _=>rfl) F38.kp a38
 have ym:=c0 (Q1a Z T yg yj F39) (F39.binds λ_ _ _ _ _ _=>Jl λ_ _=>rfl) F39.kp a39
 have yn:=c0 (JPb Z T tF F40) (F40.binds λ_ _ _ _ _ _=>X9 λ_ _ _=>rfl) F40.kp a40
 have yo:=c0 (Y8a Z T ZF F41) (F41.binds λ_ _ _ _ _ _=>Jl λ_ _=>rfl) F41.kp a41
 have tG:=c0 (Y9a Z T Yj ZV ZW ZF F42) (F42.binds λ_ _ _ _ _ _=>Jl λ_ _=>rfl) F42.kp a42
 have yp:=c1 (ZPc Z T yn tF tm X3 F43) (F43.binds λ_ _ _ _ _ _=>Jl λ_ _=>rfl) F43.kp a43
 have tH:=c0 (XOb Z T x9 yo ym yk F44) (F44.binds λ_ _ _ _ _ _=>X9 λ_ _ _=>rfl) F44.kp a44
 have yr:=c0 (YBa Z T tH tG F45) (F45.binds λ_ _ _ _ _ _=>X9 λ_ _ _=>rfl) F45.kp a45
 have yt:=c0 (Jna Z T tH tG rG JY ZM JB Xv F46) (F46.binds λ_ _ _ _ _ _=>X9 λ_ _ _=>rfl) F46.kp a46
 exact XXc Z T ye yp yt yf yr pG oW F47
end My
namespace PySem.W.Fast
def tw9785625525925178404:=0
def tw17200914680010591543:=0
def tw15518368362953246076:=0
def tw17283418555111027290:=0
def tw720086434391457862:=0
def tw8048002493970642008:=0
def tw724208129705828505:=0
def tw9518865909988861809:=0
def tw1775453161565233948:=0
def tw12001149208756704688:=0
def tw1452042683011013014:=0
def tw18073586761908310246:=0
def tw2536730330659518103:=0
def tw10042144157613635331:=0
def tw9399580672652224816:=0
def tw10344543586880540169:=0
def tw4319082150879375890:=0
def tw17815058588001774650:=0
def tw13321826884599701696:=0
def tw10930130586472411422:=0
def tw11084139643997889165:=0
def tw14303752180626130837:=0
def tw15856094091579085016:=0
def tw13273222718451784694:=0
def tw7095771595081320191:=0
def tw8913660221880823069:=0
def tw1231380509904127702:=0
def tw3792681152709135396:=0
def tw5576736508414757527:=0
def tw17333327652950567367:=0
def tw204005894910025207:=0
def tw11234022320899814315:=0
def tw11002723006420006856:=0
def tw2722312908209949573:=0
def tw11137788107600458087:=0
def tw11455281602804064549:=0
def tw7312709688551094196:=0
def tw5707312286645213316:=0
def tw12841534597678947970:=0
def tw15239986975276536906:=0
def tw223443525742179060:=0
def tw10093831385638245532:=0
def tw14577478579807213399:=0
def tw16096230210257995142:=0
def tw2023608217430618035:=0
def tw16638203523118798858:=0
def tw13611263063947994173:=0
def tw8095686154796025914:=0
def tw9409462170884617304:=0
def tw10939317439332190062:=0
def tw14955398456066214308:=0
def tw10189516605658138708:=0
def tw15975722343553074354:=0
def tw4753191773050159558:=0
def tw15459213270093042737:=0
def tw1819444124326584718:=0
def tw7470642310416369848:=0
def tw2845850017425321792:=0
def tw4402544277938604124:=0
def tw65186437843937352:=0
def tw16307258750369968585:=0
def tw16444333524148448209:=0
def tw236946149825310507:=0
def tw3032399152067023173:=0
def tw18330644027284417641:=0
def tw7254058591738015080:=0
def tw3092999557501345918:=0
def tw9945811275229662756:=0
def tw561598103397237911:=0
def tw17608450078902346612:=0
def tw671218543351223487:=0
def tw14953356759359772990:=0
def tw3867108289912976549:=0
def tw6242740775165210423:=0
def tw14571161991331323913:=0
def tw421723410476623932:=0
def tw16609463086001056595:=0
def tw8967537182188247937:=0
def tw8320574871448440055:=0
def tw8081591027471425710:=0
def tw8217944460075722326:=0
def tw10615617203012120428:=0
def tw3716110350021629579:=0
def tw3391594076246672004:=0
def tw4200683610810380071:=0
def tw11112882340313154384:=0
def tw12835572699925490084:=0
def tw836713503031762369:=0
def tw17870176687341854410:=0
def tw9106014556144384664:=0
def tw15293844923423970404:=0
def tw6268025340625743256:=0
def tw17518702470486881391:=0
def tw14534242408423606295:=0
def tw4659859350166301858:=0
def tw17558518365434764585:=0
def tw4710797200827309418:=0
def tw8566341783275818143:=0
def tw4888628965783133027:=0
def tw5267362462902918284:=0
def tw4625262697435599352:=0
def tw15047368617850848167:=0
def tw10413493407575082075:=0
def tw10484866247830623770:=0
def tw17035419206866573869:=0
def tw1421472294502996477:=0
def tw2895786849329984261:=0
def tw12454988209076926772:=0
def tw9483348934064842447:=0
def tw13872179385012168565:=0
def tw168198518328711579:=0
def tw16439397288732217539:=0
def tw175966639795498849:=0
def tw13650585432562712040:=0
def tw6151123524529627023:=0
def tw8224225752266858698:=0
def tw17619580315985639353:=0
def tw12936115773199542711:=0
def tw621124353130971718:=0
def tw15571347485203898177:=0
def tw16798663389532835156:=0
def tw2393359678555111957:=0
def tw13657141579023018623:=0
def tw5342550459418188697:=0
def tw5002463232215670600:=0
def tw16679234576956861716:=0
def tw14354912002797172421:=0
def tw16031261807045637081:=0
def tw6168105416350034757:=0
def tw7389071507383313513:=0
def tw9447858046924583857:=0
def tw1536403228538507513:=0
def tw4061361217244121945:=0
def tw15086443206596498477:=0
def tw419149193589668608:=0
def tw4558408037127639057:=0
def tw6205010870220626452:=0
def tw6497472948878301886:=0
def tw4091004783555483809:=0
def tw7143000294451002495:=0
def tw6824282782455221766:=0
def tw8928295876316950672:=0
def tw17304531899394905670:=0
def tw1726834519008170129:=0
def tw7680408363719147449:=0
def tw7442520432279875450:=0
def tw10849078275352856498:=0
def tw1793073926691475995:=0
def tw16624295183751209469:=0
def tw2137898678215460540:=0
def tw2705286214818764351:=0
def tw12351472127169995791:=0
def tw5526299097689481924:=0
def tw7482360925600926797:=0
def tw16394922708600229375:=0
def tw17889715382930360533:=0
def tw3820848122706787959:=0
def tw14545694666239918042:=0
def tw1532279446340025910:=0
def tw6352230206131350284:=0
def tw10810245925880521808:=0
def tw3889236542950431503:=0
def tw370851852710468534:=0
def tw15302282554419895123:=0
def tw10962725441853266554:=0
def tw13426164130369207746:=0
def tw8964851980848523062:=0
def tw5114764816637830304:=0
def tw12317742301190264741:=0
def tw5000417716460039347:=0
def tw15289030785402002013:=0
def tw187313361877327914:=0
def tw17259382134609452866:=0
def tw13780191797739070091:=0
def tw15557731320945096911:=0
def tw2618449915691462166:=0
def tw9311434332559885353:=0
def tw15219263707872419135:=0
def tw7203390782763046432:=0
def tw2086913758609842832:=0
def tw6309582587038010477:=0
def tw10137192876138389991:=0
def tw1034143820531359318:=0
def tw18200788971834672779:=0
def tw5576302580733060928:=0
def tw12382617563017202608:=0
def tw7655320857079110598:=0
def tw7025574528478377433:=0
def tw5060422063547754234:=0
def tw15265754141731100650:=0
def tw15173753417983895784:=0
def tw4642264816669008844:=0
def tw7040846242126710679:=0
def tw9180230635322415125:=0
def tw3278915356213651272:=0
def tw8149836655407762491:=0
def tw13761718517911381913:=0
def tw17965574084272276409:=0
def tw7000692132098889997:=0
def tw6473970384250086077:=0
def tw11127761287469194616:=0
def tw3920612114686509989:=0
def tw3159605840057613569:=0
def tw15280266524496532868:=0
def tw8545313398646242107:=0
def tw7419050682822952696:=0
def tw12465521417138944321:=0
def tw8762758256226718574:=0
def tw7616518889801979935:=0
def tw15853075393456043301:=0
def tw17398956257643091187:=0
def tw8960578791475095562:=0
def tw16992583872960190642:=0
def tw9518491221773858305:=0
def tw14945705612976072965:=0
def tw11384752062356250448:=0
def tw6158607523386165644:=0
def tw9961654206343047796:=0
def tw14340499838234485188:=0
def tw15178704052734020517:=0
def tw1570012632804225442:=0
def tw6099862746382067682:=0
def tw1978020493324209220:=0
def tw16091582032289856596:=0
def tw15060903109632724625:=0
def tw5506707806605425165:=0
def tw1309116868775345718:=0
def tw8884509781640690643:=0
def tw7926972842006500103:=0
def tw5791080541132775287:=0
def tw8980254842196170568:=0
def tw16396183435189830479:=0
def tw2825131433876442769:=0
def tw12475791531986703545:=0
def tw10132653233353578946:=0
def tw11449462808437220625:=0
def tw13766883566263135026:=0
def tw15119101587890561577:=0
def tw7759598260112557730:=0
def tw15930753042980515931:=0
def tw14566438340538391168:=0
def tw5806102014441568255:=0
def tw11206529205612567233:=0
def tw1130572559156511230:=0
def tw10141520760163183986:=0
def tw16559224948812203585:=0
def tw6599982035938180890:=0
def tw7423511073899446230:=0
def tw7746457328001454306:=0
def tw14453365747746831099:=0
def tw7179366938601411611:=0
def tw9549520832056030042:=0
def tw14785505985469578937:=0
def tw4000971493853274219:=0
def tw10172641830482448142:=0
def tw17756228161286678913:=0
def tw4022007100582534592:=0
def tw15992285815062050864:=0
def tw15397129762033957412:=0
def tw13556901421906347541:=0
def tw8347301879563512918:=0
def tw11096459986014887006:=0
def tw16653724367296503358:=0
def tw8565718182461948114:=0
def tw6691692378942957568:=0
def tw7969917430063619542:=0
def tw4717367732042215942:=0
def tw6754172781068736568:=0
def tw9708675053763839504:=0
def tw679107766703747363:=0
def tw7739260923559039643:=0
def tw5029618324890774940:=0
def tw9627569908458018169:=0
def tw6695112573731455030:=0
def tw11896892765761041209:=0
def tw13084108493130787299:=0
def tw16102501848389528073:=0
def tw2796551116719460882:=0
def tw956051441427460754:=0
def tw9984521116018328832:=0
def tw15890637993073116900:=0
def tw6491037082291781972:=0
def tw5893978578402296893:=0
def tw7522893412600609370:=0
def tw617279378797643590:=0
def tw5071469873761357581:=0
def tw9093207161373793649:=0
def tw14569822462916717782:=0
def tw10335141796458617860:=0
def tw4814573920151308729:=0
def tw2848642997301926598:=0
def tw4932682527385481177:=0
def tw985297952866539691:=0
def tw10739621051377747610:=0
def tw3626499696628672480:=0
def tw9149191563713484614:=0
def tw16419140228296755203:=0
def tw6452186093982667026:=0
def tw11909631812783360566:=0
def tw18349676142909727802:=0
def tw3687510613619805360:=0
def tw787076743554711356:=0
def tw16686548718932993301:=0
def tw17470829797261182777:=0
def tw5771374786397055497:=0
def tw15850763781788588351:=0
def tw16753167786107592632:=0
def tw1167606254110907993:=0
def tw123628618642651683:=0
def tw1524506801626292927:=0
def tw1154898655574117921:=0
def tw9065855532509658713:=0
def tw6216600897457791288:=0
def tw1625566571296472392:=0
def tw16161300150471815342:=0
def tw2353478183439033818:=0
def tw7021804521908372807:=0
def tw14412763216425301412:=0
def tw7735787460213373356:=0
def tw2079702869970675385:=0
def tw3460398586274855942:=0
def tw6432927160422247422:=0
def tw18107917909430186366:=0
def tw12154482687667664674:=0
def tw5039097668210114611:=0
def tw5846615582244874008:=0
def tw15195397659305991332:=0
def tw18045219318831731052:=0
def tw12875945293373648997:=0
def tw5641246515752266948:=0
def tw1559058175800747455:=0
def tw3111169559803538114:=0
def tw13508732343793049611:=0
def tw9972284492661249433:=0
def tw10689073806570663859:=0
def tw714306307595254213:=0
def tw10714662595883493744:=0
def tw18222760616588765357:=0
def tw13052308655751651583:=0
def tw14575760374178307297:=0
def tw11427073555276765352:=0
def tw279280572286942747:=0
end PySem.W.Fast
open PySem PySem.W PyProof.Rows
local macro_rules | `(tactic| walk_at "fn") => `(tactic| exact L2.Y6c (by k_is) (by k_is) (by k_is))
set_option maxRecDepth 100000 in
set_option maxHeartbeats 0 in
theorem PySem.Challenge.cw_twigtable_k35_whole_pages_looked_at_holds : PySem.Challenge.rw_twigtable_k35_whole_pages_looked_at.Holds := by
 w_on;o_law;k_head;(case hw=>w_witness2)
 k_fill
 refine L2.Qtc (l:=PySem.Challenge.rw_twigtable_k35_whole_pages_looked_at) (n:=63) (k:=9) (x:="_law_script") (CX:=λ_=>L2.CX0) (sp:=My.YCa) rfl #[1] rfl ⟨rfl,by decide,by decide⟩ (λw h Y=>W.kIn_of Y) ?F ?S ?C
 case F =>
  intro w mg fa h KX G iP;refine' My.XZc KX G iP ?ta ?tb ?oa0 ?of0 ?oa1 ?of1 ?om1 ?ok1 ?oa2 ?of2 ?om2 ?ok2 ?oa3 ?of3 ?om3 ?ok3 ?oa4 ?of4 ?oa5 ?of5 ?om5 ?ok5 ?oa6 ?of6 ?om6 ?ok6 ?oa7 ?of7 ?om7 ?ok7 ?oo ?t1 ?t2 ?t3 ?t4 ?t5 ?t6 ?t7 ?t8 ?t9 ?p0 ?q0 ?r0 ?u0 ?o0 ?p1 ?q1 ?r1 ?u1 ?o1 ?tt ?tu ?a1 ?j1 ?F1 ?a2 ?j2 ?F2 ?a3 ?F3 ?a4 ?F4 ?a5_0 ?j5 ?F5 ?e5 ?a6_0 ?a6_1 ?a6_2 ?j6 ?F6 ?a7_0 ?a7_1 ?a7_2 ?j7 ?F7 ?a8_3 ?j8 ?F8 ?a9_4 ?j9 ?F9 ?e9 ?a10_7 ?j10 ?F10 ?a11_4 ?a11_5 ?a11_6 ?a11_7 ?j11 ?F11 ?a12 ?F12 ?a13 ?F13 ?a14 ?F14 ?a15 ?F15 ?a16 ?F16 ?a17 ?F17 ?a18 ?F18 ?a19 ?F19 ?a20_1 ?j20 ?F20 ?a21_2 ?j21 ?F21 ?a22_3 ?j22 ?F22 ?a23_5 ?j23 ?F23 ?a24_6 ?j24 ?F24 ?a25 ?F25 ?a26 ?F26 ?a27_3 ?j27 ?F27 ?a28 ?F28 ?a29 ?F29 ?a30 ?F30 ?a31 ?F31 ?a32_3 ?j32 ?F32 ?a33_3 ?j33 ?F33 ?a34 ?F34 ?a35 ?F35 ?a36_3 ?j36 ?F36 ?a37 ?F37 ?a38 ?F38 ?a39 ?F39 ?a40 ?F40 ?a41 ?F41 ?a42 ?F42 ?a43 ?F43 ?a44 ?F44 ?a45 ?F45 ?a46 ?F46 ?a47 ?F47 ?z1 ?z2 ?z3 ?z4 ?z5 ?z6 ?z7 ?z8 ?z9 ?z10 ?z11 ?g1 ?g2
  (case ta=>(first | rfl | kernel_rfl | decide +kernel))
  (case tb=>(first | rfl | kernel_rfl | decide +kernel))
  (case oa0=>k_is)
  (case of0=>(first | rfl | kernel_rfl | decide +kernel))
  (case oa1=>k_is)
  (case of1=>(first | rfl | kernel_rfl | decide +kernel))
  (case om1|ok1|oa2=>k_is)
  (case of2=>(first | rfl | kernel_rfl | decide +kernel))
  (case om2|ok2|oa3=>k_is)
  (case of3=>(first | rfl | kernel_rfl | decide +kernel))
  (case om3|ok3|oa4=>k_is)
  (case of4=>(first | rfl | kernel_rfl | decide +kernel))
  (case oa5=>k_is)
  (case of5=>(first | rfl | kernel_rfl | decide +kernel))
  (case om5|ok5|oa6=>k_is)
  (case of6=>(first | rfl | kernel_rfl | decide +kernel))
  (case om6|ok6|oa7=>k_is)
  (case of7=>(first | rfl | kernel_rfl | decide +kernel))
  (case om7|ok7=>k_is)
  (case oo=>(first | rfl | kernel_rfl | decide +kernel))
  (case t1|t2=>k_is)
  (case t3=>(first | rfl | kernel_rfl | decide +kernel))
  (case t4=>(first | rfl | kernel_rfl | decide +kernel))
  (case t5=>(first | rfl | kernel_rfl | decide +kernel))
  (case t6=>(first | rfl | kernel_rfl | decide +kernel))
  (case t7=>(first | rfl | kernel_rfl | decide +kernel))
  (case t8=>(first | rfl | kernel_rfl | decide +kernel))
  (case t9=>(first | rfl | kernel_rfl | decide +kernel))
  (case p0|q0=>k_is)
  (case r0=>(first | rfl | kernel_rfl | decide +kernel))
  (case u0=>(first | rfl | kernel_rfl | decide +kernel))
  (case o0|p1|q1=>k_is)
  (case r1=>(first | rfl | kernel_rfl | decide +kernel))
  (case u1=>(first | rfl | kernel_rfl | decide +kernel))
  (case o1=>k_is)
  (case tt=>(first | rfl | kernel_rfl | decide +kernel))
  (case tu=>(first | rfl | kernel_rfl | decide +kernel))
  (case a1|j1|a2|j2|a3|a4|a5_0|j5=>k_is)
  (case e5=>(first | rfl | kernel_rfl | decide +kernel))
  (case a6_0|a6_1|a6_2|j6|a7_0|a7_1|a7_2|j7|a8_3|j8|a9_4|j9=>k_is)
  (case e9=>(first | rfl | kernel_rfl | decide +kernel))
  (case a10_7|j10|a11_4|a11_5|a11_6|a11_7|j11|a12|a13|a14|a15|a16|a17|a18|a19|a20_1|j20|a21_2|j21|a22_3|j22|a23_5|j23|a24_6|j24|a25|a26|a27_3|j27|a28|a29|a30|a31|a32_3|j32|a33_3|j33|a34|a35|a36_3|j36|a37|a38|a39|a40|a41|a42|a43|a44|a45|a46|a47|z1|z2|z3|z4|z5|z6|z7|z8|z9|z10|z11|g1|g2=>k_is)
  (case F1 | F2 | F3 | F4 | F5 | F6 | F7 | F8 | F9 | F10 | F11 | F12 | F13 | F14 | F15 | F16 | F17 | F18 | F19 | F20 | F21 | F22 | F23 | F24 | F25 | F26 | F27 | F28 | F29 | F30 | F31 | F32 | F33 | F34 | F35 | F36 | F37 | F38 | F39 | F40 | F41 | F42 | F43 | F44 | F45 | F46 | F47=>walk_at "fn")
 case S=>exact λw H a ns hl hb hO hS=>My.XYc hl hb hS
 case C=>exact λ_ _ _ _ _ z=>z
end
