import PyProof.Rows.All
import KE.KLam
import KE.KNestM
import KE.KEqDict
import KE.KFromBytes
import KE.KDictList
import KE.KIntText
import KE.KIsAll
import KE.KRevIter
import KE.KDictOf
import KE.KSortTup
import Wide.FinOn
import Lean
import PyProof.EqAt
import PyProof.EqKinds
import PyProof.TupleCall
import PyProof.NeKinds
import PyProof.StrOps2
import PySem.Challenge.RW_twigtable_k27_rows_and_cells
local macro_rules | `(#[0]) => `(by lia)
local macro_rules | `(#[1]) => `(by decide)
local macro_rules | `(#[2]) => `(by simp)
abbrev YQ_:=PySem.Value->PySem.Shared->Prop
abbrev YP_:=List (PySem.Addr×PySem.Obj)
open List
open Array renaming length_toList → V2,getD_eq_getD_getElem? → Iu,forIn_toList → LG
open Bool renaming false_ne_true → Uc,eq_iff_iff → Uw,and_eq_true → Ov,false_eq_true → O5,noConfusion → Df
open False renaming elim → V3
open ForInStep renaming yield → O4
open Int renaming toNat_natCast → Om,zero_add → De,eq_ofNat_of_zero_le → Dh
open Lean renaming mkIdent → LZ
open List renaming range → VB,mem_cons_self → VL,mem_cons_of_mem → VM,mem_append_left → VO,iter → Uh,mem_append_right → Ur,size_toArray → Uy,length_cons → UC,lookup → UH,map_cons → UI,length_map → UK,append_nil → UV,replicate → U8,length → Oa,length_take → Ob,getElem?_append_right → Od,getElem?_append_left → Oe,getElem?_map → Of,mem_of_getElem? → Og,length_append → Oh,length_drop → Op,any_cons → Ow,length_singleton → OB,find?_cons → OF,length_nil → OG,filter_cons → OL,length_filter_le → OM,lookup_cons → OY,all_eq_true → Ib,map_append → Il,take_add_one → Im,map_congr_left → Io,take_of_length_le → Ip,eq_nil_of_length_eq_zero → Iq,toArray → Ir,getD_eq_getElem?_getD → Iz,getElem?_eq_getElem → IA,getElem_mem → IC,ext_getElem → ID,lt_irrefl → IP,mem_of_mem_take → IQ,mem_of_getLast? → IR,mem_append → IS,take_length → IT,filter_append → IU,append_assoc → IV,foldl_cons → IW,mem_cons → Lp,not_mem_nil → Lq,nil_append → LC,cons_append → LF,nodup_nil → LH,filter_map → LI,flatten_append → LJ,flatten_cons → LK,dropLast_concat → LR,sublist_cons_self → LU,filter_congr → LV,map → LX,nodup_append → L3,getElem_map → L6,take_append_drop → L7,drop_of_length_le → L8,getElem_take → L9,pairwise_map → Da,mem_or_eq_of_mem_set → Dg,map_map → Di,perm_ext_iff_of_nodup → Dk,mem_singleton → Dp,mem_filter → Dq,any_eq_true → Dr,mem_range → Ds,getElem_cons_drop → Du,forIn_cons → Dv,flatMap_cons → Dw,map_nil → Dx,drop_zero → Dy,all_cons → Dz,zipIdx_nil → DA,map_const' → DB,filter_nil → DC
open List.Pairwise renaming nil → Ih,imp → Db,map → Dj
open List.Sublist renaming append_left → LS
open Nat renaming lt_of_lt_of_le → Vy,lt_irrefl → Vz,ne_of_lt → VA,le_trans → VI,le_of_lt → VJ,ne_of_gt → Ud,le_refl → Um,zero_le → Us,le_succ → U1,mul_le_mul_right → L4,succ_mul → L5,mul_le_mul_left → Dd
open Ne renaming symm → VN
open Option renaming some → Vo,none → Vp,isSome_map → OO,map_some → OZ
open Option.some renaming inj → Vr,injEq → O6
open Or renaming inr → OE
open Prod renaming fst → LW
open PyProof.Rows renaming IsTup → Vt,AllBare → VH,callWith_type1 → Uq,envOfC → U9,Keyed → Ix,SortKind → Iy,seqObj → IF,failedOf → IG,get?_update_seq → IJ,listUpdate_at → IK,seqEpoch_at → IL,ext_toList → IM,listItems_at → LA,lt_str → DD,allB → DE
open PySem renaming Value → Va,World → Vb,Program → Vg,Addr → Vh,Paired → Vm,Heap → Vq,sizeLine → Vs,sysModules → Vu,tupleKind → Vv,mainGlobals → VD,bootBuiltins → VE,Around → VF,Shared → VG,wpAny → VQ,model → VR,eval → VS,backTo → VT,starEach → VU,Stmt → VV,wpAny_mono → VW,compareOp → VX,behindInMarks → VY,wpAny_truthy_bool → VZ,standAt → V0,holding → V1,wpAny_execs_nil → V4,swapsWith → V5,assign → V6,assignEach → V7,wpAny_bind → V8,wpAny_holding → V9,wpAny_standAt → Ua,wpAny_passesOwn → Ub,pyNext → Ue,letOwnedTupleGo → Uf,pyIter → Ug,wpAny_pure → Ui,wpAny_pyIter_list → Uj,wpAny_pyIter_tuple → Uo,call → Ut,binaryOp → Uu,intBits_le_64 → Uv,sizeLine_eq → Ux,getMethod → UB,Result → UD,codeAny → UF,attributeBase → UN,cLine → UR,FuncData → UU,wpAny_call → UW,codeAny_mono → UX,wpAny_Call_Name_kw → UY,Keyword → U2,backToKw → U3,keywordEach → U4,NameKind → U5,bindL → U6,bindC → U7,mem_of_lookup → Oc,typeLookup → On,getItem → Oo,subscripted → Oq,sliceBounds → Ou,evalArgs_none → Oy,callerA → OD,valueAt → OH,stored → OI,atKey → ON,tupleKind_room_in1 → OP,call_meetsIn → OQ,merged → OR,wpAny_Call_method → OU,wpAny_newObj_type → O7,Builtin → O8,wpAny_getItem_str_slice → Ii,post_val_or_str → Ij,Fin → IE,wpAny_callSpecial?_slot → IZ,wpAny_call_entry → Lc,field → Ld,wpAny_field → Le,wpAny_seqItems → Lf,wpAny_rule → Lg,IsPair → Li,wpAny_attempt → Lj,wpAny_setField_rec → Lo,callWith → Ls,codeAny_builtin → Lv,plainId_quiet → Lx,wpAny_typeOf → Lz,codeAny_call_builtin → LB,typeLookup_type → LL,builtinLookup_eq_fast → LM,sub_AttributeError → LO,getattributeRaised → LP,wpAny_newList → LY
open PySem.Around renaming under_plainId → Lw
open PySem.Builtin.Dict renaming updateFrom → LQ
open PySem.Builtin.Int renaming intBits → Ie
open PySem.Builtin.List renaming listTooLong → OA,listExtendWith → Ly
open PySem.Builtin.SmallTypes renaming nextOf → IY,ownedTupleIsFree → Lm
open PySem.Builtin.Tuple renaming tupleHashOf → LD
open PySem.Calls renaming spliced_nil → US,spliced_cons → UT,callWith_builtin → Ox,evalArgs_plain → Oz
open PySem.F renaming slot_dict_get → OS,entry_dict_get → OT,plainAttrs_dict → OV,slot_tuple_iterator_next → Lb,slot_zip_next → Ll
open PySem.Heap renaming lt_size → Vx,SameBut → VP,get?_push_of_some → Uk,get?_push_size → Ul,size_push → UM,NewAttrErr → LN
open PySem.Heap.SameBut renaming update → II
open PySem.NameKind renaming free → OW,cell → OX
open PySem.Obj renaming mapSeq → Ot
open PySem.Paired renaming length → Vn,snoc → OJ
open PySem.SeqAt renaming EqAt → Ol
open PySem.Str renaming length → Os,ofString → La
open PySem.StrLaws renaming glued_eq_join → IX
open PySem.Txt renaming join → O9,slice → Ia,slice_le → Ik
open PySem.Value renaming int → Vd,str → Vf,none → Vi,bool → Vj,ref → Vk,type → Vl
open PySem.Value.type renaming inj → Lr
open PySem.W renaming instObj → Vw,Frag → VC,findIn → Uz,isFn → UA,makesIn → UE,emptyDict → UG,keepIn → UJ,specialIn → UO,kitOne → UP,kia_one → UQ,callWith_K → UZ,callWith_K0 → U0,fnOf → Oi,codeIn → Oj,kas_rev → Iv,kas_desc → Iw,methodCall_KW → Lu,nsIn → Dl,mg_of → Dm,mg_none_of → Do
open PySem.W.KT renaming app_list → IN
open PySem.W.WData renaming int → OC,weightAll → Ic,weight → Ig
open Sum renaming inl → Vc,inr → Ve
open True renaming intro → UL
set_option Elab.async false
set_option linter.all false
set_option maxRecDepth 100000
set_option maxHeartbeats 4000000
section
namespace L2
open PySem PySem.Spec PyProof.Rows
abbrev Key:=Sum Int Str
def Zea:Key->Va->Bool
 | .inl k,v=>Value.isInt k v
 | .inr x,v=>Value.isStrOf x v
def Y9d(w:Vb):Key->Int
 | .inl k=>hashInt k
 | .inr x=>hashStr w x
theorem Q9:∀ {k:Key} {v:Va},Zea k v=true->(∃ i t,k=Vc i/\v=Vd i t)\/(∃ x t,k=Ve x/\v=Vf x t)
 | .inl i,v,h=>by
  obtain⟨t,e⟩:=Value.isInt_shape (k:=i) (v:=v) h;exact .inl ⟨i,t,rfl,e⟩
 | .inr x,v,h=>by
  obtain⟨t,e⟩:=Value.isStrOf_shape (x:=x) (v:=v) h;exact .inr ⟨x,t,rfl,e⟩
theorem Zwc(i:Int)(t:Tok):Zea (.inl i) (.int i t)=true:=by simp[Zea,Value.isInt]
theorem Zxc(x:Str)(t:Tok):Zea (.inr x) (.str x t)=true:=by simp[Zea,Value.isStrOf]
theorem ZHd(a b:Int):decide ((Vc a:Key)=Vc b)=(a == b):=by
 by_cases e:a=b
 .subst e;simp
 .have h:¬ (Vc a:Key)=Vc b:=λq=>e (Sum.inl.inj q)
  rw[decide_eq_false h];exact(beq_eq_false_iff_ne.mpr e).symm
theorem ZId(a b:Str):decide ((Ve a:Key)=Ve b)=decide (a=b):=by
 by_cases e:a=b
 .subst e;simp
 .have h:¬ (Ve a:Key)=Ve b:=λq=>e (Sum.inr.inj q)
  rw[decide_eq_false h,decide_eq_false e]
theorem ZJd(a:Int)(b:Str):decide ((Vc a:Key)=Ve b)=false:=decide_eq_false (λq=>nomatch q)
theorem ZKd(a:Str)(b:Int):decide ((Ve a:Key)=Vc b)=false:=decide_eq_false (λq=>nomatch q)
def QC(prog:Vg)(w:Vb):PySem.KeyKind prog w Key where
 is:=Zea
 hash:=Y9d w
 inj:=λv a b ha hb=>by
  rcases Q9 ha with ⟨i,t,rfl,rfl⟩ | ⟨x,t,rfl,rfl⟩
  .rcases Q9 hb with ⟨j,u,rfl,e⟩ | ⟨y,u,rfl,e⟩
   .injection e with e1 _;rw[e1]
   .exact nomatch e
  .rcases Q9 hb with ⟨j,u,rfl,e⟩ | ⟨y,u,rfl,e⟩
   .exact nomatch e
   .injection e with e1 _;rw[e1]
 byValue:=λk v h=>by
  rcases Q9 h with ⟨i,t,rfl,rfl⟩ | ⟨x,t,rfl,rfl⟩ <;> rfl
 pyHash:=λhv h=>by
  rcases Q9 hv with ⟨i,t,rfl,rfl⟩ | ⟨x,t,rfl,rfl⟩
  .exact wpAny_pyHash_int h
  .exact wpAny_pyHash_str h
 eqBool:=λhu hv h=>by
  rcases Q9 hu with ⟨i,t,rfl,rfl⟩ | ⟨x,t,rfl,rfl⟩
  .rcases Q9 hv with ⟨j,u,rfl,rfl⟩ | ⟨y,u,rfl,rfl⟩
   .rw[ZHd]at h;exact wpAny_eqBool_int h
   .rw[ZJd]at h;exact SeqAt.EqAt.int_str i t y u _ _ _ _ h
  .rcases Q9 hv with ⟨j,u,rfl,rfl⟩ | ⟨y,u,rfl,rfl⟩
   .rw[ZKd]at h;exact SeqAt.EqAt.str_int x t j u _ _ _ _ h
   .rw[ZId]at h;exact wpAny_eqBool_str h
 «strs»:=λk x t v h=>by
  rcases Q9 h with ⟨i,u,rfl,e⟩ | ⟨y,u,rfl,e⟩
  .exact nomatch e
  .injection e with e1 _
   subst e1;cases v <;> rfl
theorem Ygb(prog:Vg)(w:Vb)(i:Int)(t:Tok):(QC prog w).is (.inl i) (.int i t)=true:=Zwc i t
theorem Yhb(prog:Vg)(w:Vb)(x:Str)(t:Tok):(QC prog w).is (.inr x) (.str x t)=true:=Zxc x t
inductive V where
 | non | bl (b:Bool) | int (i:Int) | str (x:Str) | byt (b:Array UInt8) | flt (b:UInt64) | ref (a:Vh) | ty (n:String)
 deriving DecidableEq
def Qt:V->Va->Prop
 | .non,u=>u=Vi
 | .bl b,u=>u=Vj b
 | .int i,u=>∃ t,u=Vd i t
 | .str x,u=>∃ t,u=Vf x t
 | .byt b,u=>∃ t,u=Value.bytes b t
 | .flt b,u=>∃ t,u=Value.float b t
 | .ref a,u=>u=Vk a
 | .ty n,u=>u=Vl n
abbrev Qv:List V->List Va->Prop:=Vm Qt
theorem Qv.length{xs:List V}{us:List Va}(r:Qv xs us):xs.length=us.length:=Vn r
theorem Qv.get:∀ {xs:List V} {us:List Va} {i:Nat} {x:V},Qv xs us->xs[i]?=Vo x->∃ u,us[i]?=Vo u/\Qt x u
 | _,_,_,_,.nil,e=>by simp at e
 | _,_,0,_,.cons r _,e=>by simp at e;subst e;exact⟨_,rfl,r⟩
 | _,_,i+1,x,.cons _ t,e=>by
  obtain⟨u,h1,h2⟩:=Qv.get (i:=i) (x:=x) t (by simpa using e)
  exact⟨u,by simpa using h1,h2⟩
theorem Qv.set{x:V}{u:Va}(r:Qt x u):∀ {xs:List V} {us:List Va} (i:Nat),Qv xs us->Qv (xs.set i x) (us.set i u)
 | _,_,_,.nil=>.nil
 | _,_,0,.cons _ t=>.cons r t
 | _,_,i+1,.cons q t=>.cons q (Qv.set r i t)
theorem Qv.append:∀ {xs ys:List V} {us ws:List Va},Qv xs us->Qv ys ws->Qv (xs++ys) (us++ws)
 | _,_,_,_,.nil,s=>s
 | _,_,_,_,.cons r t,s=>.cons r (Qv.append t s)
theorem Qv.take:∀ {xs:List V} {us:List Va} (n:Nat),Qv xs us->Qv (xs.take n) (us.take n)
 | _,_,0,_=>.nil
 | _,_,_+1,.nil=>.nil
 | _,_,n+1,.cons r t=>.cons r (Qv.take n t)
theorem Qv.drop:∀ {xs:List V} {us:List Va} (n:Nat),Qv xs us->Qv (xs.drop n) (us.drop n)
 | _,_,0,r=>r
 | _,_,_+1,.nil=>.nil
 | _,_,n+1,.cons _ t=>Qv.drop n t
theorem Qv.none_of:∀ {xs:List V} {us:List Va} {i:Nat},Qv xs us->xs[i]?=Vp->us[i]?=Vp:=λ{xs us i} r e=>by
 have h1:=r.length;have h2:xs.length<=i:=List.getElem?_eq_none_iff.mp e
 exact List.getElem?_eq_none_iff.mpr #[0]
def YX:Option V->Option Va->Prop
 | some v,Vo u=>Qt v u
 | none,Vp=>True
 | _,_=>False
def KV{κ:Type}:List (κ×V)->List (κ×Va)->Prop:=Vm λ(p:κ×V) (q:κ×Va)=>p.1=q.1/\Qt p.2 q.2
def kV:Key->V
 | .inl i=>.int i
 | .inr x=>.str x
inductive HO where
 | lst (xs:List V)
 | tup (xs:List V)
 | dK (kvs:List (Key×V)) | dT (kvs:List (List Key×V))
 | set (S:Int->Bool) (n:Nat)
 | ins (C dx:Vh) (fs:List (Str×V))
 | own (x:Vh)
 | xd (fs:List (Str×V))
 | met (f x:Vh)
 | rng (lo hi:Int)
 | frz (o:Obj) (u:HO)
 | tbl (ps:Array Va)
 | ext (φ:Vq->Prop)
abbrev Hp:=Vh->Option HO
def upd(H:Hp)(a:Vh)(o:HO):Hp:=λb=>if b=a then Vo o else H b
theorem Qa{H:Hp}{a:Vh}{o:HO}:upd H a o a=Vo o:=by unfold upd;rw[if_pos rfl]
theorem Qe{H:Hp}{a b:Vh}{o:HO}(h:b≠a):upd H a o b=H b:=by unfold upd;rw[if_neg h]
theorem YL{H:Hp}{a:Vh}{o u:HO}:upd (upd H a o) a u=upd H a u:=by
 funext b;unfold upd;split <;> rfl
theorem Zj{H:Hp}{a b:Vh}{o u:HO}(h:H a=Vo o)(h':H b=Vo u)(d:o≠u):a≠b:=by
 intro e;subst e;rw[h]at h';exact d (Vr h')
theorem QE{H:Hp}{a b:Vh}{o:HO}(h:H a=Vo o)(h':H b=Vp):a≠b:=by
 intro e;subst e;rw[h]at h';cases h'
section
variable(P:Vg)(w:Vb)
def QN(H:Hp)(h:Vq)(a:Vh):HO->Prop
 | .lst xs=>xs.length<=Vs/\∃ (af:List Va) (n:Nat),Qv xs af/\h.get? a=Vo { cls:=.type "list",data:=.seq af.toArray n }
 | .tup xs=>(xs.length<=Vs/\∃ o,h.get? a=Vo o/\o.dict=Vp)/\∃ af:List Va,Qv xs af/\Vt h a af.toArray
 | .dK kvs=>kvs.length<=Vs/\(a == Vu)=false/\∃ vs,KV kvs vs/\h.DictOf (QC P w) a vs
 | .dT kvs=>kvs.length<=Vs/\(a == Vu)=false/\∃ xs:List (List Key×Vh×Va),
  Vm (λ(p:List Key×V) (q:List Key×Vh×Va)=>p.1=q.1/\H q.2.1=Vo (.tup (p.1.map kV))/\Qt p.2 q.2.2) kvs xs /\
  ∃ o es ep,h.get? a=Vo o/\o.ExactDict/\o.data=.dict es ep/\es.toList=xs.map (entryOfKey (Vv (QC P w)))/\(xs.map (·.1)).Nodup
 | .set S n=>h.SetOf (intKind P w) a S n
 | .ins C dx fs=>H dx=Vo (.own a)/\fs.length<=1000/\dx≠a/\h.get? a=Vo (Vw C dx) /\
  ∃ mA,h.Ns1 dx mA/\(∀ f,YX (fs.lookup f) (mA f))/\PySem.Within mA (fs.map (·.1))
 | .own _=>∃ o,h.get? a=Vo o
 | .xd fs=>∃ mA,h.Ns1 a mA/\∀ f,YX (fs.lookup f) (mA f)
 | .rng lo hi=>∃ t u v,h.get? a=Vo { cls:=.type "range",data:=.fields #[.int lo t,.int hi u,.int 1 v] }
 | .frz o u=>h.get? a=Vo o/\QN H h a u
 | .tbl ps=>h.get? a=Vo { cls:=.none,data:=.fields ps }
 | .met f x=>h.get? a=Vo (W.methodObj (.ref f) (.ref x))
 | .ext φ=>φ h/\(∃ o,h.get? a=Vo o)/\∀ h1 h2:Vq,φ h1->(∀ o,h1.get? a=Vo o->h2.get? a=Vo o)->φ h2
def HOk(H:Hp)(h:Vq):Prop:=∀ a o,H a=Vo o->QN P w H h a o
end
section
variable{P:Vg}{w:Vb}{H H':Hp}{h h':Vq}{a:Vh}{o:HO}
theorem QN.lt(x:QN P w H h a o):a < h.objs.size:=by
 cases o with
 | lst xs=>obtain⟨_,_,_,_,e⟩:=x;exact Vx e
 | tup xs=>obtain⟨_,_,_,p⟩:=x;exact p.lt
 | dK kvs=>obtain⟨_,_,_,_,o,_,_,e,_⟩:=x;exact Vx e
 | dT kvs=>obtain⟨_,_,_,_,o,_,_,e,_⟩:=x;exact Vx e
 | set S n=>obtain⟨o,_,_,_,e,_⟩:=x;exact Vx e
 | ins C dx fs=>obtain⟨_,_,_,e,_⟩:=x;exact Vx e
 | own y=>obtain⟨_,e⟩:=x;exact Vx e
 | xd fs=>obtain⟨_,⟨_,_,_,e,_⟩,_⟩:=x;exact Vx e
 | rng lo hi=>obtain⟨_,_,_,e⟩:=x;exact Vx e
 | frz ob u=>obtain⟨e,_⟩:=x;exact Vx e
 | tbl ps=>exact Vx (show h.get? a=Vo _ from x)
 | met f y=>exact Vx (show h.get? a=Vo _ from x)
 | ext φ=>obtain⟨_,⟨_,e⟩,_⟩:=x;exact Vx e
theorem Paired.mapP{α β:Type}{F G:α->β->Prop}:∀ {l₁:List α} {l₂:List β},Vm F l₁ l₂->(∀ a b,F a b->G a b)->Vm G l₁ l₂
 | _,_,.nil,_=>.nil
 | _,_,.cons r t,f=>.cons (f _ _ r) (Paired.mapP t f)
theorem QN.stay(x:QN P w H h a o)(k:∀ b u,(b=a\/H b=Vo (.own a))->h.get? b=Vo u->h'.get? b=Vo u)
 (ho:∀ b,H b=Vo (.own a)->H' b=Vo (.own a)) (ht:∀ b xs,H b=Vo (.tup xs)->H' b=Vo (.tup xs)):QN P w H' h' a o:=by
 induction o with
 | lst xs=>obtain⟨z,af,n,r,e⟩:=x;exact⟨z,af,n,r,k _ _ (.inl rfl) e⟩
 | tup xs=>obtain⟨⟨z,o1,e1,d1⟩,af,r,ob,e,c⟩:=x;exact⟨⟨z,o1,k _ _ (.inl rfl) e1,d1⟩,af,r,ob,k _ _ (.inl rfl) e,c⟩
 | dK kvs=>obtain⟨z,y,vs,r,ob,es,ep,e,c⟩:=x;exact⟨z,y,vs,r,ob,es,ep,k _ _ (.inl rfl) e,c⟩
 | dT kvs =>
  obtain⟨z,y,xs,r,ob,es,ep,e,c⟩:=x;exact⟨z,y,xs,Paired.mapP r λp q z=>⟨z.1,ht _ _ z.2.1,z.2.2⟩,ob,es,ep,k _ _ (.inl rfl) e,c⟩
 | set S n=>obtain⟨ob,es,ep,t,e,c⟩:=x;exact⟨ob,es,ep,t,k _ _ (.inl rfl) e,c⟩
 | ins C dx fs =>
  obtain⟨d,z,ne,e,mA,⟨od,es,ep,e2,c⟩,r⟩:=x;exact⟨ho _ d,z,ne,k _ _ (.inl rfl) e,mA,⟨od,es,ep,k _ _ (.inr d) e2,c⟩,r⟩
 | own y=>obtain⟨ob,e⟩:=x;exact⟨ob,k _ _ (.inl rfl) e⟩
 | xd fs=>obtain⟨mA,⟨od,es,ep,e,c⟩,r⟩:=x;exact⟨mA,⟨od,es,ep,k _ _ (.inl rfl) e,c⟩,r⟩
 | rng lo hi=>obtain⟨t,u,v,e⟩:=x;exact⟨t,u,v,k _ _ (.inl rfl) e⟩
 | frz ob u ih=>obtain⟨e,q⟩:=x;exact⟨k _ _ (.inl rfl) e,ih q⟩
 | tbl ps =>
  have e:h.get? a=Vo { cls:=.none,data:=.fields ps }:=x;show h'.get? a=Vo { cls:=.none,data:=.fields ps };exact k a _ (.inl rfl) e
 | met f y =>
  have e:h.get? a=Vo (W.methodObj (.ref f) (.ref y)):=x;show h'.get? a=Vo (W.methodObj (.ref f) (.ref y));exact k a _ (.inl rfl) e
 | ext φ=>obtain⟨p,⟨o,e⟩,st⟩:=x;exact⟨st _ _ p λo q=>k _ _ (.inl rfl) q,⟨o,k _ _ (.inl rfl) e⟩,st⟩
theorem HOk.lt(x:HOk P w H h)(e:H a=Vo o):a < h.objs.size:=(x a o e).lt
theorem HOk.fresh(x:HOk P w H h)(e:h.objs.size<=a):H a=Vp:=by
 cases q:H a with
 | none=>rfl
 | some u=>exact absurd (Vy (x.lt q) e) (Vz _)
theorem HOk.kept(x:HOk P w H h)(k:∀ b u,h.get? b=Vo u->h'.get? b=Vo u):HOk P w H h':=λa o e =>
 (x a o e).stay (λb u _ q=>k b u q) (λ_ q=>q) λ_ _ q=>q
theorem HOk.laid(x:HOk P w H h)(k:∀ b u,h.get? b=Vo u->h'.get? b=Vo u)(hp:h.objs.size<=a)(new:QN P w (upd H a o) h' a o):HOk P w (upd H a o) h':=λb u e=>by
 have hn:=x.fresh hp
 by_cases hb:b=a
 .subst hb;rw[Qa]at e;cases e;exact new
 .rw[Qe hb]at e
  exact(x b u e).stay (λc v _ q=>k c v q) (λc q=>by rw[Qe (QE q hn)];exact q) λc xs q=>by rw[Qe (QE q hn)];exact q
end
def Rd(H:Hp)(a:Vh)(u:HO):Prop:=H a=Vo u\/∃ o,H a=Vo (.frz o u)
theorem Rd.ok{P:Vg}{w:Vb}{H:Hp}{h:Vq}{a:Vh}{u:HO}(r:Rd H a u)(x:HOk P w H h):QN P w H h a u:=by
 rcases r with r | ⟨o,r⟩
 .exact x a u r
 .obtain⟨_,q⟩:=x a _ r
  exact q
def Mut:Option HO->Prop
 | some (.lst _)=>True
 | some (.dK _)=>True
 | some (.dT _)=>True
 | some (.set _ _)=>True
 | some (.ins _ _ _)=>True
 | some (.ext _)=>True
 | _=>False
section
variable{P:Vg}{w:Vb}{H:Hp}{h h':Vq}{x e:Vh}{o':HO}
theorem HOk.write(ok:HOk P w H h)(mu:Mut (H x))(he:e=x\/H e=Vo (.own x))(k:∀ b u,b≠e->h.get? b=Vo u->h'.get? b=Vo u)(gh:∃ u,h'.get? e=Vo u)
 (new:QN P w (upd H x o') h' x o'):HOk P w (upd H x o') h':=λb u q=>by
 have jq:∀ c y,H c=Vo (.own y)->c≠x:=λc y r z=>by subst z;rw[r]at mu;exact mu
 have nc:∀ c xs,H c=Vo (.tup xs)->c≠x:=λc xs r z=>by subst z;rw[r]at mu;exact mu
 by_cases hb:b=x
 .subst hb;rw[Qa]at q;cases q;exact new
 .rw[Qe hb]at q
  by_cases hbe:b=e
  .have q':H b=Vo (.own x):=by
    rcases he with z | z
    .exact absurd (hbe.trans z) hb
    .rw[hbe];exact z
   rw[q]at q';cases q';obtain⟨v,hv⟩:=gh;exact⟨v,by rw[hbe];exact hv⟩
  .refine(ok b u q).stay (λc v hc r=>k c v ?_ r) (λc r=>by rw[Qe (jq c b r)];exact r) λc xs r=>by rw[Qe (nc c xs r)];exact r
   rcases hc with rfl | hc
   .exact hbe
   .rintro rfl
    rcases he with z | z
    .exact jq c b hc z
    .rw[hc]at z;cases z;exact hb rfl
end
structure Un(fs ex:List Vh)(H H':Hp)(h h':Vq):Prop where
 keep:∀ b o,h.get? b=Vo o->H b=Vp->b∉fs->b∉ex->h'.get? b=Vo o
 slot:∀ b o,h.get? b=Vo o->H b=Vp->b∈fs->b∉ex->∃ sl,h'.get? b=Vo { o with slots:=sl }
 free:∀ b o,h.get? b=Vo o->H b=Vp->b∉ex->H' b=Vp
 there:∀ b o,h.get? b=Vo o->b∉ex->∃ o',h'.get? b=Vo o'
 tups:∀ b xs,H b=Vo (.tup xs)->H' b=Vo (.tup xs)
 frzs:∀ b o u,H b=Vo (.frz o u)->H' b=Vo (.frz o u)
 tbls:∀ b ps,H b=Vo (.tbl ps)->∃ more,H' b=Vo (.tbl (ps++more))
section
variable{fs gX ex ux:List Vh}{H H1 H2:Hp}{h h1 h2 h':Vq}{a x e:Vh}{o:HO}
theorem Un.any(u:Un fs ex H H1 h h1){b:Vh}{ob:Obj}(q:h.get? b=Vo ob)(n:H b=Vp)(hx:b∉ex):∃ sl,h1.get? b=Vo { ob with slots:=sl }:=by
 by_cases hb:b∈fs
 .exact u.slot b ob q n hb hx
 .exact⟨ob.slots,u.keep b ob q n hb hx⟩
theorem Un.kept(k:∀ b u,h.get? b=Vo u->h'.get? b=Vo u):Un fs ex H H h h' :=
 ⟨λb ob q _ _ _=>k b ob q,λb ob q _ _ _=>⟨ob.slots,k b ob q⟩,λ_ _ _ n _=>n,λb ob q _=>⟨ob,k b ob q⟩,λ_ _ q=>q,λ_ _ _ q=>q,λ_ ps q=>⟨#[],by rw[q];simp⟩⟩
theorem Un.refl:Un fs ex H H h h:=Un.kept λ_ _ q=>q
theorem Un.laid(k:∀ b u,h.get? b=Vo u->h'.get? b=Vo u)(hp:h.objs.size<=a)(hn:H a=Vp):Un fs ex H (upd H a o) h h' where
 keep:=λb u q _ _ _=>k b u q
 slot:=λb u q _ _ _=>⟨u.slots,k b u q⟩
 free:=λb u q n _=>by rw[Qe (VA (Vy (Vx q) hp))];exact n
 there:=λb u q _=>⟨u,k b u q⟩
 tups:=λb xs q=>by rw[Qe (QE q hn)];exact q
 frzs:=λb u xs q=>by rw[Qe (QE q hn)];exact q
 tbls:=λb ps q=>⟨#[],by rw[Qe (QE q hn),q];simp⟩
theorem Un.write(mu:Mut (H x))(he:e=x\/H e=Vo (.own x))(k:∀ b u,b≠e->h.get? b=Vo u->h'.get? b=Vo u)(gh:∃ u,h'.get? e=Vo u):Un fs ex H (upd H x o) h h':=by
 have hx:∀ b,H b=Vp->b≠x:=λb n z=>by subst z;rw[n]at mu;exact mu
 have hb:∀ b,H b=Vp->b≠e:=λb n z=>by
  subst z
  rcases he with r | r
  .exact hx b n r
  .rw[n]at r;cases r
 have hm:∀ b u,H b=Vo u->¬ Mut (Vo u)->b≠x:=λb u q nm z=>by subst z;rw[q]at mu;exact nm mu
 refine⟨λb u q n _ _=>k b u (hb b n) q,λb u q n _ _=>⟨u.slots,k b u (hb b n) q⟩,λb u q n _=>by rw[Qe (hx b n)];exact n,λb u q _=>?_,
  λb xs q=>by rw[Qe (hm b _ q λz=>z)];exact q,λb u xs q=>by rw[Qe (hm b _ q λz=>z)];exact q,λb ps q=>⟨#[],by rw[Qe (hm b _ q λz=>z),q];simp⟩⟩
 by_cases hbe:b=e
 .subst hbe;exact gh
 .exact⟨u,k b u hbe q⟩
end
def trk(h:Vq)(H:Hp):List Vh:=(VB h.objs.size).filter λa=>(H a).isSome
def Jbb(h:Vq)(H:Hp):Vq:=W.hideAll h (trk h H)
theorem Zyc(h:Vq)(H:Hp):(Jbb h H).objs.size=h.objs.size:=W.hideAll_size _ _
theorem JAc{h:Vq}{H:Hp}{b:Vh}{o:Obj}(e:h.get? b=Vo o)(n:H b=Vp):(Jbb h H).get? b=Vo o :=
 W.hideAll_get _ e λhm=>by
  have q:(H b).isSome=true:=(mem_filter.mp hm).2;rw[n]at q;simp at q
theorem XZc{h:Vq}{H:Hp}{b:Vh}{o:Obj}(e:(Jbb h H).get? b=Vo o):h.get? b=Vo o/\H b=Vp:=by
 have e':h.get? b=Vo o:=W.of_hideAll (trk h H) e;refine⟨e',?_⟩
 cases q:H b with
 | none=>rfl
 | some x =>
  have hm:b∈trk h H:=mem_filter.mpr ⟨mem_range.mpr (Vx e'),by simp[q]⟩
  have z:(Jbb h H).get? b=Vp:=W.hideAll_none (trk h H) hm;rw[z]at e;cases e
def X0c(g h:Vq)(L:Vh):YP_:=(VB h.objs.size).filterMap λa=>if a=L\/(g.get? a).isSome=true then Vp else (h.get? a).map λo=>(a,o)
def rest(g h:Vq)(L d:Vh):YP_:=(X0c g h L).filter λp=>decide (p.1≠d)
structure Mod(K:VC)(mg:Str->Option Va)(base:Vq):Prop where
 kin:K.In base
 glob:base.Ns VD mg
 blt:∃ mb,base.Ns builtinsNs mb/\∀ x:Str,x≠"__name__"->mb x=VE x
 nolimit:base.NoLimit
structure Cx where
 prog:Vg
 w:Vb
 K:VC
 mg:Str->Option Va
 base:Vq
 A:VF
 N:List Str
 s₀:VG
 H₀:Hp
 env:Env
 outer:List Env
 stack:List Env
 ex:List Vh
 fn:Str->Bool
 calm:Bool
 pn:YP_
 xe:YQ_
def frs(l:List Env):List Vh:=l.filterMap (·.frame)
abbrev Cx.fs(X:Cx):List Vh:=frs X.outer
def Vis(sc:Scope)(x:Str):Prop:=sc.names.lookup x=Vo .local\/sc.names.lookup x=Vo .cell\/sc.names.lookup x=Vo .free
def Loc(sc:Scope)(x:Str):Prop:=sc.names.lookup x=Vo .local\/sc.names.lookup x=Vo .cell
def Q1b(env:Env)(h:Vq)(m:Str->Option Va)(x:Str)(u:Va):Prop :=
 (env.kindOf x=Vo .local/\m x=Vo u)\/((env.kindOf x=Vo .cell\/env.kindOf x=Vo .free)/\∃ c,env.cells.lookup x=Vo c/\h.IsCell c (Vo u))
structure Cx.Ok(X:Cx):Prop where
 mod:Mod X.K X.mg X.base
 kind:X.env.scope.kind=.function
 glob:X.env.globals=VD
 blt:X.env.builtins=builtinsNs
 above:X.s₀.heap.objs.size<=X.env.locals
 inj:∀ x y c,X.env.cells.lookup x=Vo c->X.env.cells.lookup y=Vo c->x=y
 has:∀ x,(X.env.kindOf x=Vo .cell\/X.env.kindOf x=Vo .free)->∃ c,X.env.cells.lookup x=Vo c
 cab:∀ x c,X.fn x=true->X.env.cells.lookup x=Vo c->X.s₀.heap.objs.size<=c
 hd:X.calm=true->X.A.handled=Vp
 frames:X.A.frames=Vo X.stack
 stk:X.stack=X.outer\/(X.stack=X.env::X.outer/\X.env.frame=Vo X.env.locals)
 exf:∀ b∈X.ex,b≠X.env.locals/\∀ x c,X.env.cells.lookup x=Vo c->c≠b
 bs:∀ b o,X.base.get? b=Vo o->X.s₀.heap.get? b=Vo o/\X.H₀ b=Vp
 bsz:X.base.objs.size<=X.s₀.heap.objs.size
 noex:∀ b o,X.base.get? b=Vo o->b∉X.ex
 exfs:∀ b∈X.ex,b∉X.fs
 funs:X.s₀.heap.FunFrames X.base X.outer
 frf:∀ b∈X.fs,X.H₀ b=Vp
structure Inv(X:Cx)(aa:YP_)(σ:List (Option V))(H:Hp)(s:VG):Prop where
 ok:X.Ok
 os:s.os=X.s₀.os
 bare:VH s.gens
 base:Un X.fs X.ex X.H₀ H X.s₀.heap s.heap
 loc:∃ m,s.heap.Ns X.env.locals m/\∀ (i:Nat) (x:Str) (v:V),X.N[i]?=Vo x->σ[i]?=Vo (Vo v)->Vis X.env.scope x->∃ u,Qt v u/\Q1b X.env s.heap m x u
 cell:∀ x c,X.env.cells.lookup x=Vo c->∃ v,s.heap.IsCell c v
 free:H X.env.locals=Vp
 freeC:∀ x c,X.env.cells.lookup x=Vo c->H c=Vp
 pin:∀ p∈X.pn++aa,s.heap.get? p.1=Vo p.2/\H p.1=Vp/\p.1≠X.env.locals/\p.1∉X.fs/\∀ v,p.2.data≠.cell v
 hok:HOk X.prog X.w H s.heap
 len:σ.length=X.N.length
section
variable{X:Cx}{aa:YP_}{σ:List (Option V)}{H H':Hp}{s:VG}{h':Vq}
theorem Cx.Ok.nofr(ok:X.Ok){b:Vh}{o:Obj}(e:X.base.get? b=Vo o):b∉X.fs:=λhb=>by
 have:=(ok.funs.mem hb).1;rw[e]at this;cases this
theorem Inv.bs(I:Inv X aa σ H s):∀ b o,X.base.get? b=Vo o->s.heap.get? b=Vo o/\H b=Vp:=λb o e =>
 ⟨I.base.keep b o (I.ok.bs b o e).1 (I.ok.bs b o e).2 (I.ok.nofr e) (I.ok.noex b o e),I.base.free b o (I.ok.bs b o e).1 (I.ok.bs b o e).2 (I.ok.noex b o e)⟩
theorem Inv.bk(I:Inv X aa σ H s):∀ b o,X.base.get? b=Vo o->s.heap.get? b=Vo o:=λb o e=>(I.bs b o e).1
theorem Inv.mod(I:Inv X aa σ H s):Mod X.K X.mg X.base:=I.ok.mod
theorem Inv.kIn(I:Inv X aa σ H s):X.K.In s.heap:=I.ok.mod.kin.keeps I.bk
theorem Inv.lt(I:Inv X aa σ H s):X.env.locals < s.heap.objs.size:=let ⟨_,hn,_⟩:=I.loc;hn.lt
theorem Inv.sz(I:Inv X aa σ H s):X.s₀.heap.objs.size<=s.heap.objs.size:=VI I.ok.above (VJ I.lt)
theorem Inv.nofs(I:Inv X aa σ H s){a:Vh}(h:s.heap.objs.size<=a):a∉X.fs:=λhb=>by
 obtain⟨_,o,ho,_⟩:=I.ok.funs.mem hb;exact absurd (Vy (Vx ho) (VI I.sz h)) (Vz _)
theorem Inv.cne(I:Inv X aa σ H s):∀ x c,X.env.cells.lookup x=Vo c->c≠X.env.locals:=λx c e z=>by
 obtain⟨v,o,ho,hd⟩:=I.cell x c e;obtain⟨m,⟨o',es,ep,aS,bI,_⟩,_⟩:=I.loc;rw[z,aS]at ho;cases ho;rw[bI]at hd;cases hd
theorem Inv.funs(I:Inv X aa σ H s):s.heap.FunFrames X.base X.outer:=by
 have all:∀ (l:List Env),(∀ b∈frs l,b∈X.fs)->X.s₀.heap.FunFrames X.base l->s.heap.FunFrames X.base l:=by
  intro l
  induction l with
  | nil=>intro _ _;trivial
  | cons env r ih =>
   intro hs hl;obtain⟨hk,⟨L,o,hf,hn,ho,hd⟩,hr⟩:=hl;have hL:L∈X.fs:=hs L (by unfold frs;rw[filterMap_cons,hf];exact VL)
   obtain⟨sl,e⟩:=I.base.slot L o ho (I.ok.frf L hL) hL λz=>I.ok.exfs L z hL
   exact⟨hk,⟨L,_,hf,hn,e,hd⟩,ih (λb hb=>hs b (by unfold frs;rw[filterMap_cons,hf];exact VM _ hb)) hr⟩
 exact all X.outer (λ_ hb=>hb) I.ok.funs
theorem Inv.stack(I:Inv X aa σ H s):s.heap.FunFrames X.base X.stack:=by
 rcases I.ok.stk with e | ⟨e,hf⟩
 .rw[e];exact I.funs
 .rw[e]
  obtain⟨m,hn,_⟩:=I.loc;refine .cons (by rw[I.ok.kind];decide) hf hn ?_ I.funs
  exact Heap.get?_none_of_le (VI I.ok.bsz I.ok.above)
theorem Inv.stkSub(I:Inv X aa σ H s):∀ b∈frs X.stack,b∈X.env.locals::X.fs:=λb hb=>by
 rcases I.ok.stk with e | ⟨e,hf⟩
 .rw[e]at hb;exact VM _ hb
 .rw[e]at hb
  unfold frs at hb;rw[filterMap_cons,hf]at hb;exact hb
theorem Inv.stkFree(I:Inv X aa σ H s):∀ b∈frs X.stack,H b=Vp:=λb hb=>by
 rcases mem_cons.mp (I.stkSub b hb) with e | hb
 .rw[e];exact I.free
 .obtain⟨_,o,ho,_⟩:=I.ok.funs.mem hb
  exact I.base.free b o ho (I.ok.frf b hb) λz=>I.ok.exfs b z hb
theorem Inv.step{g':Array GenState}{t':Nat}{d':Drawn}{ch:List Vh}(I:Inv X aa σ H s)
 (eP:∀ b∈ch,(b∈X.ex\/X.s₀.heap.objs.size<=b)/\b≠X.env.locals/\(∀ x c,X.env.cells.lookup x=Vo c->c≠b)/\∀ p∈X.pn++aa,p.1≠b)
 (keep:∀ b o,b≠X.env.locals->b∉X.fs->b∉ch->s.heap.get? b=Vo o->H b=Vp->h'.get? b=Vo o)
 (slot:∀ b o,b≠X.env.locals->b∈X.fs->b∉ch->s.heap.get? b=Vo o->H b=Vp->∃ sl,h'.get? b=Vo { o with slots:=sl }) (free:∀ b o,b∉ch->s.heap.get? b=Vo o->H b=Vp->H' b=Vp)
 (there:∀ b o,b∉ch->s.heap.get? b=Vo o->∃ o',h'.get? b=Vo o')
 (tups:∀ b xs,H b=Vo (.tup xs)->H' b=Vo (.tup xs)) (frzs:∀ b o u,H b=Vo (.frz o u)->H' b=Vo (.frz o u)) (tbls:∀ b ps,H b=Vo (.tbl ps)->∃ more,H' b=Vo (.tbl (ps++more)))
 (ns:∀ m,s.heap.Ns X.env.locals m->h'.Ns X.env.locals m) (hok:HOk X.prog X.w H' h') (hg:VH g') :
 Inv X aa σ H' { s with heap:=h',gens:=g',drawn:=d',toks:=t' }:=by
 have qC:∀ b o,X.s₀.heap.get? b=Vo o->b≠X.env.locals:=λb o e=>VA (Vy (Vx e) I.ok.above)
 have lQ:∀ b o,X.s₀.heap.get? b=Vo o->b∉X.ex->b∉ch:=λb o e hx hb=>by
  rcases(eP b hb).1 with z | z
  .exact hx z
  .exact absurd (Vy (Vx e) z) (Vz _)
 have gl:∀ x c,X.env.cells.lookup x=Vo c->∀ v,s.heap.IsCell c v->h'.IsCell c v:=λx c e v ⟨o,ho,hd⟩=>by
  have jr:c∉ch:=λz=>(eP c z).2.2.1 x c e rfl
  by_cases hc:c∈X.fs
  .obtain⟨sl,q⟩:=slot c o (I.cne x c e) hc jr ho (I.freeC x c e)
   exact⟨_,q,hd⟩
  .exact⟨o,keep c o (I.cne x c e) hc jr ho (I.freeC x c e),hd⟩
 refine⟨I.ok,I.os,hg,⟨λb o e n hb hx=>?_,λb o e n hb hx=>?_,λb o e n hx=>?_,λb o e hx=>?_,λb xs e=>tups b xs (I.base.tups b xs e),λb o xs e=>frzs b o xs (I.base.frzs b o xs e),λb ps e=>?_⟩,?_,λx c e=>?_,?_,λx c e=>?_,λp hp=>?_,hok,I.len⟩
 .exact keep b o (qC b o e) hb (lQ b o e hx) (I.base.keep b o e n hb hx) (I.base.free b o e n hx)
 .obtain⟨sl,e1⟩:=I.base.slot b o e n hb hx
  obtain⟨uA,e2⟩:=slot b _ (qC b o e) hb (lQ b o e hx) e1 (I.base.free b o e n hx);exact⟨uA,e2⟩
 .obtain⟨o',e1⟩:=I.base.there b o e hx
  exact free b o' (lQ b o e hx) e1 (I.base.free b o e n hx)
 .obtain⟨o',e1⟩:=I.base.there b o e hx
  exact there b o' (lQ b o e hx) e1
 .obtain⟨m1,e1⟩:=I.base.tbls b ps e
  obtain⟨m2,e2⟩:=tbls b _ e1;exact⟨m1++m2,by rw[e2,Array.append_assoc]⟩
 .obtain⟨m,hn,hl⟩:=I.loc
  refine⟨m,ns m hn,λi x v e1 e2 e3=>?_⟩
  obtain⟨u,r,l⟩:=hl i x v e1 e2 e3;refine⟨u,r,?_⟩
  rcases l with l | ⟨k,c,e,z⟩
  .exact .inl l
  .exact .inr ⟨k,c,e,gl x c e _ z⟩
 .obtain⟨v,z⟩:=I.cell x c e
  exact⟨v,gl x c e v z⟩
 .obtain⟨m,⟨o,_,_,ho,_⟩,_⟩:=I.loc
  exact free _ o (λz=>(eP _ z).2.1 rfl) ho I.free
 .obtain⟨v,o,ho,hd⟩:=I.cell x c e
  exact free c o (λz=>(eP c z).2.2.1 x c e rfl) ho (I.freeC x c e)
 .obtain⟨e,n,ne,nf,d⟩:=I.pin p hp
  have jr:p.1∉ch:=λz=>(eP p.1 z).2.2.2 p hp rfl
  exact⟨keep p.1 p.2 ne nf jr e n,free p.1 p.2 jr e n,ne,nf,d⟩
theorem Inv.un{t':Nat}(I:Inv X aa σ H s)(u:Un X.fs [] H H' s.heap h')(hok:HOk X.prog X.w H' h'):Inv X aa σ H' { s with heap:=h',toks:=t' }:=by
 obtain⟨m,⟨o,es,ep,ho,r⟩,_⟩:=id I.loc;obtain⟨sl,hL⟩:=u.any ho I.free #[2]
 exact I.step (g':=s.gens) (d':=s.drawn) (ch:=[]) (λ_ z=>nomatch z) (λb o _ hb _ e n=>u.keep b o e n hb #[2]) (λb o _ hb _ e n=>u.slot b o e n hb #[2]) (λb o _ e n=>u.free b o e n #[2]) (λb o _ e=>u.there b o e #[2]) u.tups u.frzs u.tbls (λm' hm=>by
  obtain⟨o',aD,lS,aS,r'⟩:=hm;rw[ho]at aS;cases aS;exact⟨_,aD,lS,hL,r'⟩) hok I.bare
theorem Inv.call{g':Array GenState}{t':Nat}{d':Drawn}{ch:List Vh}(I:Inv X aa σ H s)(u:Un (frs X.stack) ch H H' s.heap h')(hok:HOk X.prog X.w H' h')(hg:VH g')
 (eP:∀ b∈ch,(b∈X.ex\/X.s₀.heap.objs.size<=b)/\b≠X.env.locals/\(∀ x c,X.env.cells.lookup x=Vo c->c≠b)/\∀ p∈X.pn++aa,p.1≠b) :
 Inv X aa σ H' { s with heap:=h',gens:=g',drawn:=d',toks:=t' }:=by
 obtain⟨m,⟨o,es,ep,ho,r⟩,_⟩:=id I.loc;obtain⟨sl,hL⟩:=u.any ho I.free λz=>(eP _ z).2.1 rfl
 exact I.step (ch:=ch) eP (λb o hL hb hc e n=>u.keep b o e n (λz=>(mem_cons.mp (I.stkSub b z)).elim hL hb) hc) (λb o _ _ hc e n=>u.any e n hc) (λb o hc e n=>u.free b o e n hc) (λb o hc e=>u.there b o e hc) u.tups u.frzs u.tbls (λm' hm=>by
  obtain⟨o',aD,lS,aS,r'⟩:=hm;rw[ho]at aS;cases aS;exact⟨_,aD,lS,hL,r'⟩) hok hg
theorem Inv.turned{t':Nat}{it:Vh}(I:Inv X aa σ H s)(k:∀ b o,b≠it->s.heap.get? b=Vo o->h'.get? b=Vo o)(hn:H it=Vp)(hL:it≠X.env.locals)
 (h1:it∈X.ex\/X.s₀.heap.objs.size<=it) (h2:∀ x c,X.env.cells.lookup x=Vo c->c≠it) (h3:∀ p∈X.pn++aa,p.1≠it):Inv X aa σ H { s with heap:=h',toks:=t' }:=by
 have dz:∀ b u,H b=Vo u->b≠it:=λb u e z=>by rw[z,hn]at e;cases e
 refine I.step (g':=s.gens) (d':=s.drawn) (ch:=[it]) (λb hb=>?_) (λb o _ _ hc e _=>k b o (λz=>hc (by simp[z])) e) (λb o _ _ hc e _=>⟨o.slots,k b o (λz=>hc (by simp[z])) e⟩) (λ_ _ _ _ n=>n)
  (λb o hc e=>⟨o,k b o (λz=>hc (by simp[z])) e⟩) (λ_ _ e=>e) (λ_ _ _ e=>e) (λb ps e=>⟨#[],by rw[e];simp⟩) (λm hm=>?_) (λb u e=>?_) I.bare
 .have e:b=it:=by simpa using hb
  subst e;exact⟨h1,hL,h2,h3⟩
 .obtain⟨o,es,ep,ho,r⟩:=hm
  exact⟨o,es,ep,k _ o (VN hL) ho,r⟩
 .refine(I.hok b u e).stay (λc v hc q=>k c v ?_ q) (λ_ q=>q) λ_ _ q=>q
  rcases hc with z | z
  .rw[z];exact dz b u e
  .exact dz c _ z
theorem Inv.tok(I:Inv X aa σ H s)(t:Nat):Inv X aa σ H { s with toks:=t }:=I.un (h':=s.heap) (t':=t) Un.refl I.hok
theorem Inv.kept{t':Nat}(I:Inv X aa σ H s)(k:∀ b u,s.heap.get? b=Vo u->h'.get? b=Vo u):Inv X aa σ H { s with heap:=h',toks:=t' }:=I.un (Un.kept k) (I.hok.kept k)
theorem Inv.laid{a:Vh}{o:HO}{t':Nat}(I:Inv X aa σ H s)(k:∀ b u,s.heap.get? b=Vo u->h'.get? b=Vo u)(hp:s.heap.objs.size<=a)(new:QN X.prog X.w (upd H a o) h' a o) :
 Inv X aa σ (upd H a o) { s with heap:=h',toks:=t' }:=I.un (Un.laid k hp (I.hok.fresh hp)) (I.hok.laid k hp new)
theorem Inv.write{x e:Vh}{o:HO}{t':Nat}(I:Inv X aa σ H s)(mu:Mut (H x))(he:e=x\/H e=Vo (.own x))(k:∀ b u,b≠e->s.heap.get? b=Vo u->h'.get? b=Vo u)(gh:∃ u,h'.get? e=Vo u)
 (new:QN X.prog X.w (upd H x o) h' x o):Inv X aa σ (upd H x o) { s with heap:=h',toks:=t' }:=I.un (Un.write mu he k gh) (I.hok.write mu he k gh new)
theorem Inv.pins_of{gm:YP_}(I:Inv X aa σ H s)(h:∀ p∈gm,s.heap.get? p.1=Vo p.2/\H p.1=Vp/\p.1≠X.env.locals/\p.1∉X.fs/\∀ v,p.2.data≠.cell v):Inv X gm σ H s :=
 ⟨I.ok,I.os,I.bare,I.base,I.loc,I.cell,I.free,I.freeC,λp hp=>(mem_append.mp hp).elim (λz=>I.pin p (VO _ z)) (h p),I.hok,I.len⟩
theorem Yib{N:List Str}(hN:N.Nodup){i j:Nat}{x:Str}(a:N[i]?=Vo x)(b:N[j]?=Vo x):i=j:=by
 obtain⟨h1,e1⟩:=List.getElem?_eq_some_iff.mp a
 obtain⟨h2,e2⟩:=List.getElem?_eq_some_iff.mp b
 exact(getElem_inj hN).mp (e1.trans e2.symm)
theorem Zub{M:Model}{A:VF}{E:YQ_}{i:Nat}{x:Str}{v:V}{u:Va}{Q:Unit->VG->Prop}(I:Inv X aa σ H s)(hN:X.N.Nodup)(hi:X.N[i]?=Vo x)(hx:Loc X.env.scope x)(r:Qt v u)
 (h:∀ s',Inv X aa (σ.set i (Vo v)) H s'->(∃ a,VP a s.heap s'.heap/\(a=X.env.locals\/X.env.cells.lookup x=Vo a))->Q () s') (hf:X.fn x=true\/X.env.scope.names.lookup x=Vo .local:=by first | exact .inl rfl | exact .inr rfl | assumption):VQ M A (storeName X.env x u) Q E s:=by
 obtain⟨m,hn,hl⟩:=id I.loc;have ng:(X.env.scope.kind == .class || (X.env.scope.kind == .module && X.env.locals != X.env.globals))=false:=by rw[I.ok.kind];rfl
 have qD:i < σ.length:=by rw[I.len];exact(List.getElem?_eq_some_iff.mp hi).1
 have cne:=I.cne;have cM:∀ {a:Vh} {h':Vq},(∃ o,s.heap.get? a=Vo o/\H a=Vp)->VP a s.heap h'->HOk X.prog X.w H h':=λ{a h'} ha hs b ob e=>by
  obtain⟨_,_,gn⟩:=ha;refine(I.hok b ob e).stay (λc w' hc q=>(hs.2 c ?_).trans q) (λ_ q=>q) λ_ _ q=>q
  rintro rfl
  rcases hc with rfl | hc
  .rw[gn]at e;cases e
  .rw[gn]at hc;cases hc
 rcases hx with hk | hk
 .refine wpAny_storeName_local hk hn (λh' uB hs=>?_) ng
  obtain⟨oL,_,_,cb,_⟩:=id hn;refine h _ ⟨I.ok,I.os,I.bare,⟨λb o e n hb hx=>?_,λb o e n hb hx=>?_,I.base.free,λb o e hx=>?_,I.base.tups,I.base.frzs,I.base.tbls⟩,⟨_,uB,λj y v' e1 e2 e3=>?_⟩,λy c e=>?_,I.free,I.freeC,λp hp=>?_,cM ⟨oL,cb,I.free⟩ hs,by simpa using I.len⟩ ⟨_,hs,.inl rfl⟩
  .exact(hs.2 b (VA (Vy (Vx e) I.ok.above))).trans (I.base.keep b o e n hb hx)
  .obtain⟨sl,e1⟩:=I.base.slot b o e n hb hx
   exact⟨sl,(hs.2 b (VA (Vy (Vx e) I.ok.above))).trans e1⟩
  .obtain⟨o',e1⟩:=I.base.there b o e hx
   exact⟨o',(hs.2 b (VA (Vy (Vx e) I.ok.above))).trans e1⟩
  .by_cases hj:j=i
   .subst hj
    rw[hi]at e1;cases e1;rw[getElem?_set_self qD]at e2
    cases e2;exact⟨u,r,.inl ⟨hk,by simp⟩⟩
   .rw[getElem?_set_ne (VN hj)]at e2
    obtain⟨u',r',q⟩:=hl j y v' e1 e2 e3;refine⟨u',r',?_⟩
    rcases q with ⟨k,e⟩ | ⟨k,c,e,z⟩
    .refine .inl ⟨k,?_⟩
     have:y≠x:=λe=>hj (Yib hN e1 (e ▸ hi))
     simp[this,e]
    .exact .inr ⟨k,c,e,z.sameBut hs (cne y c e)⟩
  .obtain⟨w',z⟩:=I.cell y c e
   exact⟨w',z.sameBut hs (cne y c e)⟩
  .obtain⟨e,n,ne,nf,d⟩:=I.pin p hp
   exact⟨(hs.2 p.1 ne).trans e,n,ne,nf,d⟩
 .have nh:X.fn x=true:=by
   rcases hf with z | z
   .exact z
   .rw[z]at hk;cases hk
  obtain⟨c,hc⟩:=I.ok.has x (.inl hk);obtain⟨w',z⟩:=I.cell x c hc;refine wpAny_storeName_cell I.ok.kind hk hc z (λh' bB hs=>?_)
  obtain⟨oc,qE,ni⟩:=id z;refine h { s with heap:=h' } ⟨I.ok,I.os,I.bare,⟨λb o e n hb hx=>?_,λb o e n hb hx=>?_,I.base.free,λb o e hx=>?_,I.base.tups,I.base.frzs,I.base.tbls⟩,⟨m,hn.sameBut hs (VN (cne x c hc)),λj y v' e1 e2 e3=>?_⟩,λy c' e=>?_,I.free,I.freeC,λp hp=>?_,cM ⟨oc,qE,I.freeC x c hc⟩ hs,by simpa using I.len⟩ ⟨c,hs,.inr hc⟩
  .exact(hs.2 b (VA (Vy (Vx e) (I.ok.cab x c nh hc)))).trans (I.base.keep b o e n hb hx)
  .obtain⟨sl,e1⟩:=I.base.slot b o e n hb hx
   exact⟨sl,(hs.2 b (VA (Vy (Vx e) (I.ok.cab x c nh hc)))).trans e1⟩
  .obtain⟨o',e1⟩:=I.base.there b o e hx
   exact⟨o',(hs.2 b (VA (Vy (Vx e) (I.ok.cab x c nh hc)))).trans e1⟩
  .by_cases hj:j=i
   .subst hj
    rw[hi]at e1;cases e1;rw[getElem?_set_self qD]at e2
    cases e2;exact⟨u,r,.inr ⟨.inl hk,c,hc,bB⟩⟩
   .rw[getElem?_set_ne (VN hj)]at e2
    obtain⟨u',r',q⟩:=hl j y v' e1 e2 e3;refine⟨u',r',?_⟩
    rcases q with q | ⟨k,c',e,z'⟩
    .exact .inl q
    .refine .inr ⟨k,c',e,z'.sameBut hs ?_⟩
     rintro rfl;exact hj (Yib hN e1 (I.ok.inj _ _ _ e hc ▸ hi))
  .by_cases hcc:c'=c
   .subst hcc;exact⟨_,bB⟩
   .obtain⟨w2,z2⟩:=I.cell y c' e
    exact⟨w2,z2.sameBut hs hcc⟩
  .obtain⟨e,n,ne,nf,d⟩:=I.pin p hp
   refine⟨(hs.2 p.1 ?_).trans e,n,ne,nf,d⟩
   intro q;rw[q,qE]at e;have q':oc=p.2:=Vr e;exact d w' (by rw[<- q'];exact ni)
theorem Yjb{M:Model}{A:VF}{E:YQ_}{i:Nat}{x:Str}{v:V}{u:Va}{Q:Unit->VG->Prop}(I:Inv X aa σ H s)(hN:X.N.Nodup)(hi:X.N[i]?=Vo x)(hx:Loc X.env.scope x)(r:Qt v u)
 (h:∀ s',Inv X aa (σ.set i (Vo v)) H s'->Q () s') (hf:X.fn x=true\/X.env.scope.names.lookup x=Vo .local:=by first | exact .inl rfl | exact .inr rfl | assumption):VQ M A (storeName X.env x u) Q E s :=
 Zub I hN hi hx r (λs' I' _=>h s' I') hf
theorem Inv.call'{s':VG}{ch:List Vh}(I:Inv X aa σ H s)(ho:s'.os=s.os)(u:Un (frs X.stack) ch H H' s.heap s'.heap)(hok:HOk X.prog X.w H' s'.heap)(hg:VH s'.gens)
 (eP:∀ b∈ch,(b∈X.ex\/X.s₀.heap.objs.size<=b)/\b≠X.env.locals/\(∀ x c,X.env.cells.lookup x=Vo c->c≠b)/\∀ p∈X.pn++aa,p.1≠b):Inv X aa σ H' s':=by
 obtain⟨h',g',d',t',o'⟩:=s';have e:o'=s.os:=ho;subst e;exact I.call (g':=g') (t':=t') (d':=d') u hok hg eP
end
abbrev XK:=Va->Option Vh->Hp->Prop
abbrev St:=List (Option V)
abbrev VK:=V->Hp->Prop
abbrev TE:=St->Hp->VK->Prop
abbrev TT:=St->Hp->(Bool->Hp->Prop)->Prop
abbrev TA:=St->Hp->(List V->Hp->Prop)->Prop
structure ZG where
 nx:St->Hp->Prop
 rt:VK
 bk:St->Hp->Prop:=λ_ _=>False
 ct:St->Hp->Prop:=λ_ _=>False
abbrev TS:=ZG->St->Hp->Prop
inductive EP(X:Cx)(aa:YP_)(σ:St)(Q:VK)(u:Va)(s':VG):Prop
 | mk (v:V) (H':Hp) (i:Inv X aa σ H' s') (r:Qt v u) (q:Q v H'):EP X aa σ Q u s'
inductive TP(X:Cx)(aa:YP_)(σ:St)(Q:Bool->Hp->Prop)(b:Bool)(s':VG):Prop
 | mk (H':Hp) (i:Inv X aa σ H' s') (q:Q b H'):TP X aa σ Q b s'
inductive AP(X:Cx)(aa:YP_)(σ:St)(Q:List V->Hp->Prop)(us:List Va)(s':VG):Prop
 | mk (vs:List V) (H':Hp) (i:Inv X aa σ H' s') (r:Qv vs us) (q:Q vs H'):AP X aa σ Q us s'
def SP(X:Cx)(aa:YP_)(D:ZG)(f:Flow)(s':VG):Prop :=
 match f with
 | .next=>∃ σ' H',Inv X aa σ' H' s'/\D.nx σ' H'
 | .brk=>∃ σ' H',Inv X aa σ' H' s'/\D.bk σ' H'
 | .cont=>∃ σ' H',Inv X aa σ' H' s'/\D.ct σ' H'
 | .ret u=>∃ v σ' H',Inv X aa σ' H' s'/\Qt v u/\D.rt v H'
def PE(X:Cx)(e:Expr)(t:TE):Prop :=
 ∀ (aa:YP_) (s:VG) (σ:St) (H:Hp) (Q:VK),Inv X aa σ H s->t σ H Q->VQ (VR X.prog X.w) X.A (VS e X.env) (EP X aa σ Q) X.xe s
def PT(X:Cx)(e:Expr)(t:TT):Prop :=
 ∀ (aa:YP_) (s:VG) (σ:St) (H:Hp) (Q:Bool->Hp->Prop),Inv X aa σ H s->t σ H Q->VQ (VR X.prog X.w) X.A (isTrue e X.env (VS e X.env)) (TP X aa σ Q) X.xe s
def PW(X:Cx)(e:Expr)(t:TT):Prop :=
 ∀ (bi:Sem Va) (aa:YP_) (s:VG) (σ:St) (H:Hp) (Q:Bool->Hp->Prop),Inv X aa σ H s->t σ H Q->VQ (VR X.prog X.w) X.A (isTrue e X.env bi) (TP X aa σ Q) X.xe s
theorem PW.pt{X:Cx}{e:Expr}{t:TT}(h:PW X e t):PT X e t:=h _
def PA(X:Cx)(es:List Expr)(t:TA):Prop :=
 ∀ (pos:Pos) (aa:YP_) (s:VG) (σ:St) (H:Hp) (Q:List V->Hp->Prop),Inv X aa σ H s->t σ H Q->VQ (VR X.prog X.w) X.A (spliced (VT pos (VU es X.env))) (AP X aa σ Q) X.xe s
def PS(X:Cx)(st:VV)(t:TS):Prop :=
 ∀ (aa:YP_) (s:VG) (σ:St) (H:Hp) (D:ZG),Inv X aa σ H s->t D σ H->VQ (VR X.prog X.w) X.A (exec st X.env) (SP X aa D) X.xe s
def PSs(X:Cx)(st:List VV)(t:TS):Prop :=
 ∀ (aa:YP_) (s:VG) (σ:St) (H:Hp) (D:ZG),Inv X aa σ H s->t D σ H->VQ (VR X.prog X.w) X.A (execs st X.env) (SP X aa D) X.xe s
theorem thn{α:Type}{t:Sem α}{Q Q':α->VG->Prop}{M:Model}{A:VF}{E:YQ_}{s:VG}(h:VQ M A t Q E s)(hQ:∀ a s,Q a s->Q' a s):VQ M A t Q' E s:=VW h hQ λ_ _ x=>x
section
variable{X:Cx}
def Ju(i:Nat):TE:=λσ H Q=>match σ[i]? with | some (Vo v)=>Q v H | _=>False
theorem X1c{i:Nat}{σ:St}{H:Hp}{Q:VK}(h:Ju i σ H Q):∃ v,σ[i]?=Vo (Vo v)/\Q v H:=by
 unfold Ju at h
 split at h
 .exact⟨_,‹_›,h⟩
 .exact h.elim
theorem Ya{i:Nat}{σ:St}{H:Hp}{Q:VK}{v:V}(e:σ[i]?=Vo (Vo v))(q:Q v H):Ju i σ H Q:=by
 unfold Ju;rw[e];exact q
theorem XEb{σ:St}{H:Hp}{Q:VK}{v:V}:Ju 0 (Vo v::σ) H Q=Q v H:=rfl
theorem XFb{σ:St}{H:Hp}{Q:VK}{i:Nat}{x:Option V}:Ju (i+1) (x::σ) H Q=Ju i σ H Q:=rfl
def tC(v:V):TE:=λ_ H Q=>Q v H
theorem ZLd{i:Nat}{x:Str}{pos:Pos}(hN:X.N[i]?=Vo x)(hv:Vis X.env.scope x)(hd:(x == ("__debug__":Str))=false:=by decide)(bu:(x == ("__classdict__":Str))=false:=by decide):PE X (.Name x pos) (Ju i):=by
 intro aa s σ H Q I h;obtain⟨v,e,h⟩:=X1c h;obtain⟨m,hn,hl⟩:=I.loc;obtain⟨u,r,l⟩:=hl i x v hN e hv;have fin:EP X aa σ Q u s:=⟨v,H,I,r,h⟩
 rcases l with ⟨hk,hm⟩ | ⟨hk,c,hc,gt⟩
 .exact wpAny_Name (wpAny_loadName_local I.ok.kind hk hn hm fin) hd
 .rcases hk with hk | hk
  .exact wpAny_Name (wpAny_loadName_cell I.ok.kind hk hc gt fin) hd
  .exact wpAny_Name (wpAny_loadName_free I.ok.kind hk hc gt fin bu) hd
theorem JBc{i j pos}:PE X (.Constant (.int i) j pos) (tC (.int i)):=λ_ _ _ H _ I h=>wpAny_Constant_int ⟨.int i,H,I.tok _,⟨_,rfl⟩,h⟩
theorem Ykb{b j pos}:PE X (.Constant (.bool b) j pos) (tC (.bl b)):=λ_ _ _ H _ I h=>Constant_bool ⟨.bl b,H,I,rfl,h⟩
theorem Jcb{j pos}:PE X (.Constant .none j pos) (tC .non):=λ_ _ _ H _ I h=>Constant_none ⟨.non,H,I,rfl,h⟩
theorem ZMd{x j pos}:PE X (.Constant (.str x) j pos) (tC (.str x)):=λ_ _ _ H _ I h=>Calls.Constant_str ⟨.str x,H,I.tok _,⟨_,rfl⟩,h⟩
def Gl(X:Cx)(x:Str):Prop:=X.env.kindOf x=Vo .globalImplicit
theorem Xk{E:YQ_}{aa:YP_}{s:VG}{σ:St}{H:Hp}{x:Str}{u:Va}{pos:Pos}{Q:YQ_}(I:Inv X aa σ H s)(hg:Gl X x)(hm:X.mg x=Vo u)(h:Q u s)
 (hd:(x == ("__debug__":Str))=false:=by decide):VQ (VR X.prog X.w) X.A (VS (.Name x pos) X.env) Q E s :=
 Calls.Name_function_global I.ok.kind hg (Calls.loadGlobal_global (by rw[I.ok.glob];exact I.mod.glob.keeps I.bk) hm h) hd
theorem ZHa{E:YQ_}{aa:YP_}{s:VG}{σ:St}{H:Hp}{x:Str}{u:Va}{pos:Pos}{Q:YQ_}(I:Inv X aa σ H s)(hg:Gl X x)(hm:X.mg x=Vp)(hv:VE x=Vo u)(h:Q u s)
 (hn:x≠"__name__":=by decide) (hd:(x == ("__debug__":Str))=false:=by decide):VQ (VR X.prog X.w) X.A (VS (.Name x pos) X.env) Q E s:=by
 obtain⟨mb,h1,h2⟩:=I.mod.blt;exact Calls.Name_function_global I.ok.kind hg (Calls.loadGlobal_builtin (by rw[I.ok.glob];exact I.mod.glob.keeps I.bk) hm (by rw[I.ok.blt];exact h1.keeps I.bk) ((h2 x hn).trans hv) h) hd
theorem QJc{x:Str}{v:V}{u:Va}{pos:Pos}(hg:Gl X x)(hm:X.mg x=Vo u)(r:Qt v u)(hd:(x == ("__debug__":Str))=false:=by decide):PE X (.Name x pos) (tC v) :=
 λ_ _ _ H _ I h=>Xk I hg hm ⟨v,H,I,r,h⟩ hd
theorem Jdb{x:Str}{v:V}{u:Va}{pos:Pos}(hg:Gl X x)(hm:X.mg x=Vp)(hv:VE x=Vo u)(r:Qt v u)(hn:x≠"__name__":=by decide)(hd:(x == ("__debug__":Str))=false:=by decide):PE X (.Name x pos) (tC v) :=
 λ_ _ _ H _ I h=>ZHa I hg hm hv ⟨v,H,I,r,h⟩ hn hd
variable{a b:Expr}{ta tb:TE}{pos:Pos}
def PC(X:Cx)(op:CmpOp)(a b:Expr)(t:TE):Prop :=
 ∀ (aa:YP_) (s:VG) (σ:St) (H:Hp) (Q:VK),Inv X aa σ H s->t σ H Q ->
  VQ (VR X.prog X.w) X.A (VS a X.env) (λv s₁=>VQ (VR X.prog X.w) X.A (VS b X.env) (λu s₂=>VQ (VR X.prog X.w) X.A (VX op v u) (EP X aa σ Q) X.xe s₂) X.xe s₁) X.xe s
def tB(t:TE):TT:=λσ H Q=>t σ H λx H1=>∃ c,x=.bl c/\Q c H1
theorem XUa{op:CmpOp}{t:TE}(h:PC X op a b t)(h1:VY op b=false:=by first | exact nobehind _ #[1] #[1] | rfl):PT X (.Compare a [op] [b] pos) (tB t):=by
 intro aa s σ H Q I hw;refine wpAny_isTrue_Compare1 (thn (h aa s σ H _ I hw) λv s1 h1=>thn h1 λu s2 h2=>thn h2 λc s3 hZ=>?_) h1
 obtain⟨x,H1,I1,r1,q1⟩:=hZ;obtain⟨d,rfl,q⟩:=q1;cases r1;exact VZ ⟨H1,I1,q⟩
theorem ZIa{e:Expr}{t:TE}(h:PE X e t)(he:∀ bi,isTrue e X.env bi=(do let v <- bi;V0 e.pos;V1 [v] (truthy v)):=by intro _;rfl):PT X e (tB t):=by
 intro aa s σ H Q I hw;refine isTrue_plain (thn (h aa s σ H _ I hw) λv s1 hZ=>?_) (he _)
 obtain⟨x,H1,I1,r1,q1⟩:=hZ;obtain⟨d,rfl,q⟩:=q1;cases r1;exact VZ ⟨H1,I1,q⟩
variable{tA js:TT}{rest:List Expr}
def ZNd(t u:TT):TT:=λσ H Q=>t σ H λc H1=>if c=true then u σ H1 Q else Q false H1
def tOr(t u:TT):TT:=λσ H Q=>t σ H λc H1=>if c=true then Q true H1 else u σ H1 Q
def ZOd(t:TT):TT:=λσ H Q=>t σ H λc H1=>Q (!c) H1
theorem X2c(ha:PT X a tA):PW X (.BoolOp .And [a] pos) tA:=by
 intro wh aa s σ H Q I h;refine isTrue_and (thn (ha aa s σ H Q I h) λc s1 e=>?_)
 cases c with
 | true=>exact isTrue_and_nil e
 | false=>exact e
theorem ZPd(ha:PT X a tA):PW X (.BoolOp .Or [a] pos) tA:=by
 intro wh aa s σ H Q I h;refine isTrue_or (thn (ha aa s σ H Q I h) λc s1 e=>?_)
 cases c with
 | false=>exact isTrue_or_nil e
 | true=>exact e
theorem ZQd(ha:PT X a tA)(hb:PW X (.BoolOp .And (b::rest) pos) js):PW X (.BoolOp .And (a::b::rest) pos) (ZNd tA js):=by
 intro wh aa s σ H Q I h;refine isTrue_and (thn (ha aa s σ H _ I h) λc s1 hZ=>?_)
 obtain⟨H1,I1,q1⟩:=hZ;cases c with
 | true=>exact hb wh aa s1 σ H1 Q I1 q1
 | false=>exact⟨H1,I1,q1⟩
theorem Yyd(ha:PT X a tA)(hb:PW X (.BoolOp .Or (b::rest) pos) js):PW X (.BoolOp .Or (a::b::rest) pos) (tOr tA js):=by
 intro wh aa s σ H Q I h;refine isTrue_or (thn (ha aa s σ H _ I h) λc s1 hZ=>?_)
 obtain⟨H1,I1,q1⟩:=hZ;cases c with
 | true=>exact⟨H1,I1,q1⟩
 | false=>exact hb wh aa s1 σ H1 Q I1 q1
theorem Yla(ha:PT X a tA):PT X (.UnaryOp .Not a pos) (ZOd tA):=by
 intro aa s σ H Q I h;exact isTrue_not (thn (ha aa s σ H (λc H1=>Q (!c) H1) I h) λ_ _ hZ=>by obtain⟨H1,I1,q1⟩:=hZ;exact⟨H1,I1,q1⟩)
def JCc(ta tb:TE):TE:=λσ H Q=>ta σ H λx H1=>∃ c,x=.bl c/\if c=true then tb σ H1 Q else Q (.bl false) H1
def ZRd(ta tb:TE):TE:=λσ H Q=>ta σ H λx H1=>∃ c,x=.bl c/\if c=true then Q (.bl true) H1 else tb σ H1 Q
def JDc(ta:TE):TE:=λσ H Q=>ta σ H λx H1=>∃ c,x=.bl c/\Q (.bl (!c)) H1
theorem ZSd{op}{t:TE}(h:PE X a t):PE X (.BoolOp op [a] pos) t:=λaa s σ H Q I hw=>BoolOp_one (h aa s σ H Q I hw)
theorem ZTd(ha:PE X a ta)(hb:PE X (.BoolOp .And (b::rest) pos) tb):PE X (.BoolOp .And (a::b::rest) pos) (JCc ta tb):=by
 intro aa s σ H Q I h;refine BoolOp_and (thn (ha aa s σ H _ I h) λv s1 hZ=>?_)
 obtain⟨x,H1,I1,r1,q1⟩:=hZ;obtain⟨c,rfl,q1⟩:=q1;cases r1;refine VZ ?_
 cases c with
 | true=>exact hb aa s1 σ H1 Q I1 q1
 | false=>exact⟨.bl false,H1,I1,rfl,q1⟩
theorem Yzd(ha:PE X a ta)(hb:PE X (.BoolOp .Or (b::rest) pos) tb):PE X (.BoolOp .Or (a::b::rest) pos) (ZRd ta tb):=by
 intro aa s σ H Q I h;refine BoolOp_or (thn (ha aa s σ H _ I h) λv s1 hZ=>?_)
 obtain⟨x,H1,I1,r1,q1⟩:=hZ;obtain⟨c,rfl,q1⟩:=q1;cases r1;refine VZ ?_
 cases c with
 | false=>exact hb aa s1 σ H1 Q I1 q1
 | true=>exact⟨.bl true,H1,I1,rfl,q1⟩
theorem ZUd(ha:PE X a ta):PE X (.UnaryOp .Not a pos) (JDc ta):=by
 intro aa s σ H Q I h;refine UnaryOp_ (thn (ha aa s σ H _ I h) λv s1 hZ=>?_)
 obtain⟨x,H1,I1,r1,q1⟩:=hZ;obtain⟨c,rfl,q1⟩:=q1;cases r1;exact not_of (VZ ⟨.bl (!c),H1,I1,rfl,q1⟩)
def tIf(t:TT)(ta tb:TE):TE:=λσ H Q=>t σ H λc H1=>if c=true then ta σ H1 Q else tb σ H1 Q
theorem JEc{c:Expr}(hc:PT X c tA)(ha:PE X a ta)(hb:PE X b tb):PE X (.IfExp c a b pos) (tIf tA ta tb):=by
 intro aa s σ H Q I h;refine wpAny_IfExp (thn (hc aa s σ H _ I h) λd s1 hZ=>?_)
 obtain⟨H1,I1,q1⟩:=hZ;cases d with
 | true=>exact ha aa s1 σ H1 Q I1 q1
 | false=>exact hb aa s1 σ H1 Q I1 q1
end
def SqL(K:VC)(H:Hp)(a:Vh)(xs:List V):Prop :=
 Rd H a (.lst xs) \/
  ∃ (o:Obj) (af:Array Va) (n:Nat),K.lookup a=Vo o/\o.cls=.type "list"/\o.dict=Vp/\o.data=.seq af n/\af.size<=Vs/\Qv xs af.toList
def SqT(K:VC)(H:Hp)(a:Vh)(xs:List V):Prop :=
 Rd H a (.tup xs) \/
  ∃ (o:Obj) (af:Array Va) (n:Nat),K.lookup a=Vo o/\o.cls=.type "tuple"/\o.data=.seq af n/\af.size<=Vs/\Qv xs af.toList
def Xad:Va->Option V
 | .none=>Vo .non
 | .bool b=>Vo (.bl b)
 | .int i _=>Vo (.int i)
 | .str x _=>Vo (.str x)
 | .bytes b _=>Vo (.byt b)
 | .float b _=>Vo (.flt b)
 | .ref a=>Vo (.ref a)
 | .type n=>Vo (.ty n)
 | _=>Vp
theorem Qt.abs{x:V}{u:Va}(r:Qt x u):Xad u=Vo x:=by
 cases x with
 | non=>cases r;rfl
 | bl _=>cases r;rfl
 | int _=>obtain⟨t,rfl⟩:=r;rfl
 | str _=>obtain⟨t,rfl⟩:=r;rfl
 | byt _=>obtain⟨t,rfl⟩:=r;rfl
 | flt _=>obtain⟨t,rfl⟩:=r;rfl
 | ref _=>cases r;rfl
 | ty _=>cases r;rfl
theorem Qt.inj{x y:V}{u:Va}(r:Qt x u)(q:Qt y u):x=y:=Vr (r.abs.symm.trans q.abs)
theorem Qv.inj:∀ {xs ys:List V} {us:List Va},Qv xs us->Qv ys us->xs=ys
 | _,_,_,.nil,.nil=>rfl
 | _,_,_,.cons r t,.cons r' t'=>by rw[r.inj r',Qv.inj t t']
section
variable{X:Cx}{aa:YP_}{σ:St}{H:Hp}{s:VG}{a:Vh}{xs ys:List V}
theorem SqL.of{K:VC}(h:H a=Vo (.lst xs)):SqL K H a xs:=.inl (.inl h)
theorem SqT.of{K:VC}(h:H a=Vo (.tup xs)):SqT K H a xs:=.inl (.inl h)
theorem Inv.list(I:Inv X aa σ H s)(h:SqL X.K H a xs):∃ af:List Va,Qv xs af/\PlainL s.heap a af.toArray/\xs.length<=Vs:=by
 rcases h with h | ⟨o,af,n,hk,hc,hd,hs,hz,r⟩
 .obtain⟨z,af,n,r,e⟩:=h.ok I.hok
  exact⟨af,r,⟨_,n,e,rfl,rfl,rfl⟩,z⟩
 .refine⟨af.toList,r,⟨o,n,I.kIn a o hk,hc,hd,by simpa using hs⟩,?_⟩
  have e:=r.length;simp only[V2]at e
  lia
theorem Inv.tuple(I:Inv X aa σ H s)(h:SqT X.K H a xs):∃ af:List Va,Qv xs af/\Vt s.heap a af.toArray/\xs.length<=Vs:=by
 rcases h with h | ⟨o,af,n,hk,hc,hs,hz,r⟩
 .obtain⟨⟨z,_⟩,af,r,p⟩:=h.ok I.hok
  exact⟨af,r,p,z⟩
 .refine⟨af.toList,r,⟨o,I.kIn a o hk,hc,n,by simpa using hs⟩,?_⟩
  have e:=r.length;simp only[V2]at e
  lia
theorem Inv.list_inj(I:Inv X aa σ H s)(h:SqL X.K H a xs)(h':SqL X.K H a ys):xs=ys:=by
 obtain⟨af,r,⟨o,n,e,_,_,d⟩,_⟩:=I.list h;obtain⟨its',r',⟨o',n',e',_,_,d'⟩,_⟩:=I.list h';rw[e]at e';cases e';rw[d]at d';injection d' with d1 _
 have:af=its':=by simpa using congrArg Array.toList d1
 subst this;exact r.inj r'
theorem Inv.tuple_inj(I:Inv X aa σ H s)(h:SqT X.K H a xs)(h':SqT X.K H a ys):xs=ys:=by
 obtain⟨af,r,⟨o,e,_,n,d⟩,_⟩:=I.tuple h;obtain⟨its',r',⟨o',e',_,n',d'⟩,_⟩:=I.tuple h';rw[e]at e';cases e';rw[d]at d';injection d' with d1 _
 have:af=its':=by simpa using congrArg Array.toList d1
 subst this;exact r.inj r'
end
abbrev Cx.wish(X:Cx)(E:YQ_):Cx:={ X with xe:=E }
abbrev Cx.nox(X:Cx):Cx:=X.wish λ_ _=>False
theorem Cx.Ok.wish{X:Cx}(ok:X.Ok)(E:YQ_):(X.wish E).Ok :=
 ⟨ok.mod,ok.kind,ok.glob,ok.blt,ok.above,ok.inj,ok.has,ok.cab,ok.hd,ok.frames,ok.stk,ok.exf,ok.bs,ok.bsz,ok.noex,ok.exfs,ok.funs,ok.frf⟩
theorem Cx.Ok.unwish{X:Cx}{E:YQ_}(ok:(X.wish E).Ok):X.Ok :=
 ⟨ok.mod,ok.kind,ok.glob,ok.blt,ok.above,ok.inj,ok.has,ok.cab,ok.hd,ok.frames,ok.stk,ok.exf,ok.bs,ok.bsz,ok.noex,ok.exfs,ok.funs,ok.frf⟩
section
variable{X:Cx}{aa:YP_}{σ:St}{H:Hp}{s:VG}{E:YQ_}
theorem Inv.wish(I:Inv X aa σ H s)(E:YQ_):Inv (X.wish E) aa σ H s:=⟨I.ok.wish E,I.os,I.bare,I.base,I.loc,I.cell,I.free,I.freeC,I.pin,I.hok,I.len⟩
theorem Inv.unwish(I:Inv (X.wish E) aa σ H s):Inv X aa σ H s:=⟨I.ok.unwish,I.os,I.bare,I.base,I.loc,I.cell,I.free,I.freeC,I.pin,I.hok,I.len⟩
theorem SP.unwish{D:ZG}{f:Flow}{s':VG}(h:SP (X.wish E) aa D f s'):SP X aa D f s':=by
 cases f with
 | next=>obtain⟨σ',H',I,q⟩:=h;exact⟨σ',H',I.unwish,q⟩
 | brk=>obtain⟨σ',H',I,q⟩:=h;exact⟨σ',H',I.unwish,q⟩
 | cont=>obtain⟨σ',H',I,q⟩:=h;exact⟨σ',H',I.unwish,q⟩
 | ret u=>obtain⟨v,σ',H',I,r,q⟩:=h;exact⟨v,σ',H',I.unwish,r,q⟩
theorem PSs.nox{st:List VV}{t:TS}(h:PSs X.nox st t):PSs X st t:=λaa s σ H D I hw =>
 VW (h aa s σ H D (I.wish _) hw) (λ_ _ q=>q.unwish) λ_ _ z=>V3 z
end
section
variable{X:Cx}{st:VV}{rest:List VV}{t u:TS}{e:Expr}{te:TE}{pos:Pos}
def JFc:TS:=λD σ H=>D.nx σ H
def Js(t u:TS):TS:=λD σ H=>t { D with nx:=u D } σ H
theorem Jpa:PSs X [] JFc:=λ_ _ σ H _ I h=>V4 ⟨σ,H,I,h⟩
theorem ZR(h1:PS X st t)(h2:PSs X rest u):PSs X (st::rest) (Js t u):=by
 intro aa s σ H D I h;refine wpAny_execs_cons (thn (h1 aa s σ H { D with nx:=u D } I h) λf s1 q=>?_)
 cases f with
 | next =>
  obtain⟨σ',H',I',q⟩:=q;exact h2 aa s1 σ' H' D I' q
 | ret v=>exact q
 | brk=>exact q
 | cont=>exact q
theorem Yb(h1:PS X st t):PSs X [st] t:=by
 intro aa s σ H D I h;refine wpAny_execs_cons (thn (h1 aa s σ H D I h) λf s1 q=>?_)
 cases f with
 | next=>exact V4 q
 | ret v=>exact q
 | brk=>exact q
 | cont=>exact q
def YAd:TS:=λD σ H=>D.ct σ H
theorem Ylb:PS X (.Continue pos) YAd:=λ_ _ σ H _ I h=>wpAny_Continue ⟨σ,H,I,h⟩
theorem Inv.quiet{aa:YP_}{σ:St}{H:Hp}{s:VG}(I:Inv X aa σ H s):interactive X.env=false:=by simp[interactive,I.ok.kind]
def JGc(te:TE):TS:=λD σ H=>te σ H λ_ H1=>D.nx σ H1
theorem Jeb(he:PE X e te)(hs:V5 e Vp pos.line X.env=pure false:=by rfl):PS X (.Expr e pos) (JGc te):=by
 intro aa s σ H D I h;exact wpAny_Expr_any (thn (he aa s σ H _ I h) λv s1 ⟨x,H1,I1,r1,q1⟩=>⟨σ,H1,I1,q1⟩) I.quiet hs
def ZVd(te:TE):TS:=λD σ H=>te σ H D.rt
theorem Qca(he:PE X e te):PS X (.Return (Vo e) pos) (ZVd te):=by
 intro aa s σ H D I h;exact wpAny_Return_some (thn (he aa s σ H _ I h) λv s1 ⟨x,H1,I1,r1,q1⟩=>⟨x,σ,H1,I1,r1,q1⟩)
def ZWd(c:TT)(t u:TS):TS:=λD σ H=>c σ H λb H1=>if b=true then t D σ H1 else u D σ H1
theorem Ymb{c:Expr}{a b:List VV}{tc:TT}(hc:PT X c tc)(ha:PSs X a t)(hb:PSs X b u):PS X (.If c a b pos) (ZWd tc t u):=by
 intro aa s σ H D I h;refine wpAny_If (thn (hc aa s σ H _ I h) λd s1 hZ=>?_)
 obtain⟨H1,I1,q1⟩:=hZ;cases d with
 | true=>exact ha aa s1 σ H1 D I1 q1
 | false=>exact hb aa s1 σ H1 D I1 q1
end
abbrev TG:=V->St->Hp->(St->Hp->Prop)->Prop
abbrev TGs:=List V->St->Hp->(St->Hp->Prop)->Prop
def PG(X:Cx)(a9:Expr)(t:TG):Prop :=
 ∀ (aa:YP_) (s:VG) (σ:St) (H:Hp) (v:V) (u:Va) (Q:St->Hp->Prop),Inv X aa σ H s->Qt v u->t v σ H Q ->
  VQ (VR X.prog X.w) X.A (V6 a9 X.env u) (λ_ s'=>∃ σ' H',Inv X aa σ' H' s'/\Q σ' H') X.xe s
def PGs(X:Cx)(ts:List Expr)(t:TGs):Prop :=
 ∀ (aa:YP_) (s:VG) (σ:St) (H:Hp) (vs:List V) (us:List Va) (Q:St->Hp->Prop),Inv X aa σ H s->Qv vs us->t vs σ H Q ->
  VQ (VR X.prog X.w) X.A (assignInOrder ((V7 ts X.env).map (·.2)) us) (λ_ s'=>∃ σ' H',Inv X aa σ' H' s'/\Q σ' H') X.xe s
abbrev ZXd:=V->V->V->Hp->(Hp->Prop)->Prop
def YBd(X:Cx)(t:ZXd):Prop :=
 ∀ (aa:YP_) (s:VG) (σ:St) (H:Hp) (o i v:V) (ov iv u:Va) (Q:Hp->Prop),Inv X aa σ H s->Qt o ov->Qt i iv->Qt v u->t o i v H Q ->
  VQ (VR X.prog X.w) X.A (setItem ov iv u) (λ_ s'=>∃ H',Inv X aa σ H' s'/\Q H') X.xe s
section
variable{X:Cx}{pos:Pos}
def Y0a(i:Nat):TG:=λv σ H Q=>Q (σ.set i (Vo v)) H
theorem Jfb{i:Nat}{x:Str}(hN:X.N.Nodup)(hi:X.N[i]?=Vo x)(hx:Loc X.env.scope x)(hf:X.fn x=true\/X.env.scope.names.lookup x=Vo .local:=by first | exact .inl rfl | exact .inr rfl | assumption):PG X (.Name x pos) (Y0a i):=by
 intro aa s σ H v u Q I r h;exact wpAny_assign_Name (Yjb I hN hi hx r (λs' I'=>⟨_,H,I',h⟩) hf)
def ZYd:TGs:=λvs σ H Q=>vs=[]/\Q σ H
def JHc(t:TG)(u:TGs):TGs:=λvs σ H Q=>∃ v r,vs=v::r/\t v σ H λσ' H'=>u r σ' H' Q
theorem X3c:PGs X [] ZYd:=by
 intro aa s σ H vs us Q I r h;obtain⟨e,h⟩:=h;subst e;cases r;exact assignInOrder_nil ⟨σ,H,I,h⟩
theorem JIc{e:Expr}{es:List Expr}{t:TG}{u:TGs}(h1:PG X e t)(h2:PGs X es u)
 (hs:(V7 (e::es) X.env).map (·.2)=V6 e X.env::(V7 es X.env).map (·.2):=by rfl):PGs X (e::es) (JHc t u):=by
 intro aa s σ H vs us Q I r h;obtain⟨v,vr,e1,h⟩:=h;subst e1;cases r with
 | cons r rr =>
  rw[hs];refine assignInOrder_cons (thn (h1 aa s σ H _ _ _ I r h) λ_ s1 hZ=>?_)
  obtain⟨σ1,H1,I1,q1⟩:=hZ;exact h2 aa s1 σ1 H1 _ _ Q I1 rr q1
def ZZd(K:VC)(n:Nat)(t:TGs):TG:=λv σ H Q=>∃ a xs,v=.ref a/\SqT K H a xs/\xs.length=n/\t xs σ H Q
theorem Z0d{es:List Expr}{k:Nat}{t:TGs}{n:Nat}(hc:X.calm=true)(h:PGs X es t)
 (hn:(V7 es X.env).length=n:=by rfl) (bJ:(V7 es X.env).findIdx? (·.1)=Vp:=by rfl):PG X (.Tuple es k pos) (ZZd X.K n t):=by
 intro aa s σ H v u Q I r hw;obtain⟨a,xs,e1,hq,hl,hw⟩:=hw;subst e1;cases r;obtain⟨af,rv,ht,hz⟩:=I.tuple hq;refine assign_Tuple_tuple (I.ok.hd hc) ht (by simp[hn,<- hl,rv.length]) bJ λh' hx=>?_
 have I1:Inv X aa σ H { s with heap:=h' }:=I.kept (t':=s.toks) λb o e=>hx b o (VA (Vx e)) e
 exact h aa _ σ H xs _ Q I1 (by simpa using rv) hw
def YCd(to ti:TE)(t:ZXd):TG:=λv σ H Q=>to σ H λo H1=>ti σ H1 λi H2=>t o i v H2 λH3=>Q σ H3
theorem JJc{o i:Expr}{to ti:TE}{t:ZXd}(ho:PE X o to)(hi:PE X i ti)(hs:YBd X t)
 (ha:∀ v,V6 (.Subscript o i pos) X.env v=(do
  let ov <- V1 [v] (VS o X.env)
  let iv <- V1 [v,ov] (VS i X.env)
  V0 pos
  V1 [v,ov,iv] (setItem ov iv v)
  release [v,ov,iv] []):=by intro _;rfl):PG X (.Subscript o i pos) (YCd to ti t):=by
 intro aa s σ H v u Q I r h;rw[ha];refine V8 (V9 (thn (ho aa s σ H _ I h) λov s1 hZ=>?_))
 obtain⟨x,H1,I1,r1,q1⟩:=hZ;refine V8 (V9 (thn (hi aa s1 σ H1 _ I1 q1) λiv s2 hZ=>?_))
 obtain⟨y,H2,I2,r2,q2⟩:=hZ;refine V8 (Ua (V8 (V9 (thn (hs aa s2 σ H2 x y v ov iv u _ I2 r1 r2 r q2) λ_ s3 hZ=>?_))))
 obtain⟨H3,I3,q3⟩:=hZ;exact wpAny_release ⟨σ,H3,I3,q3⟩
def Zzc(te:TE)(g:TG):TS:=λD σ H=>te σ H λx H1=>g x σ H1 D.nx
theorem XGb{tg e:Expr}{te:TE}{g:TG}(he:PE X e te)(hg:PG X tg g)(hs:swapsWithSole [tg] e pos.line X.env=pure false:=by rfl)(hw:swappedStores [tg] e X.env=pure Vp:=by rfl)
 (h1:(V7 [tg] X.env).map (·.2)=[V6 tg X.env]:=by rfl):PS X (.Assign [tg] e pos) (Zzc te g):=by
 intro aa s σ H D I h;refine wpAny_Assign_stores (thn (he aa s σ H _ I h) λv s1 hZ=>?_) hs hw
 obtain⟨x,H1,I1,r1,q1⟩:=hZ;rw[h1];exact thn (hg aa s1 σ H1 x v _ I1 r1 q1) λ_ s2 q=>q
theorem Z1d{i:Nat}{x:Str}{e:Expr}{te:TE}{aL:Pos}(hN:X.N.Nodup)(hi:X.N[i]?=Vo x)(hx:Loc X.env.scope x)(he:PE X e te)(hs:V5 e (Vo (.Name x aL)) pos.line X.env=pure false:=by rfl)(hf:X.fn x=true\/X.env.scope.names.lookup x=Vo .local:=by first | exact .inl rfl | exact .inr rfl | assumption) :
 PS X (.Assign [.Name x aL] e pos) (Zzc te (Y0a i)):=by
 intro aa s σ H D I h;refine wpAny_Assign_Name (thn (he aa s σ H _ I h) λv s1 hZ=>?_) hs
 obtain⟨y,H1,I1,r1,q1⟩:=hZ;exact Yjb I1 hN hi hx r1 (λs2 I2=>⟨_,H1,I2,q1⟩) hf
end
section
variable{X:Cx}{pos:Pos}
def Z2d(c:TT)(tb:TS):TS:=λD σ H=>∃ W:Nat->St->Hp->Prop,(∃ m,W m σ H)/\∀ m σ H,W m σ H ->
 c σ H λb H1=>if b=true then ∃ N:St->Hp->Prop,(∀ σ' H',N σ' H'->∃ m',m' < m/\W m' σ' H')/\tb { D with nx:=N,ct:=N,bk:=D.nx } σ H1 else D.nx σ H1
theorem JKc{c:Expr}{body:List VV}{tc:TT}{tb:TS}(hp:PassesOwn (VR X.prog X.w) X.A X.env X.xe)(hc:PT X c tc)(hb:PSs X body tb):PS X (.While c body [] pos) (Z2d tc tb):=by
 intro aa s σ H D I h;obtain⟨W,⟨m0,w0⟩,turn⟩:=h;refine wpAny_While (codeAny_whileLoop (λn s'=>∃ σ' H',Inv X aa σ' H' s'/\W n σ' H') ?_ m0 ⟨σ,H,I,w0⟩)
 rintro n s1 ⟨σ1,H1,I1,w1⟩;refine Ub hp (thn (hc aa s1 σ1 H1 _ I1 (turn n σ1 H1 w1)) λb s2 hZ=>?_)
 obtain⟨H2,I2,q2⟩:=hZ;cases b with
 | true =>
  obtain⟨N,hN,q2⟩:=q2;rw[if_pos rfl];refine Ub hp (thn (hb aa s2 σ1 H2 _ I2 q2) λf s3 q3=>?_)
  cases f with
  | next =>
   obtain⟨σ3,H3,I3,n3⟩:=q3;obtain⟨m',hm,w3⟩:=hN σ3 H3 n3;exact⟨m',hm,σ3,H3,I3,w3⟩
  | cont =>
   obtain⟨σ3,H3,I3,n3⟩:=q3;obtain⟨m',hm,w3⟩:=hN σ3 H3 n3;exact⟨m',hm,σ3,H3,I3,w3⟩
  | brk=>exact q3
  | ret v=>exact q3
 | false =>
  rw[if_neg Uc];exact V4 ⟨σ1,H2,I2,q2⟩
end
structure It where
 go:Nat->Hp->Prop
 yld:Nat->Hp->V->Hp->Prop
 stop:Nat->Hp->Prop
def Yc(X:Cx)(aa:YP_)(H:Hp)(b:Vh):Prop :=
 H b=Vp/\b≠X.env.locals/\b∉X.fs/\(b∈X.ex\/X.s₀.heap.objs.size<=b)/\(∀ x c,X.env.cells.lookup x=Vo c->c≠b)/\∀ p∈X.pn++aa,p.1≠b
theorem Inv.fpOk{X:Cx}{aa:YP_}{σ:St}{H H':Hp}{s:VG}{b:Vh}(I:Inv X aa σ H s)(hb:s.heap.objs.size<=b)(hn:H' b=Vp):Yc X aa H' b:=by
 refine⟨hn,Ud (Vy I.lt hb),I.nofs hb,.inr (VI I.sz hb),λx c e z=>?_,λp hp z=>?_⟩
 .obtain⟨v,q⟩:=I.cell x c e
  exact absurd (Vy q.lt (by rw[z];exact hb)) (Vz _)
 .exact absurd (Vy (Vx (I.pin p hp).1) (by rw[z];exact hb)) (Vz _)
structure Jgb(P:Vg)(w:Vb)(K:VC)(tg:Expr)(J:It)(fp:List Vh)(it:Vh)(tn:Nat->Vq->Prop):Prop where
 mem:it∈fp
 obj:∀ i h,tn i h->∀ b∈fp,∃ o,h.get? b=Vo o/\∀ v,o.data≠.cell v
 keep:∀ i h h',tn i h->(∀ b∈fp,∀ o,h.get? b=Vo o->h'.get? b=Vo o)->tn i h'
 item:∀ (X:Cx),X.prog=P->X.w=w->X.K=K->X.calm=true->∀ (i:Nat) (aa:YP_) (s:VG) (σ:St) (H:Hp) (E:YQ_),Inv X aa σ H s->(∀ b∈fp,Yc X aa H b)->tn i s.heap->J.go i H ->
  VQ (VR P w) X.A (Ue (.ref it)) (λr s1=>∃ u,r=Vo u /\
   VQ (VR P w) X.A (Uf tg (.ref it) u) (λ_ s2=>∃ x H',Inv X aa σ H' s2/\Qt x u/\J.yld i H x H'/\tn (i+1) s2.heap/\∀ b∈fp,H' b=Vp) E s1) E s
 done:∀ (X:Cx),X.prog=P->X.w=w->X.K=K->X.calm=true->∀ (i:Nat) (aa:YP_) (s:VG) (σ:St) (H:Hp) (E:YQ_),Inv X aa σ H s->(∀ b∈fp,Yc X aa H b)->tn i s.heap->J.stop i H ->
  VQ (VR P w) X.A (Ue (.ref it)) (λr s1=>r=Vp/\Inv X aa σ H s1) E s
 self:∀ (A:VF) (i:Nat) (s:VG) (Q:YQ_) (E:YQ_),tn i s.heap->Q (.ref it) s->VQ (VR P w) A (Ug (.ref it)) Q E s
abbrev TI:=St->Hp->(It->Hp->Prop)->Prop
def PIE(X:Cx)(aa:YP_)(σ:St)(tg:Expr)(R:It->Hp->Prop)(nj:Va)(s2:VG):Prop :=
 ∃ (it:Vh) (fp:List Vh) (tn:Nat->Vq->Prop) (J:It) (H':Hp),nj=.ref it/\Inv X aa σ H' s2/\Jgb X.prog X.w X.K tg J fp it tn/\tn 0 s2.heap/\(∀ b∈fp,Yc X aa H' b)/\R J H'
def PI(X:Cx)(tg Uh:Expr)(wi:TI):Prop :=
 ∀ (aa:YP_) (s:VG) (σ:St) (H:Hp) (R:It->Hp->Prop),Inv X aa σ H s->wi σ H R ->
  VQ (VR X.prog X.w) X.A (VS Uh X.env) (λv s1=>VQ (VR X.prog X.w) X.A (Ug v) (PIE X aa σ tg R) X.xe s1) X.xe s
theorem Zvb{M:Model}{A:VF}{E:YQ_}{s:VG}{tg:Expr}{it:Vh}{u:Va}{o:Obj}{n:String}{vs:Array Va}{Q:Unit->VG->Prop}(ho:s.heap.get? it=Vo o)(hc:o.cls=.type n)(hd:o.data=.fields vs)
 (hn:["enumerate","zip","dict_itemiterator","dict_reverseitemiterator","odict_iterator","itertools.zip_longest","itertools.pairwise"].contains n=false) (hQ:Q () s):VQ M A (Uf tg (.ref it) u) Q E s:=by
 unfold Uf;cases tg <;> first
  | exact Ui hQ
  | (cases u <;> first
   | exact Ui hQ
   | (refine V8 (wpAny_load ho ?_)
      rw[hc,hd];show VQ M A (if (["enumerate","zip","dict_itemiterator","dict_reverseitemiterator","odict_iterator","itertools.zip_longest","itertools.pairwise"].contains n && vs[0]? == Vo (rawInt _))=true then _ else _) Q E s
      rw[if_neg (by intro h;rw[hn,Bool.false_and]at h;cases h)]
      exact Ui hQ))
def Itl(K:VC)(a:Vh):It :=
 ⟨λi H=>∃ xs x,SqL K H a xs/\xs[i]?=Vo x,λi H x H'=>H'=H/\∀ xs,SqL K H a xs->xs[i]?=Vo x,λi H=>∃ xs,SqL K H a xs/\xs.length<=i⟩
def Itt(K:VC)(a:Vh):It :=
 ⟨λi H=>∃ xs x,SqT K H a xs/\xs[i]?=Vo x,λi H x H'=>H'=H/\∀ xs,SqT K H a xs->xs[i]?=Vo x,λi H=>∃ xs,SqT K H a xs/\xs.length<=i⟩
def Itr(lo:Int)(n:Nat):It:=⟨λi _=>i < n,λi H x H'=>H'=H/\x=.int (lo+i),λi _=>n<=i⟩
theorem Zwb{P:Vg}{w:Vb}{K:VC}{tg:Expr}(a it:Vh):Jgb P w K tg (Itl K a) [it] it (λi h=>h.IsListIter it a i) where
 mem:=by simp
 obj:=λi h st b hb=>by
  have e:b=it:=by simpa using hb
  subst e;obtain⟨o,e,c,d⟩:=st;exact⟨o,e,λv z=>by rw[d]at z;cases z⟩
 keep:=λi h h' st k=>st.at λo e=>k it #[2] o e
 item:=by
  intro X hP hw hK hc i aa s σ H E I hf st hg;subst hP hw hK;obtain⟨xs,x,hq,hx⟩:=hg;obtain⟨af,rv,p,hz⟩:=I.list hq;obtain⟨u,hu,ru⟩:=rv.get hx;obtain⟨f0,f1,f2,f3,f4,f5⟩:=hf it #[2]
  refine wpAny_pyNext_list_item st p.isList (x:=u) (by simpa using hu) λh' ag sb=>?_
  have I1:Inv X aa σ H { s with heap:=h' }:=I.turned (t':=s.toks) (λb o hb e=>(sb.2 b hb).trans e) f0 f1 f3 f4 f5
  obtain⟨o,e,c,d⟩:=id ag;exact⟨u,rfl,Zvb (s:={ s with heap:=h' }) e c d #[1] ⟨x,H,I1,ru,⟨rfl,λys hy=>by rw[I.list_inj hy hq];exact hx⟩,ag,λb hb=>(hf b hb).1⟩⟩
 done:=by
  intro X hP hw hK hc i aa s σ H E I hf st hg;subst hP hw hK;obtain⟨xs,hq,hx⟩:=hg;obtain⟨af,rv,p,hz⟩:=I.list hq;obtain⟨f0,f1,f2,f3,f4,f5⟩:=hf it #[2]
  have hl:=rv.length;exact wpAny_pyNext_list_end (I.ok.hd hc) st p.isList (by simp;lia) λh' eb=>⟨rfl,I.turned (t':=s.toks) (λb o hb e=>eb b o hb e) f0 f1 f3 f4 f5⟩
 self:=λ_ _ _ _ _ st h=>wpAny_pyIter_listiter st h
theorem XVa{P:Vg}{w:Vb}{K:VC}{tg:Expr}(a it:Vh):Jgb P w K tg (Itt K a) [it] it (λi h=>h.IsTupleIter it a i) where
 mem:=by simp
 obj:=λi h st b hb=>by
  have e:b=it:=by simpa using hb
  subst e;obtain⟨o,e,c,d⟩:=st;exact⟨o,e,λv z=>by rw[d]at z;cases z⟩
 keep:=λi h h' st k=>st.at λo e=>k it #[2] o e
 item:=by
  intro X hP hw hK hc i aa s σ H E I hf st hg;subst hP hw hK;obtain⟨xs,x,hq,hx⟩:=hg;obtain⟨af,rv,p,hz⟩:=I.tuple hq;obtain⟨u,hu,ru⟩:=rv.get hx;obtain⟨f0,f1,f2,f3,f4,f5⟩:=hf it #[2]
  refine wpAny_pyNext_tuple_item st (show s.heap.IsTuple a af.toArray from p) (x:=u) (by simpa using hu) λh' ag sb=>?_
  have I1:Inv X aa σ H { s with heap:=h' }:=I.turned (t':=s.toks) (λb o hb e=>(sb.2 b hb).trans e) f0 f1 f3 f4 f5
  obtain⟨o,e,c,d⟩:=id ag;exact⟨u,rfl,Zvb (s:={ s with heap:=h' }) e c d #[1] ⟨x,H,I1,ru,⟨rfl,λys hy=>by rw[I.tuple_inj hy hq];exact hx⟩,ag,λb hb=>(hf b hb).1⟩⟩
 done:=by
  intro X hP hw hK hc i aa s σ H E I hf st hg;subst hP hw hK;obtain⟨xs,hq,hx⟩:=hg;obtain⟨af,rv,p,hz⟩:=I.tuple hq;obtain⟨f0,f1,f2,f3,f4,f5⟩:=hf it #[2]
  have hl:=rv.length;exact wpAny_pyNext_tuple_end (I.ok.hd hc) st (show s.heap.IsTuple a af.toArray from p) (by simp;lia) λh' eb=>⟨rfl,I.turned (t':=s.toks) (λb o hb e=>eb b o hb e) f0 f1 f3 f4 f5⟩
 self:=λ_ _ _ _ _ st h=>wpAny_pyIter_tupleiter st h
theorem XHb{P:Vg}{w:Vb}{K:VC}{tg:Expr}(it:Vh)(lo:Int)(n:Nat):Jgb P w K tg (Itr lo n) [it] it (λi h=>IsRangeIter h it (lo+(i:Nat) * 1) ((n:Int) - (i:Nat)) 1) where
 mem:=by simp
 obj:=λi h st b hb=>by
  have e:b=it:=by simpa using hb
  subst e;exact⟨_,st,λv z=>by
   have z':Data.fields _=Data.cell v:=z;cases z'⟩
 keep:=λi h h' st k=>k it #[2] _ st
 item:=by
  intro X hP hw hK hc i aa s σ H E I hf st hg;subst hP hw hK;obtain⟨f0,f1,f2,f3,f4,f5⟩:=hf it #[2]
  have W:=Walks.range (prog:=X.prog) (w:=X.w) (I.ok.hd hc) it lo 1 n;refine W.item i s _ _ hg st λv h' tk hv ag kk=>?_
  obtain⟨t,rfl⟩:=hv;have I1:Inv X aa σ H { s with heap:=h',toks:=tk }:=I.turned (λb o hb e=>kk b o (by simpa using hb) e) f0 f1 f3 f4 f5
  refine⟨_,rfl,Zvb (s:={ s with heap:=h',toks:=tk }) (n:="range_iterator") ag rfl rfl #[1] ⟨.int (lo+i),H,I1,⟨t,?_⟩,⟨rfl,rfl⟩,ag,λb hb=>(hf b hb).1⟩⟩
  rw[Int.mul_one]
 done:=by
  intro X hP hw hK hc i aa s σ H E I hf st hg;subst hP hw hK;obtain⟨f0,f1,f2,f3,f4,f5⟩:=hf it #[2]
  exact wpAny_pyNext_range_end (I.ok.hd hc) st (by have:n<=i:=hg;lia) λh' eb=>⟨rfl,I.turned (t':=s.toks) (λb o hb e=>eb b o hb e) f0 f1 f3 f4 f5⟩
 self:=λ_ _ _ _ _ st h=>wpAny_pyIter_rangeiter st h
section
variable{X:Cx}{tg:Expr}
def JLc(K:VC)(tl:TE):TI:=λσ H R=>tl σ H λx H1=>∃ a,x=.ref a/\(∃ xs,SqL K H1 a xs)/\R (Itl K a) H1
def Z3d(K:VC)(tl:TE):TI:=λσ H R=>tl σ H λx H1=>∃ a,x=.ref a/\(∃ xs,SqT K H1 a xs)/\R (Itt K a) H1
theorem Zk{l:Expr}{tl:TE}(hl:PE X l tl):PI X tg l (JLc X.K tl):=by
 intro aa s σ H R I h;refine thn (hl aa s σ H _ I h) λv s1 hZ=>?_
 obtain⟨x,H1,I1,r1,q1⟩:=hZ;obtain⟨a,e,⟨xs,hq⟩,q⟩:=q1;subst e;cases r1;obtain⟨af,rv,p,hz⟩:=I1.list hq;refine Uj p.isList ?_
 refine⟨s1.heap.objs.size,[s1.heap.objs.size],_,_,H1,rfl,I1.kept (t':=s1.toks) λb o e=>Uk _ e,Zwb a _,⟨_,Ul _ rfl,rfl,rfl⟩,λb hb=>?_,q⟩
 have e:b=s1.heap.objs.size:=by simpa using hb
 subst e;exact I1.fpOk (Um _) (I1.hok.fresh (Um _))
theorem XWa{l:Expr}{tl:TE}(hl:PE X l tl):PI X tg l (Z3d X.K tl):=by
 intro aa s σ H R I h;refine thn (hl aa s σ H _ I h) λv s1 hZ=>?_
 obtain⟨x,H1,I1,r1,q1⟩:=hZ;obtain⟨a,e,⟨xs,hq⟩,q⟩:=q1;subst e;cases r1;obtain⟨af,rv,p,hz⟩:=I1.tuple hq;refine Uo (show s1.heap.IsTuple a af.toArray from p) ?_
 refine⟨s1.heap.objs.size,[s1.heap.objs.size],_,_,H1,rfl,I1.kept (t':=s1.toks) λb o e=>Uk _ e,XVa a _,⟨_,Ul _ rfl,rfl,rfl⟩,λb hb=>?_,q⟩
 have e:b=s1.heap.objs.size:=by simpa using hb
 subst e;exact I1.fpOk (Um _) (I1.hok.fresh (Um _))
theorem Ynb{aa:YP_}{σ:St}{H:Hp}{s:VG}{R:It->Hp->Prop}{E:YQ_}{lo hi:Int}{t u v:Tok}{tk:Nat}(I:Inv X aa σ H s)(h1 : -(2 ^ 62)<=lo)(h2:lo < 2 ^ 62)(h3 : -(2 ^ 62)<=hi)(h4:hi < 2 ^ 62)
 (q:R (Itr lo (hi - lo).toNat) H):VQ (VR X.prog X.w) X.A (Ug (.ref s.heap.objs.size)) (PIE X aa σ tg R) E { s with heap:=s.heap.push { cls:=.type "range",data:=.fields #[.int lo t,.int hi u,.int 1 v] },toks:=tk }:=by
 refine wpAny_pyIter_range (IsRange.new ..) (small_one h1 h2 h3 h4) ?_
 have I1:Inv X aa σ H { s with heap:=s.heap.push { cls:=.type "range",data:=.fields #[.int lo t,.int hi u,.int 1 v] },toks:=tk }:=I.kept λb o e=>Uk _ e
 refine⟨(s.heap.push { cls:=.type "range",data:=.fields #[.int lo t,.int hi u,.int 1 v] }).objs.size,[(s.heap.push { cls:=.type "range",data:=.fields #[.int lo t,.int hi u,.int 1 v] }).objs.size],_,_,H,rfl,
  I1.kept (t':=tk) λb o e=>Uk _ e,XHb _ lo (hi - lo).toNat,?_,λb hb=>?_,q⟩
 .have e1:lo+((0:Nat):Int) * 1=lo:=by simp
  have e2:(((hi - lo).toNat:Nat):Int) - ((0:Nat):Int)=Builtin.Range.rangeSize lo hi 1:=by rw[rangeSize_one];split <;> lia
  show IsRangeIter _ _ (lo+((0:Nat):Int) * 1) ((((hi - lo).toNat:Nat):Int) - ((0:Nat):Int)) 1;rw[e1,e2];exact Ul _ rfl
 .have e:b=(s.heap.push { cls:=.type "range",data:=.fields #[.int lo t,.int hi u,.int 1 v] }).objs.size:=by simpa using hb
  subst e;exact I1.fpOk (Um _) (I1.hok.fresh (Um _))
def JMc(ta:TA):TI:=λσ H R=>ta σ H λvs H1=>∃ j:Int,vs=[.int j] /\ -(2 ^ 62)<=j/\j < 2 ^ 62/\R (Itr 0 j.toNat) H1
def JNc(ta:TA):TI:=λσ H R=>ta σ H λvs H1=>∃ i j:Int,vs=[.int i,.int j]/\(-(2 ^ 62)<=i/\i < 2 ^ 62 /\ -(2 ^ 62)<=j/\j < 2 ^ 62)/\R (Itr i (j - i).toNat) H1
theorem ZAc{a:Expr}{ta:TA}{p pos:Pos}(hg:Gl X "range")(hm:X.mg "range"=Vp)(ha:PA X [a] ta)(hs:VU [a] X.env=[(false,VS a X.env)]:=by rfl):PI X tg (.Call (.Name "range" p) [a] [] pos) (JMc ta):=by
 intro aa s σ H R I h;refine Call_ (ZHa I hg hm boot_range (Uq (thn (ha pos aa s σ H _ I h) λus s1 hZ=>?_) hs rfl))
 obtain⟨vs,H1,I1,r1,q1⟩:=hZ;obtain⟨j,e,q1,q2,q⟩:=q1;subst e;cases r1 with
 | cons r rr =>
  cases rr;obtain⟨t,rfl⟩:=r;exact call_range_1 (Ynb I1 #[0] #[0] q1 q2 (by simpa using q))
theorem ZBc{a b:Expr}{ta:TA}{p pos:Pos}(hg:Gl X "range")(hm:X.mg "range"=Vp)(ha:PA X [a,b] ta)(hs:VU [a,b] X.env=[(false,VS a X.env),(false,VS b X.env)]:=by rfl)(dM:VU [b] X.env=[(false,VS b X.env)]:=by rfl) :
 PI X tg (.Call (.Name "range" p) [a,b] [] pos) (JNc ta):=by
 intro aa s σ H R I h;refine Call_ (ZHa I hg hm boot_range (Uq (thn (ha pos aa s σ H _ I h) λus s1 ⟨vs,H1,I1,r1,q1⟩=>?_) (by rw[hs,dM]) (by rw[dM];rfl)))
 obtain⟨i,j,e,⟨q1,q2,q3,q4⟩,q⟩:=q1;subst e;cases r1 with
 | cons r rr =>
  cases rr with
  | cons r' rr =>
   cases rr;obtain⟨t,rfl⟩:=r;obtain⟨t',rfl⟩:=r';exact call_range_2 (Ynb I1 q1 q2 q3 q4 q)
def Q2b(wi:TI)(g:TG)(tb:TS):TS:=λD σ H=>wi σ H λJ H1=>∃ W:Nat->Nat->St->Hp->Prop,(∃ m,W 0 m σ H1)/\∀ i m σ H,W i m σ H ->
 (J.stop i H/\D.nx σ H)\/(J.go i H/\∃ N:St->Hp->Prop,(∀ σ' H',N σ' H'->∃ m',m' < m/\W (i+1) m' σ' H')/\∀ x H',J.yld i H x H'->g x σ H' λσ2 H2=>tb { D with nx:=N,ct:=N,bk:=D.nx } σ2 H2)
def XXa(fp:List Vh)(h:Vq):YP_:=fp.filterMap λb=>(h.get? b).map λo=>(b,o)
theorem Xl{fp:List Vh}{h:Vq}{b:Vh}{o:Obj}(hb:b∈fp)(e:h.get? b=Vo o):(b,o)∈XXa fp h:=mem_filterMap.mpr ⟨b,hb,by rw[e];rfl⟩
theorem ZCc{fp:List Vh}{h:Vq}{p:Vh×Obj}(hp:p∈XXa fp h):p.1∈fp/\h.get? p.1=Vo p.2:=by
 obtain⟨b,hb,e⟩:=mem_filterMap.mp hp;cases q:h.get? b with
 | none=>rw[q]at e;cases e
 | some o =>
  rw[q]at e;have e':(b,o)=p:=Vr e;subst e';exact⟨hb,q⟩
theorem Inv.pinned{aa:YP_}{σ:St}{H:Hp}{s:VG}{fp:List Vh}(I:Inv X aa σ H s)(hf:∀ b∈fp,Yc X aa H b)(ho:∀ b∈fp,∃ o,s.heap.get? b=Vo o/\∀ v,o.data≠.cell v):Inv X (aa++XXa fp s.heap) σ H s :=
 I.pins_of λp hp=>(mem_append.mp hp).elim (λz=>I.pin p (Ur _ z)) λz=>by
  obtain⟨hb,e⟩:=ZCc z;obtain⟨f0,f1,f2,_⟩:=hf p.1 hb;obtain⟨o,e',d⟩:=ho p.1 hb;rw[e]at e';cases e';exact⟨e,f0,f1,f2,d⟩
theorem Inv.unpinned{aa pl:YP_}{σ:St}{H:Hp}{s:VG}(I:Inv X (aa++pl) σ H s):Inv X aa σ H s:=I.pins_of λp hp=>I.pin p (Ur _ (VO _ hp))
theorem Q6{Uh:Expr}{body:List VV}{wi:TI}{g:TG}{tb:TS}{pos:Pos}(hp:PassesOwn (VR X.prog X.w) X.A X.env X.xe)(hc:X.calm=true)(hi:PI X tg Uh wi)(hg:PG X tg g)(hb:PSs X body tb)
 (hs:∀ x,foldedSetIterable Uh X.env x=pure x:=by intro _;rfl):PS X (.For tg Uh body [] pos) (Q2b wi g tb):=by
 intro aa s σ H D I h;refine wpAny_For (thn (hi aa s σ H _ I h) λv s1 h1=>thn h1 λnj s2 h2=>?_) hs
 obtain⟨it,fp,tn,J,H2,e,I2,T,bK,f2,W,⟨m0,w0⟩,turn⟩:=h2;subst e;have gY:∀ {H':Hp},(∀ b∈fp,H' b=Vp)->∀ b∈fp,Yc X aa H' b:=λhn b hb=>⟨hn b hb,(f2 b hb).2⟩
 refine codeAny_forLoop_any (λn s'=>∃ i σ' H',Inv X aa σ' H' s'/\tn i s'.heap/\(∀ b∈fp,H' b=Vp)/\W i n σ' H') ?_ m0 ⟨0,σ,H2,I2,bK,λb hb=>(f2 b hb).1,w0⟩
 rintro n s3 ⟨i,σ3,H3,I3,bv,qF,w3⟩
 rcases turn i n σ3 H3 w3 with ⟨stop,qn⟩ | ⟨go,N,hN,step⟩
 .refine Ub hp (thn (T.done X rfl rfl rfl hc i aa s3 σ3 H3 X.xe I3 (gY qF) bv stop) λr s4 hZ=>?_)
  obtain⟨hr,I4⟩:=hZ;subst hr;exact V4 ⟨σ3,H3,I4,qn⟩
 .refine Ub hp (thn (T.item X rfl rfl rfl hc i aa s3 σ3 H3 X.xe I3 (gY qF) bv go) λr s4 hZ=>?_)
  obtain⟨u,hr,h4⟩:=hZ;subst hr;refine Ub hp (thn h4 λ_ s5 hZ=>?_)
  obtain⟨x,H5,I5,r5,y5,bw,nk⟩:=hZ;have nr:=I5.pinned (gY nk) (T.obj _ _ bw);refine Ub hp (thn (hg _ s5 σ3 H5 x u _ nr r5 (step x H5 y5)) λ_ s6 hZ=>?_)
  obtain⟨σ6,H6,I6,q6⟩:=hZ;refine Ub hp (thn (hb _ s6 σ6 H6 _ I6 q6) λf s7 q7=>?_)
  have again:∀ {σ7:St} {H7:Hp},Inv X (aa++XXa fp s5.heap) σ7 H7 s7->N σ7 H7->∃ m,m < n/\∃ i σ' H',Inv X aa σ' H' s7/\tn i s7.heap/\(∀ b∈fp,H' b=Vp)/\W i m σ' H':=λ{σ7 H7} I7 n7=>by
   obtain⟨m',hm,w7⟩:=hN σ7 H7 n7;refine⟨m',hm,i+1,σ7,H7,I7.unpinned,T.keep _ _ _ bw λb hb o e=>(I7.pin (b,o) (Ur _ (Ur _ (Xl hb e)))).1,λb hb=>?_,w7⟩
   obtain⟨o,e,d⟩:=T.obj _ _ bw b hb;exact(I7.pin (b,o) (Ur _ (Ur _ (Xl hb e)))).2.1
  cases f with
  | next=>obtain⟨σ7,H7,I7,n7⟩:=q7;exact again I7 n7
  | cont=>obtain⟨σ7,H7,I7,n7⟩:=q7;exact again I7 n7
  | brk=>obtain⟨σ7,H7,I7,q7⟩:=q7;exact⟨σ7,H7,I7.unpinned,q7⟩
  | ret v=>obtain⟨x7,σ7,H7,I7,r7,q7⟩:=q7;exact⟨x7,σ7,H7,I7.unpinned,r7,q7⟩
end
theorem JOc{K:VC}{a:Vh}{xs:List V}{g:TG}{tb:TS}{D:ZG}{σ:St}{H:Hp}(Pv:Nat->St->Hp->Prop)(h0:Pv 0 σ H)(hl:∀ i σ H,i<=xs.length->Pv i σ H->SqL K H a xs)
 (hs:∀ i x σ H,xs[i]?=Vo x->Pv i σ H->g x σ H λσ2 H2=>tb { D with nx:=Pv (i+1),ct:=Pv (i+1),bk:=D.nx } σ2 H2) (hd:∀ σ H,Pv xs.length σ H->D.nx σ H) :
 ∃ W:Nat->Nat->St->Hp->Prop,(∃ m,W 0 m σ H)/\∀ i m σ H,W i m σ H ->
  ((Itl K a).stop i H/\D.nx σ H)\/((Itl K a).go i H/\∃ N:St->Hp->Prop,(∀ σ' H',N σ' H'->∃ m',m' < m/\W (i+1) m' σ' H')/\∀ x H',(Itl K a).yld i H x H'->g x σ H' λσ2 H2=>tb { D with nx:=N,ct:=N,bk:=D.nx } σ2 H2):=by
 refine⟨λi m σ H=>m=xs.length - i/\i<=xs.length/\Pv i σ H,⟨xs.length,by simp,Us _,h0⟩,?_⟩
 rintro i m σ H ⟨rfl,hi,p⟩;have q:=hl i σ H hi p
 by_cases ay:i < xs.length
 .refine .inr ⟨⟨xs,xs[i],q,by simp[ay]⟩,Pv (i+1),λσ' H' p'=>⟨xs.length - (i+1),by lia,rfl,ay,p'⟩,λx H' y=>?_⟩
  obtain⟨e,y⟩:=y;subst e;exact hs i x σ _ (y xs q) p
 .have e:i=xs.length:=by lia
  subst e;exact .inl ⟨⟨xs,q,Um _⟩,hd σ H p⟩
theorem X4c{K:VC}{a:Vh}{xs:List V}{g:TG}{tb:TS}{D:ZG}{σ:St}{H:Hp}(Pv:Nat->St->Hp->Prop)(h0:Pv 0 σ H)(hl:∀ i σ H,i<=xs.length->Pv i σ H->SqT K H a xs)
 (hs:∀ i x σ H,xs[i]?=Vo x->Pv i σ H->g x σ H λσ2 H2=>tb { D with nx:=Pv (i+1),ct:=Pv (i+1),bk:=D.nx } σ2 H2) (hd:∀ σ H,Pv xs.length σ H->D.nx σ H) :
 ∃ W:Nat->Nat->St->Hp->Prop,(∃ m,W 0 m σ H)/\∀ i m σ H,W i m σ H ->
  ((Itt K a).stop i H/\D.nx σ H)\/((Itt K a).go i H/\∃ N:St->Hp->Prop,(∀ σ' H',N σ' H'->∃ m',m' < m/\W (i+1) m' σ' H')/\∀ x H',(Itt K a).yld i H x H'->g x σ H' λσ2 H2=>tb { D with nx:=N,ct:=N,bk:=D.nx } σ2 H2):=by
 refine⟨λi m σ H=>m=xs.length - i/\i<=xs.length/\Pv i σ H,⟨xs.length,by simp,Us _,h0⟩,?_⟩
 rintro i m σ H ⟨rfl,hi,p⟩;have q:=hl i σ H hi p
 by_cases ay:i < xs.length
 .refine .inr ⟨⟨xs,xs[i],q,by simp[ay]⟩,Pv (i+1),λσ' H' p'=>⟨xs.length - (i+1),by lia,rfl,ay,p'⟩,λx H' y=>?_⟩
  obtain⟨e,y⟩:=y;subst e;exact hs i x σ _ (y xs q) p
 .have e:i=xs.length:=by lia
  subst e;exact .inl ⟨⟨xs,q,Um _⟩,hd σ H p⟩
theorem ZDc{lo:Int}{n:Nat}{g:TG}{tb:TS}{D:ZG}{σ:St}{H:Hp}(Pv:Nat->St->Hp->Prop)(h0:Pv 0 σ H)
 (hs:∀ i σ H,i < n->Pv i σ H->g (.int (lo+i)) σ H λσ2 H2=>tb { D with nx:=Pv (i+1),ct:=Pv (i+1),bk:=D.nx } σ2 H2) (hd:∀ σ H,Pv n σ H->D.nx σ H) :
 ∃ W:Nat->Nat->St->Hp->Prop,(∃ m,W 0 m σ H)/\∀ i m σ H,W i m σ H ->
  ((Itr lo n).stop i H/\D.nx σ H)\/((Itr lo n).go i H/\∃ N:St->Hp->Prop,(∀ σ' H',N σ' H'->∃ m',m' < m/\W (i+1) m' σ' H')/\∀ x H',(Itr lo n).yld i H x H'->g x σ H' λσ2 H2=>tb { D with nx:=N,ct:=N,bk:=D.nx } σ2 H2):=by
 refine⟨λi m σ H=>m=n - i/\i<=n/\Pv i σ H,⟨n,by simp,Us _,h0⟩,?_⟩
 rintro i m σ H ⟨rfl,hi,p⟩
 by_cases ay:i < n
 .refine .inr ⟨ay,Pv (i+1),λσ' H' p'=>⟨n - (i+1),by lia,rfl,ay,p'⟩,λx H' y=>?_⟩
  obtain⟨e,y⟩:=y;subst e y;exact hs i σ _ ay p
 .have e:i=n:=by lia
  subst e;exact .inl ⟨Um _,hd σ H p⟩
abbrev R2:=V->V->Hp->VK->Prop
def OpR(X:Cx)(f:Va->Va->Sem Va)(r:R2):Prop :=
 ∀ (aa:YP_) (s:VG) (σ:St) (H:Hp) (x y:V) (v u:Va) (Q:VK),Inv X aa σ H s->Qt x v->Qt y u->r x y H Q ->
  VQ (VR X.prog X.w) X.A (f v u) (EP X aa σ Q) X.xe s
def UnR(X:Cx)(f:Va->Sem Va)(r:V->Hp->VK->Prop):Prop :=
 ∀ (aa:YP_) (s:VG) (σ:St) (H:Hp) (x:V) (v:Va) (Q:VK),Inv X aa σ H s->Qt x v->r x H Q ->
  VQ (VR X.prog X.w) X.A (f v) (EP X aa σ Q) X.xe s
def Jt(X:Cx)(f:Va)(r:List V->Hp->VK->Prop):Prop :=
 ∀ (aa:YP_) (s:VG) (σ:St) (H:Hp) (xs:List V) (us:List Va) (Q:VK),Inv X aa σ H s->Qv xs us->r xs H Q ->
  VQ (VR X.prog X.w) X.A (Ut f us) (EP X aa σ Q) X.xe s
def Xbd(X:Cx)(r:V->Hp->(Bool->Hp->Prop)->Prop):Prop :=
 ∀ (aa:YP_) (s:VG) (σ:St) (H:Hp) (x:V) (v:Va) (Q:Bool->Hp->Prop),Inv X aa σ H s->Qt x v->r x H Q ->
  VQ (VR X.prog X.w) X.A (truthy v) (TP X aa σ Q) X.xe s
def tOp(r:R2)(ta tb:TE):TE:=λσ H Q=>ta σ H λx H1=>tb σ H1 λy H2=>r x y H2 Q
def tUn(r:V->Hp->VK->Prop)(ta:TE):TE:=λσ H Q=>ta σ H λx H1=>r x H1 Q
def rI(C:Int->Int->Prop)(g:Int->Int->V):R2:=λx y H Q=>∃ i j,x=.int i/\y=.int j/\C i j/\Q (g i j) H
def rI0(g:Int->Int->V):R2:=λx y H Q=>∃ i j,x=.int i/\y=.int j/\Q (g i j) H
def rU(g:Int->V):V->Hp->VK->Prop:=λx H Q=>∃ i,x=.int i/\Q (g i) H
section
variable{X:Cx}{a b c:Expr}{ta tb tc:TE}{pos:Pos}
theorem Z4d(ha:PE X a ta)(hb:PE X b tb){aa:YP_}{s:VG}{σ:St}{H:Hp}{R:V->V->Hp->Prop}(I:Inv X aa σ H s)
 (h:ta σ H λx H1=>tb σ H1 λy H2=>R x y H2) {Q:YQ_} {f:Va->Va->Sem Va}
 (hf:∀ v u s2 x y H2,Inv X aa σ H2 s2->Qt x v->Qt y u->R x y H2->VQ (VR X.prog X.w) X.A (f v u) Q X.xe s2) :
 VQ (VR X.prog X.w) X.A (VS a X.env) (λv s₁=>VQ (VR X.prog X.w) X.A (VS b X.env) (λu s₂=>VQ (VR X.prog X.w) X.A (f v u) Q X.xe s₂) X.xe s₁) X.xe s:=by
 refine thn (ha aa s σ H _ I h) λv s1 hZ=>?_
 obtain⟨x,H1,I1,r1,q1⟩:=hZ;refine thn (hb aa s1 σ H1 _ I1 q1) λu s2 hZ=>?_
 obtain⟨y,H2,I2,r2,q2⟩:=hZ;exact hf v u s2 x y H2 I2 r1 r2 q2
theorem Qu{op:Operator}{r:R2}(ho:OpR X (Uu op) r)(ha:PE X a ta)(hb:PE X b tb):PE X (.BinOp a op b pos) (tOp r ta tb):=by
 intro aa s σ H Q I h;exact wpAny_BinOp (Z4d ha hb I h λv u s2 x y H2 I2 rx ry q=>ho aa s2 σ H2 x y v u Q I2 rx ry q)
theorem YDd{op:UnaryOp}{r:V->Hp->VK->Prop}(ho:UnR X (unaryOp op) r)(ha:PE X a ta):PE X (.UnaryOp op a pos) (tUn r ta):=by
 intro aa s σ H Q I h;exact UnaryOp_ (thn (ha aa s σ H _ I h) λv s1 ⟨x,H1,I1,r1,q1⟩=>ho aa s1 σ H1 x v Q I1 r1 q1)
theorem opI{f:Va->Va->Sem Va}{C:Int->Int->Prop}{g:Int->Int->Int}
 (rule:∀ (i j:Int) (t u:Tok) (s:VG) (Q:YQ_) (E:YQ_),C i j->Q (.int (g i j) s.toks) { s with toks:=s.toks+1 }->VQ (VR X.prog X.w) X.A (f (.int i t) (.int j u)) Q E s) :
 OpR X f (rI C λi j=>.int (g i j)):=by
 intro aa s σ H x y v u Q I rx ry h;obtain⟨i,j,rfl,rfl,hc,q⟩:=h;obtain⟨t,rfl⟩:=rx;obtain⟨t',rfl⟩:=ry;exact rule i j t t' s _ _ hc ⟨.int (g i j),H,I.tok _,⟨_,rfl⟩,q⟩
theorem Z5d{f:Va->Va->Sem Va}{g:Int->Int->Int}
 (rule:∀ (i j:Int) (t u:Tok) (s:VG) (Q:YQ_) (E:YQ_),Q (.int (g i j) s.toks) { s with toks:=s.toks+1 }->VQ (VR X.prog X.w) X.A (f (.int i t) (.int j u)) Q E s) :
 OpR X f (rI0 λi j=>.int (g i j)):=by
 intro aa s σ H x y v u Q I rx ry h;obtain⟨i,j,rfl,rfl,q⟩:=h;obtain⟨t,rfl⟩:=rx;obtain⟨t',rfl⟩:=ry;exact rule i j t t' s _ _ ⟨.int (g i j),H,I.tok _,⟨_,rfl⟩,q⟩
theorem X5c{f:Va->Va->Sem Va}{g:Int->Int->Bool}
 (rule:∀ (i j:Int) (t u:Tok) (s:VG) (Q:YQ_) (E:YQ_),Q (.bool (g i j)) s->VQ (VR X.prog X.w) X.A (f (.int i t) (.int j u)) Q E s) :
 OpR X f (rI0 λi j=>.bl (g i j)):=by
 intro aa s σ H x y v u Q I rx ry h;obtain⟨i,j,rfl,rfl,q⟩:=h;obtain⟨t,rfl⟩:=rx;obtain⟨t',rfl⟩:=ry;exact rule i j t t' s _ _ ⟨.bl (g i j),H,I,rfl,q⟩
def Qaa(i j:Int):Prop:=0 < j/\j < 1073741824
def Q3b(i j:Int):Prop:=0<=j/\j<=1000000/\i.natAbs < 2 ^ 64
def XIb(i j:Int):Prop:=(-(2 ^ 64) < i/\i < 2 ^ 64)\/(-(2 ^ 64) < j/\j < 2 ^ 64)
theorem XIb.ok{i j:Int}(h:XIb i j):IntMulOk i j:=by
 rcases h with ⟨h1,h2⟩ | ⟨h1,h2⟩
 .exact .of_left (Uv h1 h2)
 .exact .of_right (Uv h1 h2)
theorem XJb(k:Nat):(0:Int)<=2 ^ k:=by
 rw[two_pow_cast];exact Int.natCast_nonneg _
theorem Qz:OpR X (Uu .Add) (rI0 λi j=>.int (i+j)):=Z5d λ_ _ _ _ _ _ _ q=>add_int q
theorem Z6d:OpR X (Uu .Sub) (rI0 λi j=>.int (i - j)):=Z5d λ_ _ _ _ _ _ _ q=>sub_int q
theorem X6c:OpR X (Uu .FloorDiv) (rI Qaa λi j=>.int (i / j)):=opI λi j _ _ _ _ _ hc q=>by
 have h1:(0:Int) < j:=hc.1;have h2:j < 1073741824:=hc.2;exact floordiv_int #[0] (by rw[Int.fdiv_eq_ediv_of_nonneg i #[0]];exact q) (.inl (PyProof.noPylong_small #[0]))
theorem Z7d:OpR X (Uu .Mod) (rI (λ_ j=>0 < j) λi j=>.int (i % j)):=opI λi j _ _ _ _ _ hc q=>by
 have h1:(0:Int) < j:=hc;exact mod_int' #[0] (by rw[Int.fmod_eq_emod_of_nonneg i #[0]];exact q)
theorem Z8d:OpR X (Uu .Pow) (rI Q3b λi j=>.int (i ^ j.toNat)):=opI λ_ _ _ _ _ _ _ hc q=>pow_int_small hc.1 hc.2.1 hc.2.2 q
theorem Z9d:OpR X (Uu .RShift) (rI (λ_ j=>0<=j) λi j=>.int (i / 2 ^ j.toNat)):=opI λi j _ _ _ _ _ hc q =>
 rshift_int hc (by rw[Int.fdiv_eq_ediv_of_nonneg i (XJb _)];exact q)
theorem Jad:OpR X (Uu .BitXor) (rI0 λi j=>.int (Builtin.bitXor i j)):=Z5d λ_ _ _ _ _ _ _ q=>xor_int q
theorem unI{f:Va->Sem Va}{g:Int->Int}
 (rule:∀ (i:Int) (t:Tok) (s:VG) (Q:YQ_) (E:YQ_),Q (.int (g i) s.toks) { s with toks:=s.toks+1 }->VQ (VR X.prog X.w) X.A (f (.int i t)) Q E s) :
 UnR X f (rU λi=>.int (g i)):=by
 intro aa s σ H x v Q I rx h;obtain⟨i,rfl,q⟩:=h;obtain⟨t,rfl⟩:=rx;exact rule i t s _ _ ⟨.int (g i),H,I.tok _,⟨_,rfl⟩,q⟩
theorem Jbd:UnR X (unaryOp .USub) (rU λi=>.int (-i)):=unI λ_ _ _ _ _ q=>neg_int q
end
def Qda:V->V->Bool
 | .non,.non=>true | .non,.int _=>true | .int _,.non=>true | .non,.bl _=>true | .bl _,.non=>true | .non,.str _=>true | .str _,.non=>true
 | .int _,.int _=>true | .bl _,.bl _=>true | .str _,.str _=>true | .byt _,.byt _=>true
 | .int _,.str _=>true | .str _,.int _=>true | .bl _,.str _=>true | .str _,.bl _=>true
 | _,_=>false
theorem X7c:Qda .non .non=true:=rfl
theorem X8c{b:Int}:Qda .non (.int b)=true:=rfl
theorem X9c{a:Int}:Qda (.int a) .non=true:=rfl
theorem Qad{b:Bool}:Qda .non (.bl b)=true:=rfl
theorem Qbd{a:Bool}:Qda (.bl a) .non=true:=rfl
theorem Qcd{b:Str}:Qda .non (.str b)=true:=rfl
theorem Qdd{a:Str}:Qda (.str a) .non=true:=rfl
theorem Qed{a:Int}{b:Int}:Qda (.int a) (.int b)=true:=rfl
theorem Qfd{a:Bool}{b:Bool}:Qda (.bl a) (.bl b)=true:=rfl
theorem Qgd{a:Str}{b:Str}:Qda (.str a) (.str b)=true:=rfl
theorem Qhd{a:Int}{b:Str}:Qda (.int a) (.str b)=true:=rfl
theorem Qid{a:Str}{b:Int}:Qda (.str a) (.int b)=true:=rfl
theorem Qjd{a:Bool}{b:Str}:Qda (.bl a) (.str b)=true:=rfl
theorem Qkd{a:Str}{b:Bool}:Qda (.str a) (.bl b)=true:=rfl
def rEq:R2:=λx y H Q=>Qda x y=true/\Q (.bl (decide (x=y))) H
def rNe:R2:=λx y H Q=>Qda x y=true/\Q (.bl (!decide (x=y))) H
theorem QKc{i j:Int}:decide (V.int i=V.int j)=(i == j):=by
 rw[Uw];simp
theorem JPc{i j:Bool}:decide (V.bl i=V.bl j)=(i == j):=by
 rw[Uw];simp
theorem QLc{i j:Str}:decide (V.str i=V.str j)=(i == j):=by
 rw[Uw];simp
theorem QMc{i j:Array UInt8}:decide (V.byt i=V.byt j)=(i.toList == j.toList):=by
 rw[Uw];cases i;cases j;simp
section
variable{X:Cx}{a b c:Expr}{ta tb tc:TE}{pos:Pos}
theorem QL{aa:YP_}{σ:St}{H:Hp}{s:VG}{Q:VK}{k k':Bool}(I:Inv X aa σ H s)(q:Q (.bl k) H)(e:k=k'):EP X aa σ Q (.bool k') s:=by
 subst e;exact⟨.bl k,H,I,rfl,q⟩
theorem Q5:OpR X (VX .Eq) rEq:=by
 intro aa s σ H x y v u Q I rx ry h;obtain⟨hs,q⟩:=h;cases x with
 | non =>
  cases rx;cases y with
  | non=>cases ry;exact PySem.EqNone.eq_none_none (QL I q #[2])
  | bl j=>cases ry;exact PySem.EqNone.eq_none_bool (QL I q #[2])
  | int j=>obtain⟨t',rfl⟩:=ry;exact PySem.EqNone.eq_none_int (QL I q #[2])
  | str j=>obtain⟨t',rfl⟩:=ry;exact PySem.EqNone.eq_none_str (QL I q #[2])
  | _=>exact absurd (show false=true from hs) Uc
 | bl i =>
  cases rx;cases y with
  | non=>cases ry;exact PySem.EqNone.eq_bool_none (QL I q #[2])
  | bl j=>cases ry;exact eq_bool (QL I q JPc)
  | str j=>obtain⟨t',rfl⟩:=ry;exact PySem.EqMixed.eq_bool_str (QL I q #[2])
  | _=>exact absurd (show false=true from hs) Uc
 | int i =>
  obtain⟨t,rfl⟩:=rx;cases y with
  | non=>cases ry;exact PySem.EqNone.eq_int_none (QL I q #[2])
  | int j=>obtain⟨t',rfl⟩:=ry;exact eq_int (QL I q QKc)
  | str j=>obtain⟨t',rfl⟩:=ry;exact PySem.EqMixed.eq_int_str (QL I q #[2])
  | _=>exact absurd (show false=true from hs) Uc
 | str i =>
  obtain⟨t,rfl⟩:=rx;cases y with
  | non=>cases ry;exact PySem.EqNone.eq_str_none (QL I q #[2])
  | bl j=>cases ry;exact PySem.EqMixed.eq_str_bool (QL I q #[2])
  | int j=>obtain⟨t',rfl⟩:=ry;exact PySem.EqMixed.eq_str_int (QL I q #[2])
  | str j=>obtain⟨t',rfl⟩:=ry;exact eq_str (QL I q QLc)
  | _=>exact absurd (show false=true from hs) Uc
 | byt i =>
  obtain⟨t,rfl⟩:=rx;cases y with
  | byt j=>obtain⟨t',rfl⟩:=ry;exact W.eq_bytes (QL I q QMc)
  | _=>exact absurd (show false=true from hs) Uc
 | _=>cases y <;> exact absurd (show false=true from hs) Uc
theorem Qea:OpR X (VX .NotEq) rNe:=by
 intro aa s σ H x y v u Q I rx ry h;obtain⟨hs,q⟩:=h;cases x with
 | non =>
  cases rx;cases y with
  | non=>cases ry;exact PySem.EqNone.ne_none_none (QL I q #[2])
  | bl j=>cases ry;exact PySem.EqNone.ne_none_bool (QL I q #[2])
  | int j=>obtain⟨t',rfl⟩:=ry;exact PySem.EqNone.ne_none_int (QL I q #[2])
  | str j=>obtain⟨t',rfl⟩:=ry;exact PySem.EqNone.ne_none_str (QL I q #[2])
  | _=>exact absurd (show false=true from hs) Uc
 | bl i =>
  cases rx;cases y with
  | non=>cases ry;exact PySem.EqNone.ne_bool_none (QL I q #[2])
  | bl j=>cases ry;exact ne_bool (QL I q (congrArg not JPc))
  | str j=>obtain⟨t',rfl⟩:=ry;exact PySem.EqMixed.ne_bool_str (QL I q #[2])
  | _=>exact absurd (show false=true from hs) Uc
 | int i =>
  obtain⟨t,rfl⟩:=rx;cases y with
  | non=>cases ry;exact PySem.EqNone.ne_int_none (QL I q #[2])
  | int j=>obtain⟨t',rfl⟩:=ry;exact ne_int (QL I q (congrArg not QKc))
  | str j=>obtain⟨t',rfl⟩:=ry;exact PySem.EqMixed.ne_int_str (QL I q #[2])
  | _=>exact absurd (show false=true from hs) Uc
 | str i =>
  obtain⟨t,rfl⟩:=rx;cases y with
  | non=>cases ry;exact PySem.EqNone.ne_str_none (QL I q #[2])
  | bl j=>cases ry;exact PySem.EqMixed.ne_str_bool (QL I q #[2])
  | int j=>obtain⟨t',rfl⟩:=ry;exact PySem.EqMixed.ne_str_int (QL I q #[2])
  | str j=>obtain⟨t',rfl⟩:=ry;exact ne_str (QL I q (congrArg not QLc))
  | _=>exact absurd (show false=true from hs) Uc
 | byt i =>
  obtain⟨t,rfl⟩:=rx;cases y with
  | byt j=>obtain⟨t',rfl⟩:=ry;exact W.ne_bytes (QL I q (congrArg not QMc))
  | _=>exact absurd (show false=true from hs) Uc
 | _=>cases y <;> exact absurd (show false=true from hs) Uc
theorem YM:OpR X (VX .Lt) (rI0 λi j=>.bl (decide (i < j))):=X5c λ_ _ _ _ _ _ _ q=>lt_int q
theorem QNc:OpR X (VX .LtE) (rI0 λi j=>.bl (decide (i<=j))):=X5c λ_ _ _ _ _ _ _ q=>le_int q
theorem YEd:OpR X (VX .Gt) (rI0 λi j=>.bl (decide (j < i))):=X5c λ_ _ _ _ _ _ _ q=>gt_int q
theorem YFd:OpR X (VX .GtE) (rI0 λi j=>.bl (decide (j<=i))):=X5c λ_ _ _ _ _ _ _ q=>ge_int q
theorem ZEc:OpR X (VX .Lt) (λx y H Q=>∃ i j,x=.str i/\y=.str j/\Q (.bl (decide (i.cps.toList < j.cps.toList))) H):=by
 intro aa s σ H x y v u Q I rx ry h;obtain⟨i,j,rfl,rfl,q⟩:=h;obtain⟨t,rfl⟩:=rx;obtain⟨t',rfl⟩:=ry;exact DD (QL I q rfl)
theorem JQc:OpR X (VX .Is) (λx y H Q=>y=.non/\Q (.bl (decide (x=.non))) H):=by
 intro aa s σ H x y v u Q I rx ry h;obtain⟨rfl,q⟩:=h;cases ry;refine is_none_gen (QL I q ?_)
 cases x <;> first
  | (cases rx;rfl)
  | (obtain⟨t,rfl⟩:=rx;rfl)
theorem QOc:OpR X (VX .IsNot) (λx y H Q=>y=.non/\Q (.bl (!decide (x=.non))) H):=by
 intro aa s σ H x y v u Q I rx ry h;obtain⟨rfl,q⟩:=h;cases ry;refine isnot_none_gen (QL I q ?_)
 cases x <;> first
  | (cases rx;rfl)
  | (obtain⟨t,rfl⟩:=rx;rfl)
theorem Jcd(b:Expr){op:CmpOp}(h:op≠.In:=by decide)(h2:op≠.NotIn:=by decide):VY op b=false:=by
 have e1:(op == CmpOp.In)=false:=by cases op <;> first | rfl | exact absurd rfl h
 have e2:(op == CmpOp.NotIn)=false:=by cases op <;> first | rfl | exact absurd rfl h2
 cases b <;> simp[VY,e1,e2]
theorem Yd{op:CmpOp}{r:R2}(ho:OpR X (VX op) r)(ha:PE X a ta)(hb:PE X b tb)(hm:VY op b=false):PE X (.Compare a [op] [b] pos) (tOp r ta tb):=by
 intro aa s σ H Q I h;exact wpAny_Compare1 (Z4d ha hb I h λv u s2 x y H2 I2 rx ry q=>ho aa s2 σ H2 x y v u Q I2 rx ry q) hm
def QPc(t:TE):TT:=λσ H Q=>t σ H λx H'=>∃ k,x=.bl k/\Q k H'
theorem Qj{op:CmpOp}{r:R2}(ho:OpR X (VX op) r)(ha:PE X a ta)(hb:PE X b tb)(hm:VY op b=false):PT X (.Compare a [op] [b] pos) (QPc (tOp r ta tb)):=by
 intro aa s σ H Q I h;refine wpAny_isTrue_Compare1 (thn (ha aa s σ H _ I h) λv s1 ⟨x,H1,I1,r1,q1⟩=>thn (hb aa s1 σ H1 _ I1 q1) λu s2 ⟨y,H2,I2,r2,q2⟩ =>
  thn (ho aa s2 σ H2 x y v u _ I2 r1 r2 q2) λc s3 ⟨z,H3,I3,r3,k,e,q3⟩=>?_) hm
 subst e;cases r3;exact VZ ⟨H3,I3,q3⟩
def Jhb(r r':R2)(ta tb tc:TE):TE:=λσ H Q=>ta σ H λx H1=>tb σ H1 λy H2=>r x y H2 λz H3=>∃ k,z=.bl k /\
 (if k=true then tc σ H3 λw' H4=>r' y w' H4 Q else Q (.bl false) H3)
theorem Jqa{op gZ:CmpOp}{r r':R2}(ho:OpR X (VX op) r)(aS:OpR X (VX gZ) r')(ha:PE X a ta)(hb:PE X b tb)(hc:PE X c tc)
 (hm:lastMarks [op,gZ] [b,c]=false:=by with_unfolding_all rfl):PE X (.Compare a [op,gZ] [b,c] pos) (Jhb r r' ta tb tc):=by
 intro aa s σ H Q I h;refine Compare_chain (thn (ha aa s σ H _ I h) λv s1 ⟨x,H1,I1,r1,q1⟩=>chain_link (thn (hb aa s1 σ H1 _ I1 q1) λu s2 ⟨y,H2,I2,r2,q2⟩ =>
  thn (ho aa s2 σ H2 x y v u _ I2 r1 r2 q2) λd s3 ⟨z,H3,I3,r3,k,e,q3⟩=>?_)) hm
 subst e;cases r3;refine VZ ?_
 cases k with
 | false=>exact ite_ff ⟨.bl false,H3,I3,rfl,q3⟩
 | true=>exact ite_tt (chain_last (thn (hc aa s3 σ H3 _ I3 q3) λw' s4 ⟨z',H4,I4,r4,q4⟩=>aS aa s4 σ H4 y z' u w' Q I4 r2 r4 q4))
theorem Yob{op gZ:CmpOp}{r r':R2}(ho:OpR X (VX op) r)(aS:OpR X (VX gZ) r')(ha:PE X a ta)(hb:PE X b tb)(hc:PE X c tc)
 (hm:lastMarks [op,gZ] [b,c]=false:=by with_unfolding_all rfl):PT X (.Compare a [op,gZ] [b,c] pos) (QPc (Jhb r r' ta tb tc)):=by
 intro aa s σ H Q I h;refine isTrue_chain (thn (ha aa s σ H _ I h) λv s1 ⟨x,H1,I1,r1,q1⟩=>test_link (thn (hb aa s1 σ H1 _ I1 q1) λu s2 ⟨y,H2,I2,r2,q2⟩ =>
  thn (ho aa s2 σ H2 x y v u _ I2 r1 r2 q2) λd s3 ⟨z,H3,I3,r3,k,e,q3⟩=>?_)) hm
 subst e;cases r3;refine VZ ?_
 cases k with
 | false =>
  obtain⟨k',e',q'⟩:=q3;cases e';exact ite_ff ⟨H3,I3,q'⟩
 | true =>
  refine ite_tt (test_last (thn (hc aa s3 σ H3 _ I3 q3) λw' s4 ⟨z',H4,I4,r4,q4⟩=>thn (aS aa s4 σ H4 y z' u w' _ I4 r2 r4 q4) λd' s5 hZ=>?_))
  obtain⟨z2,H5,I5,r5,k2,e2,q5⟩:=hZ;subst e2;cases r5;exact VZ ⟨H5,I5,q5⟩
def Jdd(K:VC)(x:V)(H:Hp)(k:Bool):Prop :=
 match x with
 | .non=>k=false
 | .bl b=>k=b
 | .int i=>k=(i != 0)
 | .str y=>y.length<=Vs/\k=((y.length:Int) != 0)
 | .byt y=>y.size<=Vs/\k=((y.size:Int) != 0)
 | .ref p=>(∃ xs,SqL K H p xs/\k=!xs.isEmpty)\/(∃ xs,SqT K H p xs/\k=!xs.isEmpty)\/∃ kvs,H p=Vo (.dK kvs)/\k=!kvs.isEmpty
 | _=>False
theorem XKb{κ:Type}{kvs:List (κ×V)}{vs:List (κ×Va)}(r:KV kvs vs):(!vs.isEmpty)=!kvs.isEmpty:=by
 cases r <;> rfl
theorem XYa{xs:List V}{af:List Va}(r:Qv xs af):(!af.toArray.isEmpty)=!xs.isEmpty:=by
 cases r <;> simp
theorem ZJa:(Vs:Nat) < 2 ^ 63:=by rw[Ux];decide
theorem Jed:Xbd X (λx H Q=>∃ k,Jdd X.K x H k/\Q k H):=by
 intro aa s σ H x v Q I rx h;obtain⟨k,e,q⟩:=h;have hl:=ZJa;have hs:Vs=16777216:=Ux;cases x with
 | non =>
  cases rx;have e':k=false:=e;subst e';exact truthy_none ⟨H,I,q⟩
 | bl b =>
  cases rx;have e':k=b:=e;subst e';exact VZ ⟨H,I,q⟩
 | int i =>
  obtain⟨t,rfl⟩:=rx;have e':k=(i != 0):=e;subst e';exact PySem.P.truthy_int ⟨H,I,q⟩
 | str y =>
  obtain⟨t,rfl⟩:=rx;obtain⟨hy,e'⟩:y.length<=Vs/\k=((y.length:Int) != 0):=e;subst e';exact PySem.P.truthy_str #[0] ⟨H,I.tok _,q⟩
 | byt y =>
  obtain⟨t,rfl⟩:=rx;obtain⟨hy,e'⟩:y.size<=Vs/\k=((y.size:Int) != 0):=e;subst e';exact W.truthy_bytes #[0] ⟨H,I.tok _,q⟩
 | ref p =>
  cases rx;have e':(∃ xs,SqL X.K H p xs/\k=!xs.isEmpty)\/(∃ xs,SqT X.K H p xs/\k=!xs.isEmpty)\/∃ kvs,H p=Vo (.dK kvs)/\k=!kvs.isEmpty:=e
  rcases e' with ⟨xs,hx,e'⟩ | ⟨xs,hx,e'⟩ | ⟨kvs,hx,e'⟩
  .subst e'
   obtain⟨af,r,pl,hz⟩:=I.list hx;have aA:=r.length;exact wpAny_truthy_list pl.isList (by simp only[Uy];lia) ⟨H,I.tok _,by rw[XYa r];exact q⟩
  .subst e'
   obtain⟨af,r,pl,hz⟩:=I.tuple hx;have aA:=r.length;exact truthy_tuple pl (by simp only[Uy];lia) ⟨H,I.tok _,by rw[XYa r];exact q⟩
  .subst e'
   obtain⟨hz,hS,vs,r,m⟩:kvs.length<=Vs/\(p == Vu)=false/\∃ vs,KV kvs vs/\s.heap.DictOf (QC X.prog X.w) p vs:=I.hok p _ hx;have aA:kvs.length=vs.length:=Vn r;exact wpAny_truthy_dict hS m #[0] ⟨H,I.tok _,by rw[XKb r];exact q⟩
 | _=>exact(show False from e).elim
theorem JRc(ha:PE X a ta)(he:∀ bi,isTrue a X.env bi=(do let v <- bi;V0 a.pos;V1 [v] (truthy v))) :
 PT X a (λσ H Q=>ta σ H λx H'=>∃ k,Jdd X.K x H' k/\Q k H'):=by
 intro aa s σ H Q I h;exact isTrue_plain (thn (ha aa s σ H _ I h) λv s1 ⟨x,H1,I1,r1,q1⟩=>Jed aa s1 σ H1 x v Q I1 r1 q1) (he _)
theorem ZKa:OpR X (Uu .Add) (λx y H Q=>∃ i j,x=.str i/\y=.str j/\i.length+j.length<=Vs/\Q (.str (i++j)) H):=by
 intro aa s σ H x y v u Q I rx ry h;obtain⟨i,j,rfl,rfl,hz,q⟩:=h;obtain⟨t,rfl⟩:=rx;obtain⟨t',rfl⟩:=ry;exact add_str (λt' tk=>⟨.str (i++j),H,I.tok _,⟨_,rfl⟩,q⟩) hz
theorem Ys{x:V}{us:List Va}(r:Qv [x] us):∃ u,us=[u]/\Qt x u:=by
 cases r with
 | cons r1 r2=>cases r2;exact⟨_,rfl,r1⟩
theorem QQc{x y:V}{us:List Va}(r:Qv [x,y] us):∃ u w',us=[u,w']/\Qt x u/\Qt y w':=by
 cases r with
 | cons r1 r2 =>
  cases r2 with
  | cons r3 r4=>cases r4;exact⟨_,_,rfl,r1,r3⟩
theorem Zxb(hc:X.calm=true):Jt X (.builtin "max") (λxs H Q=>∃ i j,xs=[.int i,.int j]/\Q (.int (if j > i then j else i)) H):=by
 intro aa s σ H xs us Q I r h;obtain⟨i,j,rfl,q⟩:=h;obtain⟨u,w',rfl,⟨t,rfl⟩,⟨t',rfl⟩⟩:=QQc r;refine max_two_ints (I.ok.hd hc) λh' tk k=>⟨_,H,I.kept k,?_,q⟩
 by_cases hj:j > i
 .rw[if_pos hj,if_pos hj];exact⟨_,rfl⟩
 .rw[if_neg hj,if_neg hj];exact⟨_,rfl⟩
theorem ZFc(hc:X.calm=true):Jt X (.builtin "min") (λxs H Q=>∃ i j,xs=[.int i,.int j]/\Q (.int (if j < i then j else i)) H):=by
 intro aa s σ H xs us Q I r h;obtain⟨i,j,rfl,q⟩:=h;obtain⟨u,w',rfl,⟨t,rfl⟩,⟨t',rfl⟩⟩:=QQc r;refine min_two_ints (I.ok.hd hc) λh' tk k=>⟨_,H,I.kept k,?_,q⟩
 by_cases hj:j < i
 .rw[if_pos hj,if_pos hj];exact⟨_,rfl⟩
 .rw[if_neg hj,if_neg hj];exact⟨_,rfl⟩
theorem JSc:Jt X (.builtin "ord") (λxs H Q=>∃ x,xs=[.str x]/\x.length=1/\Q (.int (x.cps.getD 0 0:Nat)) H):=by
 intro aa s σ H xs us Q I r h;obtain⟨x,rfl,hz,q⟩:=h;obtain⟨u,rfl,t,rfl⟩:=Ys r;exact ord_of_one hz ⟨.int _,H,I.tok _,⟨_,rfl⟩,q⟩
end
structure XLb(h:Vq)(x dx C:Vh)(mA:Str->Option Va):Prop where
 obj:h.get? x=Vo (Vw C dx)
 ns:h.Ns1 dx mA
 ne:dx≠x
theorem ZGc{h:Vq}{dx:Vh}{mA:Str->Option Va}(n:h.Ns1 dx mA):∃ od,h.get? dx=Vo od/\∀ name,W.lookIn name od=Vo (mA name):=by
 obtain⟨o,es,ep,ho,hd,hk,_,hm⟩:=n;refine⟨o,ho,λname=>?_⟩
 have e:=hm name;unfold nsFind findBy at e;rw[<- Array.find?_toList]at e
 unfold W.lookIn;rw[hd];dsimp only
 split
 .rename_i y q
  rw[q]at e;exact congrArg Vo e
 .rename_i q
  rw[q]at e;have a:es.toList.any (·.refKey)=false:=by
   rw[any_eq_false];intro y hy;obtain⟨z,t,dO⟩:=hk y (Array.mem_toList_iff.mp hy);simp[DictEntry.refKey,dO]
  have a':¬ es.toList.any (·.refKey)=true:=by rw[a];exact Uc
  rw[if_neg a'];exact congrArg Vo e
theorem XLb.look{h:Vq}{x dx C:Vh}{mA:Str->Option Va}(I:XLb h x dx C mA):∃ od,W.InstAt h x (Vw C dx) C (Vo od)/\∀ name,W.lookIn name od=Vo (mA name) :=
 let ⟨od,ho,hl⟩:=ZGc I.ns
 ⟨od,⟨I.obj,rfl,rfl,ho⟩,hl⟩
section
variable{prog:Vg}{w:Vb}{A:VF}{E:YQ_}{s:VG}{K:VC}{x dx C f:Vh}{mA:Str->Option Va}{name:Str}{v:Va}
theorem Qld{nu:Bool}{Q:YQ_}(X:K.In s.heap)(I:XLb s.heap x dx C mA)(hg:W.plainGet K C name=true)(hh:W.hasDictIn K C=true)
 (ha:Uz K (.ref C) name=Vo Vp) (hv:mA name=Vo v) (g9:W.handedIn v=true) (h:Q v { s with toks:=s.toks+1 }) :
 VQ (VR prog w) A (getAttr (.ref x) name nu) Q E s:=by
 obtain⟨od,J,hl⟩:=I.look;exact W.get_value X J (W.plainGet_of hg).1 (W.findObj_own hh ha rfl (by rw[hl,hv])) g9 h
theorem JTc{pl:Sem Bool}{Q:Va×List Va->VG->Prop}(X:K.In s.heap)(I:XLb s.heap x dx C mA)(hg:W.plainGet K C name=true)
 (hf:Uz K (.ref C) name=Vo (Vo (.ref f))) (ht:UA K (.ref f)=true) (hv:mA name=Vp) (h:Q (.ref f,[.ref x]) s) :
 VQ (VR prog w) A (UB (.ref x) name pl) Q E s:=by
 obtain⟨od,J,hl⟩:=I.look;exact W.method_fn X J (W.plainGet_of hg).1 (W.plainGet_of hg).2 hf (beq_iff_eq.mp ht) (by show(W.lookIn name od).map (·.isSome)=Vo false;rw[hl,hv];rfl) h
theorem Qmd{ns:List Str}{Q:Unit->VG->Prop}(X:K.In s.heap)(I:XLb s.heap x dx C mA)
 (hs:Uz K (.ref C) "__setattr__"=Vo (Vo (.builtin "object.__setattr__"))) (hp:W.plainOver K C=true) (ht:W.takerIn K C name=Vo Vp) (hh:W.hasDictIn K C=true)
 (hw:PySem.Within mA ns) (hsz:ns.length<=Vs)
 (h:∀ h',XLb h' x dx C (λy=>if y=name then Vo v else mA y)->VP dx s.heap h'->Q () { s with heap:=h',toks:=s.toks+2 }) :
 VQ (VR prog w) A (setAttr (.ref x) name v) Q E s:=by
 obtain⟨od,J,hl⟩:=I.look;refine W.set_plain X J hs (W.osa_open (s:={ s with toks:=s.toks+1 }) (r:=Vp) X J hp ht λb=>?_)
 obtain⟨cd,hc,bI⟩:=W.any_some hh;have hx:s.heap.get? x=Vo ⟨.ref C,Vo dx,.plain,#[]⟩:=I.obj;refine V8 (Ui (V8 (V8 (wpAny_loadPart hx (V8 (W.Looks.here (s:={ s with toks:=s.toks+1 }) (W.looks_clsIn X hc) ?_))))))
 rw[bI];refine Ui (a:=Vo dx) (V8 (Ui (V8 ?_)))
 refine wpAny_nsSet1 (s:={ s with toks:=s.toks+1 }) I.ns λh' lT dM=>?_
 obtain⟨oD,esD,epD,uC,uD,uE⟩:=lT.count (PySem.Within.cons name v hw);refine V8 (wpAny_lookBehind uC (by rw[uD];exact pastItsLine_dict (VI uE (by rw[UC];lia))) ?_)
 exact Ui (h _ ⟨(dM.2 _ (VN I.ne)).trans I.obj,lT,I.ne⟩ dM)
theorem JUc{R:UD->VG->Prop}{vs:List Va}{kw:List (Str×Va)}(X:K.In s.heap)(hm:UE K C=true)
 (hi:Uz K (.ref C) "__init__"=Vo (Vo (.ref f))) (hf:W.typeIn K (.ref f)=Vo (.type "function"))
 (h:UF (VR prog w) (A.under (.builtin "type.__call__" ⟨.ref C::vs,kw⟩)) (.call (.ref f) ⟨.ref (s.heap.objs.size+1)::vs,kw⟩) (W.InitBack (s.heap.objs.size+1) R)
  { s with heap:=(s.heap.push UG).push (Vw C s.heap.objs.size) }) :
 UF (VR prog w) A (.call (.ref C) ⟨vs,kw⟩) R s:=by
 obtain⟨hh,g,d,t,os⟩:=s;exact W.make_core (W.makes_of X hm) (W.looks_findIn X hi) (λself=>W.bind_fn X self hf) (.inl rfl) h
end
def ZS(f:Str)(v:V):List (Str×V)->List (Str×V)
 | []=>[(f,v)]
 | (g,x)::r=>if g=f then (g,v)::r else (g,x)::ZS f v r
theorem Y1a(f g:Str)(v:V):∀ fs:List (Str×V),(ZS f v fs).lookup g=if g=f then Vo v else fs.lookup g
 | []=>by
  show UH g [(f,v)]=_
  by_cases h:g=f
  .have hb:(g == f)=true:=beq_iff_eq.mpr h
   simp only[UH,hb,if_pos h]
  .have hb:(g == f)=false:=beq_eq_false_iff_ne.mpr h
   simp only[UH,hb,if_neg h]
 | (k,x)::r=>by
  have ih:=Y1a f g v r;rw[show ZS f v ((k,x)::r)=(if k=f then (k,v)::r else (k,x)::ZS f v r) from rfl]
  by_cases hk:k=f
  .rw[if_pos hk]
   by_cases h:g=k
   .have hb:(g == k)=true:=beq_iff_eq.mpr h
    simp only[UH,hb,if_pos (h.trans hk)]
   .have hb:(g == k)=false:=beq_eq_false_iff_ne.mpr h
    simp only[UH,hb,if_neg (λe:g=f=>h (e.trans hk.symm))]
  .rw[if_neg hk]
   by_cases h:g=k
   .have hb:(g == k)=true:=beq_iff_eq.mpr h
    simp only[UH,hb,if_neg (λe:g=f=>hk (h.symm.trans e))]
   .have hb:(g == k)=false:=beq_eq_false_iff_ne.mpr h
    simp only[UH,hb];exact ih
theorem Yma(f:Str)(v:V):∀ fs:List (Str×V),f∈(ZS f v fs).map (·.1)/\∀ g,g∈fs.map (·.1)->g∈(ZS f v fs).map (·.1)
 | []=>⟨by simp[ZS],λg h=>by simp at h⟩
 | (k,x)::r=>by
  obtain⟨i1,i2⟩:=Yma f v r;rw[show ZS f v ((k,x)::r)=(if k=f then (k,v)::r else (k,x)::ZS f v r) from rfl]
  by_cases hk:k=f
  .rw[if_pos hk]
   subst hk;exact⟨by simp,λg h=>by simpa using h⟩
  .rw[if_neg hk]
   refine⟨?_,λg h=>?_⟩
   .rw[UI]
    exact VM _ i1
   .rw[UI]at h ⊢
    rcases mem_cons.mp h with e | e
    .exact mem_cons.mpr (.inl e)
    .exact VM _ (i2 g e)
theorem Y2a(f:Str)(v:V):∀ fs:List (Str×V),(ZS f v fs).length<=fs.length+1
 | []=>by simp[ZS]
 | (k,x)::r=>by
  have ih:=Y2a f v r;rw[show ZS f v ((k,x)::r)=(if k=f then (k,v)::r else (k,x)::ZS f v r) from rfl]
  by_cases hk:k=f
  .rw[if_pos hk,UC,UC];lia
  .rw[if_neg hk,UC,UC];lia
theorem YX.some_of{v:V}{o:Option Va}(r:YX (Vo v) o):∃ u,o=Vo u/\Qt v u:=by
 cases o with
 | none=>exact(show False from r).elim
 | some u=>exact⟨u,rfl,r⟩
theorem YX.none_of{o:Option Va}(r:YX Vp o):o=Vp:=by
 cases o with
 | none=>rfl
 | some u=>exact(show False from r).elim
theorem ZHc{v:V}{u:Va}(r:Qt v u):W.handedIn u=true:=by
 cases v with
 | non=>cases (show u=Vi from r);rfl
 | bl b=>cases (show u=Vj b from r);rfl
 | int i=>obtain⟨t,e⟩:=(show ∃ t,u=Vd i t from r);cases e;rfl
 | str x=>obtain⟨t,e⟩:=(show ∃ t,u=Vf x t from r);cases e;rfl
 | byt b=>obtain⟨t,e⟩:=(show ∃ t,u=Value.bytes b t from r);cases e;rfl
 | flt b=>obtain⟨t,e⟩:=(show ∃ t,u=Value.float b t from r);cases e;rfl
 | ref a=>cases (show u=Vk a from r);rfl
 | ty n=>cases (show u=Vl n from r);rfl
section
variable{P:Vg}{w:Vb}{H H':Hp}{h h':Vq}{a C dx:Vh}{fs gX:List (Str×V)}
theorem XJa(hok:HOk P w H h)(e:H a=Vo (.ins C dx fs)):∃ mA,XLb h a dx C mA/\(∀ f,YX (fs.lookup f) (mA f))/\PySem.Within mA (fs.map (·.1))/\fs.length<=1000/\H dx=Vo (.own a):=by
 obtain⟨d,z,ne,ob,mA,n,r,q⟩:=(show QN P w H h a (.ins C dx fs) from hok a _ e)
 exact⟨mA,⟨ob,n,ne⟩,r,q,z,d⟩
end
structure Cls(K:VC)(C:Vh):Prop where
 pg:W.plainGet K C Str.empty=true
 hd:W.hasDictIn K C=true
 po:W.plainOver K C=true
 sa:Uz K (.ref C) "__setattr__"=Vo (Vo (.builtin "object.__setattr__"))
theorem Cls.get{K:VC}{C:Vh}(c:Cls K C)(f:Str):W.plainGet K C f=true:=c.pg
def Qfa(K:VC)(C:Vh)(f:Str):Prop:=Uz K (.ref C) f=Vo Vp
theorem Qfa.taker{K:VC}{C:Vh}{f:Str}(n:Qfa K C f):W.takerIn K C f=Vo Vp:=by
 unfold W.takerIn;rw[show Uz K (.ref C) f=Vo Vp from n]
 rfl
structure YGd(K:VC)(C:Vh)(m:Str)(f:Vh):Prop where
 at_:Uz K (.ref C) m=Vo (Vo (.ref f))
 fn:UA K (.ref f)=true
 kp:UJ K (.ref f)=true
section
variable{X:Cx}{aa:YP_}{σ:St}{H:Hp}{s:VG}{a C dx:Vh}{fs:List (Str×V)}{f:Str}{v:V}{A:VF}{E:YQ_}
theorem XMb{b:Bool}{Q:YQ_}(I:Inv X aa σ H s)(e:H a=Vo (.ins C dx fs))(c:Cls X.K C)(n:Qfa X.K C f)(l:fs.lookup f=Vo v)
 (h:∀ u s',Inv X aa σ H s'->Qt v u->Q u s'):VQ (VR X.prog X.w) A (getAttr (.ref a) f b) Q E s:=by
 obtain⟨mA,O,r,_,_,_⟩:=XJa I.hok e;obtain⟨u,hu,ru⟩:=YX.some_of (v:=v) (o:=mA f) (by rw[<- l];exact r f)
 exact Qld I.kIn O (c.get f) c.hd n hu (ZHc ru) (h u _ (I.tok _) ru)
theorem Xm{m:Str}{g:Vh}{pl:Sem Bool}{Q:Va×List Va->VG->Prop}(I:Inv X aa σ H s)(e:H a=Vo (.ins C dx fs))(c:Cls X.K C)(k:YGd X.K C m g)(l:fs.lookup m=Vp)
 (h:Q (.ref g,[.ref a]) s):VQ (VR X.prog X.w) A (UB (.ref a) m pl) Q E s:=by
 obtain⟨mA,O,r,_,_,_⟩:=XJa I.hok e;have hn:mA m=Vp:=YX.none_of (by rw[<- l];exact r m)
 exact JTc I.kIn O (c.get m) k.at_ k.fn hn h
theorem XNb{y:V}{u:Va}{Q:Unit->VG->Prop}(I:Inv X aa σ H s)(e:H a=Vo (.ins C dx fs))(c:Cls X.K C)(n:Qfa X.K C f)(hl:fs.length < 1000)(ry:Qt y u)
 (h:∀ s',Inv X aa σ (upd H a (.ins C dx (ZS f y fs))) s'->Q () s'):VQ (VR X.prog X.w) A (setAttr (.ref a) f u) Q E s:=by
 obtain⟨mA,O,r,wi,_,ho⟩:=XJa I.hok e;have hz:(fs.map (·.1)).length<=Vs:=by rw[UK,Ux];lia
 refine Qmd I.kIn O c.sa c.po n.taker c.hd wi hz λh' O' sb=>h _ ?_
 have hd:∃ o,h'.get? dx=Vo o:=let ⟨o,_,_,e',_⟩:=O'.ns;⟨o,e'⟩
 refine I.write (x:=a) (e:=dx) (by rw[e];exact UL) (.inr ho) (λb q hb z=>(sb.2 b hb).trans z) hd ?_
 refine⟨by rw[Qe O.ne];exact ho,?_,O.ne,O'.obj,_,O'.ns,λg=>?_,λg hg=>?_⟩
 .have:=Y2a f y fs;lia
 .show YX ((ZS f y fs).lookup g) (if g=f then Vo u else mA g)
  rw[Y1a]
  by_cases q:g=f
  .rw[if_pos q,if_pos q];exact ry
  .rw[if_neg q,if_neg q];exact r g
 .by_cases q:g=f
  .rw[q];exact(Yma f y fs).1
  .refine(Yma f y fs).2 g (wi g λz=>hg ?_)
   show(if g=f then Vo u else mA g)=Vp
   rw[if_neg q];exact z
theorem Inv.made(I:Inv X aa σ H s):Inv X aa σ (upd (upd H s.heap.objs.size (.own (s.heap.objs.size+1))) (s.heap.objs.size+1) (.ins C s.heap.objs.size []))
 { s with heap:=(s.heap.push UG).push (Vw C s.heap.objs.size) }:=by
 have e1:(s.heap.push UG).get? s.heap.objs.size=Vo UG:=Ul s.heap rfl
 have e2:((s.heap.push UG).push (Vw C s.heap.objs.size)).get? (s.heap.objs.size+1)=Vo (Vw C s.heap.objs.size):=by
  have:=Ul (s.heap.push UG) (o:=Vw C s.heap.objs.size) rfl
  rwa [UM]at this
 have e3:(s.heap.push UG).Ns s.heap.objs.size (λ_=>Vp):=⟨UG,#[],_,e1,rfl,(λe he=>absurd he #[2]),λ_=>rfl⟩
 have I1:=I.laid (a:=s.heap.objs.size) (o:=.own (s.heap.objs.size+1)) (h':=s.heap.push UG) (t':=s.toks) (λb u q=>Uk _ q) (Um _) ⟨_,e1⟩
 refine I1.laid (a:=s.heap.objs.size+1) (o:=.ins C s.heap.objs.size []) (t':=s.toks) (λb u q=>Uk _ q) (Nat.le_of_eq (UM _ _)) ?_
 have ne:s.heap.objs.size≠s.heap.objs.size+1:=VA (Nat.lt_succ_self _);refine⟨by rw[Qe ne,Qa],Us _,ne,e2,λ_=>Vp,(Heap.Ns1.of_empty e3).at λo q=>Uk _ q,λ_=>UL,λy hy=>absurd rfl hy⟩
theorem Qnd{prog:Vg}{w:Vb}{env:Env}{e:Expr}{f:Str}{pos:Pos}{s:VG}{Q:YQ_}(hb:UN e f env (VS e env)=VS e env)
 (h:VQ (VR prog w) A (VS e env) (λo s₁=>VQ (VR prog w) A (getAttr o f true) Q E s₁) E s):VQ (VR prog w) A (VS (.Attribute e f pos) env) Q E s :=
 Attribute_any_ h (by rw[arm_eval_Attribute,hb])
end
def Qod(K:VC)(ta:TE)(f:Str):TE:=λσ H Q=>ta σ H λx H1=>∃ a C dx fs v,x=.ref a/\H1 a=Vo (.ins C dx fs)/\Cls K C/\Qfa K C f/\fs.lookup f=Vo v/\Q v H1
def YHd(K:VC)(ta tv:TE)(f:Str):TS:=λD σ H=>tv σ H λy H1=>ta σ H1 λx H2=>∃ a C dx fs,x=.ref a/\H2 a=Vo (.ins C dx fs)/\Cls K C/\Qfa K C f/\fs.length < 1000 /\
 D.nx σ (upd H2 a (.ins C dx (ZS f y fs)))
section
variable{X:Cx}{o e value:Expr}{f:Str}{pos aL bC:Pos}{ta tv:TE}
theorem Jfd(he:PE X e ta)(hb:UN e f X.env (VS e X.env)=VS e X.env):PE X (.Attribute e f pos) (Qod X.K ta f):=by
 intro aa s σ H Q I h;refine Qnd hb (thn (he aa s σ H _ I h) λu s1 hZ=>?_)
 obtain⟨x,H1,I1,rx,a,C,dx,fs,v,ex,ea,c,n,l,q⟩:=hZ;subst ex;obtain rfl:u=Vk a:=rx;exact XMb I1 ea c n l λu' s2 I2 ru=>⟨v,H1,I2,ru,q⟩
theorem Qga(ha:PE X o ta)(hv:PE X value tv)(hs:V5 value (Vo (.Attribute o f aL)) pos.line X.env=pure false):PS X (.Assign [.Attribute o f aL] value pos) (YHd X.K ta tv f):=by
 intro aa s σ H D I h;refine plainObj_wpAny_Assign_Attribute (thn (hv aa s σ H _ I h) λu s1 ⟨y,H1,I1,ry,q⟩=>thn (ha aa s1 σ H1 _ I1 q) λov s2 hZ=>?_) hs
 obtain⟨x,H2,I2,rx,a,C,dx,fs,ex,ea,c,n,l,q2⟩:=hZ;subst ex;obtain rfl:ov=Vk a:=rx;exact XNb I2 ea c n l ry λs3 I3=>⟨σ,_,I3,q2⟩
end
section
variable{X:Cx}{aa:YP_}{σ:St}{H:Hp}{s:VG}{A:VF}{E:YQ_}{Q:YQ_}{c:Va}{b:Bool}
inductive Jra(K:VC)(H:Hp):V->Va->Prop where
 | non:Jra K H .non (.type "NoneType")
 | bl (x:Bool):Jra K H (.bl x) (.type "bool")
 | int (i:Int):Jra K H (.int i) (.type "int")
 | str (x:Str):Jra K H (.str x) (.type "str")
 | flt (x:UInt64):Jra K H (.flt x) (.type "float")
 | lst {a:Vh} {xs:List V} (e:H a=Vo (.lst xs)):Jra K H (.ref a) (.type "list")
 | frz {a:Vh} {o:Obj} {xs:List V} (e:H a=Vo (.frz o (.lst xs))):Jra K H (.ref a) (.type "list")
 | tup {a:Vh} {xs:List V} (e:H a=Vo (.tup xs)):Jra K H (.ref a) (.type "tuple")
 | dK {a:Vh} {kvs:List (Key×V)} (e:H a=Vo (.dK kvs)):Jra K H (.ref a) (.type "dict")
 | dT {a:Vh} {kvs:List (List Key×V)} (e:H a=Vo (.dT kvs)):Jra K H (.ref a) (.type "dict")
 | ins {a C dx:Vh} {fs:List (Str×V)} (e:H a=Vo (.ins C dx fs)) (cl:Cls K C) (ha:Uz K (.ref C) "__class__"=Vo (Vo (.builtin "object.__class__")))
  (hn:UO K (.builtin "object.__class__") "__get__"=Vo (Vo (.builtin "getset_descriptor.__get__"))) (qG:W.takesIn K (.builtin "object.__class__")=Vo true)
  (hm:W.mroIn K C (.type "object")=Vo true):Jra K H (.ref a) (.ref C)
theorem ZIc{x:V}{u t:Va}(I:Inv X aa σ H s)(rx:Qt x u)(ty:Jra X.K H x t)(e:UP X.K t c=Vo b)(h:∀ tk,Q (.bool b) { s with toks:=tk }) :
 VQ (VR X.prog X.w) A (Ut (.builtin "isinstance") [u,c]) Q E s:=by
 cases ty with
 | non=>cases (show u=Vi from rx);exact UQ W.kitx_none I.kIn UL e (λz=>nomatch z) h
 | bl y=>cases (show u=Vj y from rx);exact UQ W.kitx_bool I.kIn UL e (λz=>nomatch z) h
 | int i=>obtain⟨t,q⟩:=(show ∃ t,u=Vd i t from rx);cases q;exact UQ W.kitx_int I.kIn UL e (λz=>nomatch z) h
 | str y=>obtain⟨t,q⟩:=(show ∃ t,u=Vf y t from rx);cases q;exact UQ W.kitx_str I.kIn UL e (λz=>nomatch z) h
 | flt y=>obtain⟨t,q⟩:=(show ∃ t,u=Value.float y t from rx);cases q;exact UQ W.kitx_float I.kIn UL e (λz=>nomatch z) h
 | @lst a xs ea =>
  cases (show u=Vk a from rx)
  obtain⟨_,_,n,_,h1⟩:=(show QN X.prog X.w H s.heap a (.lst xs) from I.hok a _ ea)
  exact UQ W.kitx_list I.kIn ⟨_,h1,rfl⟩ e (λz=>nomatch z) h
 | @frz a ob xs ea =>
  cases (show u=Vk a from rx)
  obtain⟨_,_,_,n,_,h1⟩:=(show QN X.prog X.w H s.heap a (.frz ob (.lst xs)) from I.hok a _ ea)
  exact UQ W.kitx_list I.kIn ⟨_,h1,rfl⟩ e (λz=>nomatch z) h
 | @tup a xs ea =>
  cases (show u=Vk a from rx)
  obtain⟨_,_,_,p⟩:=(show QN X.prog X.w H s.heap a (.tup xs) from I.hok a _ ea)
  obtain⟨o,h1,h2,_⟩:=p;exact UQ W.kitx_tuple I.kIn ⟨o,h1,h2⟩ e (λz=>nomatch z) h
 | @dK a kvs ea =>
  cases (show u=Vk a from rx)
  obtain⟨_,_,vs,_,p⟩:=(show QN X.prog X.w H s.heap a (.dK kvs) from I.hok a _ ea)
  obtain⟨o,es,ep,h1,h2,_⟩:=p;exact UQ W.kitx_dict I.kIn ⟨o,h1,h2.1⟩ e (λz=>nomatch z) h
 | @dT a kvs ea =>
  cases (show u=Vk a from rx)
  obtain⟨_,_,xs,_,o,es,ep,h1,h2,_⟩:=(show QN X.prog X.w H s.heap a (.dT kvs) from I.hok a _ ea)
  exact UQ W.kitx_dict I.kIn ⟨o,h1,h2.1⟩ e (λz=>nomatch z) h
 | @ins a C dx fs ea cl ha hn qG hm =>
  cases (show u=Vk a from rx)
  obtain⟨mA,O,_⟩:=XJa I.hok ea;obtain⟨od,J,_⟩:=O.look;exact UQ (W.kitx_own (cl.get _) cl.hd ha hn qG hm) I.kIn J e (λz=>nomatch z) h
end
structure Q1(k:Nat)(A:VF):Prop where
 hd:A.handled=Vp
 dp:A.depth+3 * k+5 < recursionLimit
 un:A.units+16 * k+200 < UR
theorem Q1.mono{j k:Nat}{A:VF}(r:Q1 k A)(h:j<=k):Q1 j A:=⟨r.hd,by have:=r.dp;lia,by have:=r.un;lia⟩
theorem Q1.deeper{k:Nat}{A:VF}(r:Q1 (k+1) A)(env:Env):Q1 k (A.deeper env) :=
 ⟨r.hd,by have:=r.dp;show A.depth+1+3 * k+5 < _;lia,by have:=r.un;show A.units+3+16 * k+200 < _;lia⟩
theorem Q1.in1{k:Nat}{A:VF}(r:Q1 (k+1) A):Q1 k A.in1 :=
 ⟨r.hd,by have:=r.dp;show A.depth+3 * k+5 < _;lia,by have:=r.un;show A.units+1+16 * k+200 < _;lia⟩
theorem XOb{A:VF}{C:Vh}{us:List Va}{kw:List (Str×Va)}:(A.under (.builtin "type.__call__" ⟨.ref C::us,kw⟩)).depth=A.depth+1:=by
 first | rfl | simp[Around.under,Code.weight,Code.isCreation,Code.isGuard,Code.isCaller,Code.frames,Code.isFrame,guardIds]
theorem XPb{A:VF}{C:Vh}{us:List Va}{kw:List (Str×Va)}:(A.under (.builtin "type.__call__" ⟨.ref C::us,kw⟩)).units=A.units+1:=by
 first | rfl | simp[Around.under,Code.cUnits,Code.frames,Code.isFrame]
theorem Q1.make{k:Nat}{A:VF}(r:Q1 (k+1) A)(C:Vh)(us:List Va)(kw:List (Str×Va)):Q1 k (A.under (.builtin "type.__call__" ⟨.ref C::us,kw⟩)) :=
 ⟨r.hd,by have:=r.dp;rw[XOb];lia,by have:=r.un;rw[XPb];lia⟩
theorem Q1.depth{k:Nat}{A:VF}(r:Q1 k A):A.depth < recursionLimit:=by have:=r.dp;lia
theorem Q1.units{k:Nat}{A:VF}(r:Q1 k A):A.units+64 < UR:=by have:=r.un;lia
theorem Q1.units0{k:Nat}{A:VF}(r:Q1 k A):A.units < UR:=by have:=r.un;lia
def ZLa:TA:=λ_ H Q=>Q [] H
def XZa(ta:TE)(tr:TA):TA:=λσ H Q=>ta σ H λx H1=>tr σ H1 λxs H2=>Q (x::xs) H2
section
variable{X:Cx}{e:Expr}{es:List Expr}{te:TE}{t:TA}{pos:Pos}
theorem Zc:PA X [] ZLa:=λ_ _ _ _ H Q I h=>US ⟨[],H,I,.nil,h⟩
theorem QRc(ha:PE X e te)(hr:PA X es t)(hs:VU (e::es) X.env=(false,VS e X.env)::VU es X.env:=by rfl):PA X (e::es) (XZa te t):=by
 intro pos aa s σ H Q I h;rw[hs];show VQ _ _ (spliced ((false,VS e X.env)::VT pos (VU es X.env))) _ _ s;refine UT (thn (ha aa s σ H _ I h) λu s1 hZ=>?_)
 obtain⟨x,H1,I1,r1,q1⟩:=hZ;exact thn (hr pos aa s1 σ H1 _ I1 q1) λus s2 ⟨xs,H2,I2,r2,q2⟩=>⟨x::xs,H2,I2,.cons r1 r2,q2⟩
def Jgd(t:TA):TE:=λσ H Q=>t σ H λxs H1=>xs.length<=Vs/\∀ p,H1 p=Vp->Q (.ref p) (upd H1 p (.tup xs))
def Jhd(t:TA):TE:=λσ H Q=>t σ H λxs H1=>xs.length<=Vs/\∀ p,H1 p=Vp->Q (.ref p) (upd H1 p (.lst xs))
theorem JVc{x1}(h:PA X es t):PE X (.Tuple es x1 pos) (Jgd t):=by
 intro aa s σ H Q I hq;refine wpAny_Tuple_spliced (thn (h pos aa s σ H _ I hq) λus s1 ⟨xs,H1,I1,r,z,q⟩=>⟨by rw[<- r.length];exact z,?_⟩)
 have hf:H1 s1.heap.objs.size=Vp:=I1.hok.fresh (Um _);refine⟨.ref s1.heap.objs.size,upd H1 s1.heap.objs.size (.tup xs),I1.laid (t':=s1.toks) (λb u e=>Uk _ e) (Um _) ?_,rfl,q _ hf⟩
 exact⟨⟨z,_,Ul _ rfl,rfl⟩,us,r,⟨_,Ul _ rfl,rfl,_,rfl⟩⟩
theorem Jid(h:PA X es t):PE X (.List es pos) (Jhd t):=by
 intro aa s σ H Q I hq;refine wpAny_List_spliced (thn (h pos aa s σ H _ I hq) λus s1 ⟨xs,H1,I1,r,z,q⟩=>⟨by rw[<- r.length];exact z,?_⟩)
 have hf:H1 s1.heap.objs.size=Vp:=I1.hok.fresh (Um _);refine⟨.ref s1.heap.objs.size,upd H1 s1.heap.objs.size (.lst xs),I1.laid (t':=s1.toks) (λb u e=>Uk _ e) (Um _) ?_,rfl,q _ hf⟩
 exact⟨z,us,0,r,Ul _ rfl⟩
end
abbrev Sp:=List V->Hp->VK->XK->Prop
abbrev CXT:=List Env->Hp->VG->XK->YQ_
structure XQb(P:Vg)(w:Vb)(K:VC)(mg:Str->Option Va)(base:Vq)(A:VF)(outer:List Env)(s:VG)(H:Hp):Prop where
 frames:A.frames=Vo outer
 mod:Mod K mg base
 bs:∀ b o,base.get? b=Vo o->s.heap.get? b=Vo o/\H b=Vp
 bsz:base.objs.size<=s.heap.objs.size
 funs:s.heap.FunFrames base outer
 frf:∀ b∈frs outer,H b=Vp
 hok:HOk P w H s.heap
 bare:VH s.gens
def CE(outer:List Env)(P:Vg)(w:Vb)(H:Hp)(s:VG)(Q:VK)(u:Va)(s':VG):Prop :=
 ∃ v H',s'.os=s.os/\VH s'.gens/\Un (frs outer) [] H H' s.heap s'.heap/\HOk P w H' s'.heap/\Qt v u/\Q v H'
def CR(CX:CXT)(outer:List Env)(P:Vg)(w:Vb)(H:Hp)(s:VG)(Q:VK)(E:XK)(r:UD)(s':VG):Prop :=
 match r with
 | .ok (.ret u)=>CE outer P w H s Q u s'
 | .ok _=>False
 | .error e=>CX outer H s E e s'
structure Qp(P:Vg)(w:Vb)(K:VC)(mg:Str->Option Va)(base:Vq)(CX:CXT)(k:Nat)(f:Vh)(fd:UU)(ps:List Str)(sp:Sp):Prop where
 len:∀ vs H Q E,sp vs H Q E->vs.length=ps.length
 run:∀ (A:VF) (outer:List Env) (s:VG) (H:Hp) (args:Args) (us:List Va) (vs:List V) (Q:VK) (E:XK),Q1 k A->XQb P w K mg base A outer s H->BindsTo s fd args (ps.zip us)->Qv vs us->sp vs H Q E ->
  UF (VR P w) A (.call (.ref f) args) (CR CX outer P w H s Q E) s
theorem Qp.mono{P:Vg}{w:Vb}{K:VC}{mg:Str->Option Va}{base:Vq}{CX:CXT}{j k:Nat}{f:Vh}{fd:UU}{ps:List Str}{sp:Sp}(F:Qp P w K mg base CX j f fd ps sp)(h:j<=k) :
 Qp P w K mg base CX k f fd ps sp:=⟨F.len,λA outer s H args us vs Q E hr=>F.run A outer s H args us vs Q E (hr.mono h)⟩
theorem XQb.make{P:Vg}{w:Vb}{K:VC}{mg:Str->Option Va}{base:Vq}{A:VF}{outer:List Env}{s:VG}{H:Hp}(e:XQb P w K mg base A outer s H)(C:Vh)(us:List Va)(kw:List (Str×Va)) :
 XQb P w K mg base (A.under (.builtin "type.__call__" ⟨.ref C::us,kw⟩)) outer s H:=⟨by first | exact e.frames | (simpa[Around.under,Code.envs,Code.isFrame,pushEnvs]using e.frames),e.mod,e.bs,e.bsz,e.funs,e.frf,e.hok,e.bare⟩
section
variable{X:Cx}{aa:YP_}{σ:St}{H:Hp}{s s':VG}
theorem Inv.env0(I:Inv X aa σ H s):XQb X.prog X.w X.K X.mg X.base X.A X.stack s H :=
 ⟨I.ok.frames,I.ok.mod,I.bs,VI I.ok.bsz I.sz,I.stack,I.stkFree,I.hok,I.bare⟩
theorem Inv.after{Q:VK}{u:Va}(I:Inv X aa σ H s)(h:CE X.stack X.prog X.w H s Q u s'):EP X aa σ Q u s':=by
 obtain⟨v,H',os,bare,un,hok,r,q⟩:=h;obtain⟨hh,g,d,t,uF⟩:=s';obtain rfl:uF=s.os:=os;exact⟨v,H',I.call (h':=hh) (g':=g) (d':=d) (t':=t) (ch:=[]) un hok bare (λb z=>absurd z #[2]),r,q⟩
end
def Jsa(sp:Sp)(bG:List V)(E:XK)(t:TA):TE:=λσ H Q=>t σ H λvs H1=>sp (vs++bG) H1 Q E
def QSc(C:Vh)(sp:Sp)(bG:List V)(E:XK)(t:TA):TE:=λσ H Q=>t σ H λvs H1=>∀ x dx,H1 x=Vp->H1 dx=Vp->dx≠x ->
 sp (.ref x::(vs++bG)) (upd (upd H1 dx (.own x)) x (.ins C dx [])) (λv H2=>v=.non/\Q (.ref x) H2) E
def Zz(K:VC)(fd:UU)(ps:List Str)(ds:List Va):Prop :=
 ∀ (s:VG) (us:List Va),K.In s.heap->(us++ds).length=ps.length->BindsTo s fd ⟨us,[]⟩ (ps.zip (us++ds))
theorem Zz.all{K:VC}{fd:UU}{ps:List Str}(h:∀ us:List Va,us.length=ps.length->bindArgs fd ⟨us,[]⟩=pure (ps.zip us)):Zz K fd ps []:=λs us _ hl=>by
 rw[UV]at hl ⊢;exact .of_eq (h us hl)
def ZMa(CX:CXT)(X:Cx)(E:XK):Prop:=∀ (aa:YP_) (σ:St) (H:Hp) (s:VG) (e:Va) (s':VG),Inv X aa σ H s->CX X.stack H s E e s'->X.xe e s'
section
variable{X:Cx}{CX:CXT}{k:Nat}{f C:Vh}{fd:UU}{ps:List Str}{sp:Sp}{bG:List V}{ds:List Va}{E:XK}{x m:Str}{p pos aj:Pos}{e o:Expr}{es:List Expr}{ta:TE}{t:TA}
theorem XRb{aa:YP_}{σ:St}{H:Hp}{s:VG}{Q:VK}{us:List Va}{vs:List V}(F:Qp X.prog X.w X.K X.mg X.base CX k f fd ps sp)(hr:Q1 k X.A)(hb:Zz X.K fd ps ds)(hd:Qv bG ds)(hx:ZMa CX X E)
 (I:Inv X aa σ H s) (r:Qv vs us) (h:sp (vs++bG) H Q E):VQ (VR X.prog X.w) X.A (Ut (.ref f) us) (EP X aa σ Q) X.xe s:=by
 have r2:Qv (vs++bG) (us++ds):=r.append hd;have hl:(us++ds).length=ps.length:=by rw[<- r2.length];exact F.len _ _ _ _ h
 refine UW (UX (F.run X.A X.stack s H ⟨us,[]⟩ (us++ds) (vs++bG) Q E hr I.env0 (hb s us I.kIn hl) r2 h) λr s' hq=>?_)
 cases r with
 | error e=>exact hx aa σ H s e s' I hq
 | ok fl =>
  cases fl with
  | ret u=>exact I.after hq
  | next=>exact V3 hq
  | brk=>exact V3 hq
  | cont=>exact V3 hq
theorem QTc(F:Qp X.prog X.w X.K X.mg X.base CX k f fd ps sp)(hr:Q1 k X.A)(hg:Gl X x)(hm:X.mg x=Vo (.ref f))(hk:UJ X.K (.ref f)=true)(hb:Zz X.K fd ps ds)(hd:Qv bG ds)(hx:ZMa CX X E)
 (ha:PA X (e::es) t) (aN:(x == ("__debug__":Str))=false:=by decide) (he:VU (e::es) X.env=(false,VS e X.env)::VU es X.env:=by rfl) (aV:(VT pos (VU es X.env)).any (·.1)=false:=by rfl) :
 PE X (.Call (.Name x p) (e::es) [] pos) (Jsa sp bG E t):=by
 intro aa s σ H Q I h;refine UY (Xk I hg hm ?_ aN)
 refine UZ (h₀:=X.base) I.ok.mod.kin hk (thn (ha pos aa s σ H _ I h) λus s1 ⟨vs,H1,I1,r,q⟩=>⟨I1.kIn,?_⟩) he aV
 exact XRb F hr hb hd hx I1 r q
theorem JWc(F:Qp X.prog X.w X.K X.mg X.base CX k f fd ps sp)(hr:Q1 k X.A)(hg:Gl X x)(hm:X.mg x=Vo (.ref f))(hk:UJ X.K (.ref f)=true)(hb:Zz X.K fd ps ds)(hd:Qv bG ds)(hx:ZMa CX X E)
 (aN:(x == ("__debug__":Str))=false:=by decide):PE X (.Call (.Name x p) [] [] pos) (Jsa sp bG E ZLa):=by
 intro aa s σ H Q I h;refine UY (Xk I hg hm ?_ aN)
 exact U0 I.kIn hk (XRb (us:=[]) F hr hb hd hx I .nil h)
structure Mk(K:VC)(C f:Vh):Prop where
 makes:UE K C=true
 init:Uz K (.ref C) "__init__"=Vo (Vo (.ref f))
 fn:UA K (.ref f)=true
 kp:UJ K (.ref C)=true
theorem Ypb{aa:YP_}{σ:St}{H:Hp}{s:VG}{Q:VK}{us:List Va}{vs:List V}(M:Mk X.K C f)(F:Qp X.prog X.w X.K X.mg X.base CX k f fd ps sp)(hr:Q1 (k+1) X.A)(hb:Zz X.K fd ps ds)(hd:Qv bG ds)
 (hx:ZMa CX X E) (I:Inv X aa σ H s) (r:Qv vs us)
 (h:∀ x dx,H x=Vp->H dx=Vp->dx≠x->sp (.ref x::(vs++bG)) (upd (upd H dx (.own x)) x (.ins C dx [])) (λv H2=>v=.non/\Q (.ref x) H2) E) :
 VQ (VR X.prog X.w) X.A (Ut (.ref C) us) (EP X aa σ Q) X.xe s:=by
 have hq:=h (s.heap.objs.size+1) s.heap.objs.size (I.hok.fresh (U1 _)) (I.hok.fresh (Um _)) (VA (Nat.lt_succ_self _));have I2:=Inv.made (C:=C) I;have r2:Qv (V.ref (s.heap.objs.size+1)::(vs++bG)) (Vk (s.heap.objs.size+1)::(us++ds)):=.cons rfl (r.append hd);have hl:(Vk (s.heap.objs.size+1)::us++ds).length=ps.length:=by
  have e:=r2.length;rw[F.len _ _ _ _ hq]at e;exact e.symm
 refine UW (JUc (f:=f) I.kIn M.makes M.init (beq_iff_eq.mp M.fn) (UX (F.run _ X.stack _ _ ⟨Vk (s.heap.objs.size+1)::us,[]⟩ (Vk (s.heap.objs.size+1)::(us++ds)) _ _ E (hr.make C us [])
  (I2.env0.make C us []) (hb _ (Vk (s.heap.objs.size+1)::us) I2.kIn hl) r2 hq) λr s' iW=>?_))
 cases r with
 | error e=>exact hx aa σ _ _ e s' I2 iW
 | ok fl =>
  cases fl with
  | ret u =>
   obtain⟨v,H',I3,rv,ev,q3⟩:=I2.after iW;subst ev;exact⟨rv,⟨V.ref (s.heap.objs.size+1),H',I3,rfl,q3⟩⟩
  | next=>exact V3 iW
  | brk=>exact V3 iW
  | cont=>exact V3 iW
theorem Qpd(M:Mk X.K C f)(F:Qp X.prog X.w X.K X.mg X.base CX k f fd ps sp)(hr:Q1 (k+1) X.A)(hg:Gl X x)(hm:X.mg x=Vo (.ref C))(hb:Zz X.K fd ps ds)(hd:Qv bG ds)(hx:ZMa CX X E)
 (ha:PA X (e::es) t) (aN:(x == ("__debug__":Str))=false:=by decide) (he:VU (e::es) X.env=(false,VS e X.env)::VU es X.env:=by rfl) (aV:(VT pos (VU es X.env)).any (·.1)=false:=by rfl) :
 PE X (.Call (.Name x p) (e::es) [] pos) (QSc C sp bG E t):=by
 intro aa s σ H Q I h;refine UY (Xk I hg hm ?_ aN)
 refine UZ (h₀:=X.base) I.ok.mod.kin M.kp (thn (ha pos aa s σ H _ I h) λus s1 ⟨vs,H1,I1,r,q⟩=>⟨I1.kIn,?_⟩) he aV
 exact Ypb M F hr hb hd hx I1 r q
theorem JXc(M:Mk X.K C f)(F:Qp X.prog X.w X.K X.mg X.base CX k f fd ps sp)(hr:Q1 (k+1) X.A)(hg:Gl X x)(hm:X.mg x=Vo (.ref C))(hb:Zz X.K fd ps ds)(hd:Qv bG ds)(hx:ZMa CX X E)
 (aN:(x == ("__debug__":Str))=false:=by decide):PE X (.Call (.Name x p) [] [] pos) (QSc C sp bG E ZLa):=by
 intro aa s σ H Q I h;refine UY (Xk I hg hm ?_ aN)
 exact U0 I.kIn M.kp (Ypb (us:=[]) M F hr hb hd hx I .nil h)
end
def PK(X:Cx)(iX:List U2)(t:TA):Prop :=
 ∀ (pos:Pos) (aa:YP_) (s:VG) (σ:St) (H:Hp) (Q:List V->Hp->Prop),Inv X aa σ H s->t σ H Q->VQ (VR X.prog X.w) X.A (evalAll ((U3 pos (U4 iX X.env)).map (·.2))) (AP X aa σ Q) X.xe s
section
variable{X:Cx}{CX:CXT}{k:Nat}{f C:Vh}{fd:UU}{ps ks:List Str}{sp:Sp}{E:XK}{x m:Str}{p pos aj fm:Pos}{e o:Expr}{es:List Expr}{iX:List U2}{te ta:TE}{t tk:TA}{nm:Option Str}
theorem Jjd:PK X [] ZLa:=λ_ _ _ _ H Q I h=>wpAny_evalAll_nil ⟨[],H,I,.nil,h⟩
theorem Qqd(ha:PE X e te)(hr:PK X iX t):PK X (⟨nm,e,fm⟩::iX) (XZa te t):=by
 intro pos aa s σ H Q I h;show VQ _ _ (evalAll ((do let v <- VS e X.env;V0 pos;pure v)::(U3 pos (U4 iX X.env)).map (·.2))) _ _ s
 refine wpAny_evalAll_cons (V8 (thn (ha aa s σ H _ I h) λu s1 ⟨x,H1,I1,r1,q1⟩=>V8 (Ua (Ui ?_))))
 exact thn (hr pos aa s1 σ H1 _ I1 q1) λus s2 ⟨xs,H2,I2,r2,q2⟩=>⟨x::xs,H2,I2,.cons r1 r2,q2⟩
variable{g:List Va->List Va->List Va}{gV:List V->List V->List V}
end
structure Qg(N P:List Str)(sc:Scope):Prop where
 kind:sc.kind=.function
 co:sc.isCoroutine=false
 gen:sc.isGenerator=false
 nd:N.Nodup
 pre:N.take P.length=P
 par:∀ x∈P,sc.names.lookup x=Vo .local\/sc.names.lookup x=Vo .cell
 nofree:∀ y∈sc.names,y.2≠.free
theorem Zyb{kindOf:Str->Option U5}{x:Str}:∀ {binds:List (Str×Va)} {m:Str->Option Va},(∀ v,(x,v)∉binds)->U6 kindOf binds m x=m x
 | [],_,_=>rfl
 | (n,v)::r,m,h=>by
  unfold U6;rw[Zyb λw hw=>h w (VM _ hw)]
  split
  .have:x≠n:=by rintro rfl;exact h v VL
   simp[this]
  .rfl
theorem Zzb{kindOf:Str->Option U5}{x:Str}:∀ {binds:List (Str×Va)} {m:Str->Option Va},(∀ v,(x,v)∉binds)->U7 kindOf binds m x=m x
 | [],_,_=>rfl
 | (n,v)::r,m,h=>by
  unfold U7;rw[Zzb λw hw=>h w (VM _ hw)]
  split
  .rfl
  .have:x≠n:=by rintro rfl;exact h v VL
   simp[this]
theorem ZAb{kindOf:Str->Option U5}{x:Str}{v:Va}:∀ {P:List Str} {vs:List Va} {i:Nat} {m:Str->Option Va},P.Nodup->P[i]?=Vo x->vs[i]?=Vo v->kindOf x=Vo .local ->
 U6 kindOf (P.zip vs) m x=Vo v
 | [],_,_,_,_,h,_,_=>by simp at h
 | _::_,[],_,_,_,_,h,_=>by simp at h
 | p::P,w::vs,0,m,nd,h1,h2,hk=>by
  simp at h1 h2;subst h1;subst h2;show U6 kindOf ((p,w)::P.zip vs) m p=_;unfold U6;rw[Zyb λv hv=>(nodup_cons.mp nd).1 (of_mem_zip hv).1,if_pos hk]
  simp
 | p::P,w::vs,i+1,m,nd,h1,h2,hk=>by
  show U6 kindOf ((p,w)::P.zip vs) m x=_;unfold U6;exact ZAb (i:=i) (nodup_cons.mp nd).2 (by simpa using h1) (by simpa using h2) hk
theorem ZBb{kindOf:Str->Option U5}{x:Str}{v:Va}:∀ {P:List Str} {vs:List Va} {i:Nat} {m:Str->Option Va},P.Nodup->P[i]?=Vo x->vs[i]?=Vo v->kindOf x≠Vo .local ->
 U7 kindOf (P.zip vs) m x=Vo v
 | [],_,_,_,_,h,_,_=>by simp at h
 | _::_,[],_,_,_,_,h,_=>by simp at h
 | p::P,w::vs,0,m,nd,h1,h2,hk=>by
  simp at h1 h2;subst h1;subst h2;show U7 kindOf ((p,w)::P.zip vs) m p=_;unfold U7;rw[Zzb λv hv=>(nodup_cons.mp nd).1 (of_mem_zip hv).1,if_neg hk]
  simp
 | p::P,w::vs,i+1,m,nd,h1,h2,hk=>by
  show U7 kindOf ((p,w)::P.zip vs) m x=_;unfold U7;exact ZBb (i:=i) (nodup_cons.mp nd).2 (by simpa using h1) (by simpa using h2) hk
def X4(N:List Str)(vs:List V):St:=vs.map Vo++U8 (N.length - vs.length) Vp
def Xva(CX:CXT)(P:Vg)(w:Vb)(K:VC)(mg:Str->Option Va)(base:Vq)(N:List Str)(qual:Str)(scope:Scope)(f:Vh)(cd:Va)(A:VF)(outer:List Env)(s:VG)(H:Hp)(E:XK):Cx where
 prog:=P
 w:=w
 K:=K
 mg:=mg
 base:=base
 A:=A.deeper (U9 qual scope s.heap.objs.size f cd)
 N:=N
 s₀:=s
 H₀:=H
 env:=U9 qual scope s.heap.objs.size f cd
 outer:=outer
 stack:=U9 qual scope s.heap.objs.size f cd::outer
 ex:=[]
 calm:=true
 fn:=λ_=>true
 pn:=[]
 xe:=λe s'=>VQ (VR P w) (A.deeper (U9 qual scope s.heap.objs.size f cd)) (leaving (U9 qual scope s.heap.objs.size f cd) e) (λ_ cN=>CX outer H s E e cN) (λe' cN=>CX outer H s E e' cN) s'
theorem Yqb{sc:Scope}{n:Nat}{x:Str}(h:sc.names.lookup x=Vo .cell):∃ c,(cellsFrom n sc.names []).lookup x=Vo c:=by
 have q:=W.cellsFrom_some sc.names n [] (.inl h);exact Option.isSome_iff_exists.mp q
theorem ZJc{CX:CXT}{P:Vg}{w:Vb}{K:VC}{mg:Str->Option Va}{base:Vq}{N ps:List Str}{qual:Str}{scope:Scope}{f:Vh}{cd:Va}{A:VF}{outer:List Env}{s s1:VG}{H:Hp}{E:XK}{us:List Va}{vs:List V}
 (S:Qg N ps scope) (hd:A.handled=Vp) (e0:XQb P w K mg base A outer s H) (hl:vs.length=ps.length) (r:Qv vs us)
 (x:InCallC s s.heap.objs.size (U6 (U9 qual scope s.heap.objs.size f cd).kindOf (ps.zip us) λ_=>Vp) (cellsFrom (s.heap.objs.size+1) scope.names []) (U7 (U9 qual scope s.heap.objs.size f cd).kindOf (ps.zip us) λ_=>Vp) s1) :
 Inv (Xva CX P w K mg base N qual scope f cd A outer s H E) [] (X4 N vs) H s1:=by
 have aV:ps.length<=N.length:=by have:=congrArg Oa S.pre;rw[Ob]at this;lia
 obtain⟨h1,tk,rfl,hk⟩:=x.done;have jt:∀ b:Vh,b∉(Xva CX P w K mg base N qual scope f cd A outer s H E).ex:=λb z=>absurd (show b∈([]:List Vh) from z) #[2]
 refine⟨⟨e0.mod,S.kind,rfl,rfl,Um _,λy z c h1 h2=>?_,λy hy=>?_,λy c _ h=>?_,λ_=>hd,Around.frames_deeper e0.frames,.inr ⟨rfl,rfl⟩,λb z=>absurd z (jt b),e0.bs,e0.bsz,λb _ _=>jt b,λb z=>absurd z (jt b),e0.funs,e0.frf⟩,
  rfl,e0.bare,Un.kept hk,⟨_,x.toInCall.ns,λi y v h1 h2 h3=>?_⟩,λy c h=>⟨_,x.cell y c h⟩,e0.hok.fresh (Um _),λy c h=>?_,λp hp=>absurd (show p∈([]:YP_) from hp) #[2],e0.hok.kept hk,?_⟩
 .exact name_of_addr x.apart (Oc h1) (Oc h2)
 .have hy:scope.names.lookup y=Vo .cell\/scope.names.lookup y=Vo .free:=hy
  rcases hy with hy | hy
  .exact Yqb hy
  .exact absurd rfl (S.nofree _ (Oc hy))
 .exact VJ (x.above y c (Oc h))
 .have hi:i < vs.length:=by
   unfold X4 at h2
   by_cases hi:i < vs.length
   .exact hi
   .rw[Od (by simpa using hi)]at h2
    rw[getElem?_replicate]at h2
    split at h2 <;> cases h2
  have ha:vs[i]?=Vo v:=by
   unfold X4 at h2;rw[Oe (by simpa using hi),Of]at h2
   cases e:vs[i]? with
   | none=>rw[e]at h2;cases h2
   | some a=>rw[e]at h2;cases h2;rfl
  obtain⟨u,hu,rv⟩:=r.get ha;have hp:ps[i]?=Vo y:=by
   rw[<- S.pre,getElem?_take_of_lt #[0]];exact h1
  have qH:ps.Nodup:=by rw[<- S.pre];exact S.nd.sublist (take_sublist _ _)
  refine⟨u,rv,?_⟩
  rcases S.par y (Og hp) with k | k
  .exact .inl ⟨k,ZAb qH hp hu k⟩
  .obtain⟨c,e⟩:=Yqb (n:=s.heap.objs.size+1) k
   refine .inr ⟨.inl k,c,e,?_⟩
   have q:=x.cell y c e;rw[ZBb qH hp hu (by show scope.names.lookup y≠_;rw[k];decide)]at q
   exact q
 .exact e0.hok.fresh (VJ (x.above y c (Oc h)))
 .unfold X4
  show _=N.length;rw[Oh,UK,length_replicate]
  lia
theorem Zfd{CX:CXT}{P:Vg}{w:Vb}{K:VC}{mg:Str->Option Va}{base:Vq}{k:Nat}{f:Vh}{name qual:Str}{params:Arguments}{body:List VV}{scope:Scope}{dV kV aW pm ah ct oc:Va}{an od:Option Vh}
 {ce:Array (Option Va)} {N ps:List Str} {sp:Sp} (lk:K.lookup f=Vo ⟨oc,od,.func (Oi name qual params body scope dV kV aW pm an ah ct),ce⟩) (bu:Oj K ah qual=true) (S:Qg N ps scope)
 (len:∀ vs H Q E,sp vs H Q E->vs.length=ps.length)
 (bV:∀ (A:VF) (outer:List Env) (s:VG) (H:Hp) (vs:List V) (Q:VK) (E:XK),Q1 k (A.deeper (U9 qual scope s.heap.objs.size f ah))->sp vs H Q E ->
  ∃ t,PSs (Xva CX P w K mg base N qual scope f ah A outer s H E) body t/\t { nx:=λ_ H'=>Q .non H',rt:=Q } (X4 N vs) H) :
 Qp P w K mg base CX (k+1) f (Oi name qual params body scope dV kV aW pm an ah ct) ps sp:=by
 refine⟨len,λA outer s H args us vs Q E hr e0 hb r eQ=>?_⟩
 have hl:=len _ _ _ _ eQ;have KX:K.In s.heap:=e0.mod.kin.keeps λb o e=>(e0.bs b o e).1
 have uG:s.heap.NoLimit:=e0.mod.nolimit.keeps λb o e=>(e0.bs b o e).1
 have ju:∀ y∈ps.zip us,scope.names.lookup y.1=Vo .local\/(scope.names.lookup y.1=Vo .cell/\((cellsFrom (s.heap.objs.size+1) scope.names []).lookup y.1).isSome=true):=λ⟨n,v⟩ hy=>by
  rcases S.par n (of_mem_zip hy).1 with q | q
  .exact .inl q
  .exact .inr ⟨q,W.cellsFrom_some _ _ _ (.inl q)⟩
 refine codeAny_call_function hr.depth (KX _ _ lk) rfl S.co S.gen rfl (W.codeRec_of KX bu) (hb _ _ _ _ ?_)
 refine wpAny_newFunctionEnv_cells S.kind ju λenv he s1 x=>?_
 subst he;refine⟨uG.keeps x.toInCall.keep,codeAny_func ?_⟩
 obtain⟨t,ht,hq⟩:=bV A outer s H vs Q E (hr.deeper _) eQ;have I:Inv (Xva CX P w K mg base N qual scope f ah A outer s H E) [] (X4 N vs) H s1:=ZJc S hr.hd e0 hl r x;refine VW (ht [] s1 (X4 N vs) H _ I hq) (λfl s' hs=>?_) λe s' hs=>hs
 have fin:∀ {σ':St} {H':Hp} {v:V} {u:Va},Inv (Xva CX P w K mg base N qual scope f ah A outer s H E) [] σ' H' s'->Qt v u->Q v H'->CE outer P w H s Q u s' :=
  λ{σ' H' v u} J rv q=>⟨v,H',J.os,J.bare,J.base,J.hok,rv,q⟩
 cases fl with
 | ret u =>
  obtain⟨v,σ',H',J,rv,q⟩:=hs;exact fin J rv q
 | next =>
  obtain⟨σ',H',J,q⟩:=hs;exact fin (v:=V.non) (u:=Vi) J rfl q
 | brk =>
  obtain⟨_,_,_,q⟩:=hs;exact V3 q
 | cont =>
  obtain⟨_,_,_,q⟩:=hs;exact V3 q
section
variable{X:Cx}{x:Str}{p pos:Pos}{e:Expr}{es:List Expr}{t:TA}{id T:String}{r:List V->Hp->VK->Prop}
def tCB(r:List V->Hp->VK->Prop)(t:TA):TE:=λσ H Q=>t σ H λvs H1=>r vs H1 Q
theorem Qq(hc:Jt X (.builtin id) r)(hg:Gl X x)(hm:X.mg x=Vp)(hv:VE x=Vo (.builtin id))(ha:PA X (e::es) t)(hn:x≠"__name__":=by decide)(aN:(x == ("__debug__":Str))=false:=by decide)
 (he:VU (e::es) X.env=(false,VS e X.env)::VU es X.env:=by rfl) (aV:(VT pos (VU es X.env)).any (·.1)=false:=by rfl):PE X (.Call (.Name x p) (e::es) [] pos) (tCB r t):=by
 intro aa s σ H Q I h;refine UY (ZHa I hg hm hv ?_ hn aN)
 exact PyProof.Rows.callWith_builtin1 (thn (ha pos aa s σ H _ I h) λus s1 ⟨vs,H1,I1,r1,q1⟩=>hc aa s1 σ H1 vs us Q I1 r1 q1) he aV
theorem QK(hc:Jt X (.type T) r)(hg:Gl X x)(hm:X.mg x=Vp)(hv:VE x=Vo (.type T))(ha:PA X (e::es) t)(hn:x≠"__name__":=by decide)(aN:(x == ("__debug__":Str))=false:=by decide)
 (he:VU (e::es) X.env=(false,VS e X.env)::VU es X.env:=by rfl) (aV:(VT pos (VU es X.env)).any (·.1)=false:=by rfl):PE X (.Call (.Name x p) (e::es) [] pos) (tCB r t):=by
 intro aa s σ H Q I h;refine UY (ZHa I hg hm hv ?_ hn aN)
 exact Uq (thn (ha pos aa s σ H _ I h) λus s1 ⟨vs,H1,I1,r1,q1⟩=>hc aa s1 σ H1 vs us Q I1 r1 q1) he aV
end
end L2
namespace HT
open PySem PyProof.Rows
theorem JYc(A:VF)(s:VG)(a:Int)(t:Tok)(c:Int)(u:Tok):∃ e,Ol A s (.int a t) (.int c u) e/\(e=true↔a=c) :=
 ⟨(a == c),SeqAt.EqAt.int_int a t c u,by simp⟩
theorem JZc(A:VF)(s:VG)(a:Int)(t:Tok)(c:Int)(u:Tok)(prog:Vg)(w:Vb)(E:YQ_)(Q:YQ_)(h:Q (.bool (decide (a < c))) s) :
 VQ (VR prog w) A (richCompare .Lt (.int a t) (.int c u)) Q E s :=
 (PyProof.Rows.lt_int h:VQ (VR prog w) A (VX .Lt (.int a t) (.int c u)) Q E s)
section
variable{prog:Vg}{w:Vb}{A:VF}{E:YQ_}{s:VG}
def sIx(n d:Nat):Option Int->Nat
 | none=>d
 | some v=>if v < 0 then (v+(n:Int)).toNat else min v.toNat n
theorem Jta(n d:Nat):sIx n d Vp=d:=rfl
theorem Jua(n d k:Nat):sIx n d (Vo (k:Int))=min k n:=by
 show(if (k:Int) < 0 then ((k:Int)+(n:Int)).toNat else min (k:Int).toNat n)=min k n
 rw[if_neg #[0],Om]
theorem Jkd(n d:Nat)(hd:d<=n)(o:Option Int):sIx n d o<=n:=by
 cases o with
 | none=>exact hd
 | some v =>
  show(if v < 0 then (v+(n:Int)).toNat else min v.toNat n)<=n
  by_cases hv:v < 0
  .rw[if_pos hv];lia
  .rw[if_neg hv];exact Nat.min_le_right _ _
end
end HT
namespace L2
open PySem PySem.Spec PyProof.Rows
abbrev TO:=St->Hp->(Option Int->Hp->Prop)->Prop
def PO(X:Cx)(e:Option Expr)(t:TO):Prop :=
 ∀ (aa:YP_) (s:VG) (σ:St) (H:Hp) (Q:Option Int->Hp->Prop),Inv X aa σ H s->t σ H Q ->
  VQ (VR X.prog X.w) X.A (evalPart e X.env) (λu s'=>∃ o H',Inv X aa σ H' s'/\IsPart u o/\Q o H') X.xe s
def Ye:TO:=λ_ H Q=>Q Vp H
def Jva(t:TE):TO:=λσ H Q=>t σ H λx H1=>∃ i,x=.int i/\Q (Vo i) H1
section
variable{X:Cx}{e:Expr}{te:TE}{lo hi:Option Expr}{tl th:TO}{pos p2:Pos}
theorem Qrd:PO X Vp Ye:=by
 intro aa s σ H Q I h;rw[evalPart_none];exact Ui ⟨Vp,H,I,.none,h⟩
theorem Qsd(h:PE X e te):PO X (Vo e) (Jva te):=by
 intro aa s σ H Q I hw;rw[evalPart_some];refine thn (h aa s σ H _ I hw) λu s1 hZ=>?_
 obtain⟨x,H1,I1,r1,q1⟩:=hZ;obtain⟨i,rfl,q⟩:=q1;obtain⟨t,rfl⟩:=r1;exact⟨Vo i,H1,I1,.int i t,q⟩
def SlR(X:Cx)(r:V->Option Int->Option Int->Hp->VK->Prop):Prop :=
 ∀ (aa:YP_) (s:VG) (σ:St) (H:Hp) (x:V) (v vl vu:Va) (lo hi:Option Int) (sl:Vh) (Q:VK),Inv X aa σ H s->Qt x v->s.heap.IsSliceOf sl vl vu .none->IsPart vl lo->IsPart vu hi->r x lo hi H Q ->
  ∃ T id,On (.type T) "__getitem__"=pure (Vo (.builtin id))/\s.TypeIs v T/\VQ (VR X.prog X.w) X.A (Oo v (.ref sl)) (EP X aa σ Q) X.xe s
def tSl(r:V->Option Int->Option Int->Hp->VK->Prop)(te:TE)(tl th:TO):TE:=λσ H Q=>te σ H λx H1=>tl σ H1 λl H2=>th σ H2 λu H3=>r x l u H3 Q
theorem QV{r:V->Option Int->Option Int->Hp->VK->Prop}(hr:SlR X r)(he:PE X e te)(hl:PO X lo tl)(hu:PO X hi th):PE X (.Subscript e (.Slice lo hi Vp p2) pos) (tSl r te tl th):=by
 intro aa s σ H Q I h;refine Subscript_ (thn (he aa s σ H _ I h) λv s1 hZ=>?_)
 obtain⟨x,H1,I1,r1,q1⟩:=hZ;refine wpAny_Slice (thn (hl aa s1 σ H1 _ I1 q1) λvl s2 ⟨l,H2,I2,pl,q2⟩=>thn (hu aa s2 σ H2 _ I2 q2) λvu s3 hZ=>?_)
 obtain⟨u,H3,I3,pu,q3⟩:=hZ;rw[evalPart_none];refine Ui ?_
 have I4:Inv X aa σ H3 { s3 with heap:=s3.heap.push { cls:=.type "slice",data:=.fields #[vl,vu,.none] } }:=I3.kept (t':=s3.toks) λb ob q=>Uk _ q
 obtain⟨T,id,hT,ht,hg⟩:=hr aa { s3 with heap:=s3.heap.push { cls:=.type "slice",data:=.fields #[vl,vu,.none] } } σ H3 x v vl vu l u s3.heap.objs.size Q I4 r1 (Heap.IsSliceOf.new ..) pl pu q3
 show VQ (VR X.prog X.w) X.A (subscriptTail e (.Slice lo hi Vp p2) v (.ref s3.heap.objs.size)) (EP X aa σ Q) X.xe { s3 with heap:=s3.heap.push { cls:=.type "slice",data:=.fields #[vl,vu,.none] } }
 exact tail_any (ops:=[.ref s3.heap.objs.size,v]) ht hT hg (by with_unfolding_all rfl)
def ZT(xs:List V)(lo hi:Option Int):List V:=(xs.drop (HT.sIx xs.length 0 lo)).take (HT.sIx xs.length xs.length hi - HT.sIx xs.length 0 lo)
theorem Y3a(xs:List V)(lo hi:Option Int):(ZT xs lo hi).length<=xs.length:=by
 unfold ZT;rw[Ob,Op]
 lia
end
def ixN(n:Nat)(i:Int):Option Nat:=if 0<=i then (if i < n then Vo i.toNat else Vp) else if -(n:Int)<=i then Vo (i+n).toNat else Vp
def atI{α:Type}(xs:List α)(i:Int):Option α:=(ixN xs.length i).bind λj=>xs[j]?
theorem QUc{n:Nat}{i:Int}{j:Nat}(h:ixN n i=Vo j):seqIndex? i n=Vo j/\j < n /\ -(n:Int)<=i/\i < n:=by
 unfold ixN at h
 by_cases h0:0<=i
 .rw[if_pos h0]at h
  by_cases h1:i < n
  .rw[if_pos h1]at h
   have e:i.toNat=j:=Vr h;exact⟨by rw[seqIndex_of h0 h1,e],by lia,by lia,h1⟩
  .rw[if_neg h1]at h;cases h
 .rw[if_neg h0]at h
  by_cases h1 : -(n:Int)<=i
  .rw[if_pos h1]at h
   have e:(i+n).toNat=j:=Vr h;exact⟨by rw[seqIndex_neg #[0] h1,e],by lia,h1,by lia⟩
  .rw[if_neg h1]at h;cases h
theorem Jib{α:Type}{xs:List α}{i:Int}{v:α}(h:atI xs i=Vo v):∃ j,seqIndex? i xs.length=Vo j/\xs[j]?=Vo v/\j < xs.length /\ -(xs.length:Int)<=i/\i < xs.length:=by
 unfold atI at h;cases e:ixN xs.length i with
 | none=>rw[e]at h;cases h
 | some j =>
  rw[e]at h;obtain⟨h1,h2,h3,h4⟩:=QUc e;exact⟨j,h1,h,h2,h3,h4⟩
theorem QQ{α:Type}{xs:List α}{j:Nat}{v:α}(h:xs[j]?=Vo v):atI xs (j:Int)=Vo v:=by
 have hj:j < xs.length:=(List.getElem?_eq_some_iff.mp h).1
 have e:ixN xs.length (j:Int)=Vo j:=by
  unfold ixN;rw[if_pos #[0],if_pos #[0]];simp
 unfold atI;rw[e];exact h
theorem Qha{α:Type}(xs:List α)(v:α):atI (xs++[v]) (-1)=Vo v:=by
 have hl:(xs++[v]).length=xs.length+1:=by simp
 have e:ixN (xs++[v]).length (-1)=Vo xs.length:=by
  unfold ixN;rw[hl,if_neg #[1],if_pos #[0]]
  congr 1
  lia
 unfold atI;rw[e];show(xs++[v])[xs.length]?=Vo v;simp
def Qtd(b:Expr):Prop:=∀ o i,Oq b false o i=operate [o,i] (Oo o i)
def IxR(X:Cx)(r:R2):Prop :=
 ∀ (value slice:Expr) (aa:YP_) (s:VG) (σ:St) (H:Hp) (x y:V) (v u:Va) (Q:VK),Inv X aa σ H s->Qt x v->Qt y u->r x y H Q ->
  Oq slice false v u=operate [v,u] (Oo v u)->VQ (VR X.prog X.w) X.A (subscriptTail value slice v u) (EP X aa σ Q) X.xe s
def MtR(X:Cx)(id:String)(r:V->List V->Hp->VK->Prop):Prop :=
 ∀ (aa:YP_) (s:VG) (σ:St) (H:Hp) (x:V) (xs:List V) (v:Va) (us:List Va) (Q:VK),Inv X aa σ H s->Qt x v->Qv xs us->r x xs H Q ->
  VQ (VR X.prog X.w) X.A (Ut (.builtin id) (v::us)) (EP X aa σ Q) X.xe s
section
variable{X:Cx}{a b:Expr}{ta tb:TE}{pos:Pos}
theorem Qh{r:R2}(hr:IxR X r)(ha:PE X a ta)(hb:PE X b tb)(hs:Qtd b):PE X (.Subscript a b pos) (tOp r ta tb):=by
 intro aa s σ H Q I h;exact Subscript_ (Z4d ha hb I h λv u s2 x y H2 I2 rx ry q=>hr a b aa s2 σ H2 x y v u Q I2 rx ry q (hs _ _))
def Jld(K:VC):R2:=λx y H Q=>∃ p xs i v,x=.ref p/\y=.int i/\SqL K H p xs/\atI xs i=Vo v/\Q v H
def Q4b(K:VC):R2:=λx y H Q=>∃ p xs i v,x=.ref p/\y=.int i/\SqT K H p xs/\atI xs i=Vo v/\Q v H
def Jmd:R2:=λx y H Q=>∃ z i c,x=.str z/\y=.int i/\z.length<=Vs/\atI z.cps.toList i=Vo c/\Q (.str ⟨#[c]⟩) H
theorem Qx:IxR X (Jld X.K):=by
 intro value slice aa s σ H x y v u Q I rx ry h hs;obtain⟨p,xs,i,z,rfl,rfl,hq,he,q⟩:=h;cases rx;obtain⟨t,rfl⟩:=ry;obtain⟨af,r,pl,hz⟩:=I.list hq;obtain⟨j,h1,h2,h3,h4,h5⟩:=Jib he;obtain⟨w,ew,bj⟩:=r.get h2;have hl:=r.length;have hn:=ZJa;have fin:EP X aa σ Q w s:=⟨z,H,I,bj,q⟩
 by_cases h0:0<=i
 .have hj:i.toNat=j:=by
   rw[seqIndex_of h0 h5]at h1;exact Vr h1
  exact item_listR pl.isList h0 #[0] (by rw[hj];simpa using ew) fin hs
 .have hj:(i+(af.toArray.size:Int)).toNat=j:=by
   rw[seqIndex_neg #[0] h4]at h1
   rw[Uy,<- hl];exact Vr h1
  exact subscriptTail_builtinR (x:=w) pl.isList.typeIs slot_list_getitem.lookup
   (wpAny_getItem_list_neg (Q:=λr s'=>r=w/\EP X aa σ Q r s') pl.isList #[0] (by rw[Uy] <;> lia) #[0] (by rw[hj];simpa using ew) ⟨rfl,fin⟩) hs
theorem Qi:IxR X (Q4b X.K):=by
 intro value slice aa s σ H x y v u Q I rx ry h hs;obtain⟨p,xs,i,z,rfl,rfl,hq,he,q⟩:=h;cases rx;obtain⟨t,rfl⟩:=ry;obtain⟨af,r,pl,hz⟩:=I.tuple hq;obtain⟨j,h1,h2,h3,h4,h5⟩:=Jib he;obtain⟨w,ew,bj⟩:=r.get h2;have hl:=r.length;have hn:=ZJa;have fin:EP X aa σ Q w s:=⟨z,H,I,bj,q⟩;exact subscriptTail_builtinR (x:=w) pl.typeIs slot_tuple_getitem.lookup
  (getItem_tuple (j:=j) (Q:=λr s'=>r=w/\EP X aa σ Q r s') pl #[0] #[0] (by rw[Uy,<- hl];exact h1) (by simpa using ew) ⟨rfl,fin⟩) hs
theorem J0c:IxR X Jmd:=by
 intro value slice aa s σ H x y v u Q I rx ry h hs;obtain⟨z,i,c,rfl,rfl,hz,he,q⟩:=h;obtain⟨t,rfl⟩:=rx;obtain⟨t',rfl⟩:=ry;obtain⟨j,h1,h2,h3,h4,h5⟩:=Jib he;have hl:z.cps.toList.length=z.length:=by simp[Os]
 rw[hl]at h1 h4 h5;have hn:=ZJa;exact tail_any (typeIs_str s z t) slot_str_getitem.lookup (getItem_str (c:=c) (by
  have e1:decide (i < -(2 ^ 63:Int))=false:=decide_eq_false #[0]
  have e2:decide (i >= 2 ^ 63)=false:=decide_eq_false #[0]
  rw[e1,e2,Bool.or_false]) (by rw[h1];simpa using h2) ⟨.str ⟨#[c]⟩,H,I.tok _,⟨_,rfl⟩,q⟩) hs
theorem XSb(af:List Va)(n j:Nat)(u:Va):Ot (·.setIfInBounds j u) { cls:=.type "list",data:=.seq af.toArray n }={ cls:=.type "list",data:=.seq (af.set j u).toArray n }:=by
 simp[Ot]
theorem Inv.lst{aa:YP_}{σ:St}{H:Hp}{s:VG}{p:Vh}{xs:List V}(I:Inv X aa σ H s)(h:H p=Vo (.lst xs)) :
 ∃ (af:List Va) (n:Nat),Qv xs af/\s.heap.get? p=Vo { cls:=.type "list",data:=.seq af.toArray n }/\xs.length<=Vs:=by
 obtain⟨z,af,n,r,e⟩:=I.hok p _ h;exact⟨af,n,r,e,z⟩
theorem Inv.lstUpd{aa:YP_}{σ:St}{H:Hp}{s:VG}{p:Vh}{xs ys:List V}{af its':List Va}{n n':Nat}{f:Obj->Obj}(I:Inv X aa σ H s)(h:H p=Vo (.lst xs))
 (ho:s.heap.get? p=Vo { cls:=.type "list",data:=.seq af.toArray n }) (hf:f { cls:=.type "list",data:=.seq af.toArray n }={ cls:=.type "list",data:=.seq its'.toArray n' }) (r:Qv ys its') (hz:ys.length<=Vs) (t:Nat) :
 Inv X aa σ (upd H p (.lst ys)) { s with heap:=s.heap.update p f,toks:=t }:=by
 have e:(s.heap.update p f).get? p=Vo { cls:=.type "list",data:=.seq its'.toArray n' }:=by
  rw[Heap.get?_update_self f ho (by rw[hf] <;> rfl),hf]
 refine I.write (x:=p) (e:=p) (by rw[h];trivial) (.inl rfl) (λb u hb q=>(Heap.get?_update_other _ _ (VN hb)).trans q) ⟨_,e⟩ ?_
 exact⟨hz,its',n',r,e⟩
def Zgd:V->V->V->Hp->(Hp->Prop)->Prop:=λo i v H Q=>∃ p xs k j,o=.ref p/\i=.int k/\H p=Vo (.lst xs)/\ixN xs.length k=Vo j/\Q (upd H p (.lst (xs.set j v)))
theorem Yrb:YBd X Zgd:=by
 intro aa s σ H o i v ov iv u Q I ro ri rv h;obtain⟨p,xs,k,j,rfl,rfl,hp,hj,q⟩:=h;cases ro;obtain⟨t,rfl⟩:=ri;obtain⟨af,n,r,ho,hz⟩:=I.lst hp;obtain⟨h1,h2,h3,h4⟩:=QUc hj;have hl:=r.length;have hn:=ZJa;have I':Inv X aa σ (upd H p (.lst (xs.set j v))) { s with heap:=s.heap.update p (Ot (·.setIfInBounds j u)) } :=
  I.lstUpd hp ho (XSb af n j u) (r.set rv j) (by rw[length_set];exact hz) s.toks
 by_cases h0:0<=k
 .have hk:k.toNat=j:=by
   rw[seqIndex_of h0 h4]at h1;exact Vr h1
  exact W.ki_setAt ho h0 #[0] (by rw[Uy,<- hl];exact h4) (by rw[hk];exact⟨_,I',q⟩)
 .have hk:(k+(af.toArray.size:Int)).toNat=j:=by
   rw[seqIndex_neg #[0] h3]at h1
   rw[Uy,<- hl];exact Vr h1
  exact W.ki_setBack ho #[0] (by rw[Uy,<- hl];exact h3) #[0] (by rw[hk];exact⟨_,I',q⟩)
theorem Jwa(lo hi:Option Int)(n:Nat):(Ou lo hi Vp n).1=((HT.sIx n 0 lo:Nat):Int)/\(Ou lo hi Vp n).2.1=((HT.sIx n n hi:Nat):Int)/\(Ou lo hi Vp n).2.2=1:=by
 refine⟨?_,?_,rfl⟩
 .cases lo with
  | none=>simp[Ou,HT.sIx]
  | some i =>
   simp only[Ou,HT.sIx,Option.getD_none,show(1:Int) > 0 by decide,if_true]
   by_cases h:i < 0
   .simp only[h,if_true] <;> lia
   .simp only[h,if_false] <;> lia
 .cases hi with
  | none=>simp[Ou,HT.sIx]
  | some i =>
   simp only[Ou,HT.sIx,Option.getD_none,show(1:Int) > 0 by decide,if_true]
   by_cases h:i < 0
   .simp only[h,if_true] <;> lia
   .simp only[h,if_false] <;> lia
theorem Q5b(af:List Va)(lo hi:Option Int):slicePick af.toArray lo hi Vp=((af.drop (HT.sIx af.length 0 lo)).take (HT.sIx af.length af.length hi - HT.sIx af.length 0 lo)).toArray:=by
 obtain⟨h1,h2,h3⟩:=Jwa lo hi af.toArray.size;unfold slicePick;rw[h1,h2,h3];simp only[sliceRange_one,pick_run,Uy] <;> rfl
def Jjb(K:VC):V->Option Int->Option Int->Hp->VK->Prop:=λx lo hi H Q=>∃ a xs,x=.ref a/\SqL K H a xs/\∀ p,H p=Vp->Q (.ref p) (upd H p (.lst (ZT xs lo hi)))
theorem Zd:SlR X (Jjb X.K):=by
 intro aa s σ H x v vl vu lo hi sl Q I rx hs pl pu h;obtain⟨a,xs,rfl,hx,q⟩:=h;cases rx;obtain⟨af,r,ht,hz⟩:=I.list hx;have aA:=r.length;refine⟨"list",_,slot_list_getitem.lookup,ht.isList.typeIs,?_⟩
 refine wpAny_getItem_list_slice ht.isList hs pl pu .none #[2] ?_ (by rw[Uy] <;> lia)
 rw[Q5b,<- aA];refine⟨.ref s.heap.objs.size,_,I.laid (t':=s.toks) (o:=.lst (ZT xs lo hi)) (λb ob q=>Uk _ q) (Um _) ?_,rfl,q _ (I.hok.fresh (Um _))⟩
 exact⟨VI (Y3a xs lo hi) hz,_,0,(r.drop (HT.sIx xs.length 0 lo)).take (HT.sIx xs.length xs.length hi - HT.sIx xs.length 0 lo),Ul _ rfl⟩
def Jd:V->Bool
 | .non=>true
 | .bl _=>true
 | .int _=>true
 | .str _=>true
 | _=>false
def eqV:V->V->Bool
 | .non,.non=>true
 | .bl a,.bl b=>a == b
 | .bl a,.int b=>(if a then 1 else 0) == b
 | .int a,.bl b=>a == (if b then 1 else 0)
 | .int a,.int b=>a == b
 | .str a,.str b=>a == b
 | _,_=>false
theorem Yna{A:VF}{s:VG}{y x:V}{u v:Va}(ry:Qt y u)(rx:Qt x v)(fy:Jd y=true)(fx:Jd x=true):Ol A s u v (eqV y x):=by
 cases y with
 | non =>
  cases ry;cases x with
  | non=>cases rx;exact SeqAt.EqAt.same _
  | bl b=>cases rx;exact SeqAt.EqAt.none_bool b
  | int b=>obtain⟨t,rfl⟩:=rx;exact SeqAt.EqAt.none_int b t
  | str b=>obtain⟨t,rfl⟩:=rx;exact SeqAt.EqAt.none_str b t
  | _=>exact absurd (show false=true from fx) Uc
 | bl a =>
  cases ry;cases x with
  | non=>cases rx;exact SeqAt.EqAt.bool_none a
  | bl b=>cases rx;exact SeqAt.EqAt.bool_bool a b
  | int b=>obtain⟨t,rfl⟩:=rx;exact SeqAt.EqAt.bool_int a b t
  | str b=>obtain⟨t,rfl⟩:=rx;exact SeqAt.EqAt.bool_str a b t
  | _=>exact absurd (show false=true from fx) Uc
 | int a =>
  obtain⟨t',rfl⟩:=ry;cases x with
  | non=>cases rx;exact SeqAt.EqAt.int_none a t'
  | bl b=>cases rx;exact SeqAt.EqAt.int_bool a t' b
  | int b=>obtain⟨t,rfl⟩:=rx;exact SeqAt.EqAt.int_int a t' b t
  | str b=>obtain⟨t,rfl⟩:=rx;exact SeqAt.EqAt.int_str a t' b t
  | _=>exact absurd (show false=true from fx) Uc
 | str a =>
  obtain⟨t',rfl⟩:=ry;cases x with
  | non=>cases rx;exact SeqAt.EqAt.str_none a t'
  | bl b=>cases rx;exact SeqAt.EqAt.str_bool a t' b
  | int b=>obtain⟨t,rfl⟩:=rx;exact SeqAt.EqAt.str_int a t' b t
  | str b=>obtain⟨t,rfl⟩:=rx;exact SeqAt.EqAt.str_str a t' b t
  | _=>exact absurd (show false=true from fx) Uc
 | _=>exact absurd (show false=true from fy) Uc
def eqU(x:V)(u:Va):Bool:=match u with
 | .none=>eqV .non x
 | .bool b=>eqV (.bl b) x
 | .int i _=>eqV (.int i) x
 | .str z _=>eqV (.str z) x
 | _=>false
theorem J1c{x y:V}{u:Va}(r:Qt y u)(f:Jd y=true):eqU x u=eqV y x:=by
 cases y with
 | non=>cases r;rfl
 | bl b=>cases r;rfl
 | int i=>obtain⟨t,rfl⟩:=r;rfl
 | str z=>obtain⟨t,rfl⟩:=r;rfl
 | _=>exact absurd (show false=true from f) Uc
theorem Jkb{x:V}:∀ {xs:List V} {us:List Va},Qv xs us->xs.all Jd=true->us.any (eqU x)=xs.any λy=>eqV y x
 | _,_,.nil,_=>rfl
 | y::xs,u::us,.cons r t,f=>by
  rw[Dz,Ov]at f;rw[Ow,Ow,J1c r f.1,Jkb t f.2]
theorem X0a{A:VF}{s:VG}{x:V}{v:Va}(rx:Qt x v)(fx:Jd x=true):∀ {xs:List V} {us:List Va},Qv xs us->xs.all Jd=true->∀ u∈us,Ol A s u v (eqU x u)
 | _,_,.nil,_=>λu hu=>by cases hu
 | y::xs,u::us,.cons r t,f=>λu' hu=>by
  rw[Dz,Ov]at f
  rcases mem_cons.mp hu with rfl | hu
  .rw[J1c r f.1];exact Yna r rx f.1 fx
  .exact X0a rx fx t f.2 u' hu
def inV(x:V)(xs:List V):Bool:=xs.any λy=>eqV y x
def rIn(K:VC)(neg:Bool):R2:=λx y H Q=>∃ p xs,y=.ref p/\(SqL K H p xs\/SqT K H p xs)/\Jd x=true/\xs.all Jd=true/\Q (.bl (if neg then !inV x xs else inV x xs)) H
theorem Yoa:OpR X (VX .In) (rIn X.K false):=by
 intro aa s σ H x y v u Q I rx ry h;obtain⟨p,xs,rfl,hq,fx,fs,q⟩:=h;cases ry
 rcases hq with hq | hq
 .obtain⟨af,r,pl,hz⟩:=I.list hq
  refine SeqAt.in_listAt (eqU x) pl.isList (λw hw=>X0a rx fx r fs w (by simpa using hw)) ⟨.bl _,H,I,rfl,?_⟩
  rw[show af.toArray.any (eqU x)=af.any (eqU x) by simp,Jkb r fs]
  exact q
 .obtain⟨af,r,pl,hz⟩:=I.tuple hq
  refine SeqAt.in_tupleAt (eqU x) pl (λw hw=>X0a rx fx r fs w (by simpa using hw)) ⟨.bl _,H,I,rfl,?_⟩
  rw[show af.toArray.any (eqU x)=af.any (eqU x) by simp,Jkb r fs]
  exact q
theorem Qy:Jt X (.builtin "len") (λxs H Q=>∃ p ys,xs=[.ref p]/\(SqL X.K H p ys\/SqT X.K H p ys)/\Q (.int ys.length) H):=by
 intro aa s σ H xs us Q I r h;obtain⟨p,ys,rfl,hq,q⟩:=h;obtain⟨u,rfl,rx⟩:=Ys r;cases rx;have hn:=ZJa
 rcases hq with hq | hq
 .obtain⟨af,r',pl,hz⟩:=I.list hq
  have aA:=r'.length;exact Calls.call_len_list pl.isList (by simp only[Uy] <;> lia) ⟨.int ys.length,H,I.tok _,⟨s.toks+1,by rw[Uy,aA]⟩,q⟩
 .obtain⟨af,r',pl,hz⟩:=I.tuple hq
  have aA:=r'.length;exact len_tuple pl (by simp only[Uy] <;> lia) ⟨.int ys.length,H,I.tok _,⟨s.toks+1,by rw[Uy,aA]⟩,q⟩
theorem Yf:Jt X (.builtin "len") (λxs H Q=>∃ z,xs=[.str z]/\z.length<=Vs/\Q (.int z.length) H):=by
 intro aa s σ H xs us Q I r h;obtain⟨z,rfl,hz,q⟩:=h;obtain⟨u,rfl,t,rfl⟩:=Ys r;have hn:=ZJa;exact len_str #[0] ⟨.int z.length,H,I.tok _,⟨_,rfl⟩,q⟩
theorem Zo:Jt X (.type "list") (λxs H Q=>∃ p ys,xs=[.ref p]/\(SqL X.K H p ys\/SqT X.K H p ys)/\∀ l,H l=Vp->Q (.ref l) (upd H l (.lst ys))):=by
 intro aa s σ H xs us Q I r h;obtain⟨p,ys,rfl,hq,q⟩:=h;obtain⟨u,rfl,rx⟩:=Ys r;cases rx;have fin:∀ (af:List Va),Qv ys af->ys.length<=Vs->∀ (h':Vq) (c':Nat),(∀ b o',s.heap.get? b=Vo o'->h'.get? b=Vo o') ->
  h'.get? s.heap.objs.size=Vo { cls:=.type "list",dict:=Vp,data:=.seq af.toArray c',slots:=#[] }->EP X aa σ Q (.ref s.heap.objs.size) { s with heap:=h' }:=λaf r' hz h' c' kp e =>
  ⟨.ref s.heap.objs.size,_,I.laid (t':=s.toks) kp (Um _) (show QN X.prog X.w _ h' _ (.lst ys) from⟨hz,af,c',r',e⟩),rfl,q _ (I.hok.fresh (Um _))⟩
 rcases hq with hq | hq
 .obtain⟨af,r',pl,hz⟩:=I.list hq
  have aA:=r'.length;obtain⟨o,ho,hc,n,hd⟩:=pl.isList;exact call_list_seq p (.inl rfl) ho hc hd (λh' c' kp e=>fin af r' hz h' c' kp e) (by simp only[Uy] <;> lia)
 .obtain⟨af,r',pl,hz⟩:=I.tuple hq
  have aA:=r'.length;obtain⟨o,ho,hc,n,hd⟩:=pl;exact call_list_seq p (.inr rfl) ho hc hd (λh' c' kp e=>fin af r' hz h' c' kp e) (by simp only[Uy] <;> lia)
theorem Q6b:Jt X (.type "tuple") (λxs H Q=>∃ p ys,xs=[.ref p]/\((SqL X.K H p ys/\∀ l,H l=Vp->Q (.ref l) (upd H l (.tup ys)))\/(SqT X.K H p ys/\Q (.ref p) H))):=by
 intro aa s σ H xs us Q I r h;obtain⟨p,ys,rfl,h⟩:=h;obtain⟨u,rfl,rx⟩:=Ys r;cases rx
 rcases h with ⟨hq,q⟩ | ⟨hq,q⟩
 .obtain⟨af,r',pl,hz⟩:=I.list hq
  have aA:=r'.length;refine call_tuple_list pl.isList (λh' kp=>?_) (by simp only[Uy] <;> lia)
  have I1:Inv X aa σ H { s with heap:=h' }:=I.kept (t':=s.toks) kp
  have I2:Inv X aa σ (upd H h'.objs.size (.tup ys)) { s with heap:=h'.push { cls:=.type "tuple",data:=.seq af.toArray } } :=
   I1.laid (t':=s.toks) (λb o e=>Uk _ e) (Um _) (show QN X.prog X.w _ _ _ (.tup ys) from⟨⟨hz,_,Ul _ rfl,rfl⟩,af,r',IsTup.new _ _⟩)
  exact⟨.ref h'.objs.size,_,I2,rfl,q _ (I1.hok.fresh (Um _))⟩
 .obtain⟨af,r',pl,hz⟩:=I.tuple hq
  exact call_tuple_same pl ⟨.ref p,H,I,rfl,q⟩
def tyV(K:VC)(T:String)(x:V)(H:Hp):Prop:=match x with
 | .str _=>T="str"
 | .int _=>T="int"
 | .ref p=>(T="list"/\∃ xs,SqL K H p xs)\/(T="tuple"/\∃ o,K.lookup p=Vo o/\o.cls=.type "tuple"/\o.dict=Vp) \/
  (T="dict"/\((∃ kvs,H p=Vo (.dK kvs))\/∃ kvs,H p=Vo (.dT kvs)))\/(T="set"/\∃ S n,H p=Vo (.set S n))
 | _=>False
theorem J2c{aa:YP_}{σ:St}{H:Hp}{s:VG}{T:String}{x:V}{v:Va}(I:Inv X aa σ H s)(r:Qt x v)(ty:tyV X.K T x H) :
 s.TypeIs v T/\∀ a,v=.ref a->∃ ob,s.heap.get? a=Vo ob/\ob.dict=Vp:=by
 cases x with
 | str z =>
  obtain⟨t,rfl⟩:=r;cases (show T="str" from ty)
  exact⟨typeIs_str s z t,λ_ e=>nomatch e⟩
 | int i =>
  obtain⟨t,rfl⟩:=r;cases (show T="int" from ty)
  exact⟨typeIs_int s i t,λ_ e=>nomatch e⟩
 | ref p =>
  cases r
  rcases ty with ⟨rfl,xs,hq⟩ | ⟨rfl,o,hk,hc,hd⟩ | ⟨rfl,hk⟩ | ⟨rfl,S,n,hk⟩
  .obtain⟨af,_,pl,_⟩:=I.list hq
   refine⟨pl.isList.typeIs,λa e=>?_⟩
   cases e;obtain⟨o,n,e,c,hd,_⟩:=pl;exact⟨o,e,hd⟩
  .refine⟨⟨o,I.kIn p o hk,hc⟩,λa e=>?_⟩
   cases e;exact⟨o,I.kIn _ o hk,hd⟩
  .have z:∃ o,s.heap.get? p=Vo o/\o.ExactDict:=by
    rcases hk with ⟨kvs,hk⟩ | ⟨kvs,hk⟩
    .obtain⟨_,_,_,_,o,_,_,e,ex,_⟩:=I.hok p _ hk
     exact⟨o,e,ex⟩
    .obtain⟨_,_,_,_,o,_,_,e,ex,_⟩:=I.hok p _ hk
     exact⟨o,e,ex⟩
   obtain⟨o,e,ex⟩:=z;refine⟨⟨o,e,ex.1⟩,λa e2=>?_⟩
   cases e2;exact⟨o,e,ex.2.1⟩
  .obtain⟨o,_,_,_,e,ex,_⟩:=I.hok p _ hk
   refine⟨⟨o,e,ex.1⟩,λa e2=>?_⟩
   cases e2;exact⟨o,e,ex.2.1⟩
 | _=>exact V3 ty
def Jnd(K:VC)(T:String)(r:V->List V->Hp->VK->Prop)(to:TE):TE:=λσ H Q=>to σ H λx H1=>tyV K T x H1/\r x [] H1 Q
def tBM(K:VC)(T:String)(r:V->List V->Hp->VK->Prop)(to:TE)(t:TA):TE:=λσ H Q=>to σ H λx H1=>tyV K T x H1/\t σ H1 λxs H2=>r x xs H2 Q
variable{o e:Expr}{es:List Expr}{to:TE}{t:TA}{name:Str}{aj aq:Pos}{T id:String}{r:V->List V->Hp->VK->Prop}
theorem Jod(pa:PlainAttrs T)(slot:Slot T name id)(ny:typeOf (.builtin id)=pure (.type "method_descriptor"))(hm:MtR X id r)(ho:PE X o to)
 (bm:UN o name X.env (VS o X.env)=VS o X.env:=by rfl) (bn:(aj.endLine == aq.line)=true:=by rfl):PE X (.Call (.Attribute o name aj) [] [] aq) (Jnd X.K T r to):=by
 intro aa s σ H Q I h;refine wpAny_Call_method0_late bm bn (thn (ho aa s σ H _ I h) λv s1 hZ=>?_)
 obtain⟨x,H1,I1,r1,ty,q1⟩:=hZ;obtain⟨h1,h2⟩:=J2c I1 r1 ty;exact⟨T,id,pa,slot,ny,h1,h2,Ox rfl (Oy (hm aa s1 σ H1 x [] v [] Q I1 r1 .nil q1))⟩
theorem J3c(pa:PlainAttrs T)(slot:Slot T name id)(ny:typeOf (.builtin id)=pure (.type "method_descriptor"))(hm:MtR X id r)(ho:PE X o to)(ha:PA X (e::es) t)
 (bm:UN o name X.env (VS o X.env)=VS o X.env:=by rfl)
 (jv:((VT aq (VU (e::es) X.env)).all (λx=>!x.1) && (U3 aq (U4 [] X.env)).all (λx=>x.1.isSome)
  && decide ((e::es).length+([]:List U2).length+(if ([]:List U2).isEmpty then 0 else 1) < 30))=true:=by rfl)
 (bn:(aj.endLine == aq.line)=true:=by rfl) (hs:VU (e::es) X.env=(false,VS e X.env)::VU es X.env:=by rfl) (hG:(VT aq (VU es X.env)).any (·.1)=false:=by rfl) :
 PE X (.Call (.Attribute o name aj) (e::es) [] aq) (tBM X.K T r to t):=by
 intro aa s σ H Q I h;refine wpAny_Call_method_late bm jv bn rfl (thn (ho aa s σ H _ I h) λv s1 hZ=>?_)
 obtain⟨x,H1,I1,r1,ty,q1⟩:=hZ;obtain⟨h1,h2⟩:=J2c I1 r1 ty;refine⟨T,id,pa,slot,ny,h1,h2,?_⟩
 have hA:=ha aq aa s1 σ H1 _ I1 q1;rw[hs]at hA ⊢;refine Ox (by show(false || (VT aq (VU es X.env)).any (·.1))=false;rw[hG] <;> rfl) (Oz ?_)
 exact thn hA λus s2 ⟨vs,H2,I2,r2,q2⟩=>hm aa s2 σ H2 x vs v us Q I2 r1 r2 q2
end
def MtM(X:Cx)(id:String)(r:V->List V->Hp->VK->Prop):Prop :=
 ∀ (aa:YP_) (s:VG) (σ:St) (H:Hp) (x:V) (xs:List V) (v:Va) (us:List Va) (Q:VK),Inv X aa σ H s->Qt x v->Qv xs us->r x xs H Q ->
  VQ (VR X.prog X.w) X.A (Ut (.builtin id) (v::us)) (EP X aa σ Q) X.xe s
theorem Qv.one:∀ {x:V} {us:List Va},Qv [x] us->∃ u,us=[u]/\Qt x u
 | _,_,.cons r .nil=>⟨_,rfl,r⟩
theorem Qv.zero:∀ {us:List Va},Qv [] us->us=[]
 | _,.nil=>rfl
section
variable{X:Cx}{aa:YP_}{σ:St}{H:Hp}{s:VG}{l b:Vh}{xs ys zs:List V}
theorem Inv.lset{af its':List Va}{n:Nat}{f:Array Va->Array Va}{t':Nat}(I:Inv X aa σ H s)(hH:H l=Vo (.lst xs))
 (e:s.heap.get? l=Vo { cls:=.type "list",data:=.seq af.toArray n }) (hf:f af.toArray=its'.toArray) (hv:Qv ys its') (hz:ys.length<=Vs) :
 Inv X aa σ (upd H l (.lst ys)) { s with heap:=s.heap.update l (Ot f),toks:=t' }:=by
 have q:=PySem.IsL.update e f;rw[hf]at q;refine I.write (x:=l) (e:=l) (by rw[hH];exact trivial) (.inl rfl) (λb' u hb hu=>(Heap.get?_update_other s.heap (Ot f) (VN hb)).trans hu) ⟨_,q⟩ ?_
 exact⟨hz,its',_,hv,q⟩
theorem Inv.lnew{af:List Va}{t':Nat}(I:Inv X aa σ H s)(hv:Qv ys af)(hz:ys.length<=Vs) :
 Inv X aa σ (upd H s.heap.objs.size (.lst ys)) { s with heap:=s.heap.push { cls:=.type "list",data:=.seq af.toArray },toks:=t' } :=
 I.laid (λ_ _ q=>Uk _ q) (Um _) ⟨hz,af,0,hv,Ul _ rfl⟩
theorem Inv.fresh(I:Inv X aa σ H s):H s.heap.objs.size=Vp:=I.hok.fresh (Um _)
theorem Inv.lstM(I:Inv X aa σ H s)(hH:H l=Vo (.lst xs)):xs.length<=Vs/\∃ (af:List Va) (n:Nat),Qv xs af/\xs.length=af.length/\s.heap.get? l=Vo { cls:=.type "list",data:=.seq af.toArray n }:=by
 obtain⟨z,af,n,r,e⟩:=I.hok l _ hH;exact⟨z,af,n,r,r.length,e⟩
theorem J4c{n:Nat}(h:n<=Vs):OA n=false:=by
 unfold OA;exact decide_eq_false #[0]
end
section
variable{X:Cx}
def Jlb:V->List V->Hp->VK->Prop:=λx vs H Q=>∃ l xs y,x=.ref l/\vs=[y]/\H l=Vo (.lst xs)/\xs.length < Vs/\Q .non (upd H l (.lst (xs++[y])))
theorem ZCb:MtM X "list.append" Jlb:=by
 intro aa s σ H x vs v us Q I rx rv h;obtain⟨l,xs,y,rfl,rfl,hH,hz,q⟩:=h;cases rx;obtain⟨u,rfl,ru⟩:=rv.one;obtain⟨z,af,n,r,hl,e⟩:=I.lstM hH;refine call_meets F.slot_list_append ⟨_,e,rfl⟩ F.entry_list_append (F.args_list_append_2 _ _) (PySem.list_append l af.toArray n u (by rw[Uy];lia)) ⟨e,?_⟩
 refine⟨.non,_,I.lset (its':=af++[u]) hH e #[2] (r.append (.cons ru .nil)) ?_,rfl,q⟩
 rw[Oh,OB]
 lia
def Jpd:V->List V->Hp->VK->Prop:=λx vs H Q=>∃ l xs,x=.ref l/\vs=[]/\H l=Vo (.lst xs)/\Q .non (upd H l (.lst []))
theorem J5c:MtM X "list.clear" Jpd:=by
 intro aa s σ H x vs v us Q I rx rv h;obtain⟨l,xs,rfl,rfl,hH,q⟩:=h;cases rx;have uH:=rv.zero;subst uH;obtain⟨z,af,n,r,hl,e⟩:=I.lstM hH;refine call_meets F.slot_list_clear ⟨_,e,rfl⟩ F.entry_list_clear (F.args_list_clear_1 _) (AutoSeq1.list_clear_list_0 l af.toArray n (by rw[Uy];lia)) ⟨e,?_⟩
 exact⟨.non,_,I.lset (its':=[]) (ys:=[]) hH e rfl .nil (Us _),rfl,q⟩
def Ysb:R2:=λx y H Q=>∃ l b xs zs,x=.ref l/\y=.ref b/\H l=Vo (.lst xs)/\H b=Vo (.lst zs)/\xs.length+zs.length<=Vs/\∀ p,H p=Vp->Q (.ref p) (upd H p (.lst (xs++zs)))
theorem ZB:OpR X (Uu .Add) Ysb:=by
 intro aa s σ H x y v u Q I rx ry h;obtain⟨l,b,xs,zs,rfl,rfl,hH,hB,hz,q⟩:=h;cases rx;cases ry;obtain⟨z,af,n,r,hl,e⟩:=I.lstM hH;obtain⟨z2,aI,n2,r2,gu,e2⟩:=I.lstM hB;refine PySem.P.add_list e e2 ?_ (by rw[Uy,Uy];lia)
 have ea:af.toArray++aI.toArray=(af++aI).toArray:=by simp
 rw[ea];exact⟨.ref _,_,I.lnew (t':=s.toks) (r.append r2) (by rw[Oh];lia),rfl,q _ I.fresh⟩
end
end L2
namespace Att
open PySem PySem.W PySem.Calls PyProof.Rows
theorem Xwa{P:Params}{h:Vq}:∀ (ns:List Int) (vs:List Va),WellAll P h vs (ns.map OC)->IntsAre vs ns:=by
 intro ns
 induction ns with
 | nil =>
  intro vs w;rw[Dx]at w;cases w;exact .nil
 | cons n ns ih =>
  intro vs w;rw[UI]at w;cases w with
  | cons a b =>
   cases a;exact .cons _ _ (ih _ b)
theorem ZKc{l:OpenLaw}{n:Nat}(hn:l.most=Vo n){P:Params}{h:Vq}{args:List WData}{hU:List Va}
 (fo:l.row.toRowW.claim.pre args=true) (nA:WellAll P h hU args) :
 ∃ a vs ns,hU=[Vk a]/\args=[WData.list (ns.map OC)]/\h.get? a=Vo { cls:=.type "list",data:=.seq vs.toArray }/\IntsAre vs ns/\ns.length<=n:=by
 have jw:WShape.hasAll [] args [.list .int]=true:=(pre_splitW fo).1;have hc:l.pre.holds [] { args:=args }=true:=(pre_splitW fo).2;obtain⟨d,r,rfl,h1,h2⟩:=hasAllW_cons jw;obtain rfl:=hasAllW_nil h2;obtain⟨xs,rfl,h3⟩:=hasW_list h1;obtain⟨ns,rfl⟩:=items_int h3;have aA:ns.length<=n:=by
  unfold OpenLaw.pre at hc;have h4:(WTm.not (.lt (.lit (.int (n:Int))) (.len (.arg 0)))).holds [] { args:=[.list (ns.map .int)] }=true:=by
   have h4:=(holds_andW hc).1;rw[hn]at h4;exact h4
  have h5:=condW_of h4 (w_not (w_lt w_lit (w_len_list (w_arg rfl))));rw[UK]at h5;refine Nat.le_of_not_lt λq=>?_
  have q':(n:Int) < ((ns.length:Nat):Int):=by lia
  first
   | (rw[decide_eq_true q']at h5;exact absurd h5 #[1])
   | (simp at h5;lia)
 cases nA with
 | cons w1 w2 =>
  cases w2;cases w1 with
  | list ho hall=>exact⟨_,_,ns,rfl,rfl,ho,Xwa ns _ hall,aA⟩
theorem ZLc(l:OpenLaw)(args:List WData):l.row.toRowW.claim.post args (.bool true) args=true :=
 postW_of (r:=l.row.toRowW) (X:=(true == true))
  (show WShape.has [] (.bool true) .bool=true by first | rfl | decide | simp[WShape.has,WShape.arms,WShape.armsAll])
  (show(WTm.eq .res (.lit (.bool true))).value [] { args:=args,res:=Vo (.bool true),after:=args }=Vo (.bool (true == true)) from w_eq_bool (w_res rfl) w_lit) rfl
end Att
namespace L2
open PySem PySem.Spec PyProof.Rows
theorem ZDb:∀ {vs:List Va} {ns:List Int},IntsAre vs ns->Qv (ns.map V.int) vs
 | _,_,.nil=>.nil
 | _,_,.cons n t h=>.cons ⟨t,rfl⟩ (ZDb h)
def Jqd(H:Hp):Prop:=∀ b,H b=Vp\/∃ o xs,H b=Vo (.frz o (.lst xs))
theorem J6c{P:Vg}{w:Vb}{K:VC}{mg mb:Str->Option Va}{CX:CXT}{k:Nat}{fa a:Vh}{fd:UU}{x:Str}{sp:Sp}{s₁:VG}{vs:List Va}{ns:List Int}
 (KX:K.In s₁.heap) (qI:s₁.heap.Ns VD mg) (hb:s₁.heap.Ns builtinsNs mb) (uI:∀ x:Str,x≠"__name__"->mb x=VE x) (nC:s₁.heap.NoLimit) (hg:s₁.gens=#[])
 (ha:s₁.heap.get? a=Vo { cls:=.type "list",data:=.seq vs.toArray }) (hi:IntsAre vs ns) (hl:ns.length<=Vs) (hr:Q1 k OD)
 (F:∀ base:Vq,K.In base->base.Ns VD mg->Qp P w K mg base CX k fa fd [x] sp) (jx:∀ (s:VG) (u:Va),BindsTo s fd ⟨[u],[]⟩ [(x,u)])
 (eQ:∀ H:Hp,Jqd H->SqL K H a (ns.map V.int)->sp [.ref a] H (λv _=>v=.bl true) λ_ _ _=>False)
 (nE:∀ H e s',CX [] H s₁ (λ_ _ _=>False) e s'->False) :
 UF (VR P w) OD (.call (.ref fa) ⟨[.ref a],[]⟩) (λr s'=>r=.ok (.ret (.bool true))/\OldK s₁.heap s'.heap/\s'.os=s₁.os/\VH s'.gens) s₁:=by
 have rv:=ZDb hi;have J7c:=hi.length;have jy:∀ H:Hp,Jqd H->SqL K H a (ns.map V.int)->HOk P w H s₁.heap->(∀ b,H b≠Vp->b=a)->(H a≠Vp->K.lookup a=Vp) ->
  UF (VR P w) OD (.call (.ref fa) ⟨[.ref a],[]⟩) (λr s'=>r=.ok (.ret (.bool true))/\OldK s₁.heap s'.heap/\s'.os=s₁.os/\VH s'.gens) s₁:=by
  intro H hO hS hok hA hK;have cO:∀ {b:Vh} {o:Obj},s₁.heap.get? b=Vo o->H b=Vp->(Jbb s₁.heap H).get? b=Vo o:=λe n=>JAc e n
  have jt:∀ {b:Vh} {o:Obj} {es:Array DictEntry} {ep:Nat},s₁.heap.get? b=Vo o->o.data=.dict es ep->H b=Vp:=λ{b o es ep} e d=>by
   cases q:H b with
   | none=>rfl
   | some u =>
    have e':b=a:=hA b (by rw[q];simp)
    subst e';rw[ha]at e;cases e;have d':Data.seq vs.toArray _=Data.dict es ep:=d;cases d'
  have lU:∀ {b:Vh} {m:Str->Option Va},s₁.heap.Ns b m->(Jbb s₁.heap H).Ns b m:=λ{b m} ⟨o,es,ep,e,d,r⟩=>⟨o,es,ep,cO e (jt e d),d,r⟩
  have qJ:K.In (Jbb s₁.heap H):=λb o e=>cO (KX b o e) (by
   cases q:H b with
   | none=>rfl
   | some u =>
    have e':b=a:=hA b (by rw[q];simp)
    subst e';rw[hK (by rw[q];simp)]at e;cases e)
  have hM:Mod K mg (Jbb s₁.heap H):=⟨qJ,lU qI,⟨mb,lU hb,uI⟩,let ⟨mc,h1,h2⟩:=nC;⟨mc,lU h1,h2⟩⟩
  have e0:XQb P w K mg (Jbb s₁.heap H) OD [] s₁ H:=⟨rfl,hM,λb o e=>XZc e,Nat.le_of_eq (Zyc _ _),trivial,λb hb=>absurd (show b∈([]:List Vh) from hb) #[2],hok,.of_eq hg⟩
  refine UX ((F _ qJ (lU qI)).run OD [] s₁ H ⟨[.ref a],[]⟩ [.ref a] [.ref a] _ _ hr e0 (jx s₁ (.ref a)) (.cons rfl .nil) (eQ H hO hS)) λr s' h=>?_
  cases r with
  | error e=>exact(nE H e s' h).elim
  | ok fl =>
   cases fl with
   | next=>exact V3 h
   | brk=>exact V3 h
   | cont=>exact V3 h
   | ret u =>
    obtain⟨v,H',os,bare,un,nF,r',q⟩:=h;have q':v=.bl true:=q;subst q';obtain rfl:u=Vj true:=r';refine⟨rfl,OldK.of_keep λb o e=>?_,os,bare⟩
    cases q:H b with
    | none=>exact un.keep b o e q (by intro z;exact absurd (show b∈([]:List Vh) from z) #[2]) #[2]
    | some u =>
     rcases hO b with z | ⟨ob,xs,z⟩
     .rw[q]at z;cases z
     .have z2:=un.frzs b ob _ z
      obtain⟨e1,_⟩:=hok b _ z;obtain⟨e2,_⟩:=nF b _ z2;rw[e]at e1;cases e1;exact e2
 cases hk:K.lookup a with
 | some o =>
  have e:=KX a o hk;rw[ha]at e;cases e;refine jy (λ_=>Vp) (λ_=>.inl rfl) (.inr ⟨_,vs.toArray,_,hk,rfl,rfl,rfl,by rw[Uy,J7c];exact hl,by simpa using rv⟩) (λb u z=>by have z':(Vp:Option HO)=Vo u:=z;cases z') (λb z=>absurd rfl z) λz=>absurd rfl z
 | none =>
  refine jy (λb=>if b=a then Vo (.frz { cls:=.type "list",data:=.seq vs.toArray } (.lst (ns.map V.int))) else Vp) (λb=>?_) (.inl (.inr ⟨{ cls:=.type "list",data:=.seq vs.toArray },if_pos rfl⟩)) (λb u z=>?_) (λb z=>?_) λ_=>hk
  .by_cases hb:b=a
   .exact .inr ⟨_,_,if_pos hb⟩
   .exact .inl (if_neg hb)
  .by_cases hb:b=a
   .have z':=(if_pos hb).symm.trans z
    cases z';subst hb;exact⟨ha,by rw[UK];exact hl,vs,_,rv,ha⟩
   .have z':=(if_neg hb).symm.trans z
    cases z'
  .by_cases hb:b=a
   .exact hb
   .exact absurd (if_neg hb) z
def Yg(s:VV):Arguments:=match s with
 | .FunctionDef _ a _ _ _ _ _ _ _ _=>a
 | _=>{ posonlyargs:=[],args:=[],vararg:=Vp,kwonlyargs:=[],kw_defaults:=[],kwarg:=Vp,defaults:=[] }
def Jg(s:VV):List VV:=match s with
 | .FunctionDef _ _ b _ _ _ _ _ _ _=>b
 | _=>[]
def Qd(s:VV):Scope:=match s with
 | .FunctionDef _ _ _ _ _ _ sc _ _ _=>sc
 | _=>{ kind:=.function,names:=[],isGenerator:=false,isCoroutine:=false }
abbrev CX0:CXT:=λ_ _ _ _ _ _=>False
abbrev E0:XK:=λ_ _ _=>False
theorem ZEb{X:Cx}:ZMa CX0 X E0:=λ_ _ _ _ _ _ _ h=>h.elim
structure Fun(K:VC)(x qual:Str)(st:VV)(f:Vh)(fd:UU):Prop where
 ex:∃ (oc:Va) (od:Option Vh) (kV aW pm:Va) (an:Option Vh) (ah ct:Va) (ce:Array (Option Va)),
  fd=Oi x qual (Yg st) (Jg st) (Qd st) .none kV aW pm an ah ct/\K.lookup f=Vo ⟨oc,od,.func fd,ce⟩/\Oj K ah qual=true
 kp:UJ K (.ref f)=true
section
variable{P:Vg}{w:Vb}{K:VC}{mg:Str->Option Va}{base:Vq}
theorem Fun.ok{x qual:Str}{st:VV}{f:Vh}{fd:UU}{N ps:List Str}{k:Nat}{sp:Sp}(F:Fun K x qual st f fd)(S:Qg N ps (Qd st))(len:∀ vs H Q E,sp vs H Q E->vs.length=ps.length)
 (bV:∀ (ah:Va) (A:VF) (outer:List Env) (s:VG) (H:Hp) (vs:List V) (Q:VK) (E:XK),Q1 k (A.deeper (U9 qual (Qd st) s.heap.objs.size f ah))->sp vs H Q E ->
  ∃ t,PSs (Xva CX0 P w K mg base N qual (Qd st) f ah A outer s H E).nox (Jg st) t/\t { nx:=λ_ H'=>Q .non H',rt:=Q } (X4 N vs) H):Qp P w K mg base CX0 (k+1) f fd ps sp:=by
 obtain⟨oc,od,kV,aW,pm,an,ah,ct,ce,rfl,lk,bu⟩:=F.ex;refine Zfd lk bu S len λA outer s H vs Q E hr eQ=>?_
 obtain⟨t,h,q⟩:=bV ah A outer s H vs Q E hr eQ;exact⟨t,h.nox,q⟩
theorem Fun.binds{x qual:Str}{st:VV}{f:Vh}{fd:UU}{ps:List Str}(F:Fun K x qual st f fd)
 (h:∀ (kV aW pm:Va) (an:Option Vh) (ah ct:Va) (us:List Va),us.length=ps.length->bindArgs (Oi x qual (Yg st) (Jg st) (Qd st) .none kV aW pm an ah ct) ⟨us,[]⟩=pure (ps.zip us)):Zz K fd ps []:=by
 obtain⟨oc,od,kV,aW,pm,an,ah,ct,ce,rfl,lk,bu⟩:=F.ex;exact .all (h kV aW pm an ah ct)
theorem Jrd{x qual:Str}{st:VV}{f:Vh}{oc:Va}{od an:Option Vh}{ce:Array (Option Va)}{kV aW pm ah ct:Va}(l:K.lookup f=Vo ⟨oc,od,.func (Oi x qual (Yg st) (Jg st) (Qd st) .none kV aW pm an ah ct),ce⟩)
 (c:Oj K ah qual=true) (k:UJ K (.ref f)=true):Fun K x qual st f (Oi x qual (Yg st) (Jg st) (Qd st) .none kV aW pm an ah ct):=⟨⟨oc,od,kV,aW,pm,an,ah,ct,ce,rfl,l,c⟩,k⟩
end
theorem Qm{n:Nat}(h:n<=1000):n < Vs:=Nat.lt_of_le_of_lt h #[1]
section
variable{X:Cx}
theorem pv(i:Nat){x:Str}{pos:Pos}(hN:X.N[i]?=Vo x:=by rfl)(hv:Vis X.env.scope x:=by first | exact Or.inl rfl | exact OE (Or.inl rfl) | exact OE (OE rfl))(hd:(x == ("__debug__":Str))=false:=by decide)
 (bu:(x == ("__classdict__":Str))=false:=by decide):PE X (.Name x pos) (Ju i):=ZLd hN hv hd bu
end
theorem Qud{A B:Prop}(h:A):if true=true then A else B:=by
 rw[if_pos rfl];exact h
theorem QR{c A B:Prop}[Decidable c](h1:c->A)(h2:¬ c->B):if c then A else B:=by
 by_cases h:c
 .rw[if_pos h]
  exact h1 h
 .rw[if_neg h]
  exact h2 h
def Qf(H H':Hp):Prop:=∀ b o,H b=Vo o->H' b=Vo o
theorem Qf.refl(H:Hp):Qf H H:=λ_ _ h=>h
theorem Qf.trans{H H1 H2:Hp}(a:Qf H H1)(b:Qf H1 H2):Qf H H2:=λc o h=>b c o (a c o h)
theorem Qf.seq{K:VC}{H H':Hp}{a:Vh}{xs:List V}(e:Qf H H')(h:SqL K H a xs):SqL K H' a xs:=by
 rcases h with (h | ⟨o,h⟩) | h
 .exact .inl (.inl (e _ _ h))
 .exact .inl (.inr ⟨o,e _ _ h⟩)
 .exact .inr h
section
variable{κ:Type}[DecidableEq κ]
def Q7(kvs:List (κ×V))(k:κ):Option V:=(kvs.find? λkv=>decide (kv.1=k)).map (·.2)
def ZC(kvs:List (κ×V))(k:κ)(v:V):List (κ×V) :=
 if (kvs.any λkv=>decide (kv.1=k))=true then kvs.map (λkv=>if kv.1=k then (kv.1,v) else kv) else kvs++[(k,v)]
def Y4a(kvs:List (κ×V))(k:κ):List (κ×V):=kvs.filter λkv=>decide (kv.1≠k)
theorem Qia{p:κ×V}{r:List (κ×V)}{k:κ}(e:p.1=k):Q7 (p::r) k=Vo p.2:=by simp[Q7,OF,e]
theorem Qja{p:κ×V}{r:List (κ×V)}{k:κ}(e:¬ p.1=k):Q7 (p::r) k=Q7 r k:=by simp[Q7,OF,e]
theorem Jxa(k:κ):∀ kvs:List (κ×V),(kvs.any λkv=>decide (kv.1=k))=(Q7 kvs k).isSome
 | []=>rfl
 | p::r=>by
  rw[Ow]
  by_cases e:p.1=k
  .simp only[Qia e,decide_eq_true e,Bool.true_or,Option.isSome_some]
  .rw[Qja e,decide_eq_false e,Bool.false_or];exact Jxa k r
theorem Qka(kvs:List (κ×V))(k:κ)(v:V):(ZC kvs k v).length<=kvs.length+1:=by
 unfold ZC
 split
 .rw[UK];lia
 .rw[Oh,UC,OG];lia
theorem J8c{kvs:List (κ×V)}{k:κ}(v:V)(h:Q7 kvs k=Vp):ZC kvs k v=kvs++[(k,v)]:=by
 unfold ZC;rw[Jxa,h];exact if_neg #[1]
theorem YX.isSome_eq{o:Option V}{u:Option Va}(r:YX o u):o.isSome=u.isSome:=by
 cases o with
 | none=>cases u with
  | none=>rfl
  | some _=>exact(show False from r).elim
 | some _=>cases u with
  | none=>exact(show False from r).elim
  | some _=>rfl
theorem YX.getD{o:Option V}{u:Option Va}{d:V}{d':Va}(r:YX o u)(rd:Qt d d'):Qt (o.getD d) (u.getD d'):=by
 cases o with
 | none=>cases u with
  | none=>exact rd
  | some _=>exact(show False from r).elim
 | some _=>cases u with
  | none=>exact(show False from r).elim
  | some _=>exact r
theorem KV.val{kvs:List (κ×V)}{vs:List (κ×Va)}(r:KV kvs vs)(k:κ):YX (Q7 kvs k) (OH vs k):=by
 unfold KV at r
 induction r with
 | nil=>exact UL
 | @cons p q ps qs h t ih =>
  obtain⟨h1,h2⟩:=h
  by_cases e:p.1=k
  .have e':q.1=k:=h1.symm.trans e
   have b:OH (q::qs) k=Vo q.2:=by simp[OH,OF,e']
   rw[Qia e,b];exact h2
  .have e':¬ q.1=k:=λz=>e (h1.trans z)
   have b:OH (q::qs) k=OH qs k:=by simp[OH,OF,e']
   rw[Qja e,b];exact ih
theorem KV.any{kvs:List (κ×V)}{vs:List (κ×Va)}(r:KV kvs vs)(k:κ):(kvs.any λkv=>decide (kv.1=k))=vs.any λkv=>decide (kv.1=k):=by
 unfold KV at r
 induction r with
 | nil=>rfl
 | cons h t ih=>rw[Ow,Ow,ih,h.1]
theorem KV.repl{kvs:List (κ×V)}{vs:List (κ×Va)}(r:KV kvs vs)(k:κ){y:V}{u:Va}(ry:Qt y u) :
 KV (kvs.map λkv=>if kv.1=k then (kv.1,y) else kv) (vs.map λkv=>if kv.1=k then (kv.1,u) else kv):=by
 unfold KV at r ⊢
 induction r with
 | nil=>exact .nil
 | @cons p q ps qs h t ih =>
  rw[UI,UI];refine .cons ?_ ih
  obtain⟨h1,h2⟩:=h
  by_cases e:p.1=k
  .rw[if_pos e,if_pos (h1.symm.trans e)];exact⟨h1,ry⟩
  .rw[if_neg e,if_neg (λz=>e (h1.trans z))];exact⟨h1,h2⟩
theorem KV.put{kvs:List (κ×V)}{vs:List (κ×Va)}(r:KV kvs vs)(k:κ){y:V}{u:Va}(ry:Qt y u):KV (ZC kvs k y) (OI vs k u):=by
 unfold ZC OI;rw[r.any k]
 by_cases e:(vs.any λkv=>decide (kv.1=k))=true
 .rw[if_pos e,if_pos e];exact r.repl k ry
 .rw[if_neg e,if_neg e];exact OJ r ⟨rfl,ry⟩
theorem KV.drop{kvs:List (κ×V)}{vs:List (κ×Va)}(r:KV kvs vs)(k:κ):KV (Y4a kvs k) (without vs k):=by
 unfold KV at r ⊢;unfold Y4a without
 induction r with
 | nil=>exact .nil
 | @cons p q ps qs h t ih =>
  obtain⟨h1,h2⟩:=h;rw[OL,OL]
  by_cases e:p.1=k
  .have a:¬ decide (p.1≠k)=true:=by simp[e]
   have b:¬ decide (q.1≠k)=true:=by simp[h1.symm.trans e]
   rw[if_neg a,if_neg b];exact ih
  .have e':¬ q.1=k:=λz=>e (h1.trans z)
   have a:decide (p.1≠k)=true:=by simp[e]
   have b:decide (q.1≠k)=true:=by simp[e']
   rw[if_pos a,if_pos b];exact .cons ⟨h1,h2⟩ ih
theorem KV.length{kvs:List (κ×V)}{vs:List (κ×Va)}(r:KV kvs vs):kvs.length=vs.length:=Vn r
theorem J9c(kvs:List (κ×V))(k:κ):(Y4a kvs k).length<=kvs.length:=OM _ _
end
theorem Y5a{P:Vg}{w:Vb}{k:Key}{u:Va}(r:Qt (kV k) u):(QC P w).is k u=true:=by
 cases k with
 | inl i=>obtain⟨t,e⟩:=(show ∃ t,u=Vd i t from r);subst e;exact Ygb P w i t
 | inr x=>obtain⟨t,e⟩:=(show ∃ t,u=Vf x t from r);subst e;exact Yhb P w x t
theorem ZFb{P:Vg}{w:Vb}:∀ {ks:List Key} {us:List Va},Qv (ks.map kV) us->ItemsAre (QC P w) ks us
 | [],_,r=>by rw[Dx]at r;cases r;exact .nil
 | k::ks,_,r=>by
  rw[UI]at r;cases r with
  | cons h t=>exact .cons (Y5a h) (ZFb t)
abbrev KT(H:Hp):List (List Key×V)->List (List Key×Vh×Va)->Prop:=Vm λp q=>p.1=q.1/\H q.2.1=Vo (.tup (p.1.map kV))/\Qt p.2 q.2.2
theorem KT.val{H:Hp}{kvs:List (List Key×V)}{xs:List (List Key×Vh×Va)}(r:KT H kvs xs)(k:List Key):YX (Q7 kvs k) ((ON xs k).map (·.2)):=by
 induction r with
 | nil=>exact UL
 | @cons p q ps qs h t ih =>
  obtain⟨h1,_,h2⟩:=h
  by_cases e:p.1=k
  .have e':q.1=k:=h1.symm.trans e
   have b:ON (q::qs) k=Vo q.2:=by simp[ON,OF,e']
   rw[Qia e,b];exact h2
  .have e':¬ q.1=k:=λz=>e (h1.trans z)
   have b:ON (q::qs) k=ON qs k:=by simp[ON,OF,e']
   rw[Qja e,b];exact ih
theorem KT.repl{H:Hp}{kvs:List (List Key×V)}{xs:List (List Key×Vh×Va)}(r:KT H kvs xs)(k:List Key){y:V}{u:Va}(ry:Qt y u) :
 KT H (kvs.map λkv=>if kv.1=k then (kv.1,y) else kv) (xs.map (putAt k u)):=by
 induction r with
 | nil=>exact .nil
 | @cons p q ps qs h t ih =>
  rw[UI,UI];refine .cons ?_ ih
  obtain⟨h1,h2,h3⟩:=h;unfold putAt
  by_cases e:p.1=k
  .rw[if_pos e,if_pos (h1.symm.trans e)];exact⟨h1,h2,ry⟩
  .rw[if_neg e,if_neg (λz=>e (h1.trans z))];exact⟨h1,h2,h3⟩
theorem KT.put{H:Hp}{kvs:List (List Key×V)}{xs:List (List Key×Vh×Va)}(r:KT H kvs xs)(k:List Key){b:Vh}{y:V}{u:Va}(hb:H b=Vo (.tup (k.map kV)))(ry:Qt y u) :
 KT H (ZC kvs k y) (storedH xs k b u):=by
 have e:(kvs.any λkv=>decide (kv.1=k))=(ON xs k).isSome:=by
  rw[Jxa,(r.val k).isSome_eq,OO]
 unfold ZC storedH;rw[e]
 by_cases q:(ON xs k).isSome=true
 .rw[if_pos q,if_pos q];exact r.repl k ry
 .rw[if_neg q,if_neg q];exact OJ r ⟨rfl,hb,ry⟩
theorem KT.keeps{H H':Hp}{kvs:List (List Key×V)}{xs:List (List Key×Vh×Va)}(r:KT H kvs xs)(ht:∀ b ys,H b=Vo (.tup ys)->H' b=Vo (.tup ys)):KT H' kvs xs :=
 Paired.mapP r λ_ _ z=>⟨z.1,ht _ _ z.2.1,z.2.2⟩
section
variable{P:Vg}{w:Vb}{H:Hp}{h:Vq}{a:Vh}
theorem Zhd{u:HO}(ok:HOk P w H h)(e:Rd H a u):QN P w H h a u:=e.ok ok
theorem Qla{kvs:List (Key×V)}(ok:HOk P w H h)(e:Rd H a (.dK kvs)):kvs.length<=Vs/\(a == Vu)=false/\∃ vs,KV kvs vs/\h.DictOf (QC P w) a vs :=
 show QN P w H h a (.dK kvs) from Zhd ok e
theorem Yac{kvs:List (Key×V)}(ok:HOk P w H h)(e:H a=Vo (.dK kvs)):kvs.length<=Vs/\(a == Vu)=false/\∃ vs,KV kvs vs/\h.DictOf (QC P w) a vs:=Qla ok (.inl e)
theorem Yt{ks:List Key}(ok:HOk P w H h)(e:H a=Vo (.tup (ks.map kV))):(Vv (QC P w)).is h ks a:=by
 obtain⟨_,af,r,o,h1,h2,n,h3⟩:=(show QN P w H h a (.tup (ks.map kV)) from ok a _ e)
 exact⟨o,af.toArray,n,h1,h2,h3,by simpa using ZFb r⟩
theorem Y6a{kvs:List (List Key×V)}(ok:HOk P w H h)(e:Rd H a (.dT kvs)):kvs.length<=Vs/\(a == Vu)=false /\
 ∃ xs,KT H kvs xs/\h.DictOfH (Vv (QC P w)) a xs:=by
 obtain⟨z,y,xs,r,o,es,ep,h1,h2,h3,h4,h5⟩:=(show QN P w H h a (.dT kvs) from Zhd ok e)
 refine⟨z,y,xs,r,o,es,ep,h1,h2,h3,h4,λx hx=>?_,h5⟩
 have all:∀ {l:List (List Key×V)} {m:List (List Key×Vh×Va)},KT H l m->∀ x∈m,(Vv (QC P w)).is h x.1 x.2.1:=by
  intro l m q
  induction q with
  | nil=>intro x hx;exact nomatch hx
  | @cons p q ps qs hq t ih =>
   intro x hx
   rcases mem_cons.mp hx with e | hx
   .subst e
    exact Yt ok (by rw[<- hq.1];exact hq.2.1)
   .exact ih x hx
 exact all r x hx
theorem YId{kvs:List (List Key×V)}(ok:HOk P w H h)(e:H a=Vo (.dT kvs)):kvs.length<=Vs/\(a == Vu)=false /\
 ∃ xs,KT H kvs xs/\h.DictOfH (Vv (QC P w)) a xs:=Y6a ok (.inl e)
end
def Zr(H:Hp)(a:Vh)(y:V)(r:Option V):Prop :=
 (∃ kvs k,Rd H a (.dK kvs)/\y=kV k/\r=Q7 kvs k)\/∃ kvs k b,Rd H a (.dT kvs)/\y=.ref b/\H b=Vo (.tup (k.map kV))/\r=Q7 kvs k
def Xb(H:Hp)(a:Vh)(y v:V)(H':Hp):Prop :=
 (∃ kvs k,H a=Vo (.dK kvs)/\y=kV k/\kvs.length < Vs/\H'=upd H a (.dK (ZC kvs k v))) \/
 ∃ kvs k b,H a=Vo (.dT kvs)/\y=.ref b/\H b=Vo (.tup (k.map kV))/\kvs.length < Vs/\H'=upd H a (.dT (ZC kvs k v))
theorem Zr.k{H:Hp}{a:Vh}{kvs:List (Key×V)}{k:Key}(e:H a=Vo (.dK kvs)):Zr H a (kV k) (Q7 kvs k):=.inl ⟨kvs,k,.inl e,rfl,rfl⟩
theorem Xb.k{H:Hp}{a:Vh}{kvs:List (Key×V)}{k:Key}{v:V}(e:H a=Vo (.dK kvs))(hl:kvs.length < Vs):Xb H a (kV k) v (upd H a (.dK (ZC kvs k v))):=.inl ⟨kvs,k,e,rfl,hl,rfl⟩
section
variable{X:Cx}{aa:YP_}{σ:St}{H:Hp}{s:VG}{a:Vh}{y v:V}{u r:Va}{o:Option V}{A:VF}{E:YQ_}
theorem Inv.big(I:Inv X aa σ H s):Vu < s.heap.objs.size:=by
 have h:VD < s.heap.objs.size:=(I.mod.glob.keeps I.bk).lt;exact Nat.lt_trans #[1] h
theorem ZMc{Q:YQ_}(hu:A.units+1 < UR)(I:Inv X aa σ H s)(g:Zr H a y (Vo v))(ry:Qt y u)(h:∀ w' s',Inv X aa σ H s'->Qt v w'->Q w' s') :
 VQ (VR X.prog X.w) A (Oo (.ref a) u) Q E s:=by
 rcases g with ⟨kvs,k,e,ey,l⟩ | ⟨kvs,k,b,e,ey,eb,l⟩
 .subst ey
  obtain⟨z,hd,vs,aH,dd⟩:=Qla I.hok e;obtain⟨w',hw,bj⟩:=YX.some_of (v:=v) (o:=OH vs k) (by rw[l];exact aH.val k)
  exact wpAny_getItem_of (Y5a ry) dd.mapOf hw (h w' _ (I.tok _) bj)
 .subst ey
  cases (show u=Vk b from ry)
  obtain⟨z,hd,xs,aH,dd⟩:=Y6a I.hok e;obtain⟨w',hw,bj⟩:=YX.some_of (v:=v) (o:=(ON xs k).map (·.2)) (by rw[l];exact aH.val k)
  obtain⟨p,hp,aP⟩:=Option.map_eq_some_iff.mp hw;refine wpAny_getItem_heap (OP hu) (Yt I.hok eb) dd hp ?_
  rw[aP];exact h w' _ (I.tok _) bj
theorem Xcd{Q:YQ_}(hu:A.units+1 < UR)(I:Inv X aa σ H s)(g:Zr H a y o)(ry:Qt y u)(h:∀ s',Inv X aa σ H s'->Q (.bool o.isSome) s') :
 VQ (VR X.prog X.w) A (VX .In u (.ref a)) Q E s:=by
 rcases g with ⟨kvs,k,e,ey,l⟩ | ⟨kvs,k,b,e,ey,eb,l⟩
 .subst ey
  obtain⟨z,hd,vs,aH,dd⟩:=Qla I.hok e;refine wpAny_in_of (Y5a ry) hd dd.mapOf ?_
  rw[<- (aH.val k).isSome_eq,<- l];exact h _ (I.tok _)
 .subst ey
  cases (show u=Vk b from ry)
  obtain⟨z,hd,xs,aH,dd⟩:=Y6a I.hok e;refine wpAny_in_heap (OP hu) (Yt I.hok eb) hd dd ?_
  have q:=(aH.val k).isSome_eq;rw[OO]at q;rw[<- q,<- l];exact h _ (I.tok _)
theorem Qvd{Q:YQ_}(hu:A.units+1 < UR)(I:Inv X aa σ H s)(g:Zr H a y o)(ry:Qt y u)(h:∀ s',Inv X aa σ H s'->Q (.bool (!o.isSome)) s') :
 VQ (VR X.prog X.w) A (VX .NotIn u (.ref a)) Q E s:=by
 rcases g with ⟨kvs,k,e,ey,l⟩ | ⟨kvs,k,b,e,ey,eb,l⟩
 .subst ey
  obtain⟨z,hd,vs,aH,dd⟩:=Qla I.hok e;refine wpAny_notIn_of (Y5a ry) hd dd.mapOf ?_
  rw[<- (aH.val k).isSome_eq,<- l];exact h _ (I.tok _)
 .subst ey
  cases (show u=Vk b from ry)
  obtain⟨z,hd,xs,aH,dd⟩:=Y6a I.hok e;refine wpAny_notIn_heap (OP hu) (Yt I.hok eb) hd dd ?_
  have q:=(aH.val k).isSome_eq;rw[OO]at q;rw[<- q,<- l];exact h _ (I.tok _)
theorem Jya{h':Vq}{t':Nat}{ob:HO}(I:Inv X aa σ H s)(mu:Mut (H a))(hs:VP a s.heap h')(he:∃ q,h'.get? a=Vo q)(new:QN X.prog X.w (upd H a ob) h' a ob) :
 Inv X aa σ (upd H a ob) { s with heap:=h',toks:=t' } :=
 I.write (x:=a) (e:=a) mu (.inl rfl) (λb q hb z=>(hs.2 b hb).trans z) he new
theorem XTb{P:Vg}{w:Vb}{H':Hp}{h':Vq}{kvs:List (Key×V)}{vs:List (Key×Va)}(z:kvs.length<=Vs)(hd:(a == Vu)=false)(aH:KV kvs vs)(dd:h'.DictOf (QC P w) a vs) :
 QN P w H' h' a (.dK kvs):=⟨z,hd,vs,aH,dd⟩
theorem ZNc{H':Hp}{Q:Unit->VG->Prop}(hu:A.units+1 < UR)(I:Inv X aa σ H s)(g:Xb H a y v H')(ry:Qt y u)(rv:Qt v r)(h:∀ s',Inv X aa σ H' s'->Q () s') :
 VQ (VR X.prog X.w) A (setItem (.ref a) u r) Q E s:=by
 rcases g with ⟨kvs,k,e,ey,l,eH⟩ | ⟨kvs,k,b,e,ey,eb,l,eH⟩
 .subst ey eH
  obtain⟨z,hd,vs,aH,dd⟩:=Yac I.hok e;have hz:vs.length<=Vs:=by rw[<- aH.length];exact z
  have hl:(ZC kvs k v).length<=Vs:=by have:=Qka kvs k v;lia
  refine wpAny_setItem_pairs (hsz:=hz) (Y5a ry) dd λh' dA hs=>h _ ?_
  have he:∃ q,h'.get? a=Vo q:=let ⟨q,_,_,hq,_⟩:=dA;⟨q,hq⟩
  exact Jya I (by rw[e];exact UL) hs he (XTb hl hd (aH.put k rv) dA)
 .subst ey eH
  cases (show u=Vk b from ry)
  obtain⟨z,hd,xs,aH,dd⟩:=YId I.hok e;have hz:xs.length<=Vs:=by rw[<- Vn aH];exact z
  have hl:(ZC kvs k v).length<=Vs:=by have:=Qka kvs k v;lia
  refine wpAny_setItem_heap (hsz:=hz) (OP hu) (Yt I.hok eb) dd λh' dA hs=>h _ ?_
  obtain⟨q,es,ep,hq,h2,h3,h4,_,h5⟩:=dA;refine Jya I (by rw[e];exact UL) hs ⟨q,hq⟩ ⟨hl,hd,_,(aH.put k eb rv).keeps λc ys ec=>?_,q,es,ep,hq,h2,h3,h4,h5⟩
  rw[Qe (Zj ec e (λz=>nomatch z))]
  exact ec
end
section
variable{X:Cx}{aa:YP_}{σ:St}{H:Hp}{s:VG}{a:Vh}{kvs:List (Key×V)}{k:Key}{u:Va}{A:VF}{E:YQ_}
theorem YJd{v:V}{more:List Va}{Q:YQ_}(I:Inv X aa σ H s)(e:H a=Vo (.dK kvs))(ry:Qt (kV k) u)(l:Q7 kvs k=Vo v)(hm:more=[]\/∃ x,more=[x])
 (h:∀ w' s',Inv X aa σ (upd H a (.dK (Y4a kvs k))) s'->Qt v w'->Q w' s'):VQ (VR X.prog X.w) A (Ut (.builtin "dict.pop") (.ref a::u::more)) Q E s:=by
 obtain⟨z,hd,vs,aH,dd⟩:=Yac I.hok e;obtain⟨w',hw,bj⟩:=YX.some_of (v:=v) (o:=OH vs k) (by rw[<- l];exact aH.val k)
 have hp:(keyPart u).isSome=true:=by
  cases k with
  | inl i=>obtain⟨t,q⟩:=(show ∃ t,u=Vd i t from ry);subst q;rfl
  | inr x=>obtain⟨t,q⟩:=(show ∃ t,u=Vf x t from ry);subst q;rfl
 have ha:argsOk "dict.pop" ⟨.ref a::u::more,[]⟩:=by
  rcases hm with q | ⟨x,q⟩
  .subst q;exact F.args_dict_pop_2 _ _
  .subst q;exact F.args_dict_pop_3 _ _ _
 refine OQ F.slot_dict_pop dd.typeIs F.entry_dict_pop ha (meets_dict_pop_there (QC X.prog X.w) a (Y5a ry) more hm hp)
  ⟨vs,w',dd,by rw[<- aH.length];exact z,hw,λh' dA hs=>h w' _ ?_ bj⟩
 have he:∃ q,h'.get? a=Vo q:=let ⟨q,_,_,hq,_⟩:=dA;⟨q,hq⟩
 exact Jya I (by rw[e];exact UL) hs he (XTb (VI (J9c kvs k) z) hd (aH.drop k) dA)
theorem YKd{Q:YQ_}(I:Inv X aa σ H s)(e:Rd H a (.dK kvs))(h:∀ t s',Inv X aa σ H s'->Q (.int kvs.length t) s'):VQ (VR X.prog X.w) A (Ut (.builtin "len") [.ref a]) Q E s:=by
 obtain⟨z,hd,vs,aH,dd⟩:=Qla I.hok e;refine call_len_dict hd dd (by rw[<- aH.length];rw[Ux]at z;lia) ?_
 rw[<- aH.length];exact h _ _ (I.tok _)
end
def Jsd(i:Expr):Prop:=∀ ov iv,Oq i false ov iv=operate [ov,iv] (Oo ov iv)
theorem QVc{prog:Vg}{w:Vb}{A:VF}{E:YQ_}{s:VG}{env:Env}{value slice:Expr}{pos:Pos}{T id:String}{Q:YQ_}
 (hl:On (.type T) "__getitem__"=pure (Vo (.builtin id))) (hs:Jsd slice)
 (h:VQ (VR prog w) A (VS value env) (λo s₁=>VQ (VR prog w) A (VS slice env) (λi s₂=>s₂.TypeIs o T/\VQ (VR prog w) A (Oo o i) Q E s₂) E s₁) E s) :
 VQ (VR prog w) A (VS (.Subscript value slice pos) env) Q E s:=by
 refine Subscript_ (VW h (λo s₁ h₁=>VW h₁ (λi s₂ h₂=>?_) λ_ _ x=>x) λ_ _ x=>x)
 obtain⟨hT,h₂⟩:=h₂;unfold subscriptTail;refine V8 ?_
 rw[getitemInPython_of_ne hT.not_modules];refine V8 (wpAny_specialOf hT hl ?_)
 have fin:VQ (VR prog w) A (Oq slice false o i) (λr s₃=>VQ (VR prog w) A (letTemporaryGo value o r >>= λ_=>pure r) Q E s₃) E s₂:=by
  rw[hs o i];exact wpAny_operating (VW h₂ (λr s₃ h₃=>V8 (wpAny_letTemporaryGo (Ui h₃))) λ_ _ x=>x)
 first
  | exact Ui (V8 fin)
  | exact V8 (Ui (V8 fin))
  | exact V8 fin
theorem Ytb{X:Cx}{aa:YP_}{σ:St}{H:Hp}{s:VG}{a:Vh}{y:V}{o:Option V}(I:Inv X aa σ H s)(g:Zr H a y o):s.TypeIs (.ref a) "dict":=by
 rcases g with ⟨kvs,k,e,_,_⟩ | ⟨kvs,k,b,e,_,_,_⟩
 .obtain⟨_,_,vs,_,dd⟩:=Qla I.hok e
  exact dd.typeIs
 .obtain⟨_,_,xs,_,dd⟩:=Y6a I.hok e
  exact dd.typeIs
def Ybc(td ty:TE):TE:=λσ H Q=>td σ H λx H1=>ty σ H1 λy H2=>∃ a v,x=.ref a/\Zr H2 a y (Vo v)/\Q v H2
def Jtd(ty td:TE):TE:=λσ H Q=>ty σ H λy H1=>td σ H1 λx H2=>∃ a o,x=.ref a/\Zr H2 a y o/\Q (.bl o.isSome) H2
def Jmb(ty td:TE):TE:=λσ H Q=>ty σ H λy H1=>td σ H1 λx H2=>∃ a o,x=.ref a/\Zr H2 a y o/\Q (.bl (!o.isSome)) H2
def Ycc(td ty tv:TE):TS:=λD σ H=>tv σ H λv H1=>td σ H1 λx H2=>ty σ H2 λy H3=>∃ a H4,x=.ref a/\Xb H3 a y v H4/\D.nx σ H4
section
variable{X:Cx}{o i e value:Expr}{pos aL bC:Pos}{td ty tv:TE}
theorem Ze(hu:X.A.units+1 < UR)(ho:PE X o td)(hi:PE X i ty)(hs:Jsd i):PE X (.Subscript o i pos) (Ybc td ty):=by
 intro aa s σ H Q I h;refine QVc F.slot_dict_getitem.lookup hs (thn (ho aa s σ H _ I h) λu s1 ⟨x,H1,I1,rx,q1⟩=>thn (hi aa s1 σ H1 _ I1 q1) λiv s2 hZ=>?_)
 obtain⟨y,H2,I2,ry,a,v,ex,g,q2⟩:=hZ;subst ex;obtain rfl:u=Vk a:=rx;exact⟨Ytb I2 g,ZMc hu I2 g ry λw' s3 I3 bj=>⟨v,H2,I3,bj,q2⟩⟩
theorem Ydc(hu:X.A.units+1 < UR)(hi:PE X i ty)(ho:PE X o td):PC X .In i o (Jtd ty td):=by
 intro aa s σ H Q I h;refine thn (hi aa s σ H _ I h) λiv s1 ⟨y,H1,I1,ry,q1⟩=>thn (ho aa s1 σ H1 _ I1 q1) λu s2 hZ=>?_
 obtain⟨x,H2,I2,rx,a,ov,ex,g,q2⟩:=hZ;subst ex;obtain rfl:u=Vk a:=rx;exact Xcd hu I2 g ry λs3 I3=>⟨.bl ov.isSome,H2,I3,rfl,q2⟩
theorem ZGb(hu:X.A.units+1 < UR)(hi:PE X i ty)(ho:PE X o td):PC X .NotIn i o (Jmb ty td):=by
 intro aa s σ H Q I h;refine thn (hi aa s σ H _ I h) λiv s1 ⟨y,H1,I1,ry,q1⟩=>thn (ho aa s1 σ H1 _ I1 q1) λu s2 hZ=>?_
 obtain⟨x,H2,I2,rx,a,ov,ex,g,q2⟩:=hZ;subst ex;obtain rfl:u=Vk a:=rx;exact Qvd hu I2 g ry λs3 I3=>⟨.bl (!ov.isSome),H2,I3,rfl,q2⟩
theorem ZY(hu:X.A.units+1 < UR)(ho:PE X o td)(hi:PE X i ty)(hv:PE X value tv)(hs:V5 value (Vo (.Subscript o i aL)) pos.line X.env=pure false) :
 PS X (.Assign [.Subscript o i aL] value pos) (Ycc td ty tv):=by
 intro aa s σ H D I h;refine wpAny_Assign_Subscript (thn (hv aa s σ H _ I h) λr s1 ⟨v,H1,I1,rv,q1⟩=>thn (ho aa s1 σ H1 _ I1 q1) λu s2 ⟨x,H2,I2,rx,q2⟩=>thn (hi aa s2 σ H2 _ I2 q2) λiv s3 hZ=>?_) hs
 obtain⟨y,H3,I3,ry,a,H4,ex,g,q3⟩:=hZ;subst ex;obtain rfl:u=Vk a:=rx;exact ZNc hu I3 g ry rv λs4 I4=>⟨σ,H4,I4,q3⟩
end
theorem Yec{P:Vg}{w:Vb}{H:Hp}(h:Vq)(hb:Vu < h.objs.size):QN P w H (h.push { cls:=.type "dict",data:=.dict #[] }) h.objs.size (.dK []) :=
 ⟨Us _,beq_eq_false_iff_ne.mpr (VN (VA hb)),[],.nil,Heap.DictOf.new h⟩
def XUb:TE:=λ_ H Q=>∀ p,H p=Vp->Q (.ref p) (upd H p (.dK []))
section
variable{X:Cx}{pos:Pos}
theorem JN:PE X (.Dict [] [] pos) XUb:=λaa s σ H Q I h =>
 wpAny_Dict_empty ⟨.ref s.heap.objs.size,_,I.laid (a:=s.heap.objs.size) (o:=.dK []) (t':=s.toks) (λ_ _ q=>Uk _ q) (Um _) (Yec s.heap I.big),rfl,h _ (I.hok.fresh (Um _))⟩
end
def JZ(kvs more:List (Key×V)):List (Key×V):=more.foldl (λaJ kv=>ZC aJ kv.1 kv.2) kvs
theorem KV.merge:∀ {more:List (Key×V)} {rs:List (Key×Va)} {kvs:List (Key×V)} {vs:List (Key×Va)},KV more rs->KV kvs vs->KV (JZ kvs more) (OR vs rs):=by
 intro more rs kvs vs r;unfold KV at r
 induction r generalizing kvs vs with
 | nil=>intro q;exact q
 | @cons p q ps qs h t ih =>
  intro r0;have e:KV (ZC kvs p.1 p.2) (OI vs q.1 q.2):=by
   have:=r0.put p.1 h.2;rw[<- h.1];exact this
  exact ih e
theorem YY:∀ (more kvs:List (Key×V)),(JZ kvs more).length<=kvs.length+more.length
 | [],kvs=>by show kvs.length<=kvs.length+0;lia
 | p::r,kvs=>by
  have h1:=YY r (ZC kvs p.1 p.2);have h2:=Qka kvs p.1 p.2;show(JZ (ZC kvs p.1 p.2) r).length<=_;rw[UC];lia
structure M1(X:Cx)(o:Expr)(m:Str)(aj:Pos)(e:Expr)(aq:Pos):Prop where
 base:UN o m X.env (VS o X.env)=VS o X.env
 few:((VT aq (VU [e] X.env)).all (λx=>!x.1) && (U3 aq (U4 [] X.env)).all (λx=>x.1.isSome)
  && decide (([e]:List Expr).length+([]:List U2).length+(if ([]:List U2).isEmpty then 0 else 1) < 30))=true
 line:(aj.endLine == aq.line)=true
 trees:VT aq (VU [e] X.env)=[(false,VS e X.env)]
structure M2(X:Cx)(o:Expr)(m:Str)(aj:Pos)(e f:Expr)(aq:Pos):Prop where
 base:UN o m X.env (VS o X.env)=VS o X.env
 few:((VT aq (VU [e,f] X.env)).all (λx=>!x.1) && (U3 aq (U4 [] X.env)).all (λx=>x.1.isSome)
  && decide (([e,f]:List Expr).length+([]:List U2).length+(if ([]:List U2).isEmpty then 0 else 1) < 30))=true
 line:(aj.endLine == aq.line)=true
 trees:VT aq (VU [e,f] X.env)=[(false,VS e X.env),(false,VS f X.env)]
def IsD(H:Hp)(a:Vh):Prop:=(∃ kvs,Rd H a (.dK kvs))\/∃ kvs,Rd H a (.dT kvs)
theorem X1a{X:Cx}{aa:YP_}{σ:St}{H:Hp}{s:VG}{a:Vh}(I:Inv X aa σ H s)(d:IsD H a) :
 s.TypeIs (.ref a) "dict"/\(∀ b,Vk a=.ref b->∃ ob,s.heap.get? b=Vo ob/\ob.dict=Vp)/\(a == Vu)=false:=by
 rcases d with ⟨kvs,e⟩ | ⟨kvs,e⟩
 .obtain⟨_,hd,vs,_,dd⟩:=Qla I.hok e
  refine⟨dd.typeIs,λb q=>?_,hd⟩
  cases q;obtain⟨ob,_,_,h1,h2,_⟩:=dd;exact⟨ob,h1,h2.2.1⟩
 .obtain⟨_,hd,xs,_,dd⟩:=Y6a I.hok e
  refine⟨dd.typeIs,λb q=>?_,hd⟩
  cases q;obtain⟨ob,_,_,h1,h2,_⟩:=dd;exact⟨ob,h1,h2.2.1⟩
section
variable{X:Cx}{aa:YP_}{σ:St}{H:Hp}{s:VG}{a:Vh}{y d:V}{u r:Va}{o:Option V}{A:VF}{E:YQ_}
theorem Jud{Q:YQ_}(hu:A.units+1 < UR)(I:Inv X aa σ H s)(g:Zr H a y o)(ry:Qt y u)(h:∀ w' s',Inv X aa σ H s'->Qt (o.getD .non) w'->Q w' s') :
 VQ (VR X.prog X.w) A (Ut (.builtin "dict.get") [.ref a,u]) Q E s:=by
 rcases g with ⟨kvs,k,e,ey,l⟩ | ⟨kvs,k,b,e,ey,eb,l⟩
 .subst ey
  obtain⟨z,hd,vs,aH,dd⟩:=Qla I.hok e;refine OQ OS dd.typeIs OT (F.args_dict_get_2 _ _) (meets_dict_get (QC X.prog X.w) a (Y5a ry) hd) ⟨_,dd.mapOf,h _ _ (I.tok _) ?_⟩
  rw[l];exact(aH.val k).getD rfl
 .subst ey
  cases (show u=Vk b from ry)
  obtain⟨z,hd,xs,aH,dd⟩:=Y6a I.hok e;refine OQ OS dd.typeIs OT (F.args_dict_get_2 _ _) (meetsH_dict_get (Vv (QC X.prog X.w)) a b hd) ⟨OP hu,k,xs,Yt I.hok eb,dd,h _ _ (I.tok _) ?_⟩
  rw[l];exact(aH.val k).getD rfl
theorem Jvd{Q:YQ_}(hu:A.units+1 < UR)(I:Inv X aa σ H s)(g:Zr H a y o)(ry:Qt y u)(rd:Qt d r)(h:∀ w' s',Inv X aa σ H s'->Qt (o.getD d) w'->Q w' s') :
 VQ (VR X.prog X.w) A (Ut (.builtin "dict.get") [.ref a,u,r]) Q E s:=by
 rcases g with ⟨kvs,k,e,ey,l⟩ | ⟨kvs,k,b,e,ey,eb,l⟩
 .subst ey
  obtain⟨z,hd,vs,aH,dd⟩:=Qla I.hok e;refine OQ OS dd.typeIs OT (F.args_dict_get_3 _ _ _) (meets_dict_get_default (QC X.prog X.w) a (Y5a ry) hd r) ⟨_,dd.mapOf,h _ _ (I.tok _) ?_⟩
  rw[l];exact(aH.val k).getD rd
 .subst ey
  cases (show u=Vk b from ry)
  obtain⟨z,hd,xs,aH,dd⟩:=Y6a I.hok e;refine OQ OS dd.typeIs OT (F.args_dict_get_3 _ _ _) (meetsH_dict_get_default (Vv (QC X.prog X.w)) a b hd r) ⟨OP hu,k,xs,Yt I.hok eb,dd,h _ _ (I.tok _) ?_⟩
  rw[l];exact(aH.val k).getD rd
end
def XVb(td ty:TE):TE:=λσ H Q=>td σ H λx H1=>∃ a,x=.ref a/\IsD H1 a/\ty σ H1 λy H2=>∃ o,Zr H2 a y o/\Q (o.getD .non) H2
def XWb(td ty tx:TE):TE:=λσ H Q=>td σ H λx H1=>∃ a,x=.ref a/\IsD H1 a/\ty σ H1 λy H2=>tx σ H2 λz H3=>∃ o,Zr H3 a y o/\Q (o.getD z) H3
def XXb(td ty:TE):TE:=λσ H Q=>td σ H λx H1=>∃ a,x=.ref a/\IsD H1 a/\ty σ H1 λy H2=>∃ kvs k v,H2 a=Vo (.dK kvs)/\y=kV k/\Q7 kvs k=Vo v/\Q v (upd H2 a (.dK (Y4a kvs k)))
section
variable{X:Cx}{o e f:Expr}{aj aq:Pos}{td ty tx:TE}
theorem Jza(hu:X.A.units+1 < UR)(ho:PE X o td)(he:PE X e ty)(m:M1 X o "get" aj e aq):PE X (.Call (.Attribute o "get" aj) [e] [] aq) (XVb td ty):=by
 intro aa s σ H Q I h;refine OU m.base m.few m.line OV OS F.type_dict_get (thn (ho aa s σ H _ I h) λu s1 hZ=>?_)
 obtain⟨x,H1,I1,rx,a,ex,d,q1⟩:=hZ;subst ex;obtain rfl:u=Vk a:=rx;obtain⟨t1,t2,_⟩:=X1a I1 d;refine⟨t1,t2,?_⟩
 rw[m.trees];refine Ox rfl (Oz (UT (thn (he aa s1 σ H1 _ I1 q1) λiv s2 ⟨y,H2,I2,ry,ov,g,q2⟩=>US ?_)))
 exact Jud hu I2 g ry λw' s3 I3 bj=>⟨_,H2,I3,bj,q2⟩
theorem Yfc(hu:X.A.units+1 < UR)(ho:PE X o td)(he:PE X e ty)(hf:PE X f tx)(m:M2 X o "get" aj e f aq):PE X (.Call (.Attribute o "get" aj) [e,f] [] aq) (XWb td ty tx):=by
 intro aa s σ H Q I h;refine OU m.base m.few m.line OV OS F.type_dict_get (thn (ho aa s σ H _ I h) λu s1 hZ=>?_)
 obtain⟨x,H1,I1,rx,a,ex,d,q1⟩:=hZ;subst ex;obtain rfl:u=Vk a:=rx;obtain⟨t1,t2,_⟩:=X1a I1 d;refine⟨t1,t2,?_⟩
 rw[m.trees];refine Ox rfl (Oz (UT (thn (he aa s1 σ H1 _ I1 q1) λiv s2 ⟨y,H2,I2,ry,q2⟩ =>
  UT (thn (hf aa s2 σ H2 _ I2 q2) λfv s3 ⟨z,H3,I3,rz,ov,g,q3⟩=>US ?_))))
 exact Jvd hu I3 g ry rz λw' s4 I4 bj=>⟨_,H3,I4,bj,q3⟩
theorem Ygc(ho:PE X o td)(he:PE X e ty)(m:M1 X o "pop" aj e aq):PE X (.Call (.Attribute o "pop" aj) [e] [] aq) (XXb td ty):=by
 intro aa s σ H Q I h;refine OU m.base m.few m.line OV F.slot_dict_pop F.type_dict_pop (thn (ho aa s σ H _ I h) λu s1 hZ=>?_)
 obtain⟨x,H1,I1,rx,a,ex,d,q1⟩:=hZ;subst ex;obtain rfl:u=Vk a:=rx;obtain⟨t1,t2,_⟩:=X1a I1 d;refine⟨t1,t2,?_⟩
 rw[m.trees];refine Ox rfl (Oz (UT (thn (he aa s1 σ H1 _ I1 q1) λiv s2 ⟨y,H2,I2,ry,kvs,k,v,ea,ey,l,q2⟩=>US ?_)))
 subst ey;exact YJd I2 ea ry l (.inl rfl) λw' s3 I3 bj=>⟨v,_,I3,bj,q2⟩
end
end L2
namespace L2
open PySem PySem.Spec PyProof.Rows
section
variable{X:Cx}
theorem ZOc:Jt X (.builtin "len") (λxs H Q=>∃ a kvs,xs=[V.ref a]/\H a=Vo (.dK kvs)/\Q (.int kvs.length) H):=by
 intro aa s σ H xs us Q I r h;obtain⟨a,kvs,rfl,ha,q⟩:=h;obtain⟨u,rfl,ru⟩:=Ys r;cases ru;exact YKd I (.inl ha) λt s' I'=>⟨.int kvs.length,H,I',⟨t,rfl⟩,q⟩
end
theorem Qma(env:Env):∀ (l:List (Str×U5)) (x:Str),
 (l.map λ(n,k)=>if (k == OW && env.scope.kind == .function && env.kindOf n == Vo .cell) then (n,OX) else (n,k)).lookup x
  = (l.lookup x).map λk=>if (k == OW && env.scope.kind == .function && env.kindOf x == Vo .cell) then OX else k
 | [],_=>rfl
 | (n,k)::r,x=>by
  have ih:=Qma env r x;show UH x ((if (k == OW && env.scope.kind == .function && env.kindOf n == Vo .cell)=true then (n,OX) else (n,k))::_)=_
  cases hx:x == n with
  | true =>
   have e:x=n:=by simpa using hx
   subst e
   by_cases hc:(k == OW && env.scope.kind == .function && env.kindOf x == Vo .cell)=true
   .rw[if_pos hc];simp only[OY,hx,OZ,hc,if_true]
   .rw[if_neg hc];simp only[OY,hx,OZ,if_neg hc]
  | false =>
   by_cases hc:(k == OW && env.scope.kind == .function && env.kindOf n == Vo .cell)=true
   .rw[if_pos hc];simp only[OY,hx];exact ih
   .rw[if_neg hc];simp only[OY,hx];exact ih
theorem ZNa{env:Env}:∀ (l:List (Str×U5)) (aJ:List (Str×Vh)),(∀ y∈l,y.2=.free->∃ c,env.cells.lookup y.1=Vo c)->(∀ y c,aJ.lookup y=Vo c->env.cells.lookup y=Vo c) ->
 ∃ cl,(forIn l aJ λx (cs:List (Str×Vh))=>(if (x.2 == OW)=true then (do let a <- cellOf env x.1;pure (O4 ((x.1,a)::cs))) else pure (O4 cs):Sem (ForInStep (List (Str×Vh)))))=pure cl/\(∀ y c,cl.lookup y=Vo c->env.cells.lookup y=Vo c)/\(∀ y c,aJ.lookup y=Vo c->∃ c',cl.lookup y=Vo c') /\
  ∀ y∈l,y.2=.free->∃ c,cl.lookup y.1=Vo c
 | [],aJ,_,h2=>⟨aJ,rfl,h2,λ_ c h=>⟨c,h⟩,λ_ h=>nomatch h⟩
 | (n,k)::r,aJ,h1,h2=>by
  by_cases hk:k=.free
  .subst hk
   obtain⟨c,hc⟩:=h1 (n,.free) VL rfl;have bD:∀ y c',((n,c)::aJ).lookup y=Vo c'->env.cells.lookup y=Vo c':=λy c' h=>by
    rw[OY]at h;cases hy:y == n with
    | true=>rw[hy]at h;have e:y=n:=by simpa using hy
            subst e;cases h;exact hc
    | false=>rw[hy]at h;exact h2 y c' h
   obtain⟨cl,e,q1,q2,q3⟩:=ZNa r ((n,c)::aJ) (λy hy=>h1 y (VM _ hy)) bD
   refine⟨cl,?_,q1,λy c' h=>?_,λy hy hf=>?_⟩
   .rw[Dv]
    simp only[beq_self_eq_true,if_true];unfold cellOf;rw[hc];exact e
   .cases hy:y == n with
    | true=>exact q2 y c (by rw[OY,hy])
    | false=>exact q2 y c' (by rw[OY,hy];exact h)
   .rcases mem_cons.mp hy with e' | hy
    .subst e'
     exact q2 n c (by simp[OY])
    .exact q3 y hy hf
  .have hb:(k == OW)=false:=by simpa using hk
   obtain⟨cl,e,q1,q2,q3⟩:=ZNa r aJ (λy hy=>h1 y (VM _ hy)) h2
   refine⟨cl,?_,q1,q2,λy hy hf=>?_⟩
   .rw[Dv]
    simp only[hb,O5,if_false];exact e
   .rcases mem_cons.mp hy with e' | hy
    .subst e';exact absurd hf hk
    .exact q3 y hy hf
theorem X2a(env:Env)(sc:Scope)(h:∀ y∈sc.names,y.2=.free->∃ c,env.cells.lookup y.1=Vo c) :
 ∃ cl,closureFor sc env=pure cl/\(∀ y c,cl.lookup y=Vo c->env.cells.lookup y=Vo c)/\∀ y∈sc.names,y.2=.free->∃ c,cl.lookup y.1=Vo c:=by
 obtain⟨cl,e,q1,_,q3⟩:=ZNa (env:=env) sc.names [] h (λy c z=>by simp at z)
 refine⟨cl,?_,q1,q3⟩
 unfold closureFor;rw[<- e];simp only[bind_pure]
def blk(X:Cx)(sc:Scope)(x:Str)(M:List Str)(cl:List (Str×Vh))(C:Vh)(s:VG)(H:Hp)(fp:List Vh):Cx :=
 { X with N:=x::M,s₀:=s,H₀:=H,env:=compEnvC sc cl C X.env,outer:=X.stack,ex:=fp,fn:=λ_=>false,pn:=[],xe:=λ_ _=>False }
structure X3a(X:Cx)(sc:Scope)(x:Str)(M:List Str):Prop where
 kind:sc.kind=.function
 nocell:∀ y∈sc.names,y.2≠.cell
 names:∀ y∈sc.names,y.2=.local->sc.names.lookup y.1=Vo .local
 own:sc.names.lookup x=Vo .local
 nd:(x::M).Nodup
 len:M.length=X.N.length
 free:∀ y∈sc.names,y.2=.free->X.env.kindOf y.1=Vo .cell\/X.env.kindOf y.1=Vo .free
 same:∀ (i:Nat) (y:Str),M[i]?=Vo y->sc.names.lookup y=Vo .free->X.N[i]?=Vo y
 noloc:∀ y∈M,sc.names.lookup y≠Vo .local
section
variable{X:Cx}
theorem Inv.toBlk{aa:YP_}{σ:St}{H:Hp}{s:VG}{sc:Scope}{x:Str}{M:List Str}{cl:List (Str×Vh)}{fp:List Vh}{h₁:Vq}{tk:Nat}
 (I:Inv X aa σ H s) (B:X3a X sc x M) (q1:∀ y c,cl.lookup y=Vo c->X.env.cells.lookup y=Vo c) (q3:∀ y∈sc.names,y.2=.free->∃ c,cl.lookup y.1=Vo c)
 (jz:∀ b∈fp,Yc X aa H b) (lV:∀ b∈fp,b < s.heap.objs.size) {m:Str->Option Va} (hn:h₁.Ns s.heap.objs.size m) (keep:∀ b o,s.heap.get? b=Vo o->h₁.get? b=Vo o) :
 Inv (blk X sc x M cl s.heap.objs.size s H fp) [] (Vp::σ) H { s with heap:=h₁,toks:=tk }:=by
 have bL:∀ y,(blk X sc x M cl s.heap.objs.size s H fp).env.kindOf y=(sc.names.lookup y).map λk=>if (k == OW && X.env.scope.kind == .function && X.env.kindOf y == Vo .cell) then OX else k:=λy=>Qma X.env sc.names y
 have cu:∀ y,((blk X sc x M cl s.heap.objs.size s H fp).env.kindOf y=Vo .cell\/(blk X sc x M cl s.heap.objs.size s H fp).env.kindOf y=Vo .free)->sc.names.lookup y=Vo .free:=λy hy=>by
  rw[bL]at hy;cases e:sc.names.lookup y with
  | none=>rw[e]at hy;simp at hy
  | some k =>
   rw[e]at hy
   by_cases hk:k=.free
   .rw[hk]
   .exfalso
    have hb:(k == OW)=false:=by simpa using hk
    simp only[hb,Bool.false_and,OZ,O5,if_false,O6]at hy
    rcases hy with z | z
    .exact B.nocell (y,k) (Oc e) z
    .exact hk z
 have ncell:∀ y c,X.env.cells.lookup y=Vo c->c < s.heap.objs.size:=λy c e=>by
  obtain⟨v,o,ho,_⟩:=I.cell y c e;exact Vx ho
 have below:∀ b∈fp,Yc X aa H b:=jz;refine⟨⟨I.ok.mod,B.kind,I.ok.glob,I.ok.blt,Um _,λy z c h1 h2=>I.ok.inj y z c (q1 y c h1) (q1 z c h2),λy hy=>q3 _ (Oc (cu y hy)) rfl,λy c h _=>absurd (show false=true from h) Uc,I.ok.hd,I.ok.frames,.inl rfl,
  λb hb=>?_,I.bs,VI I.ok.bsz I.sz,λb o e hb=>?_,λb hb z=>?_,I.stack,I.stkFree⟩,rfl,I.bare,Un.kept keep,⟨_,hn,λi y v e1 e2 e3=>?_⟩,λy c h=>?_,I.hok.fresh (Um _),λy c h=>I.freeC y c (q1 y c h),λp hp=>absurd (show p∈([]:YP_) from hp) #[2],I.hok.kept keep,?_⟩
 .exact⟨VA (lV b hb),λy c h=>(jz b hb).2.2.2.2.1 y c (q1 y c h)⟩
 .rcases(jz b hb).2.2.2.1 with z | z
  .exact I.ok.noex b o e z
  .exact absurd (Vy (Vx e) (VI I.ok.bsz z)) (Vz _)
 .rcases mem_cons.mp (I.stkSub b z) with e | z
  .exact(jz b hb).2.1 e
  .exact(jz b hb).2.2.1 z
 .cases i with
  | zero=>simp at e2
  | succ i =>
   have lW:M[i]?=Vo y:=e1;have nG:σ[i]?=Vo (Vo v):=e2;have hy:sc.names.lookup y=Vo .free:=by
    rcases e3 with z | z | z
    .exfalso
     have z':(blk X sc x M cl s.heap.objs.size s H fp).env.kindOf y=Vo .local:=z;rw[bL]at z';cases e:sc.names.lookup y with
     | none=>rw[e]at z';simp at z'
     | some k =>
      rw[e]at z';simp only[OZ,O6]at z'
      split at z'
      .cases z'
      .subst z'
       exact B.noloc y (Og lW) e
    .exact cu y (.inl z)
    .exact cu y (.inr z)
   have hk:=B.free _ (Oc hy) rfl;obtain⟨m0,hn0,hl⟩:=I.loc;obtain⟨u,r,l⟩:=hl i y v (B.same i y lW hy) nG (hk.elim (λz=>.inr (.inl z)) λz=>.inr (.inr z))
   refine⟨u,r,.inr ⟨?_,?_⟩⟩
   .rcases e3 with z | z | z
    .exfalso
     have z':(blk X sc x M cl s.heap.objs.size s H fp).env.kindOf y=Vo .local:=z;rw[bL,hy]at z';simp only[OZ,O6]at z'
     split at z' <;> cases z'
    .exact .inl z
    .exact .inr z
   .rcases l with ⟨k,_⟩ | ⟨_,c,e,hc⟩
    .rcases hk with z | z <;> (have z':X.env.kindOf y=_:=z;rw[k]at z';cases z')
    .obtain⟨c',e'⟩:=q3 _ (Oc hy) rfl
     have qK:=q1 y c' e';rw[e]at qK;cases qK;obtain⟨o,ho,hd⟩:=hc;exact⟨c,e',o,keep c o ho,hd⟩
 .obtain⟨v,o,ho,hd⟩:=I.cell y c (q1 y c h)
  exact⟨v,o,keep c o ho,hd⟩
 .show(Vp::σ).length=(x::M).length
  rw[UC,UC,I.len,B.len]
end
def Qw(X:Cx)(bW:List Expr)(t:TT):Prop :=
 ∀ (aa:YP_) (s:VG) (σ:St) (H:Hp) (Q:Bool->Hp->Prop),Inv X aa σ H s->t σ H Q ->
  VQ (VR X.prog X.w) X.A (forIn bW true λc r=>if r=true then do let ok <- isTrue c X.env (VS c X.env);pure (O4 ok) else pure (O4 r)) (TP X aa σ Q) X.xe s
def JAa:TT:=λ_ H Q=>Q true H
theorem QWc{X:Cx}:Qw X [] JAa:=λ_ _ _ H _ I h=>wpAny_tests_nil ⟨H,I,h⟩
theorem Jnb{X:Cx}{c:Expr}{t:TT}(h:PT X c t):Qw X [c] t:=λaa s σ H Q I q=>wpAny_tests_one (h aa s σ H Q I q)
section
variable{prog:Vg}{w:Vb}{A:VF}{E:YQ_}{R:UD->VG->Prop}{s:VG}
theorem Yub{cw a9 Uh:Expr}{bW:List Expr}{scope:Scope}{pos:Pos}{it aJ:Va}{env:Env}(I:Nat->VG->Prop)
 (turn:∀ n s,I n s->VQ (VR prog w) A (Ue it) (λr s₁=>match r with
  | none=>R (.ok .next) s₁
  | some v=>VQ (VR prog w) A (Uf a9 it v) (λ_ s₁=>VQ (VR prog w) A (V6 a9 env v) (λ_ s₂ =>
   VQ (VR prog w) A (forIn bW true λc r=>if r=true then do let ok <- isTrue c env (VS c env);pure (O4 ok) else pure (O4 r)) (λok s₃ =>
    if ok=true then VQ (VR prog w) A (VS cw env) (λx s₄ =>
     VQ (VR prog w) A (Ut (.builtin "list.append") [aJ,x]) (λ_ s₅=>∃ m,m < n/\I m s₅) (λ_ _=>False) s₄) (λ_ _=>False) s₃
    else ∃ m,m < n/\I m s₃) (λ_ _=>False) s₂) (λ_ _=>False) s₁) (λ_ _=>False) s₁) (λ_ _=>False) s)
 (n:Nat) (h:I n s) :
 UF (VR prog w) A (.compLoop (.ListComp cw [⟨a9,Uh,bW,0⟩] scope pos) 0 it aJ env) R s:=by
 refine codeAny_loop rfl I (λn s hI=>?_) n h
 show VQ _ A ((compTurn (.ListComp cw [⟨a9,Uh,bW,0⟩] scope pos) 0 it aJ env).onRaise (λx=>do noteFrame x env;theTreesLotGoes x)) _ _ s
 refine wpAny_noted ?_
 rw[compTurn_list];refine V8 (Ua (V8 (VW (turn n s hI) (λr s₁ h₁=>?_) λ_ _ h'=>h'.elim)))
 cases r with
 | none=>exact Ui h₁
 | some v =>
  refine V8 (VW h₁ (λ_ s₁ h₁=>?_) λ_ _ h'=>h'.elim)
  refine V8 (VW h₁ (λ_ s₂ h₂=>V8 (VW h₂ (λok s₃ h₃=>?_) λ_ _ h'=>h'.elim)) λ_ _ h'=>h'.elim)
  cases ok with
  | false=>exact Ui ⟨rfl,h₃⟩
  | true =>
   exact V8 (V8 (VW h₃ (λx s₄ h₄=>V8 (VW h₄ (λ_ s₅ h₅=>Ui (Ui ⟨rfl,h₅⟩)) λ_ _ h'=>h'.elim)) λ_ _ h'=>h'.elim))
end
def tLc(wi:TI)(tt:TT)(te:TE):TE:=λσ H Q=>wi σ H λJ H1=>∀ D,H1 D=Vp->∃ W:Nat->Nat->List V->Hp->Prop,(∃ m,W 0 m [] (upd H1 D (.lst [])))/\∀ i m ys H,W i m ys H ->
 H D=Vo (.lst ys)/\((J.stop i H/\Q (.ref D) H)\/(J.go i H/\ys.length < Vs/\∀ x H',J.yld i H x H'->tt (Vo x::σ) H' λb H2=>if b=true then te (Vo x::σ) H2 λv H3 =>
  H3 D=Vo (.lst ys)/\∃ m',m' < m/\W (i+1) m' (ys++[v]) (upd H3 D (.lst (ys++[v]))) else ∃ m',m' < m/\W (i+1) m' ys H2))
section
variable{X:Cx}
theorem X4a{sc:Scope}{x:Str}{px pos:Pos}{Uh cw:Expr}{bW:List Expr}{M:List Str}{wi:TI}{tt:TT}{te:TE}{cl:List (Str×Vh)}{RR:Va->Vh->UD->VG->Prop}{aa:YP_}{s:VG}{σ:St}{H:Hp}{Q:VK}
 (hc:X.calm=true) (B:X3a X sc x M) (hi:PI X (.Name x px) Uh wi) (ht:∀ C s H fp,Qw (blk X sc x M cl C s H fp) bW tt) (he:∀ C s H fp,PE (blk X sc x M cl C s H fp) cw te)
 (q1:∀ y c,cl.lookup y=Vo c->X.env.cells.lookup y=Vo c) (q3:∀ y∈sc.names,y.2=.free->∃ c,cl.lookup y.1=Vo c)
 (I:Inv X aa σ H s) (h:tLc wi tt te σ H Q)
 (uJ:∀ (D C:Vh) (s':VG) (m:Str->Option Va) (H':Hp),Inv X aa σ H' s'->s'.heap.Ns C m->Yc X aa H' C->Q (.ref D) H'->RR (.ref D) C (.ok .next) s') :
 VQ (VR X.prog X.w) X.A (VS Uh X.env) (λxv s₁=>VQ (VR X.prog X.w) X.A (Ug xv) (λit s₂=>VQ (VR X.prog X.w) X.A (newList []) (λaJ s₃ =>
  VQ (VR X.prog X.w) X.A (newFunctionEnv sc X.env.globals cl [] X.env.qual Vp .none (Vo X.env)) (λjA s₄ =>
   UF (VR X.prog X.w) X.A (.compStart (.ListComp cw [⟨.Name x px,Uh,bW,0⟩] sc pos) 0 it aJ { jA with scope:=relabel sc X.env }) (RR aJ jA.locals) s₄) X.xe s₃) X.xe s₂) X.xe s₁) X.xe s:=by
 refine thn (hi aa s σ H _ I h) λv s1 h1=>thn h1 λnj s2 h2=>?_
 obtain⟨it,fp,tn,J,H2,rfl,I2,T,bK,f2,q2⟩:=h2;refine O7 (wpAny_newFunctionEnv B.nocell (by intro y hy;simp at hy) (λh₁ hW hX=>?_) B.kind)
 dsimp only at hW hX ⊢;obtain⟨W,⟨m0,w0⟩,turn⟩:=q2 s2.heap.objs.size I2.fresh;have I3:Inv X aa σ (upd H2 s2.heap.objs.size (.lst [])) { s2 with heap:=s2.heap.push { cls:=.type "list",data:=.seq ([]:List Va).toArray },toks:=s2.toks }:=I2.lnew .nil (Us _)
 generalize lX:({ s2 with heap:=s2.heap.push { cls:=.type "list",data:=.seq ([]:List Va).toArray },toks:=s2.toks }:VG)=s3 at I3
 have eh:s2.heap.push { cls:=.type "list",dict:=Vp,data:=.seq ([]:List Va).toArray }=s3.heap:=by rw[<- lX]
 have lV:∀ b∈fp,b < s2.heap.objs.size:=λb hb=>by
  obtain⟨o,e,_⟩:=T.obj _ _ bK b hb;exact Vx e
 have sz:s3.heap.objs.size=s2.heap.objs.size+1:=by rw[<- eh,UM]
 have jB:∀ b∈fp,b < s3.heap.objs.size:=λb hb=>by rw[sz];exact Nat.lt_succ_of_lt (lV b hb)
 have ie:∀ b∈fp,Yc X aa (upd H2 s2.heap.objs.size (.lst [])) b:=λb hb=>⟨by rw[Qe (VA (lV b hb))];exact(f2 b hb).1,(f2 b hb).2⟩
 rw[eh]at hW hX ⊢;have keep:∀ b o,s3.heap.get? b=Vo o->h₁.get? b=Vo o:=λb o e=>hX.extBut b o (VA (Vx e)) (Uk _ e)
 have IB:=I3.toBlk (tk:=s2.toks+([]:List (Str×Va)).length) B q1 q3 ie jB hW keep;have ig:tn 0 h₁:=T.keep _ _ _ bK λb hb o e=>keep b o (by rw[<- eh];exact Uk _ e)
 have es:({ s3 with heap:=h₁,toks:=s2.toks+([]:List (Str×Va)).length }:VG)={ s2 with heap:=h₁,toks:=s2.toks+([]:List (Str×Va)).length }:=by rw[<- lX]
 rw[es]at IB;have aF:(blk X sc x M cl s3.heap.objs.size s3 (upd H2 s2.heap.objs.size (.lst [])) fp).env.scope.names.lookup x=Vo .local:=lookup_relabel_local B.own;have hg:PG (blk X sc x M cl s3.heap.objs.size s3 (upd H2 s2.heap.objs.size (.lst [])) fp) (.Name x px) (Y0a 0):=Jfb B.nd rfl (.inl aF) (.inr aF);have uK:=he s3.heap.objs.size s3 (upd H2 s2.heap.objs.size (.lst [])) fp;have aK:=ht s3.heap.objs.size s3 (upd H2 s2.heap.objs.size (.lst [])) fp;have jC:∀ s₄:VG,s₄={ s2 with heap:=h₁,toks:=s2.toks+([]:List (Str×Va)).length } ->
  UF (VR X.prog X.w) X.A (.compLoop (.ListComp cw [⟨.Name x px,Uh,bW,0⟩] sc pos) 0 (.ref it) (.ref s2.heap.objs.size) (compEnvC sc cl s3.heap.objs.size X.env)) (RR (.ref s2.heap.objs.size) s3.heap.objs.size) s₄:=by
  rintro s₄ rfl;refine Yub (λn s'=>∃ i ys o H',Inv (blk X sc x M cl s3.heap.objs.size s3 (upd H2 s2.heap.objs.size (.lst [])) fp) [] (o::σ) H' s'/\tn i s'.heap/\(∀ b∈fp,H' b=Vp)/\W i n ys H') ?_ m0
   ⟨0,[],Vp,_,IB,ig,λb hb=>(ie b hb).1,w0⟩
  rintro n s' ⟨i,ys,o,H',I',ag,qL,w'⟩;have nH:∀ {H':Hp} {pl:YP_},(∀ b∈fp,H' b=Vp)->∀ b∈fp,Yc (blk X sc x M cl s3.heap.objs.size s3 (upd H2 s2.heap.objs.size (.lst [])) fp) [] H' b:=λ{H' pl} hn b hb =>
   ⟨hn b hb,VA (jB b hb),λz=>I'.ok.exfs b hb z,.inl hb,λy c hy=>(ie b hb).2.2.2.2.1 y c (q1 y c hy),λp hp=>absurd (show p∈([]:YP_) from hp) #[2]⟩
  obtain⟨hD,⟨stop,q⟩ | ⟨go,aA,step⟩⟩:=turn i n ys H' w'
  .refine VW (T.done (blk X sc x M cl s3.heap.objs.size s3 (upd H2 s2.heap.objs.size (.lst [])) fp) rfl rfl rfl hc i [] s' (o::σ) H' (λ_ _=>False) I' (nH (pl:=[]) qL) ag stop) (λr s4 hZ=>?_) λ_ _ f=>f.elim
   obtain⟨hr,I4⟩:=hZ;subst hr;obtain⟨m,hn,_⟩:=I4.loc;refine uJ _ _ s4 m H' (I3.call' (ch:=fp) I4.os I4.base I4.hok I4.bare λb hb=>⟨(ie b hb).2.2.2.1,(ie b hb).2.1,(ie b hb).2.2.2.2.1,(ie b hb).2.2.2.2.2⟩) hn (I3.fpOk (Um _) I4.free) q
  .refine VW (T.item (blk X sc x M cl s3.heap.objs.size s3 (upd H2 s2.heap.objs.size (.lst [])) fp) rfl rfl rfl hc i [] s' (o::σ) H' (λ_ _=>False) I' (nH (pl:=[]) qL) ag go) (λr s4 hZ=>?_) λ_ _ f=>f.elim
   obtain⟨u,hr,h4⟩:=hZ;subst hr;refine VW h4 (λ_ s5 hZ=>?_) λ_ _ f=>f.elim
   obtain⟨y,H5,I5,r5,y5,bw,nk⟩:=hZ;have nr:=I5.pinned (nH (pl:=[]) nk) (T.obj _ _ bw);refine VW (hg _ s5 (o::σ) H5 y u (λσ' H'=>σ'=Vo y::σ/\H'=H5) nr r5 ⟨rfl,rfl⟩) (λ_ s6 hZ=>?_) λ_ _ f=>f.elim
   obtain⟨σ6,H6,I6,e6,uL⟩:=hZ;subst e6 uL;have again:∀ {H7:Hp} {s7:VG} {zs:List V} {m':Nat},Inv (blk X sc x M cl s3.heap.objs.size s3 (upd H2 s2.heap.objs.size (.lst [])) fp) ([]++XXa fp s5.heap) (Vo y::σ) H7 s7->m' < n->W (i+1) m' zs H7 ->
    ∃ m,m < n/\∃ i ys o H',Inv (blk X sc x M cl s3.heap.objs.size s3 (upd H2 s2.heap.objs.size (.lst [])) fp) [] (o::σ) H' s7/\tn i s7.heap/\(∀ b∈fp,H' b=Vp)/\W i m ys H':=λ{H7 s7 zs m'} I7 hm w7=>by
    refine⟨m',hm,i+1,zs,Vo y,H7,I7.unpinned,T.keep _ _ _ bw λb hb o e=>(I7.pin (b,o) (Ur _ (Ur _ (Xl hb e)))).1,λb hb=>?_,w7⟩
    obtain⟨o,e,d⟩:=T.obj _ _ bw b hb;exact(I7.pin (b,o) (Ur _ (Ur _ (Xl hb e)))).2.1
   refine VW (aK _ s6 (Vo y::σ) H6 _ I6 (step y H6 y5)) (λb s7 hZ=>?_) λ_ _ f=>f.elim
   obtain⟨H7,I7,q7⟩:=hZ;cases b with
   | false =>
    rw[if_neg Uc]at q7 ⊢;obtain⟨m',hm,w7⟩:=q7;exact again I7 hm w7
   | true =>
    rw[if_pos rfl]at q7 ⊢;refine VW (uK _ s7 (Vo y::σ) H7 _ I7 q7) (λu8 s8 hZ=>?_) λ_ _ f=>f.elim
    obtain⟨v8,H8,I8,r8,uO,m',hm,w8⟩:=hZ;refine VW (ZCb (X:=blk X sc x M cl s3.heap.objs.size s3 (upd H2 s2.heap.objs.size (.lst [])) fp) _ s8 (Vo y::σ) H8 (.ref s2.heap.objs.size) [v8] (.ref s2.heap.objs.size) [u8] (λ_ H9=>H9=upd H8 s2.heap.objs.size (.lst (ys++[v8]))) I8 rfl (.cons r8 .nil) ⟨_,ys,v8,rfl,rfl,uO,aA,rfl⟩) (λ_ s9 hZ=>?_) λ_ _ f=>f.elim
    obtain⟨_,H9,I9,_,e9⟩:=hZ;subst e9;exact again I9 hm w8
 exact codeAny_compStart_list (jC _ rfl) (T.self X.A 0 _ _ _ ig (jC _ rfl))
theorem Q3{sc:Scope}{x:Str}{px pos:Pos}{Uh cw:Expr}{bW:List Expr}(M:List Str){wi:TI}{tt:TT}{te:TE}(hc:X.calm=true)(B:X3a X sc x M)(hi:PI X (.Name x px) Uh wi)
 (ht:∀ cl C s H fp,Qw (blk X sc x M cl C s H fp) bW tt) (he:∀ cl C s H fp,PE (blk X sc x M cl C s H fp) cw te) (hs:∀ x,foldedSetIterable Uh X.env x=pure x:=by intro _;rfl) :
 PE X (.ListComp cw [⟨.Name x px,Uh,bW,0⟩] sc pos) (tLc wi tt te):=by
 intro aa s σ H Q I h;obtain⟨cl,nI,q1,q3⟩:=X2a X.env sc (λy hy hf=>I.ok.has y.1 (B.free y hy hf))
 rw[eval_ListComp];refine wpAny_comprehension_free (use:=Vp) rfl hs nI B.kind B.names (X4a (RR:=λaJ C=>compPost (VR X.prog X.w) X.A X.xe Vp (EP X aa σ Q) aJ C) hc B hi (ht cl) (he cl) q1 q3 I h ?_)
 intro D C s' m H' I' hn de q;exact⟨m,hn,λh' sb=>⟨.ref D,H',I'.turned (t':=s'.toks) (λb o hb e=>sb.extBut b o hb e) de.1 de.2.1 de.2.2.2.1 de.2.2.2.2.1 de.2.2.2.2.2,rfl,q⟩⟩
def XYb(j:Nat)(wi:TI)(tt:TT)(te:TE):TS:=λD σ H=>tLc wi tt te σ H λv H'=>D.nx (σ.set j (Vo v)) H'
theorem X5a{sc:Scope}{x y:Str}{px py pos jD:Pos}{Uh cw:Expr}{bW:List Expr}{j:Nat}(M:List Str){wi:TI}{tt:TT}{te:TE}(hc:X.calm=true)(hN:X.N.Nodup)(hj:X.N[j]?=Vo y)(hy:X.env.scope.names.lookup y=Vo .local)
 (B:X3a X sc x M) (hi:PI X (.Name x px) Uh wi)
 (ht:∀ cl C s H fp,Qw (blk X sc x M cl C s H fp) bW tt) (he:∀ cl C s H fp,PE (blk X sc x M cl C s H fp) cw te)
 (uP:V5 (.ListComp cw [⟨.Name x px,Uh,bW,0⟩] sc pos) (Vo (.Name y py)) jD.line X.env=pure true:=by rfl) (hs:∀ x,foldedSetIterable Uh X.env x=pure x:=by intro _;rfl) :
 PS X (.Assign [.Name y py] (.ListComp cw [⟨.Name x px,Uh,bW,0⟩] sc pos) jD) (XYb j wi tt te):=by
 intro aa s σ H D I h;obtain⟨cl,nI,q1,q3⟩:=X2a X.env sc (λy hy hf=>I.ok.has y.1 (B.free y hy hf))
 rw[exec_Assign_Name_used _ _ _ _ uP];refine V8 (Ua (V8 ?_))
 show VQ _ X.A (do let _ <- comprehension (.ListComp cw [⟨.Name x px,Uh,bW,0⟩] sc pos) sc X.env _ (newList []) false (VS Uh X.env) (Vo (V6 (.Name y py) X.env))) _ _ s
 refine V8 (VW (wpAny_comprehension_free (use:=Vo (V6 (.Name y py) X.env)) (Q:=λ_ s'=>SP X aa D .next s') rfl hs nI B.kind B.names
  (X4a (RR:=λaJ C=>compPost (VR X.prog X.w) X.A X.xe (Vo (V6 (.Name y py) X.env)) (λ_ s'=>SP X aa D .next s') aJ C) hc B hi (ht cl) (he cl) q1 q3 I h ?_)) (λ_ s' hq=>Ui (Ui hq)) λ_ _ e=>e)
 intro A C s' m H' I' hn de q;show VQ _ X.A (V6 (.Name y py) X.env (.ref A)) _ _ s';refine wpAny_assign_Name (Zub I' hN hj (.inl hy) (v:=.ref A) rfl (λcN nJ hZ=>?_) (.inr hy))
 obtain⟨a,sb,ha⟩:=hZ;have aC:C≠a:=by
  rcases ha with e | e
  .rw[e];exact de.2.1
  .exact λz=>de.2.2.2.2.1 y a e z.symm
 exact⟨m,hn.sameBut sb aC,λh' uQ=>⟨_,H',nJ.turned (t':=cN.toks) (λb o hb e=>uQ.extBut b o hb e) de.1 de.2.1 de.2.2.2.1 de.2.2.2.2.1 de.2.2.2.2.2,q⟩⟩
end
end L2
end
section
namespace HT
open PySem PyProof.Rows L2
def JO:List V->List V->Option Bool
 | [],[]=>Vo false
 | [],_::_=>Vo true
 | _::_,[]=>Vo false
 | .int i::xs,.int j::ys=>if i=j then JO xs ys else Vo (decide (i < j))
 | .str i::xs,.str j::ys=>if i=j then JO xs ys else Vo (decide (i.cps.toList < j.cps.toList))
 | _::_,_::_=>Vp
theorem JBa:JO [] []=Vo false:=rfl
theorem Zfa(y:V)(ys:List V):JO [] (y::ys)=Vo true:=rfl
theorem Zga(x:V)(xs:List V):JO (x::xs) []=Vo false:=by cases x <;> rfl
theorem Yhc(A:VF)(s:VG)(a:Str)(t:Tok)(c:Str)(u:Tok)(prog:Vg)(w:Vb)(E:YQ_)(Q:YQ_)(h:Q (.bool (decide (a.cps.toList < c.cps.toList))) s) :
 VQ (VR prog w) A (richCompare .Lt (.str a t) (.str c u)) Q E s :=
 (DD h:VQ (VR prog w) A (VX .Lt (.str a t) (.str c u)) Q E s)
section
open PySem.SeqAt
open PySem.AutoSeq1 (wpAny_loadPart')
open PySem.MeetsSeq PySem.MeetsSeq2 PySem.MeetsSeq3
theorem XZb(l b:Vh)(ao av:Array Va)(n n2:Nat)(dd nK:Option Vh)(sl nL:Array (Option Va))(xs ys:List V)(hi:Qv xs ao.toList)(hj:Qv ys av.toList)(r:Bool)(hr:JO xs ys=Vo r) :
 Meets (O8.«tuple.__lt__» ⟨[.ref l,.ref b],[]⟩)
  (λ_ R s=>s.heap.get? l=Vo { cls:=.type "tuple",dict:=dd,data:=.seq ao n,slots:=sl }/\s.heap.get? b=Vo { cls:=.type "tuple",dict:=nK,data:=.seq av n2,slots:=nL } /\
   R (.ok (.ret (.bool r))) s) :=
 .of_wp λprog w A R s h=>by
  obtain⟨hp,g,d,tk,os⟩:=s;obtain⟨hl,hb,h⟩:=h;have f2:=AutoSeq1.sub_tuple_tuple;have z1:ao.size=xs.length:=by rw[hi.length];simp
  have z2:av.size=ys.length:=by rw[hj.length];simp
  wp_walk using wpAny_loadPart' hl,wpAny_loadPart' hb,wpAny_forIn_list _ (λrest b s'=>b.1=Vp/\s'=⟨hp,g,d,tk,os⟩/\∃ (vs ws:List Va) (eS ii:List V),rest=vs.zip ws /\
   Qv eS vs/\Qv ii ws/\eS.length+av.size=ii.length+ao.size/\JO eS ii=Vo r) _
  case turn =>
   rintro⟨y,x⟩ rest b s' ⟨fq,rfl,vs,ws,eS,ii,hz,ij,lY,aA,hR⟩;cases ij with
   | nil=>rw[zip_nil_left]at hz;cases hz
   | cons ra jE =>
    cases lY with
    | nil=>rw[zip_nil_right]at hz;cases hz
    | cons rb jF =>
     rename_i a1 v1 l1 l2 a2 v2 l3 l4;rw[zip_cons_cons]at hz;injection hz with hyx gC
     injection hyx with hy hx
     subst hy hx;simp only[UC]at aA;cases a1 with
     | int i =>
      cases a2 with
      | int j =>
       obtain⟨t,rfl⟩:=ra;obtain⟨u,rfl⟩:=rb;simp only[JO]at hR;obtain⟨e,he,jG⟩:=JYc A.in1 ⟨hp,g,d,tk,os⟩ i t j u;refine V8 (he prog w _ _ ?_)
       cases e with
       | true =>
        rw[if_pos (jG.mp rfl)]at hR
        wp_walk
        exact⟨rfl,rfl,_,_,_,_,gC,jE,jF,by lia,hR⟩
       | false =>
        rw[if_neg (λq=>absurd (jG.mpr q) Uc)]at hR
        cases hR;have nM:=JZc A.in1 ⟨hp,g,d,tk,os⟩ i t j u prog w
        wp_walk using nM
        exact⟨_,rfl,by simpa using h⟩
      | _=>simp[JO]at hR
     | str i =>
      cases a2 with
      | str j =>
       obtain⟨t,rfl⟩:=ra;obtain⟨u,rfl⟩:=rb;simp only[JO]at hR;refine V8 (SeqAt.EqAt.str_str (A:=A.in1) (s:=⟨hp,g,d,tk,os⟩) i t j u prog w _ _ ?_)
       cases e:(i == j) with
       | true =>
        rw[if_pos (by simpa using e)]at hR
        wp_walk
        exact⟨rfl,rfl,_,_,_,_,gC,jE,jF,by lia,hR⟩
       | false =>
        rw[if_neg (by simpa using e)]at hR
        cases hR;have nM:=Yhc A.in1 ⟨hp,g,d,tk,os⟩ i t j u prog w
        wp_walk using nM
        exact⟨_,rfl,by simpa using h⟩
      | _=>simp[JO]at hR
     | _=>cases a2 <;> simp[JO]at hR
  case fin =>
   rintro⟨b1,b2⟩ s' ⟨fq,rfl,vs,ws,eS,ii,hz,ij,lY,aA,hR⟩;simp only at fq;subst fq;have hv:r=decide (ao.size < av.size):=by
    cases ij with
    | nil =>
     cases lY with
     | nil =>
      simp only[OG]at aA;rw[JBa]at hR;cases hR;exact(decide_eq_false #[0]).symm
     | cons c hw =>
      simp only[OG,UC]at aA;rw[Zfa]at hR;cases hR;exact(decide_eq_true #[0]).symm
    | cons a hv =>
     cases lY with
     | nil =>
      simp only[OG,UC]at aA;rw[Zga]at hR;cases hR;exact(decide_eq_false #[0]).symm
     | cons c hw =>
      rw[zip_cons_cons]at hz;cases hz
   rw[hv]at h
   wp_walk
   exact⟨_,rfl,by simpa[Builtin.Tuple.tupleCompareSizes]using h⟩
  case h =>
   exact⟨rfl,rfl,ao.toList,av.toList,xs,ys,rfl,hi,hj,by lia,hr⟩
end
section
variable{prog:Vg}{w:Vb}{A:VF}{E:YQ_}{s:VG}
theorem Qwd{l b:Vh}{ao av:Array Va}{xs ys:List V}{r:Bool}{Q:YQ_}(hl:Vt s.heap l ao)(hb:Vt s.heap b av)(hi:Qv xs ao.toList)(hj:Qv ys av.toList)(hr:JO xs ys=Vo r)
 (hu:A.units < UR) (h:Q (.bool r) s):VQ (VR prog w) A (VX .Lt (.ref l) (.ref b)) Q E s:=by
 obtain⟨⟨cls,dd,data,sl⟩,ho,hc,n,hd⟩:=id hl;obtain⟨⟨cls2,nK,data2,nL⟩,lZ,gE,n2,cP⟩:=id hb;simp only at hc hd gE cP;subst hc hd gE cP;exact richCompare_meets_room (op:=.Lt) ⟨_,ho,rfl⟩ ⟨_,lZ,rfl⟩ F.slot_tuple_lt F.entry_tuple_lt (F.args_tuple_lt_2 _ _) (XZb l b ao av n n2 dd nK sl nL xs ys hi hj r hr)
  ⟨ho,lZ,show Vj r≠Value.notImplemented/\Q (.bool r) s from⟨(λx=>nomatch x),h⟩⟩ hu
end
end HT
namespace L2
open PySem PySem.Spec PyProof.Rows
section
variable{X:Cx}
def YLd:V->Option Va
 | .ty n=>Vo (.type n)
 | .ref a=>Vo (.ref a)
 | _=>Vp
def X0b(K:VC):List V->Hp->VK->Prop:=λxs H Q=>∃ x c t cv b,xs=[x,c]/\YLd c=Vo cv/\Jra K H x t/\UP K t cv=Vo b/\Q (.bl b) H
theorem Qna:Jt X (.builtin "isinstance") (X0b X.K):=by
 intro aa s σ H xs us Q I r h;obtain⟨x,c,t,cv,b,rfl,hc,ty,e,q⟩:=h;obtain⟨u,w',rfl,rx,rc⟩:=QQc r;have ec:w'=cv:=by
  cases c <;> simp[YLd]at hc
  .subst hc;exact rc
  .subst hc;exact rc
 subst ec;exact ZIc I rx ty e λtk=>⟨.bl b,H,I.tok tk,rfl,q⟩
def Jwd(K:VC):R2:=λx y H Q=>∃ a b xs ys r,x=.ref a/\y=.ref b/\SqT K H a xs/\SqT K H b ys/\HT.JO xs ys=Vo r/\Q (.bl r) H
theorem Jxd(hu:X.A.units < UR):OpR X (VX .Lt) (Jwd X.K):=by
 intro aa s σ H x y v u Q I rx ry h;obtain⟨a,b,xs,ys,r,rfl,rfl,ha,hb,e,q⟩:=h;cases rx;cases ry;obtain⟨af,r1,p1,_⟩:=I.tuple ha;obtain⟨aI,r2,p2,_⟩:=I.tuple hb;exact HT.Qwd p1 p2 (by simpa using r1) (by simpa using r2) e hu ⟨.bl r,H,I,rfl,q⟩
def Its(z:Str):It:=⟨λi _=>i < z.length,λi H x H'=>H'=H/\∃ c,z.cps[i]?=Vo c/\x=.str ⟨#[c]⟩,λi _=>z.length<=i⟩
theorem ZPc{P:Vg}{w:Vb}{K:VC}{tg:Expr}(it:Vh)(z:Str)(t:Tok):Jgb P w K tg (Its z) [it] it (λi h=>h.IsStrIter it "str_ascii_iterator" z t i) where
 mem:=by simp
 obj:=λi h st b hb=>by
  have e:b=it:=by simpa using hb
  subst e;obtain⟨o,e,c,d⟩:=st;exact⟨o,e,λv z=>by rw[d]at z;cases z⟩
 keep:=λi h h' st k=>let ⟨o,ho,r⟩:=st;⟨o,k it #[2] o ho,r⟩
 item:=by
  intro X hP hw hK hc i aa s σ H E I hf st hg;subst hP hw hK;obtain⟨f0,f1,f2,f3,f4,f5⟩:=hf it #[2]
  have W:=Walks.strAscii (prog:=X.prog) (w:=X.w) (I.ok.hd hc) it z t;refine W.item i s _ _ hg st λv h' tk hv ag kk=>?_
  obtain⟨c,u,nN,rfl⟩:=hv;have I1:Inv X aa σ H { s with heap:=h',toks:=tk }:=I.turned (λb o hb e=>kk b o (by simpa using hb) e) f0 f1 f3 f4 f5
  obtain⟨o,e,c',d⟩:=id ag;exact⟨_,rfl,Zvb (s:={ s with heap:=h',toks:=tk }) e c' d #[1] ⟨.str ⟨#[c]⟩,H,I1,⟨_,rfl⟩,⟨rfl,c,nN,rfl⟩,ag,λb hb=>(hf b hb).1⟩⟩
 done:=by
  intro X hP hw hK hc i aa s σ H E I hf st hg;subst hP hw hK;obtain⟨f0,f1,f2,f3,f4,f5⟩:=hf it #[2]
  have nO:z.length<=i:=hg;exact wpAny_pyNext_ascii_end (I.ok.hd hc) st (by simpa[Os]using nO) λh' eb=>⟨rfl,I.turned (t':=s.toks) (λb o hb e=>eb b o hb e) f0 f1 f3 f4 f5⟩
 self:=λ_ _ _ _ _ st h=>wpAny_pyIter_striter_ascii st h
theorem ZQc{P:Vg}{w:Vb}{K:VC}{tg:Expr}(it:Vh)(z:Str)(t:Tok):Jgb P w K tg (Its z) [it] it (λi h=>h.IsStrIter it "str_iterator" z t i) where
 mem:=by simp
 obj:=λi h st b hb=>by
  have e:b=it:=by simpa using hb
  subst e;obtain⟨o,e,c,d⟩:=st;exact⟨o,e,λv z=>by rw[d]at z;cases z⟩
 keep:=λi h h' st k=>let ⟨o,ho,r⟩:=st;⟨o,k it #[2] o ho,r⟩
 item:=by
  intro X hP hw hK hc i aa s σ H E I hf st hg;subst hP hw hK;obtain⟨f0,f1,f2,f3,f4,f5⟩:=hf it #[2]
  have W:=Walks.strWide (prog:=X.prog) (w:=X.w) (I.ok.hd hc) it z t;refine W.item i s _ _ hg st λv h' tk hv ag kk=>?_
  obtain⟨c,u,nN,rfl⟩:=hv;have I1:Inv X aa σ H { s with heap:=h',toks:=tk }:=I.turned (λb o hb e=>kk b o (by simpa using hb) e) f0 f1 f3 f4 f5
  obtain⟨o,e,c',d⟩:=id ag;exact⟨_,rfl,Zvb (s:={ s with heap:=h',toks:=tk }) e c' d #[1] ⟨.str ⟨#[c]⟩,H,I1,⟨_,rfl⟩,⟨rfl,c,nN,rfl⟩,ag,λb hb=>(hf b hb).1⟩⟩
 done:=by
  intro X hP hw hK hc i aa s σ H E I hf st hg;subst hP hw hK;obtain⟨f0,f1,f2,f3,f4,f5⟩:=hf it #[2]
  have nO:z.length<=i:=hg;exact wpAny_pyNext_wide_end (I.ok.hd hc) st (by simpa[Os]using nO) λh' eb=>⟨rfl,I.turned (t':=s.toks) (λb o hb e=>eb b o hb e) f0 f1 f3 f4 f5⟩
 self:=λ_ _ _ _ _ st h=>wpAny_pyIter_striter_wide st h
end
section
variable{X:Cx}
def Jyd(tl:TE):TI:=λσ H R=>tl σ H λx H1=>∃ z,x=.str z/\R (Its z) H1
theorem X1b{tg l:Expr}{tl:TE}(hl:PE X l tl):PI X tg l (Jyd tl):=by
 intro aa s σ H R I h;refine thn (hl aa s σ H _ I h) λv s1 hZ=>?_
 obtain⟨x,H1,I1,r1,q1⟩:=hZ;obtain⟨z,e,q⟩:=q1;subst e;obtain⟨t,rfl⟩:=r1;cases ha:z.cps.all (· < 128)
 .refine wpAny_pyIter_wide ha ?_
  refine⟨s1.heap.objs.size,[s1.heap.objs.size],_,_,H1,rfl,I1.kept (t':=s1.toks) λb o e=>Uk _ e,ZQc _ z t,⟨_,Ul _ rfl,rfl,rfl⟩,λb hb=>?_,q⟩
  have e:b=s1.heap.objs.size:=by simpa using hb
  subst e;exact I1.fpOk (Um _) (I1.hok.fresh (Um _))
 .refine wpAny_pyIter_ascii ha ?_
  refine⟨s1.heap.objs.size,[s1.heap.objs.size],_,_,H1,rfl,I1.kept (t':=s1.toks) λb o e=>Uk _ e,ZPc _ z t,⟨_,Ul _ rfl,rfl,rfl⟩,λb hb=>?_,q⟩
  have e:b=s1.heap.objs.size:=by simpa using hb
  subst e;exact I1.fpOk (Um _) (I1.hok.fresh (Um _))
theorem Qxd{z:Str}{g:TG}{tb:TS}{D:ZG}{σ:St}{H:Hp}(Pv:Nat->St->Hp->Prop)(h0:Pv 0 σ H)
 (hs:∀ i c σ H,z.cps.toList[i]?=Vo c->Pv i σ H->g (.str ⟨#[c]⟩) σ H λσ2 H2=>tb { D with nx:=Pv (i+1),ct:=Pv (i+1),bk:=D.nx } σ2 H2) (hd:∀ σ H,Pv z.length σ H->D.nx σ H) :
 ∃ W:Nat->Nat->St->Hp->Prop,(∃ m,W 0 m σ H)/\∀ i m σ H,W i m σ H ->
  ((Its z).stop i H/\D.nx σ H)\/((Its z).go i H/\∃ N:St->Hp->Prop,(∀ σ' H',N σ' H'->∃ m',m' < m/\W (i+1) m' σ' H')/\∀ x H',(Its z).yld i H x H'->g x σ H' λσ2 H2=>tb { D with nx:=N,ct:=N,bk:=D.nx } σ2 H2):=by
 refine⟨λi m σ H=>m=z.length - i/\i<=z.length/\Pv i σ H,⟨z.length,by simp,Us _,h0⟩,?_⟩
 rintro i m σ H ⟨rfl,hi,p⟩
 by_cases ay:i < z.length
 .refine .inr ⟨ay,Pv (i+1),λσ' H' p'=>⟨z.length - (i+1),by lia,rfl,ay,p'⟩,λx H' y=>?_⟩
  obtain⟨e,c,hc,e2⟩:=y;subst e e2;exact hs i c σ _ (by simpa using hc) p
 .have e:i=z.length:=by lia
  subst e;exact .inl ⟨Um _,hd σ H p⟩
theorem X6a:∀ {ys:List Str} {us:List Va},Qv (ys.map V.str) us->StrsAre us ys
 | [],_,.nil=>.nil
 | y::ys,_,.cons r t=>by
  obtain⟨tk,rfl⟩:=r;exact .cons y tk (X6a t)
def Yic(K:VC):V->List V->Hp->VK->Prop:=λx xs H Q=>∃ z l ys,x=.str z/\xs=[.ref l]/\SqL K H l (ys.map V.str)/\(ys.map (·.length)).sum+ys.length * z.length<=16777216/\Q (.str (O9 z ys)) H
theorem Qyd:MtR X "str.join" (Yic X.K):=by
 intro aa s σ H x xs v us Q I rx rv h;obtain⟨z,l,ys,rfl,rfl,hq,hok,q⟩:=h;obtain⟨t,rfl⟩:=rx;obtain⟨u,rfl,ru⟩:=rv.one;cases ru;obtain⟨af,r,p,hz⟩:=I.list hq;exact join_list p.isList (X6a (by simpa using r)) hok λt' k=>⟨.str _,H,I.tok k,⟨_,rfl⟩,q⟩
def Jzd:V->Option Int->Option Int->Hp->VK->Prop:=λx lo hi H Q=>∃ z,x=.str z/\z.length<=Vs/\Q (.str (Ia z lo hi)) H
theorem Yvb{x:V}(f:Jd x=true):eqV x x=true:=by cases x <;> simp[eqV,Jd]at *
end
theorem JAd:VE "len"=Vo (.builtin "len"):=by decide +kernel
theorem Jz:VE "isinstance"=Vo (.builtin "isinstance"):=by decide +kernel
theorem Yjc:VE "ord"=Vo (.builtin "ord"):=by decide +kernel
theorem JBd:VE "max"=Vo (.builtin "max"):=by decide +kernel
theorem JCd:VE "min"=Vo (.builtin "min"):=by decide +kernel
theorem X2b:VE "str"=Vo (.type "str"):=by decide +kernel
theorem JDd:VE "int"=Vo (.type "int"):=by decide +kernel
theorem Qzd:VE "bool"=Vo (.type "bool"):=by decide +kernel
theorem QXc:VE "list"=Vo (.type "list"):=by decide +kernel
theorem X7a:VE "tuple"=Vo (.type "tuple"):=by decide +kernel
def JEd(dsc sc:Scope)(x:Str)(N M:List Str):Bool :=
 decide (sc.kind=.function) && sc.names.all (λy=>decide (y.2≠.cell)) && sc.names.all (λy=>decide (y.2=.local->sc.names.lookup y.1=Vo .local)) && decide (sc.names.lookup x=Vo .local) && decide ((x::M).Nodup) &&
 decide (M.length=N.length) && sc.names.all (λy=>decide (y.2=.free->dsc.names.lookup y.1=Vo .cell\/dsc.names.lookup y.1=Vo .free)) &&
 (VB M.length).all (λi=>match M[i]? with | some y=>decide (sc.names.lookup y=Vo .free->N[i]?=Vo y) | none=>true) && M.all (λy=>decide (sc.names.lookup y≠Vo .local))
theorem QYc{X:Cx}{sc dsc:Scope}{x:Str}{N M:List Str}(hN:X.N=N)(hs:X.env.scope=dsc)(h:JEd dsc sc x N M=true):X3a X sc x M:=by
 unfold JEd at h;simp only[Ov,decide_eq_true_eq,Ib]at h;obtain⟨⟨⟨⟨⟨⟨⟨⟨h1,h2⟩,h3⟩,h4⟩,h5⟩,h6⟩,h7⟩,h8⟩,h9⟩:=h;refine⟨h1,h2,h3,h4,h5,by rw[hN];exact h6,λy hy hf=>?_,λi y hi hf=>?_,h9⟩
 .have:=h7 y hy hf
  rw[<- hs]at this;exact this
 .have hl:i < M.length:=(List.getElem?_eq_some_iff.mp hi).1
  have:=h8 i (mem_range.mpr hl);rw[hi]at this;rw[hN];exact(decide_eq_true_eq.mp this) hf
def Cal(P:Vg)(w:Vb)(K:VC)(mg:Str->Option Va)(base:Vq)(k:Nat)(x:Str)(ps:List Str)(sp:Sp):Prop :=
 ∃ f fd,Qp P w K mg base CX0 k f fd ps sp/\Zz K fd ps []/\UJ K (.ref f)=true/\mg x=Vo (.ref f)
section
variable{X:Cx}{e:Expr}{es:List Expr}{t:TA}{p pos:Pos}
theorem YZ{j k:Nat}{x:Str}{ps:List Str}{sp:Sp}(G:Cal X.prog X.w X.K X.mg X.base j x ps sp)(hr:Q1 k X.A)(hj:j<=k)(hg:Gl X x)(ha:PA X (e::es) t)(aN:(x == ("__debug__":Str))=false:=by decide)
 (he:VU (e::es) X.env=(false,VS e X.env)::VU es X.env:=by rfl) (aV:(VT pos (VU es X.env)).any (·.1)=false:=by rfl):PE X (.Call (.Name x p) (e::es) [] pos) (Jsa sp [] E0 t):=by
 obtain⟨f,fd,F,b,kp,m⟩:=G;exact QTc F (hr.mono hj) hg m kp b .nil ZEb ha aN he aV
theorem Q5a{x:Str}{i:Int}(h:∃ t,X.mg x=Vo (.int i t))(hg:Gl X x)(hd:(x == ("__debug__":Str))=false:=by decide):PE X (.Name x pos) (tC (.int i)):=by
 obtain⟨t,h⟩:=h;exact QJc hg h ⟨t,rfl⟩ hd
end
theorem QJ{K:VC}{H:Hp}{Q:VK}{x:V}{n:String}{t:Va}{b:Bool}(ty:Jra K H x t)(e:UP K t (.type n)=Vo b)(q:Q (.bl b) H):X0b K [x,.ty n] H Q:=⟨x,.ty n,t,.type n,b,rfl,rfl,ty,e,q⟩
section
variable{K:VC}
theorem Ywb:UP K (.type "int") (.type "int")=Vo true:=by rfl
theorem Yxb:UP K (.type "str") (.type "int")=Vo false:=by rfl
theorem JCa:UP K (.type "int") (.type "bool")=Vo false:=by rfl
end
theorem YMd{c:Bool}{p:Bool->Prop}:(∃ k,V.bl c=V.bl k/\p k)=p c:=propext ⟨λ⟨_,e,q⟩=>by cases e;exact q,λq=>⟨c,rfl,q⟩⟩
theorem JFd{c:Int}{p:Int->Prop}:(∃ k,V.int c=V.int k/\p k)=p c:=propext ⟨λ⟨_,e,q⟩=>by cases e;exact q,λq=>⟨c,rfl,q⟩⟩
theorem JGd{c:Str}{p:Str->Prop}:(∃ k,V.str c=V.str k/\p k)=p c:=propext ⟨λ⟨_,e,q⟩=>by cases e;exact q,λq=>⟨c,rfl,q⟩⟩
theorem JHd{c:Vh}{p:Vh->Prop}:(∃ k,V.ref c=V.ref k/\p k)=p c:=propext ⟨λ⟨_,e,q⟩=>by cases e;exact q,λq=>⟨c,rfl,q⟩⟩
theorem QAd{a b:Int}{p:Int->Int->Prop}:(∃ i j,V.int a=V.int i/\V.int b=V.int j/\p i j)=p a b:=propext ⟨λ⟨_,_,e,f,q⟩=>by cases e;cases f;exact q,λq=>⟨a,b,rfl,rfl,q⟩⟩
theorem JDa{t:TS}{D:ZG}{σ σ':St}{H:Hp}(e:σ'=σ)(h:t D σ H):t D σ' H:=by rw[e];exact h
end L2
end
section
namespace Att
open PySem PySem.W PySem.Calls PyProof.Rows
theorem Yyb:∀ (ns:List Int),Ic (ns.map OC)<=2 ^ 20->∀ n∈ns,Ie n<=2 ^ 20
 | [],_,_,h=>nomatch h
 | m::ns,hw,n,h=>by
  rw[UI]at hw;have e:Ic (OC m::ns.map OC)=Ig (.int m)+1+Ic (ns.map OC):=by simp only[Ic]
  rw[e]at hw
  rcases mem_cons.mp h with rfl | h
  .have:Ig (.int n)<=2 ^ 20:=by lia
   simpa only[Ig,Ie]using this
  .exact Yyb ns #[0] n h
theorem Job{l:OpenLaw}{n:Nat}{q:Vg}{cQ:List Str}{XP:(Str->Option Va)->Vq->Prop}{YP:Vb->Vq->Prop}{d:DefRec}
 (hn:l.most=Vo n) (nP:d.params.defaults=[])
 (Ut:∀ (w:Vb) (s₀ s₁:VG) (mg mb:Str->Option Va) (fa:Vh) (o:Obj) (pm cd aW:Va) (a:Vh) (vs:List Va) (ns:List Int),
  Ground q cQ [] XP w s₀ mg mb s₁.heap->YP w s₁.heap ->
  s₁.heap.get? fa=Vo o->o.data=.func (docDef d.name d.params d.body d.scope pm cd aW)->s₁.heap.CodeRec cd d.name->mg d.name=Vo (.ref fa) ->
  s₁.heap.get? a=Vo { cls:=.type "list",data:=.seq vs.toArray }->IntsAre vs ns->ns.length<=n->(∀ i∈ns,Ie i<=2 ^ 20)->s₁.gens=#[] ->
  UF (VR l.prog w) OD (.call (.ref fa) ⟨[.ref a],[]⟩) (λr s'=>r=.ok (.ret (.bool true))/\OldK s₁.heap s'.heap/\s'.os=s₁.os/\VH s'.gens) s₁) :
 WalkO q cQ XP YP l.row.toRowW d [] (λf vs=>PySem.call f vs):=by
 intro w s₀ s₁ mg mb G Y fa o pm cd aW dV kV ho hd bu hD jH hg args hU as fo nQ hrd nA aT;obtain rfl:dV=.none:=Dflts.none hD nP;obtain rfl:kV=.none:=Dflts.noKw hD;obtain⟨a,vs,ns,rfl,rfl,ik,dP,aA⟩:=ZKc hn fo nA;have hb:∀ i∈ns,Ie i<=2 ^ 20:=by
  have h1:WData.layable (.list (ns.map OC))=true:=by
   have:=nQ;unfold WData.layableAll at this;exact all_eq_true.mp this _ VL
  have h2:Ig (.list (ns.map OC))<=2 ^ 20:=of_decide_eq_true (Bool.and_eq_true_iff.mp h1).2;exact Yyb ns (by simpa only[Ig]using h2)
 refine enter_call (UX (Ut w s₀ s₁ mg mb fa o pm cd aW a vs ns G Y ho (fd_plain hd) bu jH ik dP aA hb hg) λr s' hq=>?_)
 obtain⟨rfl,h2,h3,h4⟩:=hq;exact⟨.inl ⟨.bool true,.bool true,[],rfl,λ_=>rfl,.bool true,ZLc l _,λ_=>⟨Ih,λ_ hm=>(nomatch hm)⟩⟩,h2,h3,h4⟩
end Att
namespace L2
open PySem PySem.Spec PyProof.Rows
theorem Ykc{l:W.OpenLaw}{n k:Nat}{q:Vg}{cQ:List Str}{XP:(Str->Option Va)->Vq->Prop}{YP:Vb->Vq->Prop}{d:DefRec}{K:Params->VC}{CX:Vb->CXT}{sp:VC->Sp}{x:Str}
 (hn:l.most=Vo n) (lT:n<=Vs) (nP:d.params.defaults=[]) (hr:Q1 k OD)
 (hY:∀ (w:Vb) (h:Vq),YP w h->(K w.params).In h)
 (F:∀ (w:Vb) (mg:Str->Option Va) (fa:Vh) (h:Vq),(K w.params).In h->h.Ns VD mg->mg d.name=Vo (.ref fa) ->
  ∃ fd:UU,(∀ (s:VG) (u:Va),BindsTo s fd ⟨[u],[]⟩ [(x,u)]) /\
   ∀ base:Vq,(K w.params).In base->base.Ns VD mg->Qp l.prog w (K w.params) mg base (CX w) k fa fd [x] (sp (K w.params)))
 (eQ:∀ (K:VC) (H:Hp) (a:Vh) (ns:List Int),ns.length<=n->(∀ i∈ns,Ie i<=2 ^ 20)->Jqd H->SqL K H a (ns.map V.int)->sp K [.ref a] H (λv _=>v=.bl true) λ_ _ _=>False)
 (nE:∀ (w:Vb) (H:Hp) (s:VG) (e:Va) (s':VG),CX w [] H s (λ_ _ _=>False) e s'->False) :
 W.WalkO q cQ XP YP l.row.toRowW d [] (λf vs=>PySem.call f vs):=by
 refine Att.Job hn nP λw s₀ s₁ mg mb fa o pm cd aW a vs ns G Y ho hd bu jH ik dP aA hb hg=>?_
 have KX:=hY w _ Y;obtain⟨fd,uR,hF⟩:=F w mg fa _ KX G.T.g jH;exact J6c KX G.T.g G.T.b G.T.builtins G.T.nolimit hg ik dP (VI aA lT) hr hF uR (λH hO hS=>eQ _ H a ns aA hb hO hS) λH e s'=>nE w H s₁ e s'
section
variable{X:Cx}
theorem QBd:OpR X (Uu .Mult) (rI IntMulOk λi j=>.int (i * j)):=opI λ_ _ _ _ _ _ _ hc q=>mul_int q hc
end
section
variable{X:Cx}
theorem JId:SlR X Jzd:=by
 intro aa s σ H x v vl vu lo hi sl Q I rx hs pl pu h;obtain⟨z,rfl,hz,q⟩:=h;obtain⟨t,rfl⟩:=rx;refine⟨"str",_,F.slot_str_getitem.lookup,typeIs_str _ _ _,?_⟩
 cases pl with
 | none =>
  cases pu with
  | none=>exact Ii (l:=Vp) (u:=Vp) (st:=Vp) hs rfl (Ij ⟨VI (Ik z _ _) hz,λt' k=>⟨.str (Ia z Vp Vp),H,I.tok k,⟨_,rfl⟩,q⟩⟩)
  | int j uj=>exact Ii (l:=Vp) (u:=Vo (j,uj)) (st:=Vp) hs rfl (Ij ⟨VI (Ik z _ _) hz,λt' k=>⟨.str (Ia z Vp (Vo j)),H,I.tok k,⟨_,rfl⟩,q⟩⟩)
 | int i ui =>
  cases pu with
  | none=>exact Ii (l:=Vo (i,ui)) (u:=Vp) (st:=Vp) hs rfl (Ij ⟨VI (Ik z _ _) hz,λt' k=>⟨.str (Ia z (Vo i) Vp),H,I.tok k,⟨_,rfl⟩,q⟩⟩)
  | int j uj=>exact Ii (l:=Vo (i,ui)) (u:=Vo (j,uj)) (st:=Vp) hs rfl (Ij ⟨VI (Ik z _ _) hz,λt' k=>⟨.str (Ia z (Vo i) (Vo j)),H,I.tok k,⟨_,rfl⟩,q⟩⟩)
end
theorem Qb{H:Hp}{p:Vh}(h:H p=Vp)(o:HO):Qf H (upd H p o):=λb u q=>by rw[Qe (QE q h)];exact q
theorem Qf.updL{H H':Hp}{p:Vh}(s:Qf H H')(h:H p=Vp)(o:HO):Qf H (upd H' p o):=λb u q=>by rw[Qe (QE q h)];exact s b u q
theorem Qf.seqT{K:VC}{H H':Hp}{a:Vh}{xs:List V}(e:Qf H H')(h:SqT K H a xs):SqT K H' a xs:=by
 rcases h with (h | ⟨o,h⟩) | h
 .exact .inl (.inl (e _ _ h))
 .exact .inl (.inr ⟨o,e _ _ h⟩)
 .exact .inr h
theorem Zid{α:Type}(xs:List α)(i:Nat):∀ k:Nat,((VB k).map (i+·)).filterMap (xs[·]?)=(xs.drop i).take k
 | 0=>by simp
 | k+1=>by
  rw[range_succ,Il,filterMap_append,Zid xs i k,Im,getElem?_drop]
  cases h:xs[i+k]? <;> simp[h]
theorem ZRc(lo hi:Option Int)(n:Nat):Builtin.Str.strSliceIndices lo hi 1 n=(VB (HT.sIx n n hi - HT.sIx n 0 lo)).map (HT.sIx n 0 lo+·):=by
 obtain⟨h1,h2,h3⟩:=Jwa lo hi n;have e:Builtin.Str.strSliceIndices lo hi 1 n=sliceRange (Ou lo hi Vp n).1 (Ou lo hi Vp n).2.1 (Ou lo hi Vp n).2.2:=rfl;rw[e,h1,h2,h3];unfold sliceRange;have h4:(1:Int) > 0:=by decide
 simp only[h4,if_true];have e2:(if ((HT.sIx n 0 lo:Nat):Int) < ((HT.sIx n n hi:Nat):Int) then (((HT.sIx n n hi:Nat):Int) - ((HT.sIx n 0 lo:Nat):Int)+1 - 1) / 1 else 0).toNat=HT.sIx n n hi - HT.sIx n 0 lo:=by
  split <;> lia
 rw[e2]
 apply Io
 intro k _
 lia
def Ylc(z:Str)(lo hi:Option Int):List Nat:=(z.cps.toList.drop (HT.sIx z.length 0 lo)).take (HT.sIx z.length z.length hi - HT.sIx z.length 0 lo)
theorem X8a(z:Str)(lo hi:Option Int):(Ia z lo hi).cps.toList=Ylc z lo hi:=by
 have hn:z.cps.toList.length=z.length:=by simp[Os]
 unfold Ia Ylc;rw[ZRc]
 split
 .rename_i h
  have hl:HT.sIx z.length z.length hi - HT.sIx z.length 0 lo=z.length:=by
   have:=(Bool.and_eq_true_iff.mp h).2
   simpa using this
  have hb:=HT.Jkd z.length z.length (Um _) hi;have ha:HT.sIx z.length 0 lo=0\/z.length=0:=by lia
  rcases ha with ha | ha
  .rw[hl,ha,Dy,Ip #[0]]
  .have:z.cps.toList=[]:=Iq #[0]
   rw[this];simp
 .show(Ir _).toList=_
  rw[toList_toArray];have e:(λ(x:Nat)=>z.cps[x]?)=λ(x:Nat)=>z.cps.toList[x]?:=by funext x;simp
  rw[e];exact Zid _ _ _
theorem ZSc(z:Str)(lo hi:Option Int):(Ia z lo hi).length=(Ylc z lo hi).length:=by
 rw[<- X8a];simp[Os]
def FoR(J:It)(g:TG)(tb:TS)(D:ZG)(σ:St)(H1:Hp):Prop:=∃ W:Nat->Nat->St->Hp->Prop,(∃ m,W 0 m σ H1)/\∀ i m σ H,W i m σ H ->
 (J.stop i H/\D.nx σ H)\/(J.go i H/\∃ N:St->Hp->Prop,(∀ σ' H',N σ' H'->∃ m',m' < m/\W (i+1) m' σ' H')/\∀ x H',J.yld i H x H'->g x σ H' λσ2 H2=>tb { D with nx:=N,ct:=N,bk:=D.nx } σ2 H2)
def LcR(J:It)(tt:TT)(te:TE)(σ:St)(Q:VK)(H1:Hp):Prop:=∀ D,H1 D=Vp->∃ W:Nat->Nat->List V->Hp->Prop,(∃ m,W 0 m [] (upd H1 D (.lst [])))/\∀ i m ys H,W i m ys H ->
 H D=Vo (.lst ys)/\((J.stop i H/\Q (.ref D) H)\/(J.go i H/\ys.length < Vs/\∀ x H',J.yld i H x H'->tt (Vo x::σ) H' λb H2=>if b=true then te (Vo x::σ) H2 λv H3 =>
  H3 D=Vo (.lst ys)/\∃ m',m' < m/\W (i+1) m' (ys++[v]) (upd H3 D (.lst (ys++[v]))) else ∃ m',m' < m/\W (i+1) m' ys H2))
theorem ZTc{ta:TA}{g:TG}{tb:TS}{D:ZG}{σ:St}{H:Hp}:Q2b (JMc ta) g tb D σ H=ta σ H λvs H1=>∃ j:Int,vs=[.int j] /\ -(2 ^ 62)<=j/\j < 2 ^ 62/\FoR (Itr 0 j.toNat) g tb D σ H1:=rfl
theorem ZUc{ta:TA}{g:TG}{tb:TS}{D:ZG}{σ:St}{H:Hp}:Q2b (JNc ta) g tb D σ H=ta σ H λvs H1=>∃ i j:Int,vs=[.int i,.int j]/\(-(2 ^ 62)<=i/\i < 2 ^ 62 /\ -(2 ^ 62)<=j/\j < 2 ^ 62)/\FoR (Itr i (j - i).toNat) g tb D σ H1:=rfl
theorem ZVc{K:VC}{tl:TE}{g:TG}{tb:TS}{D:ZG}{σ:St}{H:Hp}:Q2b (JLc K tl) g tb D σ H=tl σ H λx H1=>∃ a,x=.ref a/\(∃ xs,SqL K H1 a xs)/\FoR (Itl K a) g tb D σ H1:=rfl
theorem Ymc{K:VC}{tl:TE}{g:TG}{tb:TS}{D:ZG}{σ:St}{H:Hp}:Q2b (Z3d K tl) g tb D σ H=tl σ H λx H1=>∃ a,x=.ref a/\(∃ xs,SqT K H1 a xs)/\FoR (Itt K a) g tb D σ H1:=rfl
theorem Ync{tl:TE}{g:TG}{tb:TS}{D:ZG}{σ:St}{H:Hp}:Q2b (Jyd tl) g tb D σ H=tl σ H λx H1=>∃ z,x=.str z/\FoR (Its z) g tb D σ H1:=rfl
theorem Yoc{ta:TA}{tt:TT}{te:TE}{σ:St}{H:Hp}{Q:VK}:tLc (JMc ta) tt te σ H Q=ta σ H λvs H1=>∃ j:Int,vs=[.int j] /\ -(2 ^ 62)<=j/\j < 2 ^ 62/\LcR (Itr 0 j.toNat) tt te σ Q H1:=rfl
theorem Ypc{K:VC}{tl:TE}{tt:TT}{te:TE}{σ:St}{H:Hp}{Q:VK}:tLc (JLc K tl) tt te σ H Q=tl σ H λx H1=>∃ a,x=.ref a/\(∃ xs,SqL K H1 a xs)/\LcR (Itl K a) tt te σ Q H1:=rfl
theorem QCd{K:VC}{tl:TE}{tt:TT}{te:TE}{σ:St}{H:Hp}{Q:VK}:tLc (Z3d K tl) tt te σ H Q=tl σ H λx H1=>∃ a,x=.ref a/\(∃ xs,SqT K H1 a xs)/\LcR (Itt K a) tt te σ Q H1:=rfl
theorem QDd{tl:TE}{tt:TT}{te:TE}{σ:St}{H:Hp}{Q:VK}:tLc (Jyd tl) tt te σ H Q=tl σ H λx H1=>∃ z,x=.str z/\LcR (Its z) tt te σ Q H1:=rfl
theorem ZH{lo:Int}{n:Nat}{g:TG}{tb:TS}{D:ZG}{σ:St}{H:Hp}(Pv:Nat->St->Hp->Prop)(h0:Pv 0 σ H)
 (hs:∀ i σ H,i < n->Pv i σ H->g (.int (lo+i)) σ H λσ2 H2=>tb { D with nx:=Pv (i+1),ct:=Pv (i+1),bk:=D.nx } σ2 H2) (hd:∀ σ H,Pv n σ H->D.nx σ H):FoR (Itr lo n) g tb D σ H:=ZDc Pv h0 hs hd
theorem ZU{K:VC}{a:Vh}(xs:List V){g:TG}{tb:TS}{D:ZG}{σ:St}{H:Hp}(Pv:Nat->St->Hp->Prop)(h0:Pv 0 σ H)(hl:∀ i σ H,i<=xs.length->Pv i σ H->SqL K H a xs)
 (hs:∀ i x σ H,xs[i]?=Vo x->Pv i σ H->g x σ H λσ2 H2=>tb { D with nx:=Pv (i+1),ct:=Pv (i+1),bk:=D.nx } σ2 H2) (hd:∀ σ H,Pv xs.length σ H->D.nx σ H):FoR (Itl K a) g tb D σ H:=JOc Pv h0 hl hs hd
theorem QZc{K:VC}{a:Vh}(xs:List V){g:TG}{tb:TS}{D:ZG}{σ:St}{H:Hp}(Pv:Nat->St->Hp->Prop)(h0:Pv 0 σ H)(hl:∀ i σ H,i<=xs.length->Pv i σ H->SqT K H a xs)
 (hs:∀ i x σ H,xs[i]?=Vo x->Pv i σ H->g x σ H λσ2 H2=>tb { D with nx:=Pv (i+1),ct:=Pv (i+1),bk:=D.nx } σ2 H2) (hd:∀ σ H,Pv xs.length σ H->D.nx σ H):FoR (Itt K a) g tb D σ H:=X4c Pv h0 hl hs hd
theorem QEd{z:Str}{g:TG}{tb:TS}{D:ZG}{σ:St}{H:Hp}(Pv:Nat->St->Hp->Prop)(h0:Pv 0 σ H)
 (hs:∀ i c σ H,z.cps.toList[i]?=Vo c->Pv i σ H->g (.str ⟨#[c]⟩) σ H λσ2 H2=>tb { D with nx:=Pv (i+1),ct:=Pv (i+1),bk:=D.nx } σ2 H2) (hd:∀ σ H,Pv z.length σ H->D.nx σ H):FoR (Its z) g tb D σ H:=Qxd Pv h0 hs hd
theorem Yqc{J:It}{te:TE}{σ:St}{H1:Hp}{Q:VK}(n:Nat)(item:Nat->V->Prop)(P:Nat->V->Prop)(hz:n<=Vs)
 (ft:∀ i H2,i < n->Qf H1 H2->J.go i H2/\∀ x H',J.yld i H2 x H'->H'=H2/\item i x) (bJ:∀ H2,Qf H1 H2->J.stop n H2)
 (he:∀ i x H2 (R:VK),item i x->Qf H1 H2->(∀ v H3,P i v->Qf H2 H3->R v H3)->te (Vo x::σ) H2 R)
 (hq:∀ D H2 ys,H1 D=Vp->Qf H1 H2->H2 D=Vo (.lst ys)->ys.length=n->(∀ i y,ys[i]?=Vo y->P i y)->Q (.ref D) H2):LcR J JAa te σ Q H1:=by
 intro D hD;refine⟨λi m ys H2=>m=n - i/\i<=n/\ys.length=i/\H2 D=Vo (.lst ys)/\Qf H1 H2/\∀ j y,ys[j]?=Vo y->P j y,⟨_,rfl,Us _,rfl,Qa,Qb hD _,λj y h=>by simp at h⟩,?_⟩
 rintro i m ys H2 ⟨rfl,hi,hl,hd,sm,hp⟩;refine⟨hd,?_⟩
 by_cases ay:i < n
 .obtain⟨go,yl⟩:=ft i H2 ay sm
  refine .inr ⟨go,by lia,λx H' y=>?_⟩
  obtain⟨e,hx⟩:=yl x H' y;subst e;unfold JAa;refine Qud ?_
  refine he i x _ _ hx sm λv H3 pv s3=>⟨s3 _ _ hd,n - (i+1),by lia,rfl,ay,by rw[Oh,hl];rfl,Qa,(sm.trans s3).updL hD _,λj y h=>?_⟩
  by_cases hj:j < ys.length
  .rw[Oe hj]at h
   exact hp j y h
  .rw[Od #[0]]at h
   have dB:j=i:=by
    have:=(List.getElem?_eq_some_iff.mp h).1
    simp at this
    lia
   subst dB;rw[hl]at h;simp at h;subst h;exact pv
 .have e:i=n:=by lia
  subst e;exact .inl ⟨bJ H2 sm,hq D H2 ys hD sm hd hl hp⟩
theorem ZHb{te:TE}{σ:St}{H1:Hp}{Q:VK}{lo:Int}{n:Nat}(P:Nat->V->Prop)(hz:n<=Vs)
 (he:∀ (i:Nat) H2 (R:VK),i < n->Qf H1 H2->(∀ v H3,P i v->Qf H2 H3->R v H3)->te (Vo (.int (lo+i))::σ) H2 R)
 (hq:∀ D H2 ys,H1 D=Vp->Qf H1 H2->H2 D=Vo (.lst ys)->ys.length=n->(∀ i y,ys[i]?=Vo y->P i y)->Q (.ref D) H2):LcR (Itr lo n) JAa te σ Q H1 :=
 Yqc n (λi x=>i < n/\x=.int (lo+i)) P hz (λi H2 hi _=>⟨hi,λx H' y=>⟨y.1,hi,y.2⟩⟩) (λ_ _=>Um _) (λi x H2 R ⟨hi,e⟩ s r=>by subst e;exact he i H2 R hi s r) hq
theorem Q0c{z:Str}{te:TE}{σ:St}{H1:Hp}{Q:VK}(P:Nat->V->Prop)(hz:z.length<=Vs)
 (he:∀ i c H2 (R:VK),z.cps.toList[i]?=Vo c->Qf H1 H2->(∀ v H3,P i v->Qf H2 H3->R v H3)->te (Vo (.str ⟨#[c]⟩)::σ) H2 R)
 (hq:∀ D H2 ys,H1 D=Vp->Qf H1 H2->H2 D=Vo (.lst ys)->ys.length=z.length->(∀ i y,ys[i]?=Vo y->P i y)->Q (.ref D) H2):LcR (Its z) JAa te σ Q H1 :=
 Yqc z.length (λi x=>∃ c,z.cps.toList[i]?=Vo c/\x=.str ⟨#[c]⟩) P hz (λi H2 hi _=>⟨hi,λx H' ⟨e,c,hc,ex⟩=>⟨e,c,by simpa using hc,ex⟩⟩) (λ_ _=>Um _) (λi x H2 R ⟨c,hc,e⟩ s r=>by subst e;exact he i c H2 R hc s r) hq
end L2
end
section
namespace SortT
open PySem PySem.W PyProof.Rows
def Xc{α:Type}(n:Nat)(r:Nat->Nat):KasT α->(α->Prop)->Prop
 | .ret a,Q=>Q a
 | .ask i j k,Q=>i < n/\j < n/\Xc n r (k (decide (r i < r j))) Q
theorem Zl{α:Type}{n:Nat}{r:Nat->Nat}{Q Q':α->Prop}(h:∀ a,Q a->Q' a):∀ t:KasT α,Xc n r t Q->Xc n r t Q'
 | .ret a,q=>h a q
 | .ask i j k,q=>⟨q.1,q.2.1,Zl h (k _) q.2.2⟩
theorem Yo{α β:Type}{n:Nat}{r:Nat->Nat}{f:α->KasT β}{Q:β->Prop}:∀ t:KasT α,Xc n r t (λa=>Xc n r (f a) Q)->Xc n r (t.bind f) Q
 | .ret a,q=>q
 | .ask i j k,q=>⟨q.1,q.2.1,Yo (k _) q.2.2⟩
theorem Q1c{α:Type}{n:Nat}{r:Nat->Nat}{qM:Nat->Nat->(Bool->VG->Prop)->VG->Prop}{Q:α->VG->Prop}{I:VG->Prop}(hc:∀ i j C s,i < n->j < n->I s->(∀ s',I s'->C (decide (r i < r j)) s')->qM i j C s) :
 ∀ (t:KasT α) (s:VG),I s->Xc n r t (λa=>∀ s',I s'->Q a s')->t.kasWp qM Q s
 | .ret a,s,hs,q=>q s hs
 | .ask i j k,s,hs,q=>hc i j _ s q.1 q.2.1 hs λs' aQ=>Q1c hc (k _) s' aQ q.2.2
def K(r:Nat->Nat)(p:Array Nat)(i:Nat):Nat:=r (p.getD i 0)
structure Ok(n:Nat)(p:Array Nat):Prop where
 size:p.size=n
 perm:p.Perm (VB n).toArray
theorem Ok.lt{n:Nat}{p:Array Nat}(h:Ok n p)(hn:0 < n)(i:Nat):p.getD i 0 < n:=by
 rw[Iu];cases e:p[i]? with
 | none=>exact hn
 | some x =>
  have hx:x∈p:=Array.mem_of_getElem? e;have:=(h.perm.mem_iff (a:=x)).mp hx
  simpa using this
theorem Ok.start(n:Nat):Ok n (VB n).toArray:=⟨by simp,Array.Perm.refl _⟩
theorem Ok.rev{n:Nat}{p:Array Nat}(h:Ok n p)(i j:Nat):Ok n (Iv p i j):=⟨(mirror_size _ _ _ _).trans h.size,(mirror_perm _ _ _ _).trans h.perm⟩
theorem Ok.bub{n:Nat}{p:Array Nat}(h:Ok n p)(i j:Nat):Ok n (bubble p i j):=⟨(bubble_size _ _ _).trans h.size,(bubble_perm _ _ _).trans h.perm⟩
theorem ZWc{r:Nat->Nat}{p q:Array Nat}{i j:Nat}(h:p[i]?=q[j]?):K r p i=K r q j:=by
 unfold K;rw[Iu,Iu,h]
theorem Yrc{r:Nat->Nat}{p:Array Nat}{i j:Nat}(hj:j<=p.size)(k:Nat):K r (Iv p i j) k=if i<=k/\k < j then K r p (i+j - 1 - k) else K r p k:=by
 have h:=getElem?_mirror (xs:=p) (i:=i) hj ((j - i) / 2) #[0] k
 unfold Iv
 by_cases hk:(i<=k/\k < i+(j - i) / 2)\/(j - (j - i) / 2<=k/\k < j)
 .rw[if_pos hk]at h
  rw[if_pos #[0]]
  exact ZWc h
 .rw[if_neg hk]at h
  by_cases fw:i<=k/\k < j
  .rw[if_pos fw]
   have e:i+j - 1 - k=k:=by lia
   rw[e];exact ZWc h
  .rw[if_neg fw]
   exact ZWc h
theorem Zjd{r:Nat->Nat}{p:Array Nat}{k l:Nat}(hk:k < p.size)(hl:l<=k)(x:Nat):K r (bubble p k (k - l)) x=if x=l then K r p k else if l < x/\x<=k then K r p (x - 1) else K r p x:=by
 have h:=getElem?_bubble (xs:=p) hk (k - l) #[0] x
 have e:k - (k - l)=l:=by lia
 rw[e]at h
 by_cases h1:x=l
 .rw[if_pos h1]at h ⊢;exact ZWc h
 .rw[if_neg h1]at h ⊢
  by_cases h2:l < x/\x<=k
  .rw[if_pos h2]at h ⊢;exact ZWc h
  .rw[if_neg h2]at h ⊢;exact ZWc h
def Up(r:Nat->Nat)(p:Array Nat)(m:Nat):Prop:=∀ i j,i<=j->j < m->K r p i<=K r p j
def Dn(r:Nat->Nat)(p:Array Nat)(m:Nat):Prop:=∀ i j,i<=j->j < m->K r p j<=K r p i
variable{n:Nat}{r:Nat->Nat}
theorem X3b{p:Array Nat}(hp:Ok n p)(hn:0 < n):∀ (f m:Nat),1<=m->m+f<=n->Up r p m->Xc n r (kas_asc p f m) λk=>m<=k/\k<=m+f/\Up r p k/\(k < m+f->K r p k < K r p (k - 1))
 | 0,m,h1,h2,u=>⟨Um _,Um _,u,λh=>absurd h #[0]⟩
 | f+1,m,h1,h2,u=>by
  refine⟨hp.lt hn _,hp.lt hn _,?_⟩
  show Xc n r (if decide (K r p m < K r p (m - 1))=true then .ret m else kas_asc p f (m+1)) _
  by_cases h:K r p m < K r p (m - 1)
  .rw[if_pos (decide_eq_true h)]
   exact⟨Um _,by lia,u,λ_=>h⟩
  .rw[if_neg (by simpa using h)]
   refine Zl (λk hk=>⟨by lia,by lia,hk.2.2.1,λh'=>hk.2.2.2 #[0]⟩) _ (X3b hp hn f (m+1) #[0] #[0] λi j cR hj=>?_)
   by_cases hjm:j=m
   .subst hjm
    by_cases him:i=j
    .rw[him];exact Um _
    .have:=u i (j - 1) #[0] #[0];lia
   .exact u i j cR #[0]
theorem JJd{p:Array Nat}{m:Nat}(hm:m<=p.size)(d:Dn r p m):Up r (Iv p 0 m) m:=λi j cR hj=>by
 rw[Yrc hm,Yrc hm,if_pos #[0],if_pos #[0]]
 exact d _ _ #[0] #[0]
theorem Q2c{p:Array Nat}(hp:Ok n p)(hn:0 < n){m:Nat}(h1:1<=m)(hm:m<=n)(d:Dn r p m):Xc n r (kas_tail3 m n p) λq=>1<=q.1/\q.1<=n/\Ok n q.2/\Up r q.2 q.1:=by
 unfold kas_tail3;refine Yo _ (Zl (λk hk=>?_) _ (X3b (hp.rev 0 m) hn (n - m) m h1 #[0] (JJd (by rw[hp.size];exact hm) d)))
 exact⟨by lia,by lia,hp.rev 0 m,hk.2.2.1⟩
theorem Qoa{p:Array Nat}{a b:Nat}(hb:b<=p.size)(h:∀ i,a<=i->i < b->K r p i=K r p a)(k:Nat):K r (Iv p a b) k=K r p k:=by
 rw[Yrc hb]
 by_cases hk:a<=k/\k < b
 .rw[if_pos hk,h _ #[0] #[0],h k hk.1 hk.2]
 .rw[if_neg hk]
theorem XKa(hn:0 < n):∀ (f:Nat) (p:Array Nat) (m q:Nat),Ok n p->q+1<=m->m+f<=n->Dn r p m->(∀ i,m - (q+1)<=i->i < m->K r p i=K r p (m - (q+1))) ->
 Xc n r (Iw f p m q) λx=>Ok n x.1/\m<=x.2.1/\x.2.1<=m+f/\x.2.2+1<=x.2.1/\Dn r x.1 x.2.1/\∀ i,x.2.1 - (x.2.2+1)<=i->i < x.2.1->K r x.1 i=K r x.1 (x.2.1 - (x.2.2+1))
 | 0,p,m,q,hp,hq,hf,d,e=>⟨hp,Um _,Um _,hq,d,e⟩
 | f+1,p,m,q,hp,hq,hf,d,e=>by
  have step:∀ p':Array Nat,Ok n p'->(∀ k,K r p' k=K r p k)->∀ q',q'+1<=m+1->K r p m<=K r p (m - 1)->(∀ i,m+1 - (q'+1)<=i->i < m+1->K r p i=K r p (m+1 - (q'+1)))->Dn r p' (m+1)/\∀ i,m+1 - (q'+1)<=i->i < m+1->K r p' i=K r p' (m+1 - (q'+1)):=λp' cy hk q' iW fA he=>by
   refine⟨λi j cR hj=>?_,λi h1 h2=>by rw[hk,hk];exact he i h1 h2⟩
   rw[hk,hk]
   by_cases hjm:j=m
   .subst hjm
    by_cases him:i=j
    .rw[him];exact Um _
    .have:=d i (j - 1) #[0] #[0];lia
   .exact d i j cR #[0]
  refine⟨hp.lt hn _,hp.lt hn _,?_⟩
  show Xc n r (if decide (K r p m < K r p (m - 1))=true then (if q > 0 then Iw f (Iv p (m - (q+1)) m) (m+1) 0 else Iw f p (m+1) 0) else .ask (p.getD (m - 1) 0) (p.getD m 0) λd=>if d=true then .ret (p,m,q) else Iw f p (m+1) (q+1)) _
  by_cases h:K r p m < K r p (m - 1)
  .rw[if_pos (decide_eq_true h)]
   have one:∀ i,m+1 - (0+1)<=i->i < m+1->K r p i=K r p (m+1 - (0+1)):=λi h1 h2=>by
    have:i=m+1 - (0+1):=by lia
    rw[this]
   have post:∀ {x:Array Nat×Nat×Nat},(Ok n x.1/\m+1<=x.2.1/\x.2.1<=m+1+f/\x.2.2+1<=x.2.1/\Dn r x.1 x.2.1/\∀ i,x.2.1 - (x.2.2+1)<=i->i < x.2.1->K r x.1 i=K r x.1 (x.2.1 - (x.2.2+1))) ->
    Ok n x.1/\m<=x.2.1/\x.2.1<=m+(f+1)/\x.2.2+1<=x.2.1/\Dn r x.1 x.2.1/\∀ i,x.2.1 - (x.2.2+1)<=i->i < x.2.1->K r x.1 i=K r x.1 (x.2.1 - (x.2.2+1)):=λhx=>⟨hx.1,by lia,by lia,hx.2.2.2.1,hx.2.2.2.2.1,hx.2.2.2.2.2⟩
   by_cases hq0:q > 0
   .rw[if_pos hq0]
    have hs:=step (Iv p (m - (q+1)) m) (hp.rev _ _) (Qoa (by rw[hp.size];lia) e) 0 #[0] #[0] one
    exact Zl (λx hx=>post hx) _ (XKa hn f _ (m+1) 0 (hp.rev _ _) #[0] #[0] hs.1 hs.2)
   .rw[if_neg hq0]
    have hs:=step p hp (λ_=>rfl) 0 #[0] #[0] one
    exact Zl (λx hx=>post hx) _ (XKa hn f _ (m+1) 0 hp #[0] #[0] hs.1 hs.2)
  .rw[if_neg (by simpa using h)]
   refine⟨hp.lt hn _,hp.lt hn _,?_⟩
   show Xc n r (if decide (K r p (m - 1) < K r p m)=true then .ret (p,m,q) else Iw f p (m+1) (q+1)) _
   by_cases h2:K r p (m - 1) < K r p m
   .rw[if_pos (decide_eq_true h2)]
    exact⟨hp,Um _,Nat.le_add_right _ _,hq,d,e⟩
   .rw[if_neg (by simpa using h2)]
    have he:∀ i,m+1 - (q+1+1)<=i->i < m+1->K r p i=K r p (m+1 - (q+1+1)):=λi h3 h4=>by
     have e1:m+1 - (q+1+1)=m - (q+1):=by lia
     rw[e1]at h3 ⊢
     by_cases him:i=m
     .have:=e (m - 1) #[0] #[0]
      rw[him];lia
     .exact e i h3 #[0]
    have hs:=step p hp (λ_=>rfl) (q+1) #[0] #[0] he
    exact Zl (λx hx=>⟨hx.1,by lia,by lia,hx.2.2.2.1,hx.2.2.2.2.1,hx.2.2.2.2.2⟩) _ (XKa hn f _ (m+1) (q+1) hp #[0] #[0] hs.1 hs.2)
theorem Y7a{p:Array Nat}(hp:Ok n p)(hn:0 < n){m:Nat}(h1:1<=m)(hm:m+1<=n)(d:Dn r p (m+1)):Xc n r (kas_descPart m n p) λq=>1<=q.1/\q.1<=n/\Ok n q.2/\Up r q.2 q.1:=by
 unfold kas_descPart;refine Yo _ (Zl (λx hx=>?_) _ (XKa hn (n - (m+1)) p (m+1) 0 hp #[0] #[0] d λi h3 h4=>by
  have:i=m+1 - (0+1):=by lia
  rw[this]))
 obtain⟨ho,h3,h4,h5,hd,he⟩:=hx
 by_cases hq:x.2.2 > 0
 .rw[if_pos hq]
  refine Q2c (ho.rev _ _) hn #[0] #[0] λi j cR hj=>?_
  rw[Qoa (by rw[ho.size];lia) he,Qoa (by rw[ho.size];lia) he]
  exact hd i j cR hj
 .rw[if_neg hq]
  exact Q2c ho hn #[0] #[0] hd
theorem Ysc{p:Array Nat}(hp:Ok n p)(hn:0 < n):Xc n r (kas_count n p) λq=>1<=q.1/\q.1<=n/\Ok n q.2/\Up r q.2 q.1:=by
 unfold kas_count;refine Yo _ (Zl (λm hm=>?_) _ (X3b hp hn (n - 1) 1 (Um _) #[0] λi j cR hj=>by
  have:i=j:=by lia
  rw[this];exact Um _))
 obtain⟨h1,h2,u,ay⟩:=hm
 by_cases he:m=n
 .rw[if_pos (by simpa using he)]
  exact⟨h1,by lia,hp,u⟩
 .rw[if_neg (by simpa using he)]
  have nR:K r p m < K r p (m - 1):=ay #[0]
  by_cases h3:m > 1
  .rw[if_pos h3]
   refine⟨hp.lt hn _,hp.lt hn _,?_⟩
   show Xc n r (if decide (K r p 0 < K r p (m - 1))=true then .ret (m,p) else kas_descPart m n (Iv p 0 m)) _
   by_cases h4:K r p 0 < K r p (m - 1)
   .rw[if_pos (decide_eq_true h4)]
    exact⟨h1,by lia,hp,u⟩
   .rw[if_neg (by simpa using h4)]
    have eq:∀ i,0<=i->i < m->K r p i=K r p 0:=λi _ hi=>by
     have a:=u 0 i #[0] hi
     have b:=u i (m - 1) #[0] #[0]
     lia
    refine Y7a (hp.rev 0 m) hn h1 #[0] λi j cR hj=>?_
    rw[Qoa (by rw[hp.size];lia) eq,Qoa (by rw[hp.size];lia) eq]
    by_cases hjm:j=m
    .subst hjm
     by_cases hij':i=j
     .rw[hij'];exact Um _
     .rw[eq i #[0] #[0]]
      have:=eq (j - 1) #[0] #[0]
      lia
    .rw[eq i #[0] #[0],eq j #[0] #[0]]
     exact Um _
  .rw[if_neg h3]
   refine Y7a hp hn h1 #[0] λi j cR hj=>?_
   have jI:m=1:=by lia
   subst jI
   by_cases hij':i=j
   .rw[hij'];exact Um _
   .have nS:i=0:=by lia
    have fC:j=1:=by lia
    subst nS fC;exact VJ nR
theorem X9a{p:Array Nat}(hp:Ok n p)(hn:0 < n){k:Nat}(u:Up r p k):∀ (f l q:Nat),l<=q->q<=k->q - l<=f->(∀ i,i < l->K r p i<=K r p k)->(∀ i,q<=i->i < k->K r p k < K r p i) ->
 Xc n r (kas_place p k f l q) λx=>x<=k/\(∀ i,i < x->K r p i<=K r p k)/\∀ i,x<=i->i < k->K r p k < K r p i
 | 0,l,q,h1,h2,h3,a,b=>by
  have e:l=q:=by lia
  subst e;exact⟨h2,a,b⟩
 | f+1,l,q,h1,h2,h3,a,b=>by
  unfold kas_place
  by_cases hlq:l >= q
  .rw[if_pos hlq]
   have e:l=q:=by lia
   subst e;exact⟨h2,a,b⟩
  .rw[if_neg hlq]
   refine⟨hp.lt hn _,hp.lt hn _,?_⟩
   show Xc n r (if decide (K r p k < K r p ((l+q) / 2))=true then kas_place p k f l ((l+q) / 2) else kas_place p k f ((l+q) / 2+1) q) _
   by_cases h:K r p k < K r p ((l+q) / 2)
   .rw[if_pos (decide_eq_true h)]
    refine X9a hp hn u f l _ #[0] #[0] #[0] a λi hi uS=>?_
    have:=u ((l+q) / 2) i hi uS
    lia
   .rw[if_neg (by simpa using h)]
    refine X9a hp hn u f _ q #[0] #[0] #[0] (λi hi=>?_) b
    have:=u i ((l+q) / 2) #[0] #[0]
    lia
theorem Ytc(hn:0 < n):∀ (f:Nat) (p:Array Nat) (k:Nat),Ok n p->k+f=n->Up r p k->Xc n r (kas_bin f p k) λq=>Ok n q/\Up r q n
 | 0,p,k,hp,h,u=>⟨hp,by rw[<- h];exact u⟩
 | f+1,p,k,hp,h,u=>by
  unfold kas_bin;refine Yo _ (Zl (λx hx=>?_) _ (X9a hp hn u k 0 k (Us _) (Um _) #[0] (λi hi=>absurd hi #[0]) λi h1 h2=>absurd h2 #[0]))
  obtain⟨iY,gF,uT⟩:=hx;refine Ytc hn f _ (k+1) (hp.bub _ _) #[0] λi j cR hj=>?_
  rw[Zjd (by rw[hp.size];lia) iY,Zjd (by rw[hp.size];lia) iY]
  by_cases l6:i=x
  .rw[if_pos l6]
   by_cases fC:j=x
   .rw[if_pos fC];exact Um _
   .rw[if_neg fC,if_pos #[0]]
    exact VJ (uT (j - 1) #[0] #[0])
  .rw[if_neg l6]
   by_cases ma:x < i/\i<=k
   .rw[if_pos ma,if_neg #[0],if_pos #[0]]
    exact u _ _ #[0] #[0]
   .rw[if_neg ma]
    by_cases fC:j=x
    .rw[if_pos fC];exact gF i #[0]
    .rw[if_neg fC]
     by_cases dB:x < j/\j<=k
     .rw[if_pos dB];exact u _ _ #[0] #[0]
     .rw[if_neg dB];exact u _ _ #[0] #[0]
theorem QFd(hn:0 < n):Xc n r (kas_sort n) λq=>Ok n q/\Up r q n:=by
 unfold kas_sort;refine Yo _ (Zl (λx hx=>?_) _ (Ysc (Ok.start n) hn))
 obtain⟨h1,h2,ho,u⟩:=hx
 by_cases h:x.1 < n
 .rw[if_pos h]
  have e:max x.1 1=x.1:=by lia
  rw[e];exact Ytc hn _ _ _ ho #[0] u
 .rw[if_neg h]
  have e:x.1=n:=by lia
  rw[e]at u;exact⟨ho,u⟩
end SortT
end
section
namespace SortB
open PySem PySem.W PyProof.Rows
def K(rk:Ix->Nat)(a:Array Ix)(i:Nat):Nat:=match a[i]? with | some p=>rk p | none=>0
end SortB
end
section
namespace L2
open PySem PySem.Spec PyProof.Rows PySem.W
theorem Yuc{prog:Vg}{w:Vb}{A:VF}{s:VG}{Q:Bool->VG->Prop}{b:Bool}{r:Bool}(q:Q r s):∀ (xs ys:List V) (us ws:List Va) (i:Nat) (fin:Bool),Qv xs us->Qv ys ws->HT.JO xs ys=Vo r ->
 fin=decide (xs.length < ys.length)->(b=true->i=0->∀ x∈xs.head?,∃ n,x=V.int n)->KatLex prog w A b fin Q (us.zip ws) i s:=by
 intro xs
 induction xs with
 | nil =>
  intro ys us ws i fin rx ry hl hf hb;cases rx;cases ry with
  | nil=>rw[HT.JBa]at hl;cases hl;rw[hf];exact kat_nil q
  | cons c d=>rw[HT.Zfa]at hl;cases hl;rw[hf];exact kat_nil (by simpa using q)
 | cons x xs ih =>
  intro ys us ws i fin rx ry hl hf hb;cases rx with
  | cons r1 rt =>
   rename_i u us;cases ry with
   | nil=>rw[HT.Zga]at hl;cases hl;rw[hf];exact kat_nil (by simpa using q)
   | cons r2 im =>
    rename_i y w2 ys ws;rw[zip_cons_cons];have qN:fin=decide (xs.length < ys.length):=by rw[hf];simp
    cases x with
    | int m =>
     cases y with
     | int n =>
      obtain⟨t,rfl⟩:=r1;obtain⟨t2,rfl⟩:=r2;simp only[HT.JO]at hl;refine kat_cons (wpAny_eqBool_int ?_)
      by_cases e:m=n
      .rw[if_pos e]at hl
       rw[show(m == n)=true by simpa using e]
       exact kat_yes (ih ys _ _ (i+1) fin rt im hl qN λ_ z=>absurd z #[0])
      .rw[if_neg e]at hl
       cases hl;rw[show(m == n)=false by simpa using e]
       refine kat_no ?_
       cases eb:(b && i == 0) with
       | true=>exact oneLt_int q
       | false=>exact kat_one _ _ (lt_int (show W.BoolBack Q (.bool _) s from q))
     | _=>simp[HT.JO]at hl
    | str m =>
     cases y with
     | str n =>
      obtain⟨t,rfl⟩:=r1;obtain⟨t2,rfl⟩:=r2;simp only[HT.JO]at hl;refine kat_cons (PyProof.Rows.eqBool_str ?_)
      by_cases e:m=n
      .rw[if_pos e]at hl
       rw[show(m == n)=true by simpa using e]
       exact kat_yes (ih ys _ _ (i+1) fin rt im hl qN λ_ z=>absurd z #[0])
      .rw[if_neg e]at hl
       cases hl;rw[show(m == n)=false by simpa using e]
       refine kat_no ?_
       cases eb:(b && i == 0) with
       | true =>
        rw[Ov]at eb;obtain⟨n',z⟩:=hb eb.1 (by simpa using eb.2) _ rfl
        cases z
       | false=>exact kat_one _ _ (DD (show W.BoolBack Q (.bool _) s from q))
     | _=>simp[HT.JO]at hl
    | _=>cases y <;> simp[HT.JO]at hl
theorem Inv.adopt{X:Cx}{aa:YP_}{σ:St}{H:Hp}{s:VG}{h':Vq}{D:Vh}{o:HO}{t':Nat}(I:Inv X aa σ H s)(f:Yc X aa H D)(k:∀ b u,b≠D->s.heap.get? b=Vo u->h'.get? b=Vo u)
 (new:QN X.prog X.w (upd H D o) h' D o):Inv X aa σ (upd H D o) { s with heap:=h',toks:=t' }:=by
 obtain⟨f0,f1,f2,f3,f4,f5⟩:=f;have dz:∀ b u,H b=Vo u->b≠D:=λb u e z=>by rw[z,f0]at e;cases e
 refine I.step (g':=s.gens) (d':=s.drawn) (ch:=[D]) (λb hb=>?_) (λb o _ _ hc e _=>k b o (λz=>hc (by simp[z])) e) (λb o _ _ hc e _=>⟨o.slots,k b o (λz=>hc (by simp[z])) e⟩) (λb _ hc _ n=>by rw[Qe (λz=>hc (by simp[z]))];exact n)
  (λb o hc e=>⟨o,k b o (λz=>hc (by simp[z])) e⟩) (λb _ e=>by rw[Qe (dz _ _ e)];exact e) (λb _ _ e=>by rw[Qe (dz _ _ e)];exact e) (λb ps e=>⟨#[],by rw[Qe (dz _ _ e),e];simp⟩) (λm hm=>?_) (λb u e=>?_) I.bare
 .have e:b=D:=by simpa using hb
  subst e;exact⟨f3,f1,f4,f5⟩
 .obtain⟨o,es,ep,ho,r⟩:=hm
  exact⟨o,es,ep,k _ o (VN f1) ho,r⟩
 .by_cases hb:b=D
  .subst hb;rw[Qa]at e;cases e;exact new
  .rw[Qe hb]at e
   refine(I.hok b u e).stay (λc v hc q=>k c v ?_ q) (λc q=>by rw[Qe (dz _ _ q)];exact q) λc xs q=>by rw[Qe (dz _ _ q)];exact q
   rcases hc with z | z
   .rw[z];exact hb
   .exact dz c _ z
theorem Qv.getD:∀ {xs:List V} {us:List Va},Qv xs us->∀ i,Qt (xs.getD i .non) (us.getD i Vi):=λ{xs us} r i=>by
 cases e:xs[i]? with
 | none =>
  have e2:=r.none_of e;rw[Iz,Iz,e,e2]
  rfl
 | some x =>
  obtain⟨u,e2,ru⟩:=r.get e;rw[Iz,Iz,e,e2]
  exact ru
theorem Qv.pick{xs:List V}{us:List Va}(r:Qv xs us):∀ l:List Nat,Qv (l.map λi=>xs.getD i .non) (l.map λi=>us.getD i Vi)
 | []=>.nil
 | i::l=>.cons (r.getD i) (r.pick l)
theorem ZIb{α:Type}{p q:α->Bool}:∀ {l:List α} {a:α},(∀ x∈l,p x=true->q x=true)->a∈l->q a=true->p a=false->l.countP p < l.countP q
 | x::l,a,h,hm,hq,hp=>by
  have mono:l.countP p<=l.countP q:=countP_mono_left λy hy=>h y (VM _ hy)
  rw[countP_cons,countP_cons]
  rcases mem_cons.mp hm with e | e
  .subst e
   rw[hq,hp];simp only[O5,if_false,if_true]
   lia
  .have ih:=ZIb (λy hy=>h y (VM _ hy)) e hq hp
   have hx:=h x VL;cases hpx:p x with
   | false=>simp only[O5,if_false];split <;> lia
   | true=>rw[hx hpx];simp only[if_true];lia
structure Swo{α:Type}(xs:List α)(lt:α->α->Bool):Prop where
 irr:∀ a∈xs,lt a a=false
 tr:∀ a∈xs,∀ b∈xs,∀ c∈xs,lt a b=true->lt b c=true->lt a c=true
 neg:∀ a∈xs,∀ b∈xs,∀ c∈xs,lt a c=true->lt a b=true\/lt b c=true
theorem Swo.rank{α:Type}{xs:List α}{lt:α->α->Bool}(w:Swo xs lt){a b:α}(ha:a∈xs)(hb:b∈xs):decide (xs.countP (lt · a) < xs.countP (lt · b))=lt a b:=by
 cases e:lt a b with
 | true=>exact decide_eq_true (ZIb (λx hx h=>w.tr x hx a ha b hb h e) ha e (w.irr a ha))
 | false =>
  refine decide_eq_false λh=>?_
  have:xs.countP (lt · b)<=xs.countP (lt · a):=countP_mono_left λx hx h=>(w.neg x hx a ha b hb h).elim id λz=>by rw[e]at z;cases z
  lia
theorem JEa{α:Type}{xs:List α}{i:Nat}{d:α}(h:i < xs.length):xs.getD i d∈xs:=by
 rw[Iz,IA h]
 exact IC h
theorem Qab{α:Type}{xs:List α}{d:α}{p:Array Nat}(h:SortT.Ok xs.length p):(p.toList.map λi=>xs.getD i d).Perm xs:=by
 have h1:p.toList.Perm (VB xs.length):=by
  have:=Array.perm_iff_toList_perm.mp h.perm
  simpa using this
 have h2:=h1.map (λi=>xs.getD i d)
 have h3:(VB xs.length).map (λi=>xs.getD i d)=xs:=by
  apply ID
  .simp
  .intro i h1 h2
   simp[h2]
 rw[h3]at h2;exact h2
theorem Yzb{xs:List V}{lt:V->V->Bool}(w:Swo xs lt){p:Array Nat}(h:SortT.Ok xs.length p)(hn:0 < xs.length)(u:SortT.Up (λi=>xs.countP (lt · (xs.getD i .non))) p xs.length) :
 (p.toList.map λi=>xs.getD i V.non).Pairwise λa b=>lt b a=false:=by
 rw[pairwise_iff_getElem];intro i j hi hj cR;have bS:i < p.size:=by simpa using hi
 have md:j < p.size:=by simpa using hj
 have uU:j < xs.length:=by rw[<- h.size];exact md
 have:=u i j #[0] uU
 unfold SortT.K at this;have gi:p.getD i 0=p[i]:=by simp[Array.getD,bS]
 have gj:p.getD j 0=p[j]:=by simp[Array.getD,md]
 have li:=h.lt hn i;have lj:=h.lt hn j;rw[gi]at this li;rw[gj]at this lj;have e1:(p.toList.map λi=>xs.getD i V.non)[i]=xs.getD p[i] .non:=by simp
 have e2:(p.toList.map λi=>xs.getD i V.non)[j]=xs.getD p[j] .non:=by simp
 rw[e1,e2,<- w.rank (JEa lj) (JEa li)];dsimp only at this;exact decide_eq_false #[0]
section
variable{X:Cx}{aa:YP_}{σ:St}{H:Hp}{s:VG}{k:Nat}{f:Vh}{fd:UU}{p0:Str}{sp:Sp}{A:VF}{E:YQ_}
structure X4b(K:VC)(sp:Sp)(H:Hp)(xs:List V)(rk:V->List V)(lt:V->V->Bool):Prop where
 hd:∀ v∈xs,∃ n r,rk v=.int n::r
 key:∀ v∈xs,∀ H2,Qf H H2->∀ R:VK,(∀ p H3,Qf H2 H3->SqT K H3 p (rk v)->R (.ref p) H3)->sp [v] H2 R E0
 lex:∀ v∈xs,∀ u∈xs,HT.JO (rk v) (rk u)=Vo (lt v u)
 swo:Swo xs lt
def Jpb(K:VC)(H:Hp)(rk:V->List V)(xs:List V)(ks:List Va):Prop :=
 ∃ ps:List Vh,ks=ps.map Vk/\∀ (j:Nat) p v,ps[j]?=Vo p->xs[j]?=Vo v->SqT K H p (rk v)
theorem Yvc(F:Qp X.prog X.w X.K X.mg X.base CX0 k f fd [p0] sp)(hb:Zz X.K fd [p0] [])(hr:Q1 k A)(nT:A.frames=Vo X.stack)(I:Inv X aa σ H s){v:V}{u:Va}(r:Qt v u){R:VK}(h:sp [v] H R E0) :
 VQ (VR X.prog X.w) A (Ut (.ref f) [u]) (EP X aa σ R) (λ_ _=>False) s:=by
 have e0:=I.env0;refine UW (UX (F.run A X.stack s H ⟨[u],[]⟩ [u] [v] R E0 hr ⟨nT,e0.mod,e0.bs,e0.bsz,e0.funs,e0.frf,e0.hok,e0.bare⟩ (hb s [u] I.kIn rfl) (.cons r .nil) h) λr s' hq=>?_)
 cases r with
 | error e=>exact hq
 | ok fl =>
  cases fl with
  | ret u=>exact I.after hq
  | next=>exact V3 hq
  | brk=>exact V3 hq
  | cont=>exact V3 hq
theorem ZJb{D kS:Vh}{e e1:Nat}{ks:List Va}{out:List Va}{ys:List V}{st:SortSt}{P:IE->VG->Prop}(I:Inv X (aa++[(D,IF "list" #[] e1)]) σ H s)(fD:Yc X aa H D)(fK:Yc X (aa++[(D,IF "list" #[] e1)]) H kS)
 (hk:s.heap.get? kS=Vo (IF "list" ks.toArray e)) (uV:ks.length < 1000) (bd:(arrOf st).map (·.2)=Ir out) (hf:IG st=Vp) (rv:Qv ys out) (hl:ys.length < 1000)
 (h:∀ s',Inv X aa σ (upd H D (.lst ys)) s'->P (.done (.ret .none)) s'):VQ (VR X.prog X.w) A (ksk_tail D false e1 (.ref kS) st) P E s:=by
 have hD:=(I.pin (D,IF "list" #[] e1) (Ur _ (Ur _ #[2]))).1
 have hDk:D≠kS:=fK.2.2.2.2.2 (D,IF "list" #[] e1) (Ur _ (Ur _ #[2]))
 have s1:=II s.heap kS (Ot λ_=>(#[]:Array Va))
 have I1:Inv X (aa++[(D,IF "list" #[] e1)]) σ H { s with heap:=s.heap.update kS (Ot λ_=>(#[]:Array Va)) } :=
  I.turned (t':=s.toks) (λb o hb q=>(s1.2 b hb).trans q) fK.1 fK.2.1 fK.2.2.2.1 fK.2.2.2.2.1 fK.2.2.2.2.2
 have nU:=(I1.pin (D,IF "list" #[] e1) (Ur _ (Ur _ #[2]))).1
 have s2:=II (s.heap.update kS (Ot λ_=>(#[]:Array Va))) D (Ot λ_=>Ir out)
 obtain⟨c2,gE⟩:∃ c2,((s.heap.update kS (Ot λ_=>(#[]:Array Va))).update D (Ot λ_=>Ir out)).get? D=Vo (IF "list" (Ir out) c2):=⟨_,IJ nU λ_=>Ir out⟩
 have ho:out.length < 1000:=by rw[<- rv.length];exact hl
 unfold ksk_tail
 try dsimp only
 rw[bd];simp only[O5,if_false];refine V8 (IK hk rfl ?_ (by rw[Uy];exact VJ (Qm #[0])) (Us _))
 refine V8 (wpAny_letGo ?_)
 refine V8 (IL nU rfl ?_)
 refine V8 (IK nU rfl ?_ (Us _) (by rw[Uy];exact Nat.le_succ_of_le (VJ (Qm #[0]))))
 rw[hf];simp only[bne_self_eq_false,O5,if_false];refine Ui (h _ ?_)
 exact(I1.unpinned).adopt (t':=s.toks) fD (λb u hb q=>(s2.2 b hb).trans q) ⟨VJ (Qm #[0]),out,c2,rv,gE⟩
theorem ZXc{rk:V->List V}{xs:List V}:∀ {ks:List Va},(I:Inv X aa σ H s)->(∀ v∈xs,∃ n r,rk v=.int n::r)->ks.length=xs.length->Jpb X.K H rk xs ks ->
 ∃ fs,KatTups s.heap ks fs/\fs.length=ks.length/\∀ g∈fs,∃ n t,g=Vd n t:=by
 induction xs with
 | nil =>
  intro ks I hd hl hk
  match ks,hl with
  | [],_=>exact⟨[],KatTups.nil,rfl,λ_ h=>nomatch h⟩
 | cons x xs ih =>
  intro ks I hd hl hk;obtain⟨ps,rfl,hp⟩:=hk
  match ps,hl,hp with
  | p::ps,hl,hp =>
   rw[UI,UC,UC]at hl;obtain⟨fs,h1,h2,h3⟩:=ih (ks:=ps.map Vk) I (λv hv=>hd v (VM _ hv)) #[0] ⟨ps,rfl,λj p' v e1 e2=>hp (j+1) p' v (by simpa using e1) (by simpa using e2)⟩
   have ht:=hp 0 p x rfl rfl;obtain⟨af,r,⟨ob,e,c,n,d⟩,_⟩:=I.tuple ht;obtain⟨m,rs,em⟩:=hd x VL;rw[em]at r;cases r with
   | cons ra rt =>
    obtain⟨t,rfl⟩:=ra;exact⟨Vd m t::fs,KatTups.cons e c d #[2] h1,by simp[h2],λg hg=>(mem_cons.mp hg).elim (λz=>⟨m,t,z⟩) (h3 g)⟩
theorem Ywc{rk:V->List V}{lt:V->V->Bool}{xs:List V}{ks:List Va}(I:Inv X aa σ H s)(hK:X4b X.K sp H xs rk lt)(hl:ks.length=xs.length)(hk:Jpb X.K H rk xs ks){i j:Nat}(hi:i < xs.length)(hj:j < xs.length)
 {C:Bool->VG->Prop} (h:C (lt (xs.getD i .non) (xs.getD j .non)) s):kas_ask X.prog X.w A (tuples' true) ks i j C s:=by
 obtain⟨ps,rfl,hp⟩:=hk;rw[UK]at hl;have gi:(ps.map Vk).getD i Vi=Vk (ps[i]'#[0]):=by simp[show i < ps.length by lia]
 have gj:(ps.map Vk).getD j Vi=Vk (ps[j]'#[0]):=by simp[show j < ps.length by lia]
 have xi:xs.getD i V.non=xs[i]:=by simp[hi]
 have xj:xs.getD j V.non=xs[j]:=by simp[hj]
 unfold kas_ask;rw[gi,gj];rw[xi,xj]at h;obtain⟨af,r,⟨ob,e,c,n,d⟩,_⟩:=I.tuple (hp i _ xs[i] (IA #[0]) (IA hi))
 obtain⟨aI,r2,⟨jJ,e2,c2,n2,d2⟩,_⟩:=I.tuple (hp j _ xs[j] (IA #[0]) (IA hj))
 refine kat_lt e d e2 d2 (Yuc (b:=true) h _ _ _ _ 0 _ (by simpa using r) (by simpa using r2) (hK.lex _ (IC hi) _ (IC hj)) ?_ λ_ _ x hx=>?_)
 .rw[Uy,Uy,r.length,r2.length]
 .obtain⟨m,rs,em⟩:=hK.hd xs[i] (IC hi)
  rw[em]at hx;exact⟨m,(Vr hx).symm⟩
theorem YAb{α:Type}{R:α->α->Prop}:∀ {xs:List α},xs.length < 2->xs.Pairwise R
 | [],_=>Ih
 | [a],_=>pairwise_singleton _ _
end
theorem Q6a:VE "sorted"=Vo (.builtin "sorted"):=by decide +kernel
theorem Yxc(h:Vq)(vs:List Va):((h.push (IF "list" #[] 0)).update h.objs.size (Ot (·++vs.toArray))).objs.size=h.objs.size+1 /\
 ∀ b o,h.get? b=Vo o->((h.push (IF "list" #[] 0)).update h.objs.size (Ot (·++vs.toArray))).get? b=Vo o:=by
 constructor
 .simp only[Heap.size_update,size_push']
 .intro b o q
  have nb:b≠h.objs.size:=VA (Vx q);exact((II (h.push (IF "list" #[] 0)) h.objs.size _).2 b nb).trans (Uk _ q)
section
variable{X:Cx}{aa:YP_}{σ:St}{H:Hp}{s:VG}{k:Nat}{f:Vh}{fd:UU}{p0:Str}{sp:Sp}
def X5b(K:VC)(sp:Sp)(te:TE):TE:=λσ H Q=>te σ H λx H1=>∃ a xs rk lt,x=.ref a/\SqL K H1 a xs/\xs.length < 64/\X4b K sp H1 xs rk lt /\
 ∀ D H' ys,Qf H1 H'->H1 D=Vp->H' D=Vo (.lst ys)->ys.Perm xs->ys.Pairwise (λa b=>lt b a=false)->Q (.ref D) H'
end
end L2
end
section
namespace L2
open PySem PySem.Spec PyProof.Rows
theorem ZYc(z:Str):Str.empty++z=z:=by
 apply IM
 rw[IN];rfl
end L2
end
section
namespace Pl
open PySem L2
def QA:V->Prop
 | .non=>True
 | .int i => -(10 ^ 30) < i/\i < 10 ^ 30
 | .str z=>z.length<=40
 | _=>False
def rk:V->List V
 | .non=>[.int 0,.int 0]
 | .str z=>[.int 2,.str z]
 | v=>[.int 1,v]
def ltV(a b:V):Bool:=(HT.JO (rk a) (rk b)).getD false
theorem Yyc{a b:V}(ha:QA a)(hb:QA b):HT.JO (rk a) (rk b)=Vo (ltV a b):=by
 unfold ltV;cases a <;> first | exact ha.elim | skip
 all_goals (cases b <;> first | exact hb.elim | skip)
 all_goals (simp only[rk,HT.JO];repeat' (first | rfl | split))
theorem Zkd:ltV .non .non=false:=rfl
theorem Zld(i:Int):ltV .non (.int i)=true:=rfl
theorem Zmd(z:Str):ltV .non (.str z)=true:=rfl
theorem Yzc(i:Int):ltV (.int i) .non=false:=rfl
theorem YAc(z:Str):ltV (.str z) .non=false:=rfl
theorem YBc(i:Int)(z:Str):ltV (.int i) (.str z)=true:=rfl
theorem Znd(i:Int)(z:Str):ltV (.str z) (.int i)=false:=rfl
theorem YBb(i j:Int):ltV (.int i) (.int j)=decide (i < j):=by
 unfold ltV;simp only[rk,HT.JO,if_true]
 by_cases e:i=j
 .rw[if_pos e];subst e;simp
 .rw[if_neg e];rfl
theorem Qbb(x y:Str):ltV (.str x) (.str y)=decide (x.cps.toList < y.cps.toList):=by
 unfold ltV;simp only[rk,HT.JO,if_true]
 by_cases e:x=y
 .rw[if_pos e];subst e
  have:¬ (x.cps.toList < x.cps.toList):=IP _;simp[this]
 .rw[if_neg e];rfl
theorem irr{a:V}(ha:QA a):ltV a a=false:=by
 cases a <;> first | exact ha.elim | skip
 .rfl
 .rw[YBb];simp
 .rw[Qbb];exact decide_eq_false (IP _)
theorem tr{a b c:V}(ha:QA a)(hb:QA b)(hc:QA c)(h1:ltV a b=true)(h2:ltV b c=true):ltV a c=true:=by
 cases a <;> first | exact ha.elim | skip
 all_goals (cases b <;> first | exact hb.elim | skip)
 all_goals (cases c <;> first | exact hc.elim | skip)
 all_goals first | rfl | (exfalso;rw[Zkd]at h1;cases h1;done) | (exfalso;rw[Yzc]at h1;cases h1;done) | (exfalso;rw[YAc]at h1;cases h1;done) | (exfalso;rw[Znd]at h1;cases h1;done) | (exfalso;rw[Zkd]at h2;cases h2;done) | (exfalso;rw[Yzc]at h2;cases h2;done) | (exfalso;rw[YAc]at h2;cases h2;done) | (exfalso;rw[Znd]at h2;cases h2;done) | skip
 .rw[YBb,decide_eq_true_eq]at *;lia
 .rw[Qbb,decide_eq_true_eq]at *;exact List.lt_trans h1 h2
theorem tri{a b:V}(ha:QA a)(hb:QA b)(h1:ltV a b=false)(h2:ltV b a=false):a=b:=by
 cases a <;> first | exact ha.elim | skip
 all_goals (cases b <;> first | exact hb.elim | skip)
 all_goals first | rfl | (exfalso;rw[Zld]at h1;cases h1;done) | (exfalso;rw[Zmd]at h1;cases h1;done) | (exfalso;rw[YBc]at h1;cases h1;done) | (exfalso;rw[Zld]at h2;cases h2;done) | (exfalso;rw[Zmd]at h2;cases h2;done) | (exfalso;rw[YBc]at h2;cases h2;done) | skip
 .rw[YBb,decide_eq_false_iff_not]at *
  congr 1;lia
 .rw[Qbb,decide_eq_false_iff_not]at *
  congr 1
  exact IM (List.le_antisymm (List.not_lt.mp h2) (List.not_lt.mp h1))
theorem neg{a b c:V}(ha:QA a)(hb:QA b)(hc:QA c)(h:ltV a c=true):ltV a b=true\/ltV b c=true:=by
 cases e:ltV a b with
 | true=>exact .inl rfl
 | false =>
  cases e2:ltV b a with
  | true=>exact .inr (tr hb ha hc e2 h)
  | false=>rw[tri ha hb e e2]at h;exact .inr h
theorem swo{xs:List V}(h:∀ v∈xs,QA v):Swo xs ltV:=⟨λa ha=>irr (h a ha),λa ha b hb c hc=>tr (h a ha) (h b hb) (h c hc),λa ha b hb c hc=>neg (h a ha) (h b hb) (h c hc)⟩
theorem Xdd{a b:V}(ha:QA a)(hb:QA b)(h:ltV a b=true):ltV b a=false:=by
 cases e:ltV b a with
 | false=>rfl
 | true=>have:=tr ha hb ha h e;rw[irr ha]at this;cases this
theorem YNd(v:V):∃ n r,rk v=.int n::r:=by cases v <;> exact⟨_,_,rfl⟩
structure ZZc(xs ys:List V):Prop where
 up:ys.Pairwise λa b=>ltV a b=true
 mem:∀ v,v∈ys↔v∈xs
theorem ZZc.uniq:∀ {ys zs:List V},(∀ v∈ys,QA v)->ys.Pairwise (λa b=>ltV a b=true)->zs.Pairwise (λa b=>ltV a b=true)->(∀ v,v∈ys↔v∈zs)->ys=zs
 | [],[],_,_,_,_=>rfl
 | [],z::zs,_,_,_,h=>absurd ((h z).mpr VL) #[2]
 | y::ys,[],_,_,_,h=>absurd ((h y).mp VL) #[2]
 | y::ys,z::zs,p,uy,uz,h=>by
  have pz:∀ v∈z::zs,QA v:=λv hv=>p v ((h v).mpr hv)
  have hy:=(pairwise_cons.mp uy).1;have hz:=(pairwise_cons.mp uz).1;have e:y=z:=by
   rcases mem_cons.mp ((h y).mp VL) with e | e
   .exact e
   .rcases mem_cons.mp ((h z).mpr VL) with e' | e'
    .exact e'.symm
    .have:=Xdd (pz z VL) (p y VL) (hz y e)
     rw[hy z e']at this;cases this
  subst e
  congr 1
  refine ZZc.uniq (λv hv=>p v (VM _ hv)) (pairwise_cons.mp uy).2 (pairwise_cons.mp uz).2 λv=>⟨λhv=>?_,λhv=>?_⟩
  .rcases mem_cons.mp ((h v).mp (VM _ hv)) with e | e
   .subst e;have:=hy v hv;rw[irr (p v VL)]at this;cases this
   .exact e
  .rcases mem_cons.mp ((h v).mpr (VM _ hv)) with e | e
   .subst e;have:=hz v hv;rw[irr (p v VL)]at this;cases this
   .exact e
structure Xxa(ys:List V)(i:Nat)(fs:List V):Prop where
 up:fs.Pairwise λa b=>ltV a b=true
 mem:∀ v,v∈fs↔v∈ys.take i
 last:∀ v,fs.getLast?=Vo v->∃ k,k < i/\ys[k]?=Vo v
 len:fs.length<=i
theorem Xxa.start(ys:List V):Xxa ys 0 []:=⟨Ih,λv=>by simp,λv h=>by simp at h,Us _⟩
theorem Zha{ys:List V}{i:Nat}{x v:V}(hx:ys[i]?=Vo x):v∈ys.take (i+1)↔v∈ys.take i\/v=x:=by
 rw[take_succ,hx];simp
theorem Xxa.put{ys fs:List V}{i:Nat}{x:V}(g:Xxa ys i fs)(p:∀ v∈ys,QA v)(so:ys.Pairwise λa b=>ltV b a=false)(hx:ys[i]?=Vo x)(h:∀ l,fs.getLast?=Vo l->ltV l x=true):Xxa ys (i+1) (fs++[x]):=by
 have px:=p x (Og hx);refine⟨pairwise_append.mpr ⟨g.up,pairwise_singleton _ _,λa ha b hb=>?_⟩,λv=>?_,λv hv=>?_,by have:=g.len;rw[Oh,OB];lia⟩
 .have e:b=x:=by simpa using hb
  subst e;obtain⟨l,hl⟩:∃ l,fs.getLast?=Vo l:=by
   cases q:fs.getLast? with
   | none=>rw[getLast?_eq_none_iff]at q;rw[q]at ha;cases ha
   | some l=>exact⟨l,rfl⟩
  have pl:QA l:=p l (IQ ((g.mem l).mp (IR hl)));have pa:QA a:=p a (IQ ((g.mem a).mp ha));obtain⟨gX,rfl⟩:=getLast?_eq_some_iff.mp hl
  rcases mem_append.mp ha with h' | h'
  .exact tr pa pl px ((pairwise_append.mp g.up).2.2 a h' l #[2]) (h l hl)
  .have e:a=l:=by simpa using h'
   subst e;exact h a hl
 .rw[Zha hx,IS,g.mem v];simp
 .rw[getLast?_append]at hv
  simp at hv;subst hv;exact⟨i,Nat.lt_succ_self _,hx⟩
theorem Xxa.skip{ys fs:List V}{i:Nat}{x l:V}(g:Xxa ys i fs)(p:∀ v∈ys,QA v)(so:ys.Pairwise λa b=>ltV b a=false)(hx:ys[i]?=Vo x)(hl:fs.getLast?=Vo l)(h:ltV l x=false):Xxa ys (i+1) fs:=by
 have px:=p x (Og hx);have pl:QA l:=p l (IQ ((g.mem l).mp (IR hl)));have uW:ltV x l=false:=by
  obtain⟨k,hk,e⟩:=g.last l hl;obtain⟨k1,e1⟩:=List.getElem?_eq_some_iff.mp e
  obtain⟨i1,e2⟩:=List.getElem?_eq_some_iff.mp hx
  have:=(pairwise_iff_getElem.mp so) k i k1 i1 hk;rw[e1,e2]at this;exact this
 have e:l=x:=tri pl px h uW;refine⟨g.up,λv=>?_,λv hv=>?_,Nat.le_succ_of_le g.len⟩
 .rw[Zha hx,g.mem v]
  constructor
  .exact λh=>.inl h
  .rintro(h | h)
   .exact h
   .rw[h,<- e];exact(g.mem l).mp (IR hl)
 .obtain⟨k,hk,e⟩:=g.last v hv
  exact⟨k,by lia,e⟩
theorem Xxa.rise{xs ys fs:List V}(g:Xxa ys ys.length fs)(hp:ys.Perm xs):ZZc xs fs:=⟨g.up,λv=>by rw[g.mem v,IT];exact hp.mem_iff⟩
end Pl
end
section
namespace L2
open PySem PySem.Spec PyProof.Rows
def QO(H H':Hp):Prop:=∀ b xs,H b=Vo (.tup xs)->H' b=Vo (.tup xs)
theorem Qf.t{H H':Hp}(s:Qf H H'):QO H H':=λb xs e=>s b _ e
theorem QO.refl(H:Hp):QO H H:=λ_ _ e=>e
theorem QO.trans{H H1 H2:Hp}(a:QO H H1)(b:QO H1 H2):QO H H2:=λc xs e=>b c xs (a c xs e)
theorem Yp{H:Hp}{D:Vh}{ys zs:List V}(h:H D=Vo (.lst ys)):QO H (upd H D (.lst zs)):=λb xs e=>by
 rw[Qe (Zj e h (by intro z;cases z))];exact e
theorem QGd{J:It}{te:TE}{σ:St}{H1:Hp}{Q:VK}(n:Nat)(item:Nat->V->Prop)(P:Hp->Nat->V->Prop)(mono:∀ H H' i v,QO H H'->P H i v->P H' i v)(hz:n<=Vs)
 (ft:∀ i H2,i < n->Qf H1 H2->J.go i H2/\∀ x H',J.yld i H2 x H'->H'=H2/\item i x) (bJ:∀ H2,Qf H1 H2->J.stop n H2)
 (he:∀ i x H2 (R:VK),item i x->Qf H1 H2->(∀ v H3,P H3 i v->Qf H2 H3->R v H3)->te (Vo x::σ) H2 R)
 (hq:∀ D H2 ys,H1 D=Vp->Qf H1 H2->H2 D=Vo (.lst ys)->ys.length=n->(∀ i y,ys[i]?=Vo y->P H2 i y)->Q (.ref D) H2):LcR J JAa te σ Q H1:=by
 intro D hD;refine⟨λi m ys H2=>m=n - i/\i<=n/\ys.length=i/\H2 D=Vo (.lst ys)/\Qf H1 H2/\∀ j y,ys[j]?=Vo y->P H2 j y,⟨_,rfl,Us _,rfl,Qa,Qb hD _,λj y h=>by simp at h⟩,?_⟩
 rintro i m ys H2 ⟨rfl,hi,hl,hd,sm,hp⟩;refine⟨hd,?_⟩
 by_cases ay:i < n
 .obtain⟨go,yl⟩:=ft i H2 ay sm
  refine .inr ⟨go,by lia,λx H' y=>?_⟩
  obtain⟨e,hx⟩:=yl x H' y;subst e;unfold JAa;refine Qud ?_
  refine he i x _ _ hx sm λv H3 pv s3=>⟨s3 _ _ hd,n - (i+1),by lia,rfl,ay,by rw[Oh,hl];rfl,Qa,(sm.trans s3).updL hD _,λj y h=>?_⟩
  have st:=Yp (zs:=ys++[v]) (s3 _ _ hd)
  by_cases hj:j < ys.length
  .rw[Oe hj]at h
   exact mono _ _ _ _ (s3.t.trans st) (hp j y h)
  .rw[Od #[0]]at h
   have dB:j=i:=by
    have:=(List.getElem?_eq_some_iff.mp h).1
    simp at this
    lia
   subst dB;rw[hl]at h;simp at h;subst h;exact mono _ _ _ _ st pv
 .have e:i=n:=by lia
  subst e;exact .inl ⟨bJ H2 sm,hq D H2 ys hD sm hd hl hp⟩
theorem Z0c{K:VC}{a:Vh}(xs:List V){te:TE}{σ:St}{H1:Hp}{Q:VK}(P:Hp->Nat->V->Prop)(mono:∀ H H' i v,QO H H'->P H i v->P H' i v)(hx:SqL K H1 a xs)(hz:xs.length<=Vs)
 (he:∀ i x H2 (R:VK),xs[i]?=Vo x->Qf H1 H2->(∀ v H3,P H3 i v->Qf H2 H3->R v H3)->te (Vo x::σ) H2 R)
 (hq:∀ D H2 ys,H1 D=Vp->Qf H1 H2->H2 D=Vo (.lst ys)->ys.length=xs.length->(∀ i y,ys[i]?=Vo y->P H2 i y)->Q (.ref D) H2):LcR (Itl K a) JAa te σ Q H1 :=
 QGd xs.length (λi x=>xs[i]?=Vo x) P mono hz (λi H2 hi s=>⟨⟨xs,xs[i],s.seq hx,by simp[hi]⟩,λx H' y=>⟨y.1,y.2 xs (s.seq hx)⟩⟩) (λH2 s=>⟨xs,s.seq hx,Um _⟩) he hq
theorem Qcb{J:It}{tt:TT}{σ:St}{H1:Hp}{Q:VK}(xs:List V)(p:V->Bool)(hz:xs.length<=Vs)
 (ft:∀ i H2,i < xs.length->Qf H1 H2->J.go i H2/\∀ x H',J.yld i H2 x H'->H'=H2/\xs[i]?=Vo x) (bJ:∀ H2,Qf H1 H2->J.stop xs.length H2)
 (he:∀ (i:Nat) x H2 (R:Bool->Hp->Prop),xs[i]?=Vo x->Qf H1 H2->(∀ H3,Qf H2 H3->R (p x) H3)->tt (Vo x::σ) H2 R)
 (hq:∀ D H2,H1 D=Vp->Qf H1 H2->H2 D=Vo (.lst (xs.filter p))->Q (.ref D) H2):LcR J tt (Ju 0) σ Q H1:=by
 intro D hD;refine⟨λi m ys H2=>m=xs.length - i/\i<=xs.length/\ys=(xs.take i).filter p/\H2 D=Vo (.lst ys)/\Qf H1 H2,⟨_,rfl,Us _,by simp,Qa,Qb hD _⟩,?_⟩
 rintro i m ys H2 ⟨rfl,hi,hy,hd,sm⟩;refine⟨hd,?_⟩
 by_cases ay:i < xs.length
 .obtain⟨go,yl⟩:=ft i H2 ay sm
  have hl:ys.length<=i:=by
   rw[hy];exact VI (OM _ _) (by rw[Ob];lia)
  refine .inr ⟨go,by lia,λx H' y=>?_⟩
  obtain⟨e,hx⟩:=yl x H' y;subst e;have ht:(xs.take (i+1)).filter p=if p x=true then ys++[x] else ys:=by
   rw[take_succ,hx,IU,<- hy];cases hp:p x <;> simp[hp]
  refine he i x _ _ hx sm λH3 s3=>?_
  cases hp:p x with
  | true =>
   rw[if_pos rfl];refine⟨s3 _ _ hd,xs.length - (i+1),by lia,rfl,ay,?_,Qa,(sm.trans s3).updL hD _⟩
   rw[ht,hp,if_pos rfl]
  | false =>
   rw[if_neg Uc];refine⟨xs.length - (i+1),by lia,rfl,ay,?_,s3 _ _ hd,sm.trans s3⟩
   rw[ht,hp,if_neg Uc]
 .have e:i=xs.length:=by lia
  subst e;rw[IT]at hy;exact .inl ⟨bJ H2 sm,hq D H2 hD sm (by rw[hd,hy])⟩
theorem QHd{K:VC}{a:Vh}(xs:List V)(p:V->Bool){tt:TT}{σ:St}{H1:Hp}{Q:VK}(hx:SqT K H1 a xs)(hz:xs.length<=Vs)
 (he:∀ (i:Nat) x H2 (R:Bool->Hp->Prop),xs[i]?=Vo x->Qf H1 H2->(∀ H3,Qf H2 H3->R (p x) H3)->tt (Vo x::σ) H2 R)
 (hq:∀ D H2,H1 D=Vp->Qf H1 H2->H2 D=Vo (.lst (xs.filter p))->Q (.ref D) H2):LcR (Itt K a) tt (Ju 0) σ Q H1 :=
 Qcb xs p hz (λi H2 hi s=>⟨⟨xs,xs[i],s.seqT hx,by simp[hi]⟩,λx H' y=>⟨y.1,y.2 xs (s.seqT hx)⟩⟩) (λH2 s=>⟨xs,s.seqT hx,Um _⟩) he hq
theorem Z1c(a b c:Str):a++b++c=a++(b++c):=IM (by simp only[IN,IV])
theorem YCb(df:Str):∀ (l:List Str) (a b:Str),a++l.foldl (λs u=>s++df++u) b=l.foldl (λs u=>s++df++u) (a++b)
 | [],_,_=>rfl
 | u::l,a,b=>by
  rw[IW,IW,YCb df l]
  congr 1
  simp only[Z1c]
theorem Z2c(df:Str):∀ (l:List Str) (a:Str),O9 df (a::l)=l.foldl (λs u=>s++df++u) a:=by
 intro l
 induction l with
 | nil=>intro a;show Builtin.Str.glued df [a]=a;rw[IX];rfl
 | cons b l ih =>
  intro a;have e:=ih b;have ej:O9 df (a::b::l)=a++df++O9 df (b::l):=by
   show Builtin.Str.glued df (a::b::l)=a++df++Builtin.Str.glued df (b::l);rw[IX,IX];rfl
  rw[ej,e,IW,YCb]
def nd(m:Nat):List Nat:=(Nat.toDigits 10 m).map Char.toNat
def Jqb:Expr->Bool
 | .Starred _ _=>false
 | _=>true
theorem Ypa{e:Expr}{es:List Expr}{env:Env}(h:Jqb e=true):VU (e::es) env=(false,VS e env)::VU es env:=by
 cases e <;> first | rfl | (exact absurd h Uc)
theorem Q2{X:Cx}{e:Expr}{es:List Expr}{te:TE}{t:TA}(ha:PE X e te)(hr:PA X es t)(hn:Jqb e=true:=by rfl):PA X (e::es) (XZa te t):=QRc ha hr (Ypa hn)
theorem Q3c(t:Vh):¬ (Vk t == Vi)=true:=Uc
section
variable{prog:Vg}{w:Vb}{A:VF}{E:YQ_}{s:VG}
theorem Z3c{α:Type}{M:Model}{Q:α->VG->Prop}(hh:A.handled=Vp)(h:∀ h' e,(∀ b o,s.heap.get? b=Vo o->h'.get? b=Vo o)->(∃ o,h'.get? e=Vo o/\o.cls=.type "StopIteration")->E (.ref e) { s with heap:=h' }) :
 VQ M A (newExc (.type "StopIteration") [] >>= λe=>(raiseNew e:Sem α)) Q E s:=by
 refine V8 ?_
 unfold newExc newTuple;refine V8 (O7 ?_ (Us _))
 refine V8 (m:=firstArgMember _ _) (wpAny_of_eq (a:=Vi) (by rfl) ?_)
 refine O7 (wpAny_raiseNew_none hh (h _ _ (λb o q=>Uk _ (Uk _ q)) ⟨_,Ul _ rfl,rfl⟩)) (by size_fits)
theorem Z4c(hh:A.handled=Vp)(it t:Vh)(aC:t≠it)(ao:Array Va) :
 Draws prog w A it [it,t] ao.size (λi v=>ao[i]?=Vo v) (λi h=>h.IsTupleIter it t i/\Vt h t ao) where
 live:=λ_ _ st=>⟨_,st.1.choose_spec.1⟩
 frame:=λ_ _ _ st k=>⟨st.1.at λo e=>k it #[2] o e,let ⟨o,e,r⟩:=st.2;⟨o,k t #[2] o e,r⟩⟩
 item:=λi s Q E hi st hQ=>by
  obtain⟨⟨o,ho,hc,hd⟩,ot,cf,cS,nt,cT⟩:=id st;have hx:ao[i]?=Vo ao[i]:=Array.getElem?_eq_getElem hi
  have hT:s.TypeIs (.ref it) "tuple_iterator":=⟨o,ho,hc⟩;unfold IY;refine V8 (IZ (name:=La "__next__") hT Lb (Lc Lb hT F.entry_tuple_iterator_next ?b (F.args_tuple_iterator_next_1 _)))
  case b =>
   change VQ _ _ (Ld (.ref it) 0 >>= λ_=>_) _ _ _
   refine V8 (Le ho hd (x:=.ref t) rfl ?_)
   rw[if_neg (Q3c t)];change VQ _ _ (Ld (.ref it) 1 >>= λ_=>_) _ _ _
   refine V8 (Le ho hd (x:=.int i 0) rfl ?_)
   change VQ _ _ (seqItems? (.ref t) >>= λ_=>_) _ _ _
   refine V8 (Lf cf cT ?_)
   simp only[Om,hx];refine V8 (wpAny_setField ho hd #[2] (Ui ⟨_,rfl,Ui ?_⟩))
   have sb:=II s.heap it (Obj.mapFields (·.setIfInBounds 1 (rawInt ((i:Int)+1))));refine hQ _ _ s.toks hx ⟨⟨_,Heap.get?_update_self _ ho (Obj.isFreed_of_fields (Obj.data_mapFields hd _)),(Obj.cls_mapFields ..).trans hc,?_⟩,ot,(sb.2 t aC).trans cf,cS,nt,cT⟩ sb
   rw[Obj.data_mapFields hd];simp[rawInt]
 done:=λs Q E st hE=>by
  obtain⟨⟨o,ho,hc,hd⟩,ot,cf,cS,nt,cT⟩:=id st;have hx:ao[ao.size]?=Vp:=Array.getElem?_eq_none (Um _)
  have hT:s.TypeIs (.ref it) "tuple_iterator":=⟨o,ho,hc⟩;unfold IY;refine V8 (IZ (name:=La "__next__") hT Lb (Lc Lb hT F.entry_tuple_iterator_next ?b (F.args_tuple_iterator_next_1 _)))
  case b =>
   change VQ _ _ (Ld (.ref it) 0 >>= λ_=>_) _ _ _
   refine V8 (Le ho hd (x:=.ref t) rfl ?_)
   rw[if_neg (Q3c t)];change VQ _ _ (Ld (.ref it) 1 >>= λ_=>_) _ _ _
   refine V8 (Le ho hd (x:=.int ao.size 0) rfl ?_)
   change VQ _ _ (seqItems? (.ref t) >>= λ_=>_) _ _ _
   refine V8 (Lf cf cT ?_)
   simp only[Om,hx];refine V8 (Lg (V8 (wpAny_setField ho hd #[2] ?_)))
   change VQ _ _ (newExc (.type "StopIteration") [] >>= λ_=>_) _ _ _
   refine Z3c hh λh' e k he=>hE h' e (λb o hb q=>k b o (((II ..).2 b hb).trans q)) he
structure Zia(h:Vq)(z TI TO i1 i2:Vh)(f0:Va):Prop where
 z:IsZip h z TI TO f0
 ti:Li h TI (.ref i1) (.ref i2)
 to:∃ a b,Li h TO a b
structure Jrb(z TI TO i1 i2:Vh):Prop where
 a:TI≠z
 b:TO≠z
 c:i1≠z
 d:i2≠z
 e:TI≠TO
 f:TI≠i1
 g:TI≠i2
 h:TO≠i1
 i:TO≠i2
 j:i1≠i2
theorem Zia.same{h h':Vq}{z TI TO i1 i2 c:Vh}{f0:Va}(x:Zia h z TI TO i1 i2 f0)(sb:VP c h h')(n1:z≠c)(n2:TI≠c)(n3:TO≠c):Zia h' z TI TO i1 i2 f0 :=
 ⟨(sb.2 _ n1).trans x.z,(sb.2 _ n2).trans x.ti,let ⟨a,b,e⟩:=x.to;⟨a,b,(sb.2 _ n3).trans e⟩⟩
variable{z TI TO i1 i2:Vh}{iZ me:List Vh}{n1 n2 i:Nat}{P1 P2:Nat->Va->Prop}{S1 S2:Nat->Vq->Prop}
theorem Zp{it c:Vh}{fp:List Vh}{n k:Nat}{P:Nat->Va->Prop}{S:Nat->Vq->Prop}{B:VF}{h h':Vq}(D:Draws prog w B it fp n P S)(st:S k h)(sb:VP c h h')(hc:c∉fp):S k h' :=
 D.frame k h h' st λb hb o e=>(sb.2 b λq=>hc (q ▸ hb)).trans e
theorem YCc(D1:Draws prog w A.in1 i1 iZ n1 P1 S1)(D2:Draws prog w A.in1 i2 me n2 P2 S2)(ap:Jrb z TI TO i1 i2)(a1:z∉iZ/\TO∉iZ/\i2∉iZ)(a2:z∉me/\TO∉me/\i1∉me)
 (hz:Zia s.heap z TI TO i1 i2 .none) (ci:S1 i s.heap) (bK:S2 i s.heap) (l1:i < n1) (l2:i < n2) {Q:Option Va->VG->Prop}
 (hQ:∀ x y h' tk,P1 i x->P2 i y->Zia h' z TI TO i1 i2 (rawInt s.heap.objs.size)->S1 (i+1) h'->S2 (i+1) h'->Li h' s.heap.objs.size x y ->
  (∀ c o,c≠z->c≠TO->c≠i1->c≠i2->s.heap.get? c=Vo o->h'.get? c=Vo o)->Q (Vo (.ref s.heap.objs.size)) { s with heap:=h',toks:=tk }):VQ (VR prog w) A (Ue (.ref z)) Q E s:=by
 obtain⟨hZ,mf,p0,q0,nV⟩:=id hz;have hT:s.TypeIs (.ref z) "zip":=⟨_,hZ,rfl⟩;unfold Ue;refine V8 (Lj (IZ (name:=La "__next__") hT Ll (Lc Ll hT F.entry_zip_next ?b (F.args_zip_next_1 _))))
 case b =>
  change VQ _ _ (Ld (.ref z) 2 >>= λ_=>_) _ _ _
  refine V8 (Le hZ rfl (x:=.bool false) rfl ?_)
  change VQ _ _ (Ld (.ref z) 3 >>= λ_=>_) _ _ _
  refine V8 (Le hZ rfl (x:=.ref TI) rfl (V8 (Lf mf rfl ?_)))
  change VQ _ _ (Lm (.ref z) >>= λ_=>_) _ _ _
  refine V8 ?_
  unfold Lm;refine V8 (Le hZ rfl (x:=.none) rfl (Ui ?_))
  simp only[if_true];refine V8 (Lg (V8 (Le hZ rfl (x:=.ref TO) rfl (V8 (Lo hZ #[2] λh1 mh eU=>?_)))))
  have Z1:Zia h1 z TI TO i1 i2 .ellipsis:=⟨mh,(eU.2 _ ap.a).trans mf,p0,q0,(eU.2 _ ap.b).trans nV⟩;refine V8 ?_
  simp only[zipIdx_cons,DA,Dv,forIn_nil];refine V8 (V8 (wpAny_onRaise ?_))
  change VQ _ _ (IY (.ref i1) >>= λ_=>_) _ _ _
  refine V8 (D1.item i _ _ _ l1 (Zp D1 ci eU a1.1) λx h2 qO px nW dg=>Ui ?_)
  have Z2:=Z1.same dg ap.c.symm ap.f ap.h;have nX:=Zp D2 (Zp D2 bK eU a2.1) dg a2.2.2;have jK:Li h2 TO p0 q0:=(dg.2 _ ap.h).trans ((eU.2 _ ap.b).trans nV);refine V8 (Lf jK rfl (V8 (wpAny_updateSeq_pair jK λh3 fE fF=>V8 (wpAny_letGo (Ui ?_)))))
  have fE:Li h3 TO x q0:=fE;have Z3:Zia h3 z TI TO i1 i2 .ellipsis:=⟨(fF.2 _ ap.b.symm).trans Z2.z,(fF.2 _ ap.e).trans Z2.ti,_,_,fE⟩;refine V8 (V8 (wpAny_onRaise ?_))
  change VQ _ _ (IY (.ref i2) >>= λ_=>_) _ _ _
  refine V8 (D2.item i _ _ _ l2 (Zp D2 nX fF a2.2.1) λy h4 nY py nZ jL=>Ui ?_)
  have jM:Li h4 TO x q0:=(jL.2 _ ap.i).trans fE;have Z4:=Z3.same jL ap.d.symm ap.g ap.i;have n6:=Zp D1 (Zp D1 nW fF a1.2.1) jL a1.2.2;refine V8 (Lf jM rfl (V8 (wpAny_updateSeq_pair jM λh5 dQ i0=>V8 (wpAny_letGo (Ui (Ui ?_))))))
  have dQ:Li h5 TO x y:=dQ;have Z5:Zia h5 z TI TO i1 i2 .ellipsis:=⟨(i0.2 _ ap.b.symm).trans Z4.z,(i0.2 _ ap.e).trans Z4.ti,_,_,dQ⟩;have n8:=Zp D1 n6 i0 a1.2.1;have n9:=Zp D2 nZ i0 a2.2.1;have sz:h5.objs.size=s.heap.objs.size:=by have e1:=eU.1;have e2:=dg.1;have e3:=fF.1;have e4:=jL.1;have e5:=i0.1;simp only at e1 e2 e3 e4 e5;lia
  have mi:∀ c o,c≠z->c≠TO->c≠i1->c≠i2->s.heap.get? c=Vo o->h5.get? c=Vo o:=λc o c1 c2 c3 c4 e =>
   (i0.2 c c2).trans ((jL.2 c c4).trans ((fF.2 c c2).trans ((dg.2 c c3).trans ((eU.2 c c1).trans e))))
  refine V8 (Lf dQ rfl (V8 (wpAny_newTuple ?_)))
  change VQ _ _ (Builtin.SmallTypes.ownedTupleHandOut (.ref z) (.ref h5.objs.size) >>= λ_=>_) _ _ _
  have pu:∀ c o,h5.get? c=Vo o->(h5.push { cls:=.type "tuple",data:=.seq #[x,y] }).get? c=Vo o:=λc o q=>Uk _ q
  have pT:=Ul h5 (o:={ cls:=.type "tuple",data:=.seq #[x,y] }) rfl
  have nz:h5.objs.size≠z:=Ud (Vx Z5.z);refine V8 ?_
  unfold Builtin.SmallTypes.ownedTupleHandOut;refine V8 (Lo (pu _ _ Z5.z) #[2] λh7 i3 qP=>?_)
  have i3:IsZip h7 z TI TO (rawInt h5.objs.size):=i3;refine Lo i3 #[2] λh8 uX qQ=>?_
  have up:∀ c o,c≠z->h5.get? c=Vo o->h8.get? c=Vo o:=λc o c1 e=>(qQ.2 c c1).trans ((qP.2 c c1).trans (pu c o e))
  refine Ui ⟨_,rfl,Ui ?_⟩
  have fin:=hQ x y h8 nY px py ⟨by rw[<- sz];exact uX,up _ _ ap.a Z5.ti,_,_,up _ _ ap.b dQ⟩ (D1.frame _ _ _ n8 λb hb o e=>up b o (λq=>a1.1 (q ▸ hb)) e) (D2.frame _ _ _ n9 λb hb o e=>up b o (λq=>a2.1 (q ▸ hb)) e)
   (by rw[<- sz];exact(qQ.2 _ nz).trans ((qP.2 _ nz).trans pT)) λc o c1 c2 c3 c4 e=>up c o c1 (mi c o c1 c2 c3 c4 e)
  rw[<- sz]at fin;exact fin
theorem YDc(hh:A.handled=Vp)(D1:Draws prog w A.in1 i1 iZ n1 P1 S1)(ap:Jrb z TI TO i1 i2)(a1:z∉iZ)(hz:Zia s.heap z TI TO i1 i2 .none)(ci:S1 n1 s.heap){Q:Option Va->VG->Prop}
 (hQ:∀ h',(∀ c o,c≠z->c≠i1->s.heap.get? c=Vo o->h'.get? c=Vo o)->Q Vp { s with heap:=h' }):VQ (VR prog w) A (Ue (.ref z)) Q E s:=by
 obtain⟨hZ,mf,p0,q0,nV⟩:=id hz;have hT:s.TypeIs (.ref z) "zip":=⟨_,hZ,rfl⟩;unfold Ue;refine V8 (Lj (IZ (name:=La "__next__") hT Ll (Lc Ll hT F.entry_zip_next ?b (F.args_zip_next_1 _))))
 case b =>
  change VQ _ _ (Ld (.ref z) 2 >>= λ_=>_) _ _ _
  refine V8 (Le hZ rfl (x:=.bool false) rfl ?_)
  change VQ _ _ (Ld (.ref z) 3 >>= λ_=>_) _ _ _
  refine V8 (Le hZ rfl (x:=.ref TI) rfl (V8 (Lf mf rfl ?_)))
  change VQ _ _ (Lm (.ref z) >>= λ_=>_) _ _ _
  refine V8 ?_
  unfold Lm;refine V8 (Le hZ rfl (x:=.none) rfl (Ui ?_))
  simp only[if_true];refine V8 (Lg (V8 (Le hZ rfl (x:=.ref TO) rfl (V8 (Lo hZ #[2] λh1 mh eU=>?_)))))
  refine V8 ?_
  simp only[zipIdx_cons,DA,Dv,forIn_nil];refine V8 (V8 (wpAny_onRaise ?_))
  change VQ _ _ (IY (.ref i1) >>= λ_=>_) _ _ _
  refine V8 (D1.done _ _ _ (Zp D1 ci eU a1) λh2 e x2 he=>?_)
  obtain⟨oe,oa,qR⟩:=he;have mj:IsZip h2 z TI TO .ellipsis:=x2 _ _ ap.c.symm mh;have uY:e≠z:=λq=>by subst q;rw[mj]at oa;cases oa;simp at qR
  refine Lo mj #[2] λh3 _ fF=>?_
  refine V8 (wpAny_isInstance (T:="StopIteration") (b:=true) ⟨oe,(fF.2 _ uY).trans oa,qR⟩ isSubtype_stop (Ui (hQ h3 λc o c1 c2 q=>?_)))
  exact(fF.2 c c1).trans (x2 c o c2 ((eU.2 c c1).trans q))
end
theorem Inv.moved{X:Cx}{aa:YP_}{σ:St}{H:Hp}{s:VG}{h':Vq}{t':Nat}{ch:List Vh}(I:Inv X aa σ H s)(hf:∀ b∈ch,Yc X aa H b)(k:∀ b o,b∉ch->s.heap.get? b=Vo o->h'.get? b=Vo o) :
 Inv X aa σ H { s with heap:=h',toks:=t' }:=by
 have dz:∀ b u,H b=Vo u->b∉ch:=λb u e z=>by rw[(hf b z).1]at e;cases e
 refine I.step (g':=s.gens) (d':=s.drawn) (ch:=ch) (λb hb=>⟨(hf b hb).2.2.2.1,(hf b hb).2.1,(hf b hb).2.2.2.2.1,(hf b hb).2.2.2.2.2⟩) (λb o _ _ hc e _=>k b o hc e) (λb o _ _ hc e _=>⟨o.slots,k b o hc e⟩) (λ_ _ _ _ n=>n)
  (λb o hc e=>⟨o,k b o hc e⟩) (λ_ _ e=>e) (λ_ _ _ e=>e) (λb ps e=>⟨#[],by rw[e];simp⟩) (λm hm=>?_) (λb u e=>?_) I.bare
 .obtain⟨o,es,ep,ho,r⟩:=hm
  exact⟨o,es,ep,k _ o (λz=>(hf _ z).2.1 rfl) ho,r⟩
 .refine(I.hok b u e).stay (λc v hc q=>k c v ?_ q) (λ_ q=>q) λ_ _ q=>q
  rcases hc with z | z
  .rw[z];exact dz b u e
  .exact dz c _ z
def SqB(tup:Bool)(H:Hp)(a:Vh)(xs:List V):Prop:=H a=Vo (if tup then .tup xs else .lst xs)
theorem SqB.inj{tup:Bool}{H:Hp}{a:Vh}{xs ys:List V}(h:SqB tup H a xs)(h':SqB tup H a ys):xs=ys:=by
 unfold SqB at h h';rw[h]at h';cases tup <;> simpa using h'
def Xn(tup:Bool)(h:Vq)(a:Vh)(af:Array Va):Prop:=if tup=true then Vt h a af else h.IsList a af
def JFa(tup:Bool)(h:Vq)(it a:Vh)(i:Nat):Prop:=if tup=true then h.IsTupleIter it a i else h.IsListIter it a i
theorem Inv.seqB{X:Cx}{aa:YP_}{σ:St}{H:Hp}{s:VG}{tup:Bool}{a:Vh}{xs:List V}(I:Inv X aa σ H s)(h:SqB tup H a xs):∃ af:List Va,Qv xs af/\Xn tup s.heap a af.toArray:=by
 cases tup with
 | true =>
  obtain⟨af,r,p,_⟩:=I.tuple (xs:=xs) (SqT.of h);exact⟨af,r,p⟩
 | false =>
  obtain⟨af,r,p,_⟩:=I.list (xs:=xs) (SqL.of h);exact⟨af,r,p.isList⟩
theorem JFa.get{tup:Bool}{h:Vq}{it a:Vh}{i:Nat}(x:JFa tup h it a i):∃ o,h.get? it=Vo o/\(o.cls=.type "tuple_iterator"\/o.cls=.type "list_iterator")/\o.data=.fields #[.ref a,.int i 0]:=by
 cases tup with
 | true=>obtain⟨o,e,c,d⟩:=(x:h.IsTupleIter it a i);exact⟨o,e,.inl c,d⟩
 | false=>obtain⟨o,e,c,d⟩:=(x:h.IsListIter it a i);exact⟨o,e,.inr c,d⟩
theorem JFa.keep{tup:Bool}{h h':Vq}{it a:Vh}{i:Nat}(x:JFa tup h it a i)(k:∀ o,h.get? it=Vo o->h'.get? it=Vo o):JFa tup h' it a i:=by
 cases tup with
 | true=>obtain⟨o,e,r⟩:=(x:h.IsTupleIter it a i);exact(⟨o,k o e,r⟩:h'.IsTupleIter it a i)
 | false=>obtain⟨o,e,r⟩:=(x:h.IsListIter it a i);exact(⟨o,k o e,r⟩:h'.IsListIter it a i)
theorem Jsb{tup:Bool}{h:Vq}{it a:Vh}{i:Nat}{af:Array Va}(x:JFa tup h it a i)(y:Xn tup h a af):a≠it:=λz=>by
 obtain⟨o,e,c,d⟩:=x.get;subst z;cases tup with
 | true=>obtain⟨o',e',_,n,d'⟩:=(y:Vt h a af);rw[e]at e';cases e';rw[d]at d';cases d'
 | false=>obtain⟨o',e',_,n,d'⟩:=(y:h.IsList a af);rw[e]at e';cases e';rw[d]at d';cases d'
theorem X6b{prog:Vg}{w:Vb}{A:VF}(hh:A.handled=Vp)(tup:Bool)(it a:Vh)(aC:a≠it)(af:Array Va) :
 Draws prog w A it [it,a] af.size (λi v=>af[i]?=Vo v) (λi h=>JFa tup h it a i/\Xn tup h a af):=by
 cases tup with
 | true=>exact Z4c hh it a aC af
 | false=>exact Draws.list hh it a aC af
def ItZ(ta tb:Bool)(a b:Vh):It :=
 ⟨λi H=>∃ xs ys x y,SqB ta H a xs/\SqB tb H b ys/\xs[i]?=Vo x/\ys[i]?=Vo y,
  λi H v H'=>∃ T x y,H T=Vp/\v=.ref T/\H'=upd H T (.tup [x,y])/\(∀ xs,SqB ta H a xs->xs[i]?=Vo x)/\∀ ys,SqB tb H b ys->ys[i]?=Vo y,
  λi H=>∃ xs,SqB ta H a xs/\xs.length=i⟩
def Zod(ta tb:Bool)(a b z TI TO i1 i2:Vh)(i:Nat)(h:Vq):Prop:=Zia h z TI TO i1 i2 .none/\JFa ta h i1 a i/\JFa tb h i2 b i
theorem YEc{P:Vg}{w:Vb}{K:VC}{cz:List Expr}{kk:Nat}{bC:Pos}{ta tb:Bool}(a b z TI TO i1 i2:Vh)(ap:Jrb z TI TO i1 i2) :
 Jgb P w K (.Tuple cz kk bC) (ItZ ta tb a b) [z,TI,TO,i1,i2] z (Zod ta tb a b z TI TO i1 i2) where
 mem:=by simp
 obj:=λi h st c hc=>by
  obtain⟨⟨hz,og,p,q,oh⟩,h1,h2⟩:=st;obtain⟨o1,e1,_,d1⟩:=h1.get;obtain⟨o2,e2,_,d2⟩:=h2.get;simp only[Lp,Lq,or_false]at hc
  rcases hc with rfl | rfl | rfl | rfl | rfl
  .exact⟨_,hz,λv z=>by cases z⟩
  .exact⟨_,og,λv z=>by cases z⟩
  .exact⟨_,oh,λv z=>by cases z⟩
  .exact⟨_,e1,λv z=>by rw[d1]at z;cases z⟩
  .exact⟨_,e2,λv z=>by rw[d2]at z;cases z⟩
 keep:=λi h h' st k=>by
  obtain⟨⟨hz,og,p,q,oh⟩,h1,h2⟩:=st;exact⟨⟨k z #[2] _ hz,k TI #[2] _ og,p,q,k TO #[2] _ oh⟩,h1.keep λo e=>k i1 #[2] o e,h2.keep λo e=>k i2 #[2] o e⟩
 item:=by
  intro X hP hw hK hc i aa s σ H E I hf st hg;subst hP hw hK;obtain⟨xs,ys,x,y,ha,hb,hx,hy⟩:=hg;obtain⟨hz,h1,h2⟩:=st;obtain⟨bX,r1,q1⟩:=I.seqB ha;obtain⟨aI,r2,q2⟩:=I.seqB hb;have n1:=Jsb h1 q1;have n2:=Jsb h2 q2;have na:∀ c,c∈[z,TI,TO,i1,i2]->c≠a:=λc hc e=>by have:=(hf c hc).1;rw[e,ha]at this;cases this
  have nb:∀ c,c∈[z,TI,TO,i1,i2]->c≠b:=λc hc e=>by have:=(hf c hc).1;rw[e,hb]at this;cases this
  have hh:=I.ok.hd hc;have l1:i < bX.toArray.size:=by have:=r1.length;have:=(List.getElem?_eq_some_iff.mp hx).1;simp;lia
  have l2:i < aI.toArray.size:=by have:=r2.length;have:=(List.getElem?_eq_some_iff.mp hy).1;simp;lia
  refine YCc (X6b (A:=X.A.in1) hh ta i1 a n1 bX.toArray) (X6b (A:=X.A.in1) hh tb i2 b n2 aI.toArray) ap ⟨?_,?_,?_⟩ ⟨?_,?_,?_⟩ hz ⟨h1,q1⟩ ⟨h2,q2⟩ l1 l2 λu1 u2 h' tk p1 p2 io s1 s2 hp keep=>?_
  .simp[ap.c.symm,na z #[2]]
  .simp[ap.h,na TO #[2]]
  .simp[ap.j.symm,na i2 #[2]]
  .simp[ap.d.symm,nb z #[2]]
  .simp[ap.i,nb TO #[2]]
  .simp[ap.j,nb i1 #[2]]
  .refine⟨_,rfl,wpAny_letOwnedTupleGo_zip io.z λbD mj sb=>?_⟩
   obtain⟨v1,e1,qS⟩:=r1.get hx;obtain⟨v2,e2,qT⟩:=r2.get hy;have lW:u1=v1:=by
    have:bX[i]?=Vo u1:=by simpa using p1
    rw[e1]at this;exact(Vr this).symm
   have nG:u2=v2:=by
    have:aI[i]?=Vo u2:=by simpa using p2
    rw[e2]at this;exact(Vr this).symm
   subst lW nG;have fT:Yc X aa H s.heap.objs.size:=I.fpOk (Um _) (I.hok.fresh (Um _));have jN:∀ c∈[z,TI,TO,i1,i2],c≠s.heap.objs.size:=λc hc=>by
    obtain⟨o,e⟩:∃ o,s.heap.get? c=Vo o:=by
     obtain⟨g1,g2,p,q,g3⟩:=hz;obtain⟨o1,e1,_⟩:=h1.get;obtain⟨o2,e2,_⟩:=h2.get;simp only[Lp,Lq,or_false]at hc
     rcases hc with rfl | rfl | rfl | rfl | rfl
     .exact⟨_,g1⟩
     .exact⟨_,g2⟩
     .exact⟨_,g3⟩
     .exact⟨_,e1⟩
     .exact⟨_,e2⟩
    exact VA (Vx e)
   have I1:Inv X aa σ H { s with heap:=bD,toks:=tk }:=I.moved (ch:=[z,TO,i1,i2]) (λc hc=>hf c (by simp only[Lp,Lq,or_false]at hc;rcases hc with rfl | rfl | rfl | rfl <;> simp)) λc o hc e=>by
    simp only[Lp,Lq,or_false,not_or]at hc;exact(sb.2 c hc.1).trans (keep c o hc.1 hc.2.1 hc.2.2.1 hc.2.2.2 e)
   have nz:s.heap.objs.size≠z:=λq=>jN z #[2] q.symm
   have jO:Li bD s.heap.objs.size u1 u2:=(sb.2 _ nz).trans hp;have I2:Inv X aa σ (upd H s.heap.objs.size (.tup [x,y])) { s with heap:=bD,toks:=tk }:=I1.adopt (h':=bD) (t':=tk) fT (λ_ _ _ q=>q) ⟨⟨show 2<=Vs by decide,_,jO,rfl⟩,[u1,u2],.cons qS (.cons qT .nil),⟨_,jO,rfl,_,rfl⟩⟩
   refine⟨.ref s.heap.objs.size,_,I2,rfl,⟨_,x,y,fT.1,rfl,rfl,λeS h=>by rw[h.inj ha];exact hx,λii h=>by rw[h.inj hb];exact hy⟩,⟨⟨mj,(sb.2 _ ap.a).trans io.ti,let ⟨p,q,e⟩:=io.to;⟨p,q,(sb.2 _ ap.b).trans e⟩⟩,s1.1.keep λo e=>(sb.2 _ ap.c).trans e,s2.1.keep λo e=>(sb.2 _ ap.d).trans e⟩,λc hc=>?_⟩
   rw[Qe (jN c hc)];exact(hf c hc).1
 done:=by
  intro X hP hw hK hc i aa s σ H E I hf st hg;subst hP hw hK;obtain⟨xs,ha,el⟩:=hg;obtain⟨hz,h1,h2⟩:=st;obtain⟨bX,r1,q1⟩:=I.seqB ha;have n1:=Jsb h1 q1;have hh:=I.ok.hd hc;have ei:i=bX.toArray.size:=by have:=r1.length;simp;lia
  have na:z≠a:=λe=>by have:=(hf z #[2]).1;rw[e,ha]at this;cases this
  refine YDc hh (X6b (A:=X.A.in1) hh ta i1 a n1 bX.toArray) ap (by simp[ap.c.symm,na]) hz ⟨by rw[<- ei];exact h1,q1⟩ λh' keep=>⟨rfl,?_⟩
  exact I.moved (t':=s.toks) (ch:=[z,i1]) (λc hc=>hf c (by simp only[Lp,Lq,or_false]at hc;rcases hc with rfl | rfl <;> simp)) λc o hc e=>by
   simp only[Lp,Lq,or_false,not_or]at hc;exact keep c o hc.1 hc.2 e
 self:=λ_ _ _ _ _ st h=>wpAny_pyIter_zip st.1.z h
def itO(tup:Bool)(a:Vh):Obj:={ cls:=.type (if tup then "tuple_iterator" else "list_iterator"),data:=.fields #[.ref a,.int 0 0] }
section
variable{prog:Vg}{w:Vb}{A:VF}{E:YQ_}{s:VG}
theorem Q4c{tup:Bool}{a:Vh}{af:Array Va}{Q:YQ_}(h:Xn tup s.heap a af)(q:Q (.ref s.heap.objs.size) { s with heap:=s.heap.push (itO tup a) }):VQ (VR prog w) A (Ug (.ref a)) Q E s:=by
 cases tup with
 | true=>exact Uo (show s.heap.IsTuple a af from h) q
 | false=>exact Uj (show s.heap.IsList a af from h) q
theorem Xn.keep{tup:Bool}{h h':Vq}{a:Vh}{af:Array Va}(x:Xn tup h a af)(k:∀ o,h.get? a=Vo o->h'.get? a=Vo o):Xn tup h' a af:=by
 cases tup with
 | true=>obtain⟨o,e,r⟩:=(x:Vt h a af);exact(⟨o,k o e,r⟩:Vt h' a af)
 | false=>obtain⟨o,e,r⟩:=(x:h.IsList a af);exact(⟨o,k o e,r⟩:h'.IsList a af)
def Qdb(ta tb:Bool)(a b:Vh)(h:Vq):Vq :=
 ((((h.push (itO ta a)).push (itO tb b)).push { cls:=.type "tuple",data:=.seq #[.ref h.objs.size,.ref (h.objs.size+1)] }).push { cls:=.type "tuple",data:=.seq #[.none,.none] }).push
   { cls:=.type "zip",data:=.fields #[.none,.bool false,.bool false,.ref (h.objs.size+2),.ref (h.objs.size+3)] }
theorem QId(ta tb:Bool)(a b:Vh)(xs ys:Array Va) :
 Meets (O8.«zip.__new__» ⟨[.type "zip",.ref a,.ref b],[]⟩) (λ_ R s=>Xn ta s.heap a xs/\Xn tb s.heap b ys/\R (.ok (.ret (.ref (s.heap.objs.size+4)))) { s with heap:=Qdb ta tb a b s.heap }) :=
 .of_wp λprog w A R s h=>by
  obtain⟨hp,g,d,tk,os⟩:=s;obtain⟨h1,h2,h⟩:=h;have dR:=sub_zip;have ga:∀ {A':VF} {Q:YQ_} {E:YQ_},Q (.ref hp.objs.size) ⟨hp.push (itO ta a),g,d,tk,os⟩->VQ (VR prog w) A' (Ug (.ref a)) Q E ⟨hp,g,d,tk,os⟩:=λq=>Q4c (s:=⟨hp,g,d,tk,os⟩) h1 q
  have gb:∀ {A':VF} {Q:YQ_} {E:YQ_},Q (.ref (hp.push (itO ta a)).objs.size) ⟨(hp.push (itO ta a)).push (itO tb b),g,d,tk,os⟩->VQ (VR prog w) A' (Ug (.ref b)) Q E ⟨hp.push (itO ta a),g,d,tk,os⟩:=λq =>
   Q4c (s:=⟨hp.push (itO ta a),g,d,tk,os⟩) (h2.keep λo e=>Uk _ e) q
  wp_walk using ga,gb
  refine⟨_,rfl,?_⟩
  simp only[Qdb,UM]at h ⊢;exact h
end
theorem JKd(n:Nat):Jrb (n+4) (n+2) (n+3) n (n+1):=by
 constructor <;> (intro e;have e:(_:Nat)=(_:Nat):=e;lia)
theorem Z5c(ta tb:Bool)(a b:Vh)(h:Vq):Zod ta tb a b (h.objs.size+4) (h.objs.size+2) (h.objs.size+3) h.objs.size (h.objs.size+1) 0 (Qdb ta tb a b h):=by
 have g:∀ (k:Vq) (n:Nat) (o:Obj),k.objs.size=n->o.isFreed=false->(k.push o).get? n=Vo o:=λk n o e f=>by subst e;exact Ul k f
 have e1:(h.push (itO ta a)).objs.size=h.objs.size+1:=UM ..;have e2:((h.push (itO ta a)).push (itO tb b)).objs.size=h.objs.size+2:=by rw[UM,e1]
 have e3:(((h.push (itO ta a)).push (itO tb b)).push { cls:=.type "tuple",data:=.seq #[.ref h.objs.size,.ref (h.objs.size+1)] }).objs.size=h.objs.size+3:=by rw[UM,e2]
 have e4:((((h.push (itO ta a)).push (itO tb b)).push { cls:=.type "tuple",data:=.seq #[.ref h.objs.size,.ref (h.objs.size+1)] }).push { cls:=.type "tuple",data:=.seq #[.none,.none] }).objs.size=h.objs.size+4:=by rw[UM,e3]
 have up:∀ {k:Vq} {c:Vh} {u o:Obj},k.get? c=Vo u->(k.push o).get? c=Vo u:=λq=>Uk _ q
 unfold Qdb;refine⟨⟨g _ _ _ e4 rfl,up (up (g _ _ _ e2 rfl)),.none,.none,up (g _ _ _ e3 rfl)⟩,?_,?_⟩
 .have q:=up (o:={ cls:=.type "zip",data:=.fields #[.none,.bool false,.bool false,.ref (h.objs.size+2),.ref (h.objs.size+3)] }) (up (o:={ cls:=.type "tuple",data:=.seq #[.none,.none] }) (up (o:={ cls:=.type "tuple",data:=.seq #[.ref h.objs.size,.ref (h.objs.size+1)] }) (up (o:=itO tb b) (g h _ (itO ta a) rfl rfl))))
  cases ta with
  | true=>exact(⟨_,q,rfl,rfl⟩:Heap.IsTupleIter _ _ _ _)
  | false=>exact(⟨_,q,rfl,rfl⟩:Heap.IsListIter _ _ _ _)
 .have q:=up (o:={ cls:=.type "zip",data:=.fields #[.none,.bool false,.bool false,.ref (h.objs.size+2),.ref (h.objs.size+3)] }) (up (o:={ cls:=.type "tuple",data:=.seq #[.none,.none] }) (up (o:={ cls:=.type "tuple",data:=.seq #[.ref h.objs.size,.ref (h.objs.size+1)] }) (g _ _ (itO tb b) e1 rfl)))
  cases tb with
  | true=>exact(⟨_,q,rfl,rfl⟩:Heap.IsTupleIter _ _ _ _)
  | false=>exact(⟨_,q,rfl,rfl⟩:Heap.IsListIter _ _ _ _)
section
variable{X:Cx}{ea eb:Expr}{ua ub:TE}{p pos bC:Pos}{cz:List Expr}{kk:Nat}
theorem JLd:VE "zip"=Vo (.type "zip"):=by decide +kernel
def YOd(ta tb:Bool)(ua ub:TE):TI:=λσ H R=>ua σ H λx H1=>ub σ H1 λy H2=>∃ a b xs ys,x=.ref a/\y=.ref b/\SqB ta H2 a xs/\SqB tb H2 b ys/\R (ItZ ta tb a b) H2
theorem YFc(ta tb:Bool)(hg:Gl X "zip")(hm:X.mg "zip"=Vp)(ha:PE X ea ua)(hb:PE X eb ub)(na:Jqb ea=true:=by rfl)(nb:Jqb eb=true:=by rfl) :
 PI X (.Tuple cz kk bC) (.Call (.Name "zip" p) [ea,eb] [] pos) (YOd ta tb ua ub):=by
 intro aa s σ H R I h;refine UY (ZHa I hg hm JLd ?_)
 refine Uq (thn ((Q2 ha (Q2 hb Zc nb) na) pos aa s σ H (λvs H2=>∃ x y,vs=[x,y]/\∃ a b xs ys,x=.ref a/\y=.ref b/\SqB ta H2 a xs/\SqB tb H2 b ys/\R (ItZ ta tb a b) H2) I ?_) λus s1 hZ=>?_) (Ypa na) ?_
 .have z:ua σ H λx H1=>ub σ H1 λy H2=>∃ a b xs ys,x=.ref a/\y=.ref b/\SqB ta H2 a xs/\SqB tb H2 b ys/\R (ItZ ta tb a b) H2:=h
  show ua σ H λx H1=>ub σ H1 λy H2=>∃ x' y',[x,y]=[x',y']/\_
  simpa only[List.cons.injEq,and_true,exists_and_left,exists_eq_left',and_assoc,exists_eq_left]using z
 .obtain⟨vs,H1,I1,r1,x,y,ev,a,b,xs,ys,ex,ey,uZ,u3,q⟩:=hZ
  subst ev ex ey;obtain⟨u1,u2,rfl,e1,e2⟩:=QQc r1;obtain rfl:u1=Vk a:=e1;obtain rfl:u2=Vk b:=e2;obtain⟨bX,qS,q1⟩:=I1.seqB uZ;obtain⟨aI,qT,q2⟩:=I1.seqB u3;refine callType_new F.called_zip #[1] (F.typeCall_zip_2 _ _) (F.newCall_zip_2 _ _) (λobj=>F.args_object_init_3 obj _ _) F.entry_zip_new (QId ta tb a b bX.toArray aI.toArray) ⟨q1,q2,?_⟩
  have k5:∀ c o,s1.heap.get? c=Vo o->(Qdb ta tb a b s1.heap).get? c=Vo o:=λc o e=>Uk _ (Uk _ (Uk _ (Uk _ (Uk _ e))))
  have zt:=Z5c ta tb a b s1.heap;refine⟨⟨_,zt.1.z,rfl⟩,wpAny_pyIter_zip zt.1.z ⟨s1.heap.objs.size+4,_,_,_,H1,rfl,I1.kept (t':=s1.toks) k5,YEc a b (s1.heap.objs.size+4) (s1.heap.objs.size+2) (s1.heap.objs.size+3) s1.heap.objs.size (s1.heap.objs.size+1) ?_,zt,λc hc=>?_,q⟩⟩
  .exact JKd _
  .have bB:s1.heap.objs.size<=c:=by
    simp only[Lp,Lq,or_false]at hc
    rcases hc with rfl | rfl | rfl | rfl | rfl <;> lia
   exact I1.fpOk bB (I1.hok.fresh bB)
 .rw[Ypa nb];rfl
theorem YGc{ta tb:Bool}{g:TG}{t:TS}{D:ZG}{σ:St}{H:Hp}:Q2b (YOd ta tb ua ub) g t D σ H=ua σ H λx H1=>ub σ H1 λy H2=>∃ a b xs ys,x=.ref a/\y=.ref b/\SqB ta H2 a xs/\SqB tb H2 b ys/\FoR (ItZ ta tb a b) g t D σ H2:=rfl
theorem Q5c{K:VC}{ta tb:Bool}{a b:Vh}(xs ys:List V){g:TG}{t:TS}{D:ZG}{σ:St}{H:Hp}(hl:xs.length=ys.length)(Pv:Nat->St->Hp->Prop)(h0:Pv 0 σ H)(hk:∀ i σ H,Pv i σ H->SqB ta H a xs/\SqB tb H b ys)
 (hs:∀ (i:Nat) x y T σ H,xs[i]?=Vo x->ys[i]?=Vo y->Pv i σ H->H T=Vp->g (.ref T) σ (upd H T (.tup [x,y])) λσ2 H2=>t { D with nx:=Pv (i+1),ct:=Pv (i+1),bk:=D.nx } σ2 H2)
 (hd:∀ σ H,Pv xs.length σ H->D.nx σ H):FoR (ItZ ta tb a b) g t D σ H:=by
 refine⟨λi m σ H=>m=xs.length - i/\i<=xs.length/\Pv i σ H,⟨_,rfl,Us _,h0⟩,?_⟩
 rintro i m σ H ⟨rfl,hi,p⟩;obtain⟨k1,k2⟩:=hk i σ H p
 by_cases ay:i < xs.length
 .refine .inr ⟨⟨xs,ys,xs[i],ys[i]'#[0],k1,k2,IA ay,IA #[0]⟩,Pv (i+1),λσ' H' q=>⟨_,by lia,rfl,ay,q⟩,?_⟩
  rintro v H' ⟨T,x,y,hT,rfl,rfl,e1,e2⟩;exact hs i x y T σ H (e1 xs k1) (e2 ys k2) p hT
 .have e:i=xs.length:=by lia
  subst e;exact .inl ⟨⟨xs,k1,rfl⟩,hd σ H p⟩
end
section
variable{X:Cx}
theorem Q7a:OpR X (VX .LtE) (λx y H Q=>∃ i j,x=.str i/\y=.str j/\Q (.bl (!decide (j.cps.toList < i.cps.toList))) H):=by
 intro aa s σ H x y v u Q I rx ry h;obtain⟨i,j,rfl,rfl,q⟩:=h;obtain⟨t,rfl⟩:=rx;obtain⟨t2,rfl⟩:=ry;exact P.le_str ⟨.bl _,H,I,rfl,q⟩
theorem JMd:VE "all"=Vo (.builtin "all"):=by decide +kernel
theorem YHc{bs:List Bool}:∀ {us:List Va},Qv (bs.map V.bl) us->∀ {i:Nat} {v:Va},us[i]?=Vo v->∃ b,bs[i]?=Vo b/\v=.bool b:=λ{us} r {i v} e=>by
 have hi:i < us.length:=(List.getElem?_eq_some_iff.mp e).1
 have hl:=r.length;rw[UK]at hl;obtain⟨u,e2,ru⟩:=r.get (i:=i) (x:=.bl (bs[i]'#[0])) (by simp[show i < bs.length by lia])
 rw[e]at e2;cases e2;exact⟨_,IA #[0],ru⟩
theorem JNd(bs:List Bool):((VB bs.length).all λi=>(bs[i]?).getD true)=bs.all id:=by
 rw[Uw,Ib,Ib]
 constructor
 .intro h b hb
  obtain⟨i,hi,e⟩:=mem_iff_getElem.mp hb;have:=h i (mem_range.mpr hi);rw[IA hi,e]at this
  exact this
 .intro h i hi
  have hi:=mem_range.mp hi;rw[IA hi]
  exact h _ (IC hi)
def JOd(K:VC):List V->Hp->VK->Prop:=λxs H Q=>∃ (a:Vh) (bs:List Bool),xs=[.ref a]/\SqL K H a (bs.map V.bl)/\Q (.bl (bs.all id)) H
theorem ZKb(hc:X.calm=true):Jt X (.builtin "all") (JOd X.K):=by
 intro aa s σ H xs us Q I r h;obtain⟨a,bs,rfl,hq,q⟩:=h;obtain⟨u,rfl,ru⟩:=Ys r;obtain rfl:u=Vk a:=ru;obtain⟨af,rv,p,hz⟩:=I.list hq;have hl:=rv.length;rw[UK]at hl;have lt:a < s.heap.objs.size:=by obtain⟨_,e,_⟩:=p.isList;exact Vx e
 have hh:=I.ok.hd hc;refine call_all_walk (Uj p.isList ⟨s.heap.objs.size,[s.heap.objs.size,a],[s.heap.objs.size],af.toArray.size,_,_,λi=>(bs[i]?).getD true,rfl,Walks.list (A:=X.A.in1) hh _ a (VA lt) af.toArray,⟨⟨_,Ul _ rfl,rfl,rfl⟩,p.isList.push _⟩,?_,?_⟩)
 .intro i v s' Q' E' hP hQ
  obtain⟨b,e,rfl⟩:=YHc rv (i:=i) (v:=v) (by simpa using hP)
  simp only[e,Option.getD_some]at hQ;exact VZ hQ
 .intro h' tk hk
  rw[Uy,<- hl,JNd];refine⟨.bl _,H,I.kept (t':=tk) λb o e=>hk b o ?_ (Uk _ e),rfl,q⟩
  intro hm;rw[mem_singleton.mp hm]at e;exact Vz _ (Vx e)
theorem YIc{ta:TA}{tt:TT}{te:TE}{σ:St}{H:Hp}{Q:VK}:tLc (JNc ta) tt te σ H Q=ta σ H λvs H1=>∃ i j:Int,vs=[.int i,.int j]/\(-(2 ^ 62)<=i/\i < 2 ^ 62 /\ -(2 ^ 62)<=j/\j < 2 ^ 62)/\LcR (Itr i (j - i).toNat) tt te σ Q H1:=rfl
end
def Yu(H H':Hp):Prop:=∀ b o,H b=Vo o->H' b=Vo o\/((∃ xs,o=.lst xs)/\∃ ys,H' b=Vo (.lst ys))
theorem Qf.l{H H':Hp}(s:Qf H H'):Yu H H':=λb o e=>.inl (s b o e)
theorem Yu.trans{H H1 H2:Hp}(a:Yu H H1)(b:Yu H1 H2):Yu H H2:=λc o e=>by
 rcases a c o e with h | ⟨⟨xs,rfl⟩,ys,h⟩
 .exact b c o h
 .rcases b c _ h with h' | ⟨_,zs,h'⟩
  .exact .inr ⟨⟨xs,rfl⟩,ys,h'⟩
  .exact .inr ⟨⟨xs,rfl⟩,zs,h'⟩
theorem Xd{H:Hp}{D:Vh}{ys zs:List V}(h:H D=Vo (.lst ys)):Yu H (upd H D (.lst zs)):=λb o e=>by
 by_cases hb:b=D
 .subst hb;rw[h]at e;cases e;exact .inr ⟨⟨_,rfl⟩,zs,Qa⟩
 .exact .inl (by rw[Qe hb];exact e)
theorem Yu.tup{H H':Hp}(s:Yu H H'){b:Vh}{xs:List V}(e:H b=Vo (.tup xs)):H' b=Vo (.tup xs):=by
 rcases s b _ e with h | ⟨⟨ys,h⟩,_⟩
 .exact h
 .cases h
theorem Yu.dK{H H':Hp}(s:Yu H H'){b:Vh}{xs:List (Key×V)}(e:H b=Vo (.dK xs)):H' b=Vo (.dK xs):=by
 rcases s b _ e with h | ⟨⟨ys,h⟩,_⟩
 .exact h
 .cases h
end L2
namespace Th
open PySem L2 Pl
def J8(c:Nat):Bool:=decide (32<=c/\c<=126/\c≠37)
def XLa(c:Nat):Bool:=decide (97<=c/\c<=122)
def YJc(z:Str):Prop:=z.length<=60/\∀ c∈z.cps.toList,J8 c=true\/c=9\/c=10
def YDb:V->Prop
 | .non=>True
 | .bl _=>True
 | .int _=>True
 | .str z=>YJc z
 | _=>False
def TT:Nat->Hp->V->Prop
 | 0,H,v=>YDb v\/∃ a,v=.ref a/\((∃ xs,H a=Vo (.lst xs))\/H a=Vo (.dK [])\/∃ xs,H a=Vo (.tup xs)/\xs.length<=60)
 | n+1,H,v=>YDb v\/∃ a,v=.ref a/\((∃ xs,H a=Vo (.lst xs))\/H a=Vo (.dK [])\/∃ xs,H a=Vo (.tup xs)/\xs.length<=60/\∀ u∈xs,TT n H u)
end Th
end
section
namespace L2
open PySem PySem.Spec PyProof.Rows
abbrev CX1(_:Vg)(_:Vb):CXT:=CX0
abbrev TE1:=St->Hp->VK->XK->Prop
def PE1(X:Cx)(e:Expr)(t:TE1):Prop :=
 ∀ (aa:YP_) (s:VG) (σ:St) (H:Hp) (Q:VK) (E:XK),Inv X aa σ H s->t σ H Q E->VQ (VR X.prog X.w) X.A (VS e X.env) (EP X aa σ Q) (λ_ _=>False) s
section
variable{X:Cx}{E:XK}{e:Expr}{es:List Expr}{t:TA}{t1:TE1}{x:Str}{p pos:Pos}{k j:Nat}{f:Vh}{fd:UU}{ps:List Str}{sp:Sp}
theorem PE1.pe(h:PE1 X e t1):PE X e (λσ H Q=>t1 σ H Q E0):=λaa s σ H Q I q=>VW (h aa s σ H Q E0 I q) (λ_ _ z=>z) λ_ _ z=>z.elim
theorem Z6c{a b:Option Expr}:PS X (.Raise a b pos) (λ_ _ _=>False):=λ_ _ _ _ _ _ h=>h.elim
theorem JGa{aa:YP_}{σ:St}{H:Hp}{s:VG}{Q:VK}{us:List Va}{vs:List V}(F:Qp X.prog X.w X.K X.mg X.base (CX1 X.prog X.w) k f fd ps sp)(hr:Q1 k X.A)(hb:Zz X.K fd ps [])(cU:X.ex=[])
 (I:Inv X aa σ H s) (r:Qv vs us) (h:sp vs H Q E):VQ (VR X.prog X.w) X.A (Ut (.ref f) us) (EP X aa σ Q) (λ_ _=>False) s:=by
 have hl:(us++[]).length=ps.length:=by rw[UV,<- r.length];exact F.len _ _ _ _ h
 have b:=hb s us I.kIn hl;rw[UV]at b;refine UW (UX (F.run X.A X.stack s H ⟨us,[]⟩ us vs Q E hr I.env0 b r h) λres s' hq=>?_)
 cases res with
 | error ev=>exact V3 hq
 | ok fl =>
  cases fl with
  | ret u=>exact I.after hq
  | next=>exact V3 hq
  | brk=>exact V3 hq
  | cont=>exact V3 hq
def X7b(sp:Sp)(t:TA):TE1:=λσ H Q E=>t σ H λvs H1=>sp vs H1 Q E
theorem X8b{aa:YP_}{σ:St}{H:Hp}{s:VG}{Q:List V->Hp->Prop}{W:YQ_}(ha:PA X.nox es t)(I:Inv X aa σ H s)(q:t σ H Q):VQ (VR X.prog X.w) X.A (spliced (VT pos (VU es X.env))) (AP X aa σ Q) W s :=
 VW (ha pos aa s σ H Q (I.wish _) q) (λ_ _ ⟨vs,H',I',r,z⟩=>⟨vs,H',I'.unwish,r,z⟩) λ_ _ z=>V3 z
theorem YKc(F:Qp X.prog X.w X.K X.mg X.base (CX1 X.prog X.w) k f fd ps sp)(hr:Q1 k X.A)(hg:Gl X x)(hm:X.mg x=Vo (.ref f))(hk:UJ X.K (.ref f)=true)(hb:Zz X.K fd ps [])(cU:X.ex=[])
 (ha:PA X.nox (e::es) t) (aN:(x == ("__debug__":Str))=false:=by decide) (he:VU (e::es) X.env=(false,VS e X.env)::VU es X.env:=by rfl) (aV:(VT pos (VU es X.env)).any (·.1)=false:=by rfl) :
 PE1 X (.Call (.Name x p) (e::es) [] pos) (X7b sp t):=by
 intro aa s σ H Q E I h;refine UY (Xk I hg hm ?_ aN)
 refine UZ (h₀:=X.base) I.ok.mod.kin hk (thn (X8b ha I h) λus s1 ⟨vs,H1,I1,r,q⟩=>⟨I1.kIn,?_⟩) he aV
 exact JGa F hr hb cU I1 r q
end
def MeV(P:Vg)(w:Vb)(K:VC)(mg:Str->Option Va)(base:Vq)(k:Nat)(C:Vh)(m:Str)(sp:Sp):Prop :=
 ∃ f fd ps,YGd K C m f/\Qp P w K mg base (CX1 P w) k f fd ps sp/\Zz K fd ps []
section
variable{X:Cx}{C:Vh}{m x:Str}{k i:Nat}{sp:Sp}{ta:TE}{t:TA}{e o:Expr}{es:List Expr}{p pos aj:Pos}{pl:Sem Bool}
theorem Q6c{aa:YP_}{σ:St}{H:Hp}{s:VG}{Q:VK}{W:YQ_}(h:PE X.nox e ta)(I:Inv X aa σ H s)(q:ta σ H Q):VQ (VR X.prog X.w) X.A (VS e X.env) (EP X aa σ Q) W s :=
 VW (h aa s σ H Q (I.wish _) q) (λ_ _ ⟨v,H',I',r,z⟩=>⟨v,H',I'.unwish,r,z⟩) λ_ _ z=>V3 z
end
def YPd(P:Vg)(w:Vb)(K:VC)(mg:Str->Option Va)(base:Vq)(k:Nat)(x:Str)(ps:List Str)(sp:Sp):Prop :=
 ∃ f fd,Qp P w K mg base (CX1 P w) k f fd ps sp/\Zz K fd ps []/\UJ K (.ref f)=true/\mg x=Vo (.ref f)
def MkV(P:Vg)(w:Vb)(K:VC)(mg:Str->Option Va)(base:Vq)(k:Nat)(x:Str)(C:Vh)(sp:Sp):Prop :=
 ∃ f fd ps,Mk K C f/\Qp P w K mg base CX0 k f fd ps sp/\Zz K fd ps []/\mg x=Vo (.ref C)
section
variable{X:Cx}{e o:Expr}{es:List Expr}{t:TA}{ta:TE}{p pos aj:Pos}{j k:Nat}{x m:Str}{ps:List Str}{sp:Sp}{C:Vh}{E:XK}{pl:Sem Bool}
theorem QJd(G:YPd X.prog X.w X.K X.mg X.base j x ps sp)(hr:Q1 k X.A)(hj:j<=k)(hg:Gl X x)(cU:X.ex=[])(ha:PA X.nox (e::es) t)(aN:(x == ("__debug__":Str))=false:=by decide)
 (he:VU (e::es) X.env=(false,VS e X.env)::VU es X.env:=by rfl) (aV:(VT pos (VU es X.env)).any (·.1)=false:=by rfl):PE1 X (.Call (.Name x p) (e::es) [] pos) (X7b sp t):=by
 obtain⟨f,fd,F,b,kp,m⟩:=G;exact YKc F (hr.mono hj) hg m kp b cU ha aN he aV
theorem MeV.mono{P:Vg}{w:Vb}{K:VC}{mg:Str->Option Va}{base:Vq}(G:MeV P w K mg base j C m sp)(hj:j<=k):MeV P w K mg base k C m sp:=by
 obtain⟨f,fd,ps,a,F,b⟩:=G;exact⟨f,fd,ps,a,F.mono hj,b⟩
theorem YQd(G:MkV X.prog X.w X.K X.mg X.base j x C sp)(hr:Q1 k X.A)(hj:j+1<=k)(hg:Gl X x)(ha:PA X (e::es) t)(aN:(x == ("__debug__":Str))=false:=by decide)
 (he:VU (e::es) X.env=(false,VS e X.env)::VU es X.env:=by rfl) (aV:(VT pos (VU es X.env)).any (·.1)=false:=by rfl):PE X (.Call (.Name x p) (e::es) [] pos) (QSc C sp [] E0 t):=by
 obtain⟨f,fd,ps,M,F,b,hm⟩:=G;exact Qpd M F (hr.mono hj) hg hm b .nil ZEb ha aN he aV
end
end L2
end
section
namespace Tg
open PySem L2 Pl
def J8(c:Nat):Bool:=decide (32<=c/\c<=126/\c≠37)
def YJc(z:Str):Prop:=z.length<=10000000
def YDb:V->Prop
 | .non=>True
 | .bl _=>True
 | .int _=>True
 | .str z=>YJc z
 | _=>False
def TT:Nat->Hp->V->Prop
 | 0,H,v=>YDb v\/∃ a,v=.ref a/\((∃ xs,H a=Vo (.lst xs))\/H a=Vo (.dK [])\/∃ xs,H a=Vo (.tup xs)/\xs.length<=100000)
 | n+1,H,v=>YDb v\/∃ a,v=.ref a/\((∃ xs,H a=Vo (.lst xs))\/H a=Vo (.dK [])\/∃ xs,H a=Vo (.tup xs)/\xs.length<=100000/\∀ u∈xs,TT n H u)
end Tg
end
section
namespace L2
open PySem PySem.Spec PyProof.Rows
theorem Yqa(zs:List Str):(O9 (La "") zs).cps.toList=zs.flatMap λz=>z.cps.toList:=by
 have e0:(La "").cps.toList=[]:=by decide
 have f:∀ (l:List Str) (a:Str),(l.foldl (λs u=>s++La ""++u) a).cps.toList=a.cps.toList++l.flatMap λz=>z.cps.toList:=λl=>by
  induction l with
  | nil=>intro a;simp
  | cons z l ih =>
   intro a;rw[IW,ih,IN,IN,e0,UV,Dw,IV]
 cases zs with
 | nil=>decide
 | cons z l=>rw[Z2c,f,Dw]
inductive Dt where
 | v (x:V)
 | t (xs:List Dt)
 | l (xs:List Dt)
instance:Inhabited Dt:=⟨.v .non⟩
mutual
def eqD:Dt->Dt->Bool
 | .v x,.v y=>eqV x y
 | .t xs,.t ys=>ZOa xs ys
 | .l xs,.l ys=>ZOa xs ys
 | _,_=>false
def ZOa:List Dt->List Dt->Bool
 | [],[]=>true
 | x::xs,y::ys=>eqD x y && ZOa xs ys
 | _,_=>false
end
inductive Rep(K:VC)(H:Hp):Nat->Dt->V->Prop where
 | v {n:Nat} {x:V} (f:Jd x=true):Rep K H n (.v x) x
 | t {n:Nat} {a:Vh} {ds:List Dt} {xs:List V} (h:SqT K H a xs) (e:ds.length=xs.length) (r:∀ (i:Nat) d x,ds[i]?=Vo d->xs[i]?=Vo x->Rep K H n d x):Rep K H (n+1) (.t ds) (.ref a)
 | l {n:Nat} {a:Vh} {ds:List Dt} {xs:List V} (h:SqL K H a xs) (e:ds.length=xs.length) (r:∀ (i:Nat) d x,ds[i]?=Vo d->xs[i]?=Vo x->Rep K H n d x):Rep K H (n+1) (.l ds) (.ref a)
theorem Qeb(n:Nat)(p:Nat->Bool):(VB (n+1)).all p=(p 0 && (VB n).all λi=>p (i+1)):=by
 rw[range_succ_eq_map,Dz,all_map];rfl
theorem JHa:∀ xs ys:List Dt,ZOa xs ys=((VB (min xs.length ys.length)).all (λi=>eqD (xs.getD i default) (ys.getD i default)) && (xs.length == ys.length))
 | [],[]=>by simp[ZOa]
 | [],y::ys=>by simp[ZOa]
 | x::xs,[]=>by simp[ZOa]
 | x::xs,y::ys=>by
  rw[ZOa,JHa xs ys,UC,UC,Nat.succ_min_succ,Qeb];simp only[getD_cons_zero,getD_cons_succ,Bool.and_assoc];have:(xs.length+1 == ys.length+1)=(xs.length == ys.length):=by rw[Uw,beq_iff_eq,beq_iff_eq];lia
  rw[this]
theorem JIa{xs ys:List Dt}(h:xs.length=ys.length):ZOa xs ys=(VB xs.length).all (λi=>eqD (xs.getD i default) (ys.getD i default)):=by
 rw[JHa,<- h,Nat.min_self,beq_self_eq_true,Bool.and_true]
theorem Q7c{xs ys:List Dt}(h:xs.length≠ys.length):ZOa xs ys=false:=by
 rw[JHa,beq_eq_false_iff_ne.mpr h,Bool.and_false]
section
variable{K:VC}{H H':Hp}{n m:Nat}{d d':Dt}{x:V}
theorem Rep.self(r:Rep K H n d x):eqD d d=true:=by
 induction r with
 | v f=>unfold eqD;exact Yvb f
 | t h e _ ih =>
  unfold eqD;rw[JIa rfl,Ib];intro i hi;rename_i ds xs _;have hi:=mem_range.mp hi;have h1:ds[i]?=Vo ds[i]:=IA hi
  have h2:xs[i]?=Vo (xs[i]'#[0]):=IA #[0]
  have:=ih i _ _ h1 h2
  rwa [show ds.getD i default=ds[i] by simp[List.getD,h1]]
 | l h e _ ih =>
  unfold eqD;rw[JIa rfl,Ib];intro i hi;rename_i ds xs _;have hi:=mem_range.mp hi;have h1:ds[i]?=Vo ds[i]:=IA hi
  have h2:xs[i]?=Vo (xs[i]'#[0]):=IA #[0]
  have:=ih i _ _ h1 h2
  rwa [show ds.getD i default=ds[i] by simp[List.getD,h1]]
end
section
variable{X:Cx}{aa:YP_}{σ:St}{H:Hp}{s:VG}
theorem Inv.tup_not_list{a:Vh}{xs ys:List V}(I:Inv X aa σ H s)(h:SqT X.K H a xs)(h':SqL X.K H a ys):False:=by
 obtain⟨af,r,⟨o,e,c,_⟩,_⟩:=I.tuple h;obtain⟨its',r',⟨o',n',e',c',_⟩,_⟩:=I.list h';rw[e]at e';cases e';rw[c]at c';exact absurd (Lr c') #[1]
theorem Rep.det(I:Inv X aa σ H s):∀ {n m:Nat} {d d':Dt} {x y:V},Rep X.K H n d x->Rep X.K H m d' y->x=y->d=d':=by
 intro n m d d' x y r
 induction r generalizing m d' y with
 | v f =>
  intro r' e;subst e;cases r' with
  | v _=>rfl
  | t _ _ _=>exact absurd f (by simp[Jd])
  | l _ _ _=>exact absurd f (by simp[Jd])
 | t h e _ ih =>
  intro r' ee;cases r' with
  | v f=>subst ee;exact absurd f (by simp[Jd])
  | t h' e' r2 =>
   cases ee;have:=I.tuple_inj h h';subst this
   congr 1
   refine ID #[0] λi h1 h2=>?_
   exact ih i _ _ (IA h1) (IA (show i < _ by lia)) (r2 i _ _ (IA h2) (IA #[0])) rfl
  | l h' _ _=>cases ee;exact(I.tup_not_list h h').elim
 | l h e _ ih =>
  intro r' ee;cases r' with
  | v f=>subst ee;exact absurd f (by simp[Jd])
  | l h' e' r2 =>
   cases ee;have:=I.list_inj h h';subst this
   congr 1
   refine ID #[0] λi h1 h2=>?_
   exact ih i _ _ (IA h1) (IA (show i < _ by lia)) (r2 i _ _ (IA h2) (IA #[0])) rfl
  | t h' _ _=>cases ee;exact(I.tup_not_list h' h).elim
theorem YN{α:Type}{xs:List α}{i:Nat}{x d:α}(h:xs[i]?=Vo x):xs.getD i d=x:=by simp[List.getD,h]
theorem YEb{A:VF}{n:Nat}(h:A.units+(n+1) < UR):A.in1.units+n < UR:=by show A.units+1+n < UR;lia
theorem Rep.eqAt(I:Inv X aa σ H s):∀ (n:Nat) {A:VF} {d d':Dt} {x y:V} {u v:Va},A.units+n < UR->Rep X.K H n d x->Rep X.K H n d' y->Qt x u->Qt y v->Ol A s u v (eqD d d'):=by
 intro n
 induction n with
 | zero =>
  intro A d d' x y u v hu r r' rx ry;cases r with
  | v f =>
   cases r' with
   | v f'=>unfold eqD;exact Yna rx ry f f'
 | succ n ih =>
  intro A d d' x y u v hu r r' rx ry;have aB:A.units < UR:=by lia
  have elems:∀ {ds es:List Dt} {xs ys:List V} {us vs:List Va},ds.length=xs.length->es.length=ys.length->(∀ (i:Nat) d x,ds[i]?=Vo d->xs[i]?=Vo x->Rep X.K H n d x)->(∀ (i:Nat) d x,es[i]?=Vo d->ys[i]?=Vo x->Rep X.K H n d x) ->
   Qv xs us->Qv ys vs->∀ j (h1:j < us.toArray.size) (h2:j < vs.toArray.size),Ol A.in1 s us.toArray[j] vs.toArray[j] (eqD (ds.getD j default) (es.getD j default)):=by
   intro ds es xs ys us vs l1 l2 r1 r2 w1 w2 j h1 h2;have m1:=w1.length;have m2:=w2.length;have j1:j < xs.length:=by
    have:j < us.length:=by simpa using h1
    lia
   have j2:j < ys.length:=by
    have:j < vs.length:=by simpa using h2
    lia
   have g1:ds[j]?=Vo (ds[j]'#[0]):=IA _
   have g2:es[j]?=Vo (es[j]'#[0]):=IA _
   have x1:xs[j]?=Vo xs[j]:=IA _
   have x2:ys[j]?=Vo ys[j]:=IA _
   obtain⟨u1,e1,q1⟩:=w1.get x1;obtain⟨u2,e2,q2⟩:=w2.get x2;rw[YN g1,YN g2];have k1:us.toArray[j]=u1:=by
    have:us[j]?=Vo us[j]:=IA _
    rw[this]at e1;simpa using e1
   have k2:vs.toArray[j]=u2:=by
    have:vs[j]?=Vo vs[j]:=IA _
    rw[this]at e2;simpa using e2
   rw[k1,k2];exact ih (YEb hu) (r1 j _ _ g1 x1) (r2 j _ _ g2 x2) q1 q2
  cases r with
  | v f =>
   cases r' with
   | v f'=>unfold eqD;exact Yna rx ry f f'
   | t h e _ =>
    cases ry;obtain⟨af,_,p,_⟩:=I.tuple h;unfold eqD;cases x <;> first | (exact(Uc f).elim) | skip
    .cases (show u=Vi from rx);exact .none_tuple p aB
    .cases (show u=Vj _ from rx);exact .bool_tuple _ p aB
    .obtain⟨t,rfl⟩:=rx;exact .int_tuple _ _ p aB
    .obtain⟨t,rfl⟩:=rx;exact .str_tuple _ _ p aB
   | l h e _ =>
    cases ry;obtain⟨af,_,p,_⟩:=I.list h;unfold eqD;cases x <;> first | (exact(Uc f).elim) | skip
    .cases (show u=Vi from rx);exact .none_list p.isList aB
    .cases (show u=Vj _ from rx);exact .bool_list _ p.isList aB
    .obtain⟨t,rfl⟩:=rx;exact .int_list _ _ p.isList aB
    .obtain⟨t,rfl⟩:=rx;exact .str_list _ _ p.isList aB
  | t h e r1 =>
   rename_i a ds xs;cases rx;obtain⟨af,w1,p,_⟩:=I.tuple h;cases r' with
   | v f' =>
    unfold eqD;cases y <;> first | (exact(Uc f').elim) | skip
    .cases (show v=Vi from ry);exact .tuple_none p aB
    .cases (show v=Vj _ from ry);exact .tuple_bool _ p aB
    .obtain⟨t,rfl⟩:=ry;exact .tuple_int _ _ p aB
    .obtain⟨t,rfl⟩:=ry;exact .tuple_str _ _ p aB
   | t h' e' r2 =>
    rename_i b es ys;cases ry;obtain⟨its',w2,p',_⟩:=I.tuple h'
    by_cases ab:a=b
    .subst ab
     have z:=Rep.det I (.t h e r1) (.t h' e' r2) rfl;rw[<- z,Rep.self (.t h e r1)];exact .same _
    .have q:=SeqAt.RcAt.tuples (A:=A) (e:=λi=>eqD (ds.getD i default) (es.getD i default)) p p' aB (elems e e' r1 r2 w1 w2)
     have sz:af.toArray.size=ds.length:=by rw[Uy,<- w1.length,e]
     have ip:its'.toArray.size=es.length:=by rw[Uy,<- w2.length,e']
     rw[sz,ip,<- JHa]at q;unfold eqD;exact .of_refs ab q
   | l h' _ _ =>
    cases ry;obtain⟨its',w2,p',_⟩:=I.list h';unfold eqD;exact .tuple_list p p'.isList aB
  | l h e r1 =>
   rename_i a ds xs;cases rx;obtain⟨af,w1,p,_⟩:=I.list h;cases r' with
   | v f' =>
    unfold eqD;cases y <;> first | (exact(Uc f').elim) | skip
    .cases (show v=Vi from ry);exact .list_none p.isList aB
    .cases (show v=Vj _ from ry);exact .list_bool _ p.isList aB
    .obtain⟨t,rfl⟩:=ry;exact .list_int _ _ p.isList aB
    .obtain⟨t,rfl⟩:=ry;exact .list_str _ _ p.isList aB
   | l h' e' r2 =>
    rename_i b es ys;cases ry;obtain⟨its',w2,p',_⟩:=I.list h'
    by_cases ab:a=b
    .subst ab
     have z:=Rep.det I (.l h e r1) (.l h' e' r2) rfl;rw[<- z,Rep.self (.l h e r1)];exact .same _
    .have sz:af.toArray.size=ds.length:=by rw[Uy,<- w1.length,e]
     have ip:its'.toArray.size=es.length:=by rw[Uy,<- w2.length,e']
     unfold eqD
     by_cases hl:ds.length=es.length
     .have q:=SeqAt.RcAt.lists (A:=A) (e:=λi=>eqD (ds.getD i default) (es.getD i default)) p.isList p'.isList #[0] aB (elems e e' r1 r2 w1 w2)
      rw[sz,<- JIa hl]at q;exact .of_refs ab q
     .rw[Q7c hl]
      exact .of_refs ab (SeqAt.RcAt.lists_lengths p.isList p'.isList (by rw[sz,ip];exact bne_iff_ne.mpr hl) aB)
   | t h' _ _ =>
    cases ry;obtain⟨its',w2,p',_⟩:=I.tuple h';unfold eqD;exact .list_tuple p.isList p' aB
theorem Rep.elems(I:Inv X aa σ H s){n:Nat}{A:VF}(hu:A.units+(n+1) < UR){ds es:List Dt}{xs ys:List V}{us vs:List Va}(l1:ds.length=xs.length)(l2:es.length=ys.length)
 (r1:∀ (i:Nat) d x,ds[i]?=Vo d->xs[i]?=Vo x->Rep X.K H n d x) (r2:∀ (i:Nat) d x,es[i]?=Vo d->ys[i]?=Vo x->Rep X.K H n d x) (w1:Qv xs us) (w2:Qv ys vs) (j:Nat) (h1:j < us.toArray.size) (h2:j < vs.toArray.size) :
 Ol A.in1 s us.toArray[j] vs.toArray[j] (eqD (ds.getD j default) (es.getD j default)):=by
 have m1:=w1.length;have m2:=w2.length;have j1:j < xs.length:=by
  have:j < us.length:=by simpa using h1
  lia
 have j2:j < ys.length:=by
  have:j < vs.length:=by simpa using h2
  lia
 have g1:ds[j]?=Vo (ds[j]'#[0]):=IA _
 have g2:es[j]?=Vo (es[j]'#[0]):=IA _
 have x1:xs[j]?=Vo xs[j]:=IA _
 have x2:ys[j]?=Vo ys[j]:=IA _
 obtain⟨u1,e1,q1⟩:=w1.get x1;obtain⟨u2,e2,q2⟩:=w2.get x2;rw[YN g1,YN g2];have k1:us.toArray[j]=u1:=by
  have:us[j]?=Vo us[j]:=IA _
  rw[this]at e1;simpa using e1
 have k2:vs.toArray[j]=u2:=by
  have:vs[j]?=Vo vs[j]:=IA _
  rw[this]at e2;simpa using e2
 rw[k1,k2];exact Rep.eqAt I n (YEb hu) (r1 j _ _ g1 x1) (r2 j _ _ g2 x2) q1 q2
theorem Rep.rcAt(I:Inv X aa σ H s){n:Nat}{A:VF}{d d':Dt}{x y:V}{u v:Va}(hu:A.units+n < UR)(r:Rep X.K H n d x)(r':Rep X.K H n d' y)(rx:Qt x u)(ry:Qt y v):SeqAt.RcAt A s u v (eqD d d'):=by
 have aB:A.units < UR:=by lia
 cases r with
 | v f =>
  cases r' with
  | v f' =>
   unfold eqD;cases x <;> first | (exact(Uc f).elim) | skip
   all_goals (cases y <;> first | (exact(Uc f').elim) | skip)
   .cases (show u=Vi from rx)
    cases (show v=Vi from ry)
    exact SeqAt.RcAt.none_none
   .cases (show u=Vi from rx)
    cases (show v=Vj _ from ry)
    exact SeqAt.RcAt.none_bool _
   .cases (show u=Vi from rx)
    obtain⟨tv,rfl⟩:=ry;exact SeqAt.RcAt.none_int _ _
   .cases (show u=Vi from rx)
    obtain⟨tv,rfl⟩:=ry;exact SeqAt.RcAt.none_str _ _
   .cases (show u=Vj _ from rx)
    cases (show v=Vi from ry)
    exact SeqAt.RcAt.bool_none _
   .cases (show u=Vj _ from rx)
    cases (show v=Vj _ from ry)
    exact SeqAt.RcAt.bool_bool _ _
   .cases (show u=Vj _ from rx)
    obtain⟨tv,rfl⟩:=ry;exact SeqAt.RcAt.bool_int _ _ _
   .cases (show u=Vj _ from rx)
    obtain⟨tv,rfl⟩:=ry;exact SeqAt.RcAt.bool_str _ _ _
   .obtain⟨tu,rfl⟩:=rx
    cases (show v=Vi from ry)
    exact SeqAt.RcAt.int_none _ _
   .obtain⟨tu,rfl⟩:=rx
    cases (show v=Vj _ from ry)
    exact SeqAt.RcAt.int_bool _ _ _
   .obtain⟨tu,rfl⟩:=rx
    obtain⟨tv,rfl⟩:=ry;exact SeqAt.RcAt.int_int _ _ _ _
   .obtain⟨tu,rfl⟩:=rx
    obtain⟨tv,rfl⟩:=ry;exact SeqAt.RcAt.int_str _ _ _ _
   .obtain⟨tu,rfl⟩:=rx
    cases (show v=Vi from ry)
    exact SeqAt.RcAt.str_none _ _
   .obtain⟨tu,rfl⟩:=rx
    cases (show v=Vj _ from ry)
    exact SeqAt.RcAt.str_bool _ _ _
   .obtain⟨tu,rfl⟩:=rx
    obtain⟨tv,rfl⟩:=ry;exact SeqAt.RcAt.str_int _ _ _ _
   .obtain⟨tu,rfl⟩:=rx
    obtain⟨tv,rfl⟩:=ry;exact SeqAt.RcAt.str_str _ _ _ _
  | t h e _ =>
   cases ry;obtain⟨af,_,p,_⟩:=I.tuple h;unfold eqD;cases x <;> first | (exact(Uc f).elim) | skip
   .cases (show u=Vi from rx)
    exact SeqAt.RcAt.none_tuple p aB
   .cases (show u=Vj _ from rx)
    exact SeqAt.RcAt.bool_tuple _ p aB
   .obtain⟨tu,rfl⟩:=rx
    exact SeqAt.RcAt.int_tuple _ _ p aB
   .obtain⟨tu,rfl⟩:=rx
    exact SeqAt.RcAt.str_tuple _ _ p aB
  | l h e _ =>
   cases ry;obtain⟨af,_,p,_⟩:=I.list h;unfold eqD;cases x <;> first | (exact(Uc f).elim) | skip
   .cases (show u=Vi from rx)
    exact SeqAt.RcAt.none_list p.isList aB
   .cases (show u=Vj _ from rx)
    exact SeqAt.RcAt.bool_list _ p.isList aB
   .obtain⟨tu,rfl⟩:=rx
    exact SeqAt.RcAt.int_list _ _ p.isList aB
   .obtain⟨tu,rfl⟩:=rx
    exact SeqAt.RcAt.str_list _ _ p.isList aB
 | t h e r1 =>
  rename_i n a ds xs;cases rx;obtain⟨af,w1,p,_⟩:=I.tuple h;cases r' with
  | v f' =>
   unfold eqD;cases y <;> first | (exact(Uc f').elim) | skip
   .cases (show v=Vi from ry)
    exact SeqAt.RcAt.tuple_none p aB
   .cases (show v=Vj _ from ry)
    exact SeqAt.RcAt.tuple_bool _ p aB
   .obtain⟨tv,rfl⟩:=ry
    exact SeqAt.RcAt.tuple_int _ _ p aB
   .obtain⟨tv,rfl⟩:=ry
    exact SeqAt.RcAt.tuple_str _ _ p aB
  | t h' e' r2 =>
   rename_i b es ys;cases ry;obtain⟨its',w2,p',_⟩:=I.tuple h';have q:=SeqAt.RcAt.tuples (A:=A) (e:=λi=>eqD (ds.getD i default) (es.getD i default)) p p' aB (Rep.elems I hu e e' r1 r2 w1 w2)
   have sz:af.toArray.size=ds.length:=by rw[Uy,<- w1.length,e]
   have ip:its'.toArray.size=es.length:=by rw[Uy,<- w2.length,e']
   rw[sz,ip,<- JHa]at q;unfold eqD;exact q
  | l h' _ _ =>
   cases ry;obtain⟨its',w2,p',_⟩:=I.list h';unfold eqD;exact SeqAt.RcAt.tuple_list p p'.isList aB
 | l h e r1 =>
  rename_i n a ds xs;cases rx;obtain⟨af,w1,p,_⟩:=I.list h;cases r' with
  | v f' =>
   unfold eqD;cases y <;> first | (exact(Uc f').elim) | skip
   .cases (show v=Vi from ry)
    exact SeqAt.RcAt.list_none p.isList aB
   .cases (show v=Vj _ from ry)
    exact SeqAt.RcAt.list_bool _ p.isList aB
   .obtain⟨tv,rfl⟩:=ry
    exact SeqAt.RcAt.list_int _ _ p.isList aB
   .obtain⟨tv,rfl⟩:=ry
    exact SeqAt.RcAt.list_str _ _ p.isList aB
  | l h' e' r2 =>
   rename_i b es ys;cases ry;obtain⟨its',w2,p',_⟩:=I.list h';have sz:af.toArray.size=ds.length:=by rw[Uy,<- w1.length,e]
   have ip:its'.toArray.size=es.length:=by rw[Uy,<- w2.length,e']
   unfold eqD
   by_cases hl:ds.length=es.length
   .have q:=SeqAt.RcAt.lists (A:=A) (e:=λi=>eqD (ds.getD i default) (es.getD i default)) p.isList p'.isList #[0] aB (Rep.elems I hu e e' r1 r2 w1 w2)
    rw[sz,<- JIa hl]at q;exact q
   .rw[Q7c hl]
    exact SeqAt.RcAt.lists_lengths p.isList p'.isList (by rw[sz,ip];exact bne_iff_ne.mpr hl) aB
  | t h' _ _ =>
   cases ry;obtain⟨its',w2,p',_⟩:=I.tuple h';unfold eqD;exact SeqAt.RcAt.list_tuple p.isList p' aB
def rD(K:VC)(neg:Bool):R2:=λx y H Q=>∃ n d d',n<=60/\Rep K H n d x/\Rep K H n d' y/\Q (.bl (if neg then !eqD d d' else eqD d d')) H
theorem JPd(hu:X.A.units+64 < UR):OpR X (VX .Eq) (rD X.K false):=by
 intro aa s σ H x y v u Q I rx ry h;obtain⟨n,d,d',hn,r,r',q⟩:=h;exact Rep.rcAt I (A:=X.A) #[0] r r' rx ry X.prog X.w X.xe _ ⟨.bl _,H,I,rfl,q⟩
end
end L2
end
section
namespace L2
open PySem PySem.Spec PyProof.Rows PySem.W
structure YLc(xs:List V)(lt:V->V->Bool):Prop where
 ty:∃ T:String,(Vl T != Vl "tuple")=true/\∀ v∈xs,∀ u,Qt v u->typeOf u=pure (.type T)
 ask:∀ v∈xs,∀ v'∈xs,∀ u u',Qt v u->Qt v' u'->∀ (prog:Vg) (w:Vb) (A:VF) (E:YQ_) (s:VG) (Q:Bool->VG->Prop),Q (lt v v') s->VQ (VR prog w) A (keyLt' oneType' u u') Q E s
 swo:Swo xs lt
def ltP:V->V->Bool
 | .int a,.int b=>decide (a < b)
 | .str a,.str b=>decide (a.cps.toList < b.cps.toList)
 | _,_=>false
theorem YMc{xs:List V}(h:∀ v∈xs,∃ n,v=.int n):YLc xs ltP where
 ty:=⟨"int",by decide,λv hv u r=>by obtain⟨n,rfl⟩:=h v hv;obtain⟨t,rfl⟩:=r;rfl⟩
 ask:=λv hv v' g9 u u' r r' prog w A E s Q q=>by
  obtain⟨n,rfl⟩:=h v hv;obtain⟨t,rfl⟩:=r;obtain⟨n',rfl⟩:=h v' g9;obtain⟨t',rfl⟩:=r';exact kat_lt_int q
 swo:=⟨λa ha=>by obtain⟨n,rfl⟩:=h a ha;simp[ltP],λa ha b hb c hc=>by
  obtain⟨x,rfl⟩:=h a ha;obtain⟨y,rfl⟩:=h b hb;obtain⟨z,rfl⟩:=h c hc;simp only[ltP,decide_eq_true_eq];lia,λa ha b hb c hc=>by
  obtain⟨x,rfl⟩:=h a ha;obtain⟨y,rfl⟩:=h b hb;obtain⟨z,rfl⟩:=h c hc;simp only[ltP,decide_eq_true_eq];lia⟩
theorem JJa{xs:List V}(h:∀ v∈xs,∃ z,v=.str z):YLc xs ltP where
 ty:=⟨"str",by decide,λv hv u r=>by obtain⟨n,rfl⟩:=h v hv;obtain⟨t,rfl⟩:=r;rfl⟩
 ask:=λv hv v' g9 u u' r r' prog w A E s Q q=>by
  obtain⟨n,rfl⟩:=h v hv;obtain⟨t,rfl⟩:=r;obtain⟨n',rfl⟩:=h v' g9;obtain⟨t',rfl⟩:=r';exact kas_lt_str q
 swo:=⟨λa ha=>by obtain⟨n,rfl⟩:=h a ha;simp only[ltP,decide_eq_false_iff_not];exact IP _,λa ha b hb c hc=>by
  obtain⟨x,rfl⟩:=h a ha;obtain⟨y,rfl⟩:=h b hb;obtain⟨z,rfl⟩:=h c hc;simp only[ltP,decide_eq_true_eq];exact λp q=>List.lt_trans p q,λa ha b hb c hc=>by
  obtain⟨x,rfl⟩:=h a ha;obtain⟨y,rfl⟩:=h b hb;obtain⟨z,rfl⟩:=h c hc;simp only[ltP,decide_eq_true_eq];intro p
  by_cases q:x.cps.toList < y.cps.toList
  .exact .inl q
  .exact .inr (List.lt_of_le_of_lt (List.not_lt.mp q) p)⟩
end L2
end
section
namespace L2
open PySem PySem.Spec PyProof.Rows
theorem X9b{k:Key}{u:Va}(h:Zea k u=true):Qt (kV k) u:=by
 rcases Q9 h with ⟨i,t,rfl,rfl⟩ | ⟨x,t,rfl,rfl⟩
 .exact⟨t,rfl⟩
 .exact⟨t,rfl⟩
def NF(X:Cx)(d:Vh):Prop:=∀ o u,X.H₀ d≠Vo (.frz o u)
section
variable{X:Cx}{aa:YP_}{σ:St}{H:Hp}{s:VG}{d:Vh}{kvs:List (Key×V)}
theorem Inv.recast{u u':HO}(I:Inv X aa σ H s)(h:H d=Vo u)(n1:∀ xs,u≠.tup xs)(n2:∀ o v,X.H₀ d≠Vo (.frz o v))(n3:∀ ps,u≠.tbl ps)(n4:∀ x,u≠.own x)(ok:QN X.prog X.w (upd H d u') s.heap d u'):Inv X aa σ (upd H d u') s:=by
 have ne:∀ b,H b=Vp->b≠d:=λb q z=>by rw[z,h]at q;cases q
 have nt:∀ b xs,H b=Vo (.tup xs)->b≠d:=λb xs q z=>by rw[z,h]at q;exact n1 xs (Vr q)
 have no:∀ b x,H b=Vo (.own x)->b≠d:=λb x q z=>by rw[z,h]at q;exact n4 x (Vr q)
 refine⟨I.ok,I.os,I.bare,⟨I.base.keep,I.base.slot,λb v q n hx=>?_,I.base.there,λb xs q=>?_,λb o v q=>?_,λb ps q=>?_⟩,I.loc,I.cell,by rw[Qe (ne _ I.free)];exact I.free,λx c q=>by rw[Qe (ne _ (I.freeC x c q))];exact I.freeC x c q,λp hp=>?_,λb v q=>?_,I.len⟩
 .have z:=I.base.free b v q n hx
  rw[Qe (ne b z)];exact z
 .have z:=I.base.tups b xs q
  rw[Qe (nt b xs z)];exact z
 .have z:=I.base.frzs b o v q
  rw[Qe (λe=>by rw[e]at q;exact n2 o v q)];exact z
 .obtain⟨m,z⟩:=I.base.tbls b ps q
  exact⟨m,by rw[Qe (λe=>by rw[e,h]at z;exact n3 _ (Vr z))];exact z⟩
 .obtain⟨a,b,r⟩:=I.pin p hp
  exact⟨a,by rw[Qe (ne _ b)];exact b,r⟩
 .by_cases hb:b=d
  .subst hb;rw[Qa]at q;cases q;exact ok
  .rw[Qe hb]at q
   exact(I.hok b v q).stay (λc v _ r=>r) (λc r=>by rw[Qe (no c b r)];exact r) λc xs r=>by rw[Qe (nt c xs r)];exact r
theorem Inv.nf(I:Inv X aa σ H s)(h:H d=Vo (.dK kvs)):NF X d:=λo u q=>by
 have z:=I.base.frzs d o u q;rw[h]at z;cases z
theorem Inv.freeze(I:Inv X aa σ H s)(h:H d=Vo (.dK kvs)):∃ ob,s.heap.get? d=Vo ob/\Inv X aa σ (upd H d (.frz ob (.dK kvs))) s:=by
 obtain⟨z,y,vs,r,o,es,ep,e,c⟩:=(show QN X.prog X.w H s.heap d (.dK kvs) from I.hok d _ h)
 exact⟨o,e,I.recast h (λ_ z=>by cases z) (I.nf h) (λ_ z=>by cases z) (λ_ z=>by cases z) ⟨e,z,y,vs,r,o,es,ep,e,c⟩⟩
theorem Inv.thaw{ob:Obj}(I:Inv X aa σ H s)(nf:NF X d)(h:H d=Vo (.frz ob (.dK kvs))):Inv X aa σ (upd H d (.dK kvs)) s:=by
 obtain⟨_,z,y,vs,r,o,es,ep,e,c⟩:=(show QN X.prog X.w H s.heap d (.frz ob (.dK kvs)) from I.hok d _ h)
 exact I.recast h (λ_ z=>by cases z) nf (λ_ z=>by cases z) (λ_ z=>by cases z) ⟨z,y,vs,r,o,es,ep,e,c⟩
end
def Itd(d:Vh)(ob:Obj)(kvs:List (Key×V)):It :=
 ⟨λi H=>H d=Vo (.frz ob (.dK kvs))/\i < kvs.length,λi H x H'=>H'=H/\∃ k v,kvs[i]?=Vo (k,v)/\x=kV k,λi H=>H d=Vo (.frz ob (.dK kvs))/\kvs.length<=i⟩
theorem Jtb{P:Vg}{w:Vb}{H:Hp}{h:Vq}{d:Vh}{ob:Obj}{kvs:List (Key×V)}{es:Array DictEntry}{ep:Nat}(ok:HOk P w H h)(e:H d=Vo (.frz ob (.dK kvs)))(hd:ob.data=.dict es ep) :
 (d == Vu)=false/\∃ vs,KV kvs vs/\h.DictAt (QC P w) d vs ep:=by
 obtain⟨e0,z,y,vs,r,o,aD,lS,e1,c1,c2,c3⟩:=(show QN P w H h d (.frz ob (.dK kvs)) from ok d _ e)
 rw[e0]at e1;cases e1;rw[hd]at c2;cases c2;exact⟨y,vs,r,ob,es,e0,c1,hd,c3⟩
theorem KV.get{kvs:List (Key×V)}{vs:List (Key×Va)}(r:KV kvs vs){i:Nat}{k:Key}{v:V}(h:kvs[i]?=Vo (k,v)):∃ u,vs[i]?=Vo (k,u)/\Qt v u:=by
 induction r generalizing i with
 | nil=>simp at h
 | cons a b ih =>
  cases i with
  | zero =>
   simp only[getElem?_cons_zero,O6]at h ⊢
   subst h;rename_i q _ _;obtain⟨k',u⟩:=q;exact⟨u,by rw[show k=k' from a.1],a.2⟩
  | succ j =>
   simp only[getElem?_cons_succ]at h ⊢
   exact ih h
theorem KV.len{kvs:List (Key×V)}{vs:List (Key×Va)}(r:KV kvs vs):kvs.length=vs.length:=Vn r
theorem Z7c{P:Vg}{w:Vb}{K:VC}{tg:Expr}(it d:Vh)(ob:Obj)(kvs:List (Key×V))(es:Array DictEntry)(ep:Nat)(cT:ob.data=.dict es ep):Jgb P w K tg (Itd d ob kvs) [it] it (λi h=>h.IsKeyIter it d i kvs.length ep) where
 mem:=by simp
 obj:=λi h st b hb=>by
  have e:b=it:=by simpa using hb
  subst e;obtain⟨o,e,c,dd⟩:=st;exact⟨o,e,λv z=>by rw[dd]at z;cases z⟩
 keep:=λi h h' st k=>let ⟨o,ho,r⟩:=st;⟨o,k it #[2] o ho,r⟩
 item:=by
  intro X hP hw hK hc i aa s σ H E I hf st hg;subst hP hw hK;obtain⟨hz,hi⟩:=hg;obtain⟨_,vs,rv,da⟩:=Jtb I.hok hz cT;have hl:=rv.len;obtain⟨k,v,aG⟩:∃ k v,kvs[i]?=Vo (k,v):=⟨kvs[i].1,kvs[i].2,IA hi⟩
  obtain⟨u,hu,_⟩:=rv.get aG;obtain⟨f0,f1,f2,f3,f4,f5⟩:=hf it #[2]
  rw[hl]at st;refine wpAny_pyNext_dict_item st da hu λkey h' hk ag sb=>?_
  have I1:Inv X aa σ H { s with heap:=h' }:=I.turned (t':=s.toks) (λb o hb e=>(sb.2 b hb).trans e) f0 f1 f3 f4 f5
  obtain⟨o,e,c,dd⟩:=id ag;exact⟨key,rfl,Zvb (s:={ s with heap:=h' }) e c dd #[1] ⟨kV k,H,I1,X9b hk,⟨rfl,k,v,aG,rfl⟩,by rw[hl];exact ag,λb hb=>(hf b hb).1⟩⟩
 done:=by
  intro X hP hw hK hc i aa s σ H E I hf st hg;subst hP hw hK;obtain⟨hz,hi⟩:=hg;obtain⟨_,vs,rv,da⟩:=Jtb I.hok hz cT;have hl:=rv.len;obtain⟨f0,f1,f2,f3,f4,f5⟩:=hf it #[2]
  rw[hl]at st;exact wpAny_pyNext_dict_end (I.ok.hd hc) st da (getElem?_eq_none #[0]) λh' eb=>⟨rfl,I.turned (t':=s.toks) (λb o hb e=>eb b o hb e) f0 f1 f3 f4 f5⟩
 self:=λ_ _ _ _ _ st h=>wpAny_pyIter_keyiter st h
def YNc(X:Cx)(tl:TE):TI:=λσ H R=>tl σ H λx H1=>∃ d kvs,x=.ref d/\H1 d=Vo (.dK kvs)/\∀ ob,NF X d->R (Itd d ob kvs) (upd H1 d (.frz ob (.dK kvs)))
section
variable{X:Cx}
theorem Xo{tg l:Expr}{tl:TE}(hl:PE X l tl):PI X tg l (YNc X tl):=by
 intro aa s σ H R I h;refine thn (hl aa s σ H _ I h) λv s1 hZ=>?_
 obtain⟨x,H1,I1,r1,q1⟩:=hZ;obtain⟨d,kvs,e,hd,q⟩:=q1;subst e;obtain rfl:v=Vk d:=r1;obtain⟨ob,jP,I2⟩:=I1.freeze hd;obtain⟨z,y,vs,rv,o,es,ep,e0,c1,c2,c3⟩:=(show QN X.prog X.w H1 s1.heap d (.dK kvs) from I1.hok d _ hd)
 rw[jP]at e0;cases e0;have da:s1.heap.DictAt (QC X.prog X.w) d vs ep:=⟨ob,es,jP,c1,c2,c3⟩;refine wpAny_pyIter_dict y da ?_
 have nf:=I1.nf hd;refine⟨s1.heap.objs.size,[s1.heap.objs.size],_,_,upd H1 d (.frz ob (.dK kvs)),rfl,I2.kept (t':=s1.toks) λb o e=>Uk _ e,Z7c _ d ob kvs es ep c2,⟨_,Ul _ rfl,rfl,?_⟩,λb hb=>?_,q ob nf⟩
 .rw[rv.len];rfl
 .have e:b=s1.heap.objs.size:=by simpa using hb
  subst e;exact I2.fpOk (Um _) (I2.hok.fresh (Um _))
def ZG.thawed(X:Cx)(D:ZG):ZG:={ D with nx:=λσ H=>∃ d ob kvs,NF X d/\H d=Vo (.frz ob (.dK kvs))/\D.nx σ (upd H d (.dK kvs)),rt:=λv H=>∃ d ob kvs,NF X d/\H d=Vo (.frz ob (.dK kvs))/\D.rt v (upd H d (.dK kvs)) }
def YOc(X:Cx)(t:TS):TS:=λD σ H=>t (D.thawed X) σ H
def YPc(X:Cx)(te:TE):TE:=λσ H Q=>te σ H λv H1=>∃ d ob kvs,NF X d/\H1 d=Vo (.frz ob (.dK kvs))/\Q v (upd H1 d (.dK kvs))
theorem Jub{st:VV}{t:TS}(h:PS X st t):PS X st (YOc X t):=λaa s σ H D I q=>VW (h aa s σ H (D.thawed X) I q) (λf s1 z=>by
 cases f with
 | next=>obtain⟨σ',H',I',d,ob,kvs,nf,e,q'⟩:=z;exact⟨σ',_,I'.thaw nf e,q'⟩
 | ret u=>obtain⟨v,σ',H',I',r,d,ob,kvs,nf,e,q'⟩:=z;exact⟨v,σ',_,I'.thaw nf e,r,q'⟩
 | brk=>exact z
 | cont=>exact z) λ_ _ z=>z
theorem JKa{e:Expr}{te:TE}(h:PE X e te):PE X e (YPc X te):=λaa s σ H Q I q=>VW (h aa s σ H _ I q) (λu s1 ⟨v,H',I',r,d,ob,kvs,nf,e,q'⟩=>⟨v,_,I'.thaw nf e,r,q'⟩) λ_ _ z=>z
theorem Z8c{tl:TE}{g:TG}{tb:TS}{D:ZG}{σ:St}{H:Hp}:Q2b (YNc X tl) g tb D σ H=tl σ H λx H1=>∃ d kvs,x=.ref d/\H1 d=Vo (.dK kvs)/\∀ ob,NF X d->FoR (Itd d ob kvs) g tb D σ (upd H1 d (.frz ob (.dK kvs))):=rfl
theorem YQc{tl:TE}{tt:TT}{te:TE}{σ:St}{H:Hp}{Q:VK}:tLc (YNc X tl) tt te σ H Q=tl σ H λx H1=>∃ d kvs,x=.ref d/\H1 d=Vo (.dK kvs)/\∀ ob,NF X d->LcR (Itd d ob kvs) tt te σ Q (upd H1 d (.frz ob (.dK kvs))):=rfl
end
theorem YFb{d:Vh}{ob:Obj}{kvs:List (Key×V)}{g:TG}{tb:TS}{D:ZG}{σ:St}{H:Hp}(Pv:Nat->St->Hp->Prop)(h0:Pv 0 σ H)(hl:∀ i σ H,i<=kvs.length->Pv i σ H->H d=Vo (.frz ob (.dK kvs)))
 (hs:∀ i k v σ H,kvs[i]?=Vo (k,v)->Pv i σ H->g (kV k) σ H λσ2 H2=>tb { D with nx:=Pv (i+1),ct:=Pv (i+1),bk:=D.nx } σ2 H2) (hd:∀ σ H,Pv kvs.length σ H->D.nx σ H):FoR (Itd d ob kvs) g tb D σ H:=by
 refine⟨λi m σ H=>m=kvs.length - i/\i<=kvs.length/\Pv i σ H,⟨_,rfl,Us _,h0⟩,?_⟩
 rintro i m σ H ⟨rfl,hi,p⟩;have hz:=hl i σ H hi p
 by_cases ay:i < kvs.length
 .refine .inr ⟨⟨hz,ay⟩,Pv (i+1),λσ' H' q=>⟨kvs.length - (i+1),by lia,rfl,by lia,q⟩,λx H' hZ=>?_⟩
  obtain⟨e,k,v,aG,ex⟩:=hZ;subst e ex;exact hs i k v σ H' aG p
 .have:i=kvs.length:=by lia
  subst this;exact .inl ⟨⟨hz,Um _⟩,hd σ H p⟩
theorem YGb{d:Vh}{ob:Obj}{kvs:List (Key×V)}{tt:TT}{σ:St}{H1:Hp}{Q:VK}(p:V->Bool)(hz:kvs.length<=Vs)(hd:H1 d=Vo (.frz ob (.dK kvs)))
 (he:∀ k v H2 (R:Bool->Hp->Prop),(k,v)∈kvs->Qf H1 H2->(∀ H3,Qf H2 H3->R (p (kV k)) H3)->tt (Vo (kV k)::σ) H2 R)
 (hq:∀ D H2,H1 D=Vp->Qf H1 H2->H2 D=Vo (.lst ((kvs.map λq=>kV q.1).filter p))->Q (.ref D) H2):LcR (Itd d ob kvs) tt (Ju 0) σ Q H1 :=
 Qcb (kvs.map λq=>kV q.1) p (by rw[UK];exact hz) (λi H2 hi s=>⟨⟨s _ _ hd,by rwa [UK]at hi⟩,λx H' ⟨e,k,v,aG,ex⟩=>⟨e,by rw[Of,aG,ex];rfl⟩⟩)
  (λH2 s=>⟨s _ _ hd,by rw[UK];exact Um _⟩) (λi x H2 R hx s r=>by
   rw[Of]at hx
   cases e:kvs[i]? with
   | none=>rw[e]at hx;cases hx
   | some q =>
    rw[e]at hx;cases hx;exact he q.1 q.2 H2 R (Og e) s r) hq
theorem Q1.u1{k:Nat}{A:VF}(r:Q1 k A):A.units+1 < UR:=by have:=r.units;lia
def SqE(b:Bool)(K:VC)(H:Hp)(a:Vh)(xs:List V):Prop:=if b=true then SqT K H a xs else SqL K H a xs
def ItE(b:Bool)(K:VC)(a:Vh):It:=if b=true then Itt K a else Itl K a
theorem SqE.same{b:Bool}{K:VC}{H H':Hp}{a:Vh}{xs:List V}(h:SqE b K H a xs)(s:Qf H H'):SqE b K H' a xs:=by
 cases b with
 | true=>exact Qf.seqT s h
 | false=>exact Qf.seq s h
def YRd(K:VC)(tl:TE):TI:=λσ H R=>tl σ H λx H1=>∃ a b,x=.ref a/\(∃ xs,SqE b K H1 a xs)/\R (ItE b K a) H1
section
variable{X:Cx}{tg:Expr}
theorem JQd{l:Expr}{tl:TE}(hl:PE X l tl):PI X tg l (YRd X.K tl):=by
 intro aa s σ H R I h;refine thn (hl aa s σ H _ I h) λv s1 hZ=>?_
 obtain⟨x,H1,I1,r1,q1⟩:=hZ;obtain⟨a,b,e,⟨xs,hq⟩,q⟩:=q1;subst e;cases r1;cases b with
 | false =>
  obtain⟨af,rv,p,hz⟩:=I1.list hq;refine Uj p.isList ?_
  refine⟨s1.heap.objs.size,[s1.heap.objs.size],_,_,H1,rfl,I1.kept (t':=s1.toks) λb o e=>Uk _ e,Zwb a _,⟨_,Ul _ rfl,rfl,rfl⟩,λb hb=>?_,q⟩
  have e:b=s1.heap.objs.size:=by simpa using hb
  subst e;exact I1.fpOk (Um _) (I1.hok.fresh (Um _))
 | true =>
  obtain⟨af,rv,p,hz⟩:=I1.tuple hq;refine Uo (show s1.heap.IsTuple a af.toArray from p) ?_
  refine⟨s1.heap.objs.size,[s1.heap.objs.size],_,_,H1,rfl,I1.kept (t':=s1.toks) λb o e=>Uk _ e,XVa a _,⟨_,Ul _ rfl,rfl,rfl⟩,λb hb=>?_,q⟩
  have e:b=s1.heap.objs.size:=by simpa using hb
  subst e;exact I1.fpOk (Um _) (I1.hok.fresh (Um _))
end
theorem YRc{K:VC}{tl:TE}{g:TG}{tb:TS}{D:ZG}{σ:St}{H:Hp}:Q2b (YRd K tl) g tb D σ H=tl σ H λx H1=>∃ a b,x=.ref a/\(∃ xs,SqE b K H1 a xs)/\FoR (ItE b K a) g tb D σ H1:=rfl
theorem QKd{b:Bool}{K:VC}{a:Vh}(xs:List V){g:TG}{tb:TS}{D:ZG}{σ:St}{H:Hp}(Pv:Nat->St->Hp->Prop)(h0:Pv 0 σ H)(hl:∀ i σ H,i<=xs.length->Pv i σ H->SqE b K H a xs)
 (hs:∀ i x σ H,xs[i]?=Vo x->Pv i σ H->g x σ H λσ2 H2=>tb { D with nx:=Pv (i+1),ct:=Pv (i+1),bk:=D.nx } σ2 H2) (hd:∀ σ H,Pv xs.length σ H->D.nx σ H):FoR (ItE b K a) g tb D σ H:=by
 cases b with
 | true=>exact QZc xs Pv h0 hl hs hd
 | false=>exact ZU xs Pv h0 hl hs hd
end L2
end
section
namespace PySem.W
open PySem
def Yv(K:Frag)(C:Vh)(fl:List Str):Bool:=plainGet K C Str.empty && (hasDictIn K C && (plainOver K C && (findIn K (.ref C) "__setattr__" == Vo (Vo (.builtin "object.__setattr__")) && (findIn K (.ref C) "__class__" == Vo (Vo (.builtin "object.__class__")) && (mroIn K C (.type "object") == Vo true && fl.all λf=>findIn K (.ref C) f == Vo Vp)))))
theorem YHb{K:Frag}{C:Vh}{fl:List Str}(h:Yv K C fl=true):L2.Cls K C/\findIn K (.ref C) "__class__"=Vo (Vo (.builtin "object.__class__"))/\mroIn K C (.type "object")=Vo true/\∀ f∈fl,L2.Qfa K C f:=by
 unfold Yv at h;simp only[Ov,beq_iff_eq,Ib]at h;obtain⟨a,b,c,d,e,f,g⟩:=h;exact⟨⟨a,b,c,d⟩,e,f,g⟩
def YSc(K:Frag)(l:List Vh)(m:Nat->Nat->Bool):Bool:=(VB l.length).all λi=>(VB l.length).all λj=>kitOne K (.ref (l.getD i 0)) (.ref (l.getD j 0)) == Vo (m i j)
theorem JRd{K:Frag}{l:List Vh}{m:Nat->Nat->Bool}(h:YSc K l m=true):∀ i j,i < l.length->j < l.length->kitOne K (.ref (l.getD i 0)) (.ref (l.getD j 0))=Vo (m i j):=by
 unfold YSc at h;simp only[Ib,Ds,beq_iff_eq]at h;exact λi j hi hj=>h i hi j hj
end PySem.W
namespace L2
open PySem PySem.Spec PyProof.Rows
structure ObC(K:VC)(C:Vh)(fl:List Str):Prop where
 cl:Cls K C
 cc:Uz K (.ref C) "__class__"=Vo (Vo (.builtin "object.__class__"))
 mo:W.mroIn K C (.type "object")=Vo true
 no:∀ f∈fl,Qfa K C f
 cg:UO K (.builtin "object.__class__") "__get__"=Vo (Vo (.builtin "getset_descriptor.__get__"))
 ct:W.takesIn K (.builtin "object.__class__")=Vo true
theorem ObC.of{K:VC}{C:Vh}{fl:List Str}(h:W.Yv K C fl=true)(cg:UO K (.builtin "object.__class__") "__get__"=Vo (Vo (.builtin "getset_descriptor.__get__")))(ct:W.takesIn K (.builtin "object.__class__")=Vo true):ObC K C fl :=
 let ⟨a,b,c,d⟩:=W.YHb h;⟨a,b,c,d,cg,ct⟩
def Qfb(P:Vg)(w:Vb)(K:VC)(mg:Str->Option Va)(base:Vq)(k:Nat)(m:Str)(ta:TE)(t:TA):TE1:=λσ H Q E=>ta σ H λx H1=>∃ a C dx fs sp,x=.ref a/\H1 a=Vo (.ins C dx fs)/\fs.lookup m=Vp/\Cls K C/\MeV P w K mg base k C m sp/\t σ H1 λvs H2=>sp (x::vs) H2 Q E
section
variable{X:Cx}{m:Str}{k:Nat}{ta:TE}{t:TA}{e o:Expr}{es:List Expr}{pos aj:Pos}{pl:Sem Bool}
theorem QT(he:PE X.nox o ta)(hr:Q1 k X.A)(cU:X.ex=[])(ha:PA X.nox (e::es) t)
 (bJ:VU (e::es) X.env=(false,VS e X.env)::VU es X.env:=by rfl) (aV:(VT pos (VU es X.env)).any (·.1)=false:=by rfl)
 (ht:VS (.Call (.Attribute o m aj) (e::es) [] pos) X.env=(do
  let ov <- VS o X.env
  V0 aj.atName
  let (f,first) <- V1 [ov] (UB ov m pl)
  Ls pos f first (VT pos (VU (e::es) X.env)) (U3 pos (U4 [] X.env))):=by rfl) :
 PE1 X (.Call (.Attribute o m aj) (e::es) [] pos) (Qfb X.prog X.w X.K X.mg X.base k m ta t):=by
 intro aa s σ H Q E I h;refine Lu (pl:=pl) (thn (Q6c he I h) λu s1 hZ=>?_) ht
 obtain⟨y,H1,I1,rx,a,C,dx,fs,sp,ex,ea,l,c,G,q⟩:=hZ;obtain⟨f,fd,ps,hm,F,hb⟩:=G;subst ex;obtain rfl:u=Vk a:=rx;refine Xm I1 ea c hm l ?_
 refine UZ (first:=[.ref a]) (h₀:=X.base) I.ok.mod.kin hm.kp (thn (X8b ha I1 q) λus s2 ⟨vs,H2,I2,r,q2⟩=>⟨I2.kIn,?_⟩) bJ aV
 exact JGa (us:=.ref a::us) (vs:=.ref a::vs) F hr hb cU I2 (.cons rfl r) q2
theorem ZPa(he:PE X.nox o ta)(hr:Q1 k X.A)(cU:X.ex=[])
 (ht:VS (.Call (.Attribute o m aj) [] [] pos) X.env=(do
  let ov <- VS o X.env
  V0 aj.atName
  let (f,first) <- V1 [ov] (UB ov m pl)
  Ls pos f first (VT pos (VU [] X.env)) (U3 pos (U4 [] X.env))):=by rfl) :
 PE1 X (.Call (.Attribute o m aj) [] [] pos) (Qfb X.prog X.w X.K X.mg X.base k m ta ZLa):=by
 intro aa s σ H Q E I h;refine Lu (pl:=pl) (thn (Q6c he I h) λu s1 hZ=>?_) ht
 obtain⟨y,H1,I1,rx,a,C,dx,fs,sp,ex,ea,l,c,G,q⟩:=hZ;obtain⟨f,fd,ps,hm,F,hb⟩:=G;subst ex;obtain rfl:u=Vk a:=rx;refine Xm I1 ea c hm l ?_
 exact U0 (first:=[.ref a]) I1.kIn hm.kp (JGa (us:=[.ref a]) (vs:=[.ref a]) F hr hb cU I1 (.cons rfl .nil) q)
theorem JSd{j:Nat}{x:Str}{C:Vh}{sp:Sp}{p:Pos}(G:MkV X.prog X.w X.K X.mg X.base j x C sp)(hr:Q1 k X.A)(hj:j+1<=k)(hg:Gl X x)(aN:(x == ("__debug__":Str))=false:=by decide):PE X (.Call (.Name x p) [] [] pos) (QSc C sp [] E0 ZLa):=by
 obtain⟨f,fd,ps,M,F,b,hm⟩:=G;exact JXc M F (hr.mono hj) hg hm b .nil ZEb aN
end
theorem QY{x y:V}:[x,y].length<=Vs:=show 2<=Vs by decide
theorem YTc{J:It}{tt:TT}{te:TE}{σ:St}{H1:Hp}{Q:VK}(xs:List V)(p:V->Bool)(f:V->V)(hz:xs.length<=Vs)
 (ft:∀ i H2,i < xs.length->Qf H1 H2->J.go i H2/\∀ x H',J.yld i H2 x H'->H'=H2/\xs[i]?=Vo x) (bJ:∀ H2,Qf H1 H2->J.stop xs.length H2)
 (ht:∀ (i:Nat) x H2 (R:Bool->Hp->Prop),xs[i]?=Vo x->Qf H1 H2->R (p x) H2->tt (Vo x::σ) H2 R)
 (he:∀ (i:Nat) x H2 (R:VK),xs[i]?=Vo x->p x=true->Qf H1 H2->R (f x) H2->te (Vo x::σ) H2 R)
 (hq:∀ D H2,H1 D=Vp->Qf H1 H2->H2 D=Vo (.lst ((xs.filter p).map f))->Q (.ref D) H2):LcR J tt te σ Q H1:=by
 intro D hD;refine⟨λi m ys H2=>m=xs.length - i/\i<=xs.length/\ys=((xs.take i).filter p).map f/\H2 D=Vo (.lst ys)/\Qf H1 H2,⟨_,rfl,Us _,by simp,Qa,Qb hD _⟩,?_⟩
 rintro i m ys H2 ⟨rfl,hi,hy,hd,sm⟩;refine⟨hd,?_⟩
 by_cases ay:i < xs.length
 .obtain⟨go,yl⟩:=ft i H2 ay sm
  have hl:ys.length<=i:=by
   rw[hy,UK];exact VI (OM _ _) (by rw[Ob];lia)
  refine .inr ⟨go,by lia,λx H' y=>?_⟩
  obtain⟨e,hx⟩:=yl x H' y;subst e;have hn:((xs.take (i+1)).filter p).map f=if p x=true then ys++[f x] else ys:=by
   rw[take_succ,hx,IU,Il,<- hy];cases hp:p x <;> simp[hp]
  refine ht i x _ _ hx sm ?_
  cases hp:p x with
  | true =>
   rw[if_pos rfl];refine he i x _ _ hx hp sm ⟨hd,xs.length - (i+1),by lia,rfl,ay,?_,Qa,sm.updL hD _⟩
   rw[hn,hp,if_pos rfl]
  | false =>
   rw[if_neg Uc];refine⟨xs.length - (i+1),by lia,rfl,ay,?_,hd,sm⟩
   rw[hn,hp,if_neg Uc]
 .have e:i=xs.length:=by lia
  subst e;rw[IT]at hy;exact .inl ⟨bJ H2 sm,hq D H2 hD sm (by rw[hd,hy])⟩
theorem YIb{K:VC}{a:Vh}{tt:TT}{te:TE}{σ:St}{H1:Hp}{Q:VK}(xs:List V)(p:V->Bool)(f:V->V)(hx:SqL K H1 a xs)(hz:xs.length<=Vs)
 (ht:∀ (i:Nat) x H2 (R:Bool->Hp->Prop),xs[i]?=Vo x->Qf H1 H2->R (p x) H2->tt (Vo x::σ) H2 R)
 (he:∀ (i:Nat) x H2 (R:VK),xs[i]?=Vo x->p x=true->Qf H1 H2->R (f x) H2->te (Vo x::σ) H2 R)
 (hq:∀ D H2,H1 D=Vp->Qf H1 H2->H2 D=Vo (.lst ((xs.filter p).map f))->Q (.ref D) H2):LcR (Itl K a) tt te σ Q H1 :=
 YTc xs p f hz (λi H2 hi s=>⟨⟨xs,xs[i],s.seq hx,by simp[hi]⟩,λx H' y=>⟨y.1,y.2 xs (s.seq hx)⟩⟩) (λH2 s=>⟨xs,s.seq hx,Um _⟩) ht he hq
theorem Jvb{K:VC}{a:Vh}{tt:TT}{te:TE}{σ:St}{H1:Hp}{Q:VK}(xs:List V)(p:V->Bool)(f:V->V)(hx:SqT K H1 a xs)(hz:xs.length<=Vs)
 (ht:∀ (i:Nat) x H2 (R:Bool->Hp->Prop),xs[i]?=Vo x->Qf H1 H2->R (p x) H2->tt (Vo x::σ) H2 R)
 (he:∀ (i:Nat) x H2 (R:VK),xs[i]?=Vo x->p x=true->Qf H1 H2->R (f x) H2->te (Vo x::σ) H2 R)
 (hq:∀ D H2,H1 D=Vp->Qf H1 H2->H2 D=Vo (.lst ((xs.filter p).map f))->Q (.ref D) H2):LcR (Itt K a) tt te σ Q H1 :=
 YTc xs p f hz (λi H2 hi s=>⟨⟨xs,xs[i],s.seqT hx,by simp[hi]⟩,λx H' y=>⟨y.1,y.2 xs (s.seqT hx)⟩⟩) (λH2 s=>⟨xs,s.seqT hx,Um _⟩) ht he hq
def YUc(H:Hp):V->V
 | .ref a=>match H a with | some (.tup [_,w])=>w | _=>.non
 | _=>.non
theorem YJb{H:Hp}{a:Vh}{k w:V}(h:H a=Vo (.tup [k,w])):YUc H (.ref a)=w:=by
 show(match H a with | some (.tup [_,w])=>w | _=>.non)=w
 rw[h]
theorem Zb{K:VC}{C a dx:Vh}{fl:List Str}{f:Str}{fs:List (Str×V)}{v:V}{i:Nat}{σ:St}{H:Hp}{Q:VK}(c:ObC K C fl)(hf:f∈fl)(hs:σ[i]?=Vo (Vo (.ref a)))(ha:H a=Vo (.ins C dx fs))(hv:fs.lookup f=Vo v)(q:Q v H):Qod K (Ju i) f σ H Q :=
 Ya hs ⟨a,C,dx,fs,v,rfl,ha,c.cl,c.no f hf,hv,q⟩
theorem Jwb{K:VC}{C a dx:Vh}{fl:List Str}{f:Str}{fs:List (Str×V)}{i:Nat}{σ:St}{H H1:Hp}{tv:TE}{D:ZG}{y:V}(c:ObC K C fl)(hf:f∈fl)(hs:σ[i]?=Vo (Vo (.ref a)))(hv:∀ Q:VK,Q y H1->tv σ H Q)(ha:H1 a=Vo (.ins C dx fs))(l:fs.length < 1000)(q:D.nx σ (upd H1 a (.ins C dx (ZS f y fs)))):YHd K (Ju i) tv f D σ H :=
 hv _ (Ya hs ⟨a,C,dx,fs,rfl,ha,c.cl,c.no f hf,l,q⟩)
theorem YKb{H:Hp}{a b:Vh}{x y:HO}(h:a≠b):upd (upd H a x) b y=upd (upd H b y) a x:=by
 funext c
 by_cases h1:c=b
 .subst h1;rw[Qa,Qe (VN h),Qa]
 .by_cases h2:c=a
  .subst h2;rw[Qa,Qe h1,Qa]
  .rw[Qe h1,Qe h2,Qe h2,Qe h1]
def HE(b:Bool)(H:Hp)(e:Vh)(xs:List V):Prop:=H e=Vo (if b=true then .tup xs else .lst xs)
theorem HE.upd_ins{b:Bool}{H:Hp}{a e C dx:Vh}{o:HO}{fs:List (Str×V)}{xs:List V}(h:HE b H e xs)(ha:H a=Vo (.ins C dx fs)):HE b (upd H a o) e xs:=by
 have ne:e≠a:=λz=>by
  unfold HE at h;rw[z,ha]at h;cases b <;> cases h
 unfold HE;rw[Qe ne];exact h
theorem HE.same{b:Bool}{H H':Hp}{e:Vh}{xs:List V}(h:HE b H e xs)(s:Qf H H'):HE b H' e xs:=s _ _ h
section
variable{P:Vg}{w:Vb}{K:VC}{mg:Str->Option Va}{base:Vq}{k i:Nat}{C D a dx:Vh}{m:Str}{sp:Sp}{fs:List (Str×V)}{fl:List Str}{σ:St}{H:Hp}{Q:VK}{E:XK}{t:TA}{b:Bool}
theorem Yra(hs:σ[i]?=Vo (Vo (.ref a)))(ha:H a=Vo (.ins C dx fs))(l:fs.lookup m=Vp)(c:Cls K C)(M:MeV P w K mg base k C m sp)(q:sp [.ref a] H Q E):Qfb P w K mg base k m (Ju i) ZLa σ H Q E:=Ya hs ⟨a,C,dx,fs,sp,rfl,ha,l,c,M,q⟩
theorem JP(hs:σ[i]?=Vo (Vo (.ref a)))(ha:H a=Vo (.ins C dx fs))(l:fs.lookup m=Vp)(c:Cls K C)(M:MeV P w K mg base k C m sp)(q:t σ H λvs H2=>sp (.ref a::vs) H2 Q E):Qfb P w K mg base k m (Ju i) t σ H Q E:=Ya hs ⟨a,C,dx,fs,sp,rfl,ha,l,c,M,q⟩
end
theorem XMa{H H':Hp}{x dx:Vh}{o u:HO}(hx:H x=Vp)(fG:H dx=Vp)(s:Qf (upd (upd H dx u) x o) H'):Qf H H':=λb v hb=>s _ _ (by rw[Qe (QE hb hx),Qe (QE hb fG)];exact hb)
theorem ZLb{H H':Hp}{d:Vh}{o:HO}(s:Qf H H')(n:H d=Vp):Qf H (upd H' d o):=λb u hb=>by
 rw[Qe (QE hb n)];exact s b u hb
end L2
end
section
namespace L2
open PySem PySem.Spec PyProof.Rows PySem.W
section
variable{prog:Vg}{w:Vb}{A:VF}{E:YQ_}{s:VG}{T:String}{r d:Vh}{n:Nat}{P:Nat->Va->Prop}{OK:Vq->Prop}
theorem Jxb{R:UD->VG->Prop}(K:KdlSrc prog w T r d n P OK)(hh:A.handled=Vp)(hok:OK s.heap)(hn:n<=Vs)
 (hR:∀ h' tk aJ c,(∀ b o,s.heap.get? b=Vo o->h'.get? b=Vo o)->h'.get? s.heap.objs.size=Vo { cls:=.type "list",dict:=Vp,data:=.seq aJ c,slots:=#[] }->ItemsOf P aJ n->R (.ok (.ret (.ref s.heap.objs.size))) { s with heap:=h',toks:=tk }) :
 UF (VR prog w) A (.builtin "proto.collect" ⟨[.ref r],[]⟩) R s:=by
 have ay:=K.there _ hok;refine Lv F.entry_proto_collect ?_
 rw[Lw F.plain_proto_collect _];show VQ _ A.in1 (newList [] >>= λl=>again (.builtin "list.__iadd__" ⟨[l,.ref r],[]⟩)) _ _ s
 refine V8 (O7 ?_)
 refine Ui ⟨Lx F.plain_list_iadd _,Lv F.entry_list_iadd ?_⟩
 rw[Lw F.plain_list_iadd _];have u4:(s.heap.push { cls:=.type "list",data:=.seq ([]:List Va).toArray }).get? s.heap.objs.size=Vo { cls:=.type "list",data:=.seq ([]:List Va).toArray }:=Ul _ rfl
 show VQ _ A.in1 (Ly (.ref s.heap.objs.size) (.ref r) (.ref s.heap.objs.size)) _ _ _;exact kdl_extend (R:=R) (s:={ s with heap:=s.heap.push { cls:=.type "list",data:=.seq ([]:List Va).toArray } }) K hh (K.keep _ _ hok λb _ o e=>Uk _ e) _ (Ud ay.1) (Ud ay.2) _ _ u4 (λh' tk oj c' hk dS cC=>hR h' tk oj c' (λb o e=>hk b o (VA (Vx e)) (Uk _ e)) dS cC) hn
theorem YLb{Q:List Va->VG->Prop}(K:KdlSrc prog w T r d n P OK)(hh:A.handled=Vp)(hok:OK s.heap)(hn:n<=Vs)
 (hQ:∀ h' tk aJ,(∀ b o,s.heap.get? b=Vo o->h'.get? b=Vo o)->ItemsOf P aJ n->Q aJ.toList { s with heap:=h',toks:=tk }):VQ (VR prog w) A (collect (.ref r)) Q E s:=by
 unfold collect;refine V8 (wpAny_runValue (Jxb K hh hok hn λh' tk aJ c hk hS cC=>?_))
 show VQ _ A (load s.heap.objs.size >>= _) _ _ _;refine V8 (wpAny_load hS ?_)
 exact Ui (hQ h' tk aJ hk cC)
end
theorem Q8c:∀ {xs:List V} {us:List Va},xs.length=us.length->(∀ (i:Nat) x u,xs[i]?=Vo x->us[i]?=Vo u->Qt x u)->Qv xs us
 | [],[],_,_=>.nil
 | x::xs,u::us,l,h=>.cons (h 0 x u rfl rfl) (Q8c (by simpa using l) λi x u a b=>h (i+1) x u (by simpa using a) (by simpa using b))
 | [],u::us,l,_=>by simp at l
 | x::xs,[],l,_=>by simp at l
theorem ZMb{kvs:List (Key×V)}{vs:List (Key×Va)}{aJ:Array Va}{prog:Vg}{w:Vb}(rv:KV kvs vs)(h:ItemsOf (λi v=>∃ k x,vs[i]?=Vo (k,x)/\(QC prog w).is k v=true) aJ vs.length):Qv (kvs.map λp=>kV p.1) aJ.toList:=by
 refine Q8c (by have e1:=h.1;have e2:=rv.len;have e3:aJ.toList.length=aJ.size:=V2;rw[UK];lia) λi x u hx hu=>?_
 rw[Of]at hx
 obtain⟨⟨k,v⟩,aG,rfl⟩:=Option.map_eq_some_iff.mp hx;obtain⟨u',mn,_⟩:=rv.get aG;obtain⟨k',x',e,hk⟩:=h.2 i u (by rw[<- Array.getElem?_toList];exact hu)
 rw[mn]at e;cases e;exact X9b hk
theorem QLd{k:Key}{u:Va}(h:Qt (kV k) u):Zea k u=true/\u.scannable=true:=by
 cases k with
 | inl n=>obtain⟨t,rfl⟩:=h;exact⟨by simp[Zea,Value.isInt],rfl⟩
 | inr z=>obtain⟨t,rfl⟩:=h;exact⟨by simp[Zea,Value.isStrOf],rfl⟩
section
variable{X:Cx}
theorem YVc{A:VF}{prog:Vg}{w:Vb}{s:VG}{E:YQ_}{l b:Vh}{ao av:Array Va}{n n2:Nat}{o2:Obj}{Q:Fin->VG->Prop}(e:s.heap.get? l=Vo { cls:=.type "list",data:=.seq ao n })(e2:s.heap.get? b=Vo o2)
 (hc:o2.cls=.type "list"\/o2.cls=.type "tuple") (hd:o2.data=.seq av n2) (hsz:ao.size+av.size<=Vs) (h:Q (.done (.ret .none)) { s with heap:=s.heap.update l (Ot λx=>x++av) }) :
 VQ (VR prog w) A (O8.«list.extend» ⟨[.ref l,.ref b],[]⟩) Q E s:=by
 have jQ:¬ (!ao.isEmpty && OA (ao.size+av.size))=true:=by
  rw[J4c hsz,Bool.and_false];exact Uc
 show VQ _ _ (Ly (.ref l) (.ref b) .none) _ _ s;unfold Ly
 rcases hc with hc | hc
 all_goals
  refine V8 (Lz ⟨o2,e2,hc⟩ ?_)
  rw[if_pos #[2]]
  refine V8 (LA e2 hd ?_)
  refine V8 (LA e rfl ?_)
  rw[if_neg jQ];refine V8 (IK e rfl ?_ #[0] (by rw[Array.size_append];lia))
  exact Ui h
def Qgb(K:VC):V->List V->Hp->VK->Prop:=λx vs H Q=>∃ l b xs zs,x=.ref l/\vs=[.ref b]/\H l=Vo (.lst xs)/\(SqL K H b zs\/SqT K H b zs)/\xs.length+zs.length<=Vs/\Q .non (upd H l (.lst (xs++zs)))
theorem Qac:MtM X "list.extend" (Qgb X.K):=by
 intro aa s σ H x vs v us Q I rx rv h;obtain⟨l,b,xs,zs,rfl,rfl,hH,hB,hz,q⟩:=h;cases rx;obtain⟨u,rfl,ru⟩:=rv.one;cases ru;obtain⟨z,af,n,r,hl,e⟩:=I.lstM hH;obtain⟨aI,r2,o2,n2,e2,c2,d2⟩:∃ aI,Qv zs aI/\∃ o2 n2,s.heap.get? b=Vo o2/\(o2.cls=.type "list"\/o2.cls=.type "tuple")/\o2.data=.seq aI.toArray n2:=by
  rcases hB with hB | hB
  .obtain⟨aI,r2,p,_⟩:=I.list hB
   obtain⟨o,n2,eo,c,d,_⟩:=p;exact⟨aI,r2,o,n2,eo,.inl c,by first | exact d | assumption⟩
  .obtain⟨aI,r2,⟨o,eo,c,n2,d⟩,_⟩:=I.tuple hB
   exact⟨aI,r2,o,n2,eo,.inr c,d⟩
 have gu:=r2.length;refine UW (LB F.slot_list_extend.plain F.entry_list_extend (F.slot_list_extend.check _ _ _ _ _ _ _ _ ⟨_,e,rfl⟩ (F.args_list_extend_2 _ _) ?_))
 refine YVc e e2 c2 d2 (by rw[Uy,Uy];lia) ?_
 refine⟨.non,_,I.lset (its':=af++aI) hH e #[2] (r.append r2) ?_,rfl,q⟩
 rw[Oh]
 lia
end
end L2
end
section
namespace PySem.W
open PySem
def clI(K:Frag)(C f:Vh):Bool:=(match findCls K (.ref C) (.type "type") "__init__" with | some (.val v)=>v == .ref f | _=>false) && (specialIn K (.ref C) "__getattribute__" == Vo (Vo (.builtin "type.__getattribute__")) && readsIn K C (.type "type"))
end PySem.W
namespace L2
open PySem PySem.Spec PyProof.Rows
structure ClI(K:VC)(C f:Vh):Prop where
 sp:UO K (.ref C) "__getattribute__"=Vo (Vo (.builtin "type.__getattribute__"))
 rd:W.readsIn K C (.type "type")=true
 ini:W.findCls K (.ref C) (.type "type") "__init__"=Vo (.val (.ref f))
theorem ClI.of{K:VC}{C f:Vh}(h:W.clI K C f=true):ClI K C f:=by
 unfold W.clI at h;rw[Ov,Ov]at h;obtain⟨a,b,c⟩:=h;refine⟨beq_iff_eq.mp b,c,?_⟩
 split at a
 .rename_i v e
  rw[e,beq_iff_eq.mp a]
 .exact(Uc a).elim
def BaI(P:Vg)(w:Vb)(K:VC)(mg:Str->Option Va)(base:Vq)(k:Nat)(x:Str)(sp:Sp):Prop :=
 ∃ C f fd ps,mg x=Vo (.ref C)/\ClI K C f/\UJ K (.ref f)=true/\Qp P w K mg base CX0 k f fd ps sp/\Zz K fd ps []
section
variable{X:Cx}{x:Str}{sp:Sp}{e:Expr}{es:List Expr}{t:TA}{p pos aj:Pos}{pl:Sem Bool}{j k:Nat}
theorem ZNb(G:BaI X.prog X.w X.K X.mg X.base j x sp)(hr:Q1 k X.A)(hj:j<=k)(hg:Gl X x)(ha:PA X (e::es) t)(aN:(x == ("__debug__":Str))=false:=by decide)
 (he:VU (e::es) X.env=(false,VS e X.env)::VU es X.env:=by rfl) (aV:(VT pos (VU es X.env)).any (·.1)=false:=by rfl)
 (ht:VS (.Call (.Attribute (.Name x p) "__init__" aj) (e::es) [] pos) X.env=(do
  let ov <- VS (.Name x p) X.env
  V0 aj.atName
  let (f,first) <- V1 [ov] (UB ov "__init__" pl)
  Ls pos f first (VT pos (VU (e::es) X.env)) (U3 pos (U4 [] X.env))):=by rfl) :
 PE X (.Call (.Attribute (.Name x p) "__init__" aj) (e::es) [] pos) (Jsa sp [] E0 t):=by
 obtain⟨C,f,fd,ps,hm,T,kp,F,b⟩:=G;intro aa s σ H Q I h;refine Lu (pl:=pl) (Xk I hg hm ?_ aN) ht
 refine W.method_cls I.kIn T.sp (W.cls_value I.kIn T.rd T.ini rfl ?_)
 refine UZ (first:=[]) (h₀:=X.base) I.ok.mod.kin kp (thn (ha pos aa _ σ H _ (I.tok _) h) λus s1 ⟨vs,H1,I1,r,q⟩=>⟨I1.kIn,?_⟩) he aV
 rw[LC];exact XRb F (hr.mono hj) b .nil ZEb I1 r q
end
noncomputable instance:DecidableEq Dt:=λa b=>Classical.propDecidable (a=b)
def hV:V->Bool
 | .int _=>true
 | .str _=>true
 | .non=>true
 | _=>false
mutual
def hD:Dt->Bool
 | .v x=>hV x
 | .t xs=>hDs xs
 | .l _=>false
def hDs:List Dt->Bool
 | []=>true
 | x::xs=>hD x && hDs xs
end
theorem Q9c:∀ {xs:List Dt},hDs xs=true->∀ x∈xs,hD x=true
 | [],_,x,h=>nomatch h
 | y::ys,h,x,hx=>by
  unfold hDs at h;rw[Ov]at h
  rcases mem_cons.mp hx with e | hx
  .rw[e];exact h.1
  .exact Q9c h.2 x hx
theorem YWc:∀ {xs:List Dt},(∀ x∈xs,hD x=true)->hDs xs=true
 | [],_=>by unfold hDs;rfl
 | y::ys,h=>by
  unfold hDs;rw[h y VL,YWc λx hx=>h x (VM _ hx)];rfl
mutual
def haD(w:Vb):Dt->Int
 | .v (.int i)=>hashInt i
 | .v (.str x)=>hashStr w x
 | .v _=>reduceHash 0xFCA86420
 | .t xs=>reduceHash (LD (Jyb w xs))
 | .l _=>0
def Jyb(w:Vb):List Dt->List Int
 | []=>[]
 | x::xs=>haD w x::Jyb w xs
end
mutual
def drD:Dt->Nat
 | .v _=>1
 | .t xs=>ZQa xs+1
 | .l _=>0
def ZQa:List Dt->Nat
 | []=>0
 | x::xs=>drD x+ZQa xs
end
theorem Ysa(w:Vb)(y:Dt):∀ xs,Jyb w (xs++[y])=Jyb w xs++[haD w y]
 | []=>by simp[Jyb]
 | x::xs=>by rw[LF];unfold Jyb;rw[Ysa w y xs];rfl
theorem Yta(y:Dt):∀ xs,ZQa (xs++[y])=ZQa xs+drD y
 | []=>by simp[ZQa]
 | x::xs=>by
  rw[LF];have h1:ZQa (x::(xs++[y]))=drD x+ZQa (xs++[y]):=by rw[ZQa]
  have h2:ZQa (x::xs)=drD x+ZQa xs:=by rw[ZQa]
  rw[h1,h2,Yta y xs];lia
def Yw(h:Vq):Nat->Dt->Va->Prop
 | 0,.v x,u=>hV x=true/\Qt x u
 | 0,.t _,_=>False
 | 0,.l _,_=>False
 | _+1,.v x,u=>hV x=true/\Qt x u
 | n+1,.t ds,u=>∃ (a:Vh) (af:List Va),u=.ref a/\Vt h a af.toArray/\Vm (λd v=>Yw h n d v) ds af
 | _+1,.l _,_=>False
theorem Yw.flat{h:Vq}{n:Nat}{x:V}{u:Va}:Yw h n (.v x) u->hV x=true/\Qt x u:=by
 cases n <;> exact id
theorem Yw.tup{h:Vq}{n:Nat}{ds:List Dt}{u:Va}(q:Yw h n (.t ds) u):∃ m a af,n=m+1/\u=.ref a/\Vt h a (Ir af)/\Vm (λd v=>Yw h m d v) ds af:=by
 cases n with
 | zero=>exact q.elim
 | succ m=>obtain⟨a,af,e,p,r⟩:=q;exact⟨m,a,af,rfl,e,p,r⟩
theorem YMb{x y:V}{u:Va}(hx:hV x=true)(hy:hV y=true)(r:Qt x u)(q:Qt y u):x=y:=by
 cases x <;> first | exact(Uc hx).elim | skip
 all_goals (cases y <;> first | exact(Uc hy).elim | skip)
 all_goals simp only[Qt]at r q
 all_goals first
  | rfl
  | (obtain⟨t,rfl⟩:=r;obtain⟨t',e⟩:=q;cases e;rfl)
  | (obtain⟨t,rfl⟩:=r;obtain⟨t',e⟩:=q;cases e)
  | (obtain⟨t,rfl⟩:=r;cases q)
  | (subst r;obtain⟨t',e⟩:=q;cases e)
theorem Qhb{x:V}{a:Vh}(hx:hV x=true)(r:Qt x (.ref a)):False:=by
 cases x <;> first | exact(Uc hx).elim | skip
 .cases (show Vk a=Vi from r)
 .obtain⟨t,e⟩:=r;cases e
 .obtain⟨t,e⟩:=r;cases e
theorem Z9c{h:Vq}{a:Vh}{xs ys:List Va}(p:Vt h a xs.toArray)(q:Vt h a ys.toArray):xs=ys:=by
 obtain⟨o,ho,_,n,hd⟩:=p;obtain⟨o',aS,_,n',bI⟩:=q;rw[ho]at aS;cases aS;rw[hd]at bI;injection bI with e _
 injection e
theorem Qib{α β:Type}{F G:α->β->Prop}(det:∀ a b u,F a u->G b u->a=b):∀ {xs ys:List α} {us:List β},Vm F xs us->Vm G ys us->xs=ys
 | _,_,_,.nil,.nil=>rfl
 | _,_,_,.cons r t,.cons r' t'=>by rw[det _ _ _ r r',Qib det t t']
theorem Yw.inj{h:Vq}:∀ (n m:Nat) (x y:Dt) (u:Va),Yw h n x u->Yw h m y u->x=y:=by
 intro n
 induction n with
 | zero =>
  intro m x y u p q;cases x with
  | v x =>
   cases y with
   | v y=>obtain⟨a,b⟩:=p;obtain⟨c,d⟩:=q.flat;rw[YMb a c b d]
   | t ds=>obtain⟨m,a,af,_,rfl,_⟩:=q.tup;exact(Qhb p.1 p.2).elim
   | l _=>cases m <;> exact q.elim
  | t _=>exact p.elim
  | l _=>exact p.elim
 | succ n ih =>
  intro m x y u p q;cases x with
  | v x =>
   cases y with
   | v y=>obtain⟨a,b⟩:=p;obtain⟨c,d⟩:=q.flat;rw[YMb a c b d]
   | t ds=>obtain⟨m,a,af,_,rfl,_⟩:=q.tup;exact(Qhb p.1 p.2).elim
   | l _=>cases m <;> exact q.elim
  | t ds =>
   obtain⟨a,af,rfl,p1,r⟩:=p;cases y with
   | v y=>obtain⟨c,d⟩:=q.flat;exact(Qhb c d).elim
   | t es =>
    obtain⟨m',a',its',_,e,p2,r2⟩:=q.tup;cases e;have:=Z9c p1 p2;subst this;rw[Qib (λa b u h1 h2=>ih m' a b u h1 h2) r r2]
   | l _=>cases m <;> exact q.elim
  | l _=>exact p.elim
theorem Yw.keeps{h h':Vq}{e:Vh}{o:Obj}{es ep}(ho:h.get? e=Vo o)(hd:o.data=.dict es ep)(hs:VP e h h'):∀ (n:Nat) (d:Dt) (u:Va),Yw h n d u->Yw h' n d u:=by
 intro n
 induction n with
 | zero=>intro d u q;cases d <;> exact q
 | succ n ih =>
  intro d u q;cases d with
  | v x=>exact q
  | l x=>exact q
  | t ds =>
   obtain⟨a,af,rfl,⟨o',aS,hc,m,bI⟩,r⟩:=q;have aC:a≠e:=by
    intro z;subst z;rw[ho]at aS;cases aS;rw[hd]at bI;exact nomatch bI
   exact⟨a,af,rfl,⟨o',(hs.2 a aC).trans aS,hc,m,bI⟩,Paired.mapP r λd v z=>ih d v z⟩
section
variable{prog:Vg}{w:Vb}{E:YQ_}
theorem YXc{A:VF}{s:VG}{x:V}{u:Va}{Q:Int->VG->Prop}(f:hV x=true)(r:Qt x u)(h:Q (haD w (.v x)) { s with toks:=s.toks+drD (.v x) }):VQ (VR prog w) A (pyHash u) Q E s:=by
 have e1:drD (.v x)=1:=by rw[drD]
 rw[e1]at h;cases x <;> first | exact(Uc f).elim | skip
 .cases (show u=Vi from r)
  rw[haD]at h;exact W.pyHash_slot (T:="NoneType") rfl F.slot_NoneType_hash F.entry_NoneType_hash (F.args_NoneType_hash_1 _) (beq_builtin_none _) (.inl rfl) (V8 (Ui (V8 (wpAny_mkInt (Ui ⟨_,_,rfl,h⟩)))))
  all_goals (intros;rename_i z;cases z)
 .obtain⟨t,rfl⟩:=r
  rw[haD]at h;exact wpAny_pyHash_int h
 .obtain⟨t,rfl⟩:=r
  rw[haD]at h;exact wpAny_pyHash_str h
theorem JTd:∀ (n:Nat) {A:VF} {s:VG} {d:Dt} {u:Va} {Q:Int->VG->Prop},A.units+n < UR->Yw s.heap n d u->Q (haD w d) { s with toks:=s.toks+drD d }->VQ (VR prog w) A (pyHash u) Q E s:=by
 intro n
 induction n with
 | zero =>
  intro A s d u Q hu x h;cases d with
  | v x'=>exact YXc x.1 x.2 h
  | t _=>exact x.elim
  | l _=>exact x.elim
 | succ n ih =>
  intro A s d u Q hu x h;cases d with
  | v x'=>exact YXc x.1 x.2 h
  | l _=>exact x.elim
  | t ds =>
   obtain⟨a,af,rfl,⟨o,ho,hc,m,hd⟩,r⟩:=x;refine W.pyHash_slot (T:="tuple") ⟨o,ho,hc⟩ F.slot_tuple_hash F.entry_tuple_hash (F.args_tuple_hash_1 _) (beq_builtin_none _) (.inr #[0]) ?_
   show VQ _ _ (Builtin.Tuple.tupleItemsOf (.ref a) >>= _) _ _ s;refine V8 (wpAny_tupleItemsOf ho hd ?_)
   refine V8 ?_
   rw[<- LG];refine wpAny_forIn_list _
    (λrest (b:Array Int) s'=>∃ done left,ds=done++left/\Vm (λd v=>Yw s.heap n d v) left rest/\b.toList=Jyb w done/\s'={ s with toks:=s.toks+ZQa done })
    _ ?_ ?_ _ _ ⟨[],ds,rfl,by simpa using r,by simp[Jyb],by simp[ZQa]⟩
   .rintro x rest b s' ⟨done,left,rfl,hl,hb,rfl⟩
    cases hl with
    | @cons k _ qU _ h1 fI =>
     refine V8 (ih (s:={ s with toks:=s.toks+ZQa done }) (by show A.units+1+n < _;lia) h1 ?_)
     first
      | exact Ui ⟨done++[k],qU,by simp,fI,by simp[hb,Ysa],by simp[Yta,Nat.add_assoc]⟩
      | exact V8 (Ui (Ui ⟨done++[k],qU,by simp,fI,by simp[hb,Ysa],by simp[Yta,Nat.add_assoc]⟩))
   .rintro b s' ⟨done,left,rfl,hl,hb,rfl⟩
    cases hl;rw[UV]at h;show VQ _ _ (retInt (LD b.toList)) _ _ _;rw[hb];refine V8 (wpAny_mkInt (Ui ⟨_,_,rfl,?_⟩))
    have e1:haD w (.t done)=reduceHash (LD (Jyb w done)):=by rw[haD]
    have e2:drD (.t done)=ZQa done+1:=by rw[drD]
    rw[e1,e2]at h;exact h
end
theorem YYc{x y:V}(hx:hV x=true)(hy:hV y=true):eqV x y=decide (Dt.v x=Dt.v y):=by
 have:eqV x y=decide (x=y):=by
  cases x <;> first | exact(Uc hx).elim | skip
  all_goals (cases y <;> first | exact(Uc hy).elim | skip)
  all_goals first | (simp[eqV];done) | (rw[eqV,Uw,beq_iff_eq,decide_eq_true_iff];exact⟨λe=>by rw[e],λe=>by injection e⟩)
 rw[this,Uw,decide_eq_true_iff,decide_eq_true_iff];exact⟨λe=>by rw[e],λe=>by injection e⟩
theorem XNa{x:V}(h:hV x=true):Jd x=true:=by
 cases x <;> first | rfl | exact(Uc h).elim
theorem YZc{ds es:List Dt}{e:Nat->Bool}(he:∀ i,i < ds.length->i < es.length->e i=decide (ds.getD i default=es.getD i default)):((VB (min ds.length es.length)).all e && (ds.length == es.length))=decide (Dt.t ds=Dt.t es):=by
 rw[Uw,decide_eq_true_iff,Ov,beq_iff_eq,Ib]
 constructor
 .rintro⟨h1,h2⟩
  congr 1
  refine ID h2 λi a b=>?_
  have:=h1 i (mem_range.mpr #[0])
  rw[he i a b,decide_eq_true_iff]at this;rw[YN (IA a),YN (IA b)]at this
  exact this
 .intro h
  injection h with h
  subst h;refine⟨λi hi=>?_,rfl⟩
  have:=mem_range.mp hi;rw[he i #[0] #[0],decide_eq_true_iff]
theorem Ql{α β:Type}{F:α->β->Prop}:∀ {xs:List α} {us:List β} {i:Nat} {x:α} {u:β},Vm F xs us->xs[i]?=Vo x->us[i]?=Vo u->F x u
 | _,_,_,_,_,.nil,h,_=>by simp at h
 | _,_,0,_,_,.cons r _,h,h'=>by simp at h h';rw[<- h,<- h'];exact r
 | _,_,i+1,_,_,.cons _ t,h,h'=>Ql (i:=i) t (by simpa using h) (by simpa using h')
theorem Xed:∀ (n:Nat) {A:VF} {s:VG} {d d':Dt} {u v:Va},A.units+n < UR->Yw s.heap n d u->Yw s.heap n d' v->Ol A s u v (decide (d=d')):=by
 intro n;have flat:∀ {A:VF} {s:VG} {x y:V} {u v:Va},hV x=true->Qt x u->hV y=true->Qt y v->Ol A s u v (decide (Dt.v x=Dt.v y)):=λf r f' r'=>by
  rw[<- YYc f f'];exact Yna r r' (XNa f) (XNa f')
 induction n with
 | zero =>
  intro A s d d' u v hu p q;cases d with
  | v x =>
   cases d' with
   | v y=>exact flat p.1 p.2 q.1 q.2
   | t _=>exact q.elim
   | l _=>exact q.elim
  | t _=>exact p.elim
  | l _=>exact p.elim
 | succ n ih =>
  intro A s d d' u v hu p q;have aB:A.units < UR:=by lia
  cases d with
  | l _=>exact p.elim
  | v x =>
   cases d' with
   | l _=>exact q.elim
   | v y=>exact flat p.1 p.2 q.1 q.2
   | t es =>
    obtain⟨b,its',rfl,p2,r2⟩:=q;obtain⟨f,r⟩:=p;rw[show decide (Dt.v x=Dt.t es)=false from decide_eq_false (λz=>nomatch z)]
    cases x <;> first | exact(Uc f).elim | skip
    .cases (show u=Vi from r);exact .none_tuple p2 aB
    .obtain⟨t,rfl⟩:=r;exact .int_tuple _ _ p2 aB
    .obtain⟨t,rfl⟩:=r;exact .str_tuple _ _ p2 aB
  | t ds =>
   obtain⟨a,af,rfl,p1,r1⟩:=id p;cases d' with
   | l _=>exact q.elim
   | v y =>
    obtain⟨f,r⟩:=q;rw[show decide (Dt.t ds=Dt.v y)=false from decide_eq_false (λz=>nomatch z)]
    cases y <;> first | exact(Uc f).elim | skip
    .cases (show v=Vi from r);exact .tuple_none p1 aB
    .obtain⟨t,rfl⟩:=r;exact .tuple_int _ _ p1 aB
    .obtain⟨t,rfl⟩:=r;exact .tuple_str _ _ p1 aB
   | t es =>
    obtain⟨b,its',rfl,p2,r2⟩:=id q
    by_cases ab:a=b
    .subst ab
     rw[show decide (Dt.t ds=Dt.t es)=true from decide_eq_true (Yw.inj _ _ _ _ _ p q)]
     exact .same _
    .have l1:=Vn r1
     have l2:=Vn r2;have z:=SeqAt.RcAt.tuples (A:=A) (e:=λi=>decide (ds.getD i default=es.getD i default)) p1 p2 aB λj h1 h2=>by
      have j1:j < af.length:=by simpa using h1
      have j2:j < its'.length:=by simpa using h2
      have g1:ds[j]?=Vo (ds[j]'#[0]):=IA _
      have g2:es[j]?=Vo (es[j]'#[0]):=IA _
      have w1:=Ql r1 g1 (IA j1)
      have w2:=Ql r2 g2 (IA j2)
      rw[YN g1,YN g2];exact ih (A:=A.in1) (by show A.units+1+n < _;lia) w1 w2
     rw[Uy,Uy,<- l1,<- l2,YZc λi _ _=>rfl]at z
     exact .of_refs ab z
section
variable{prog:Vg}{w:Vb}{E:YQ_}
theorem Zac{A:VF}{s:VG}{x:V}{u:Va}{m:Nat}{Q:Bool->VG->Prop}(f:hV x=true)(r:Qt x u)(h:Q true s):VQ (VR prog w) A (eqIsQuiet m u) Q E s:=by
 have:carriedByValue u=true:=by
  cases x <;> first | exact(Uc f).elim | skip
  .cases (show u=Vi from r);rfl
  .obtain⟨t,rfl⟩:=r;rfl
  .obtain⟨t,rfl⟩:=r;rfl
 rw[eqIsQuiet_byValue _ this];exact Ui h
theorem QMd:∀ (n m:Nat) {A:VF} {s:VG} {d:Dt} {u:Va} {Q:Bool->VG->Prop},n<=m->Yw s.heap n d u->Q true s->VQ (VR prog w) A (eqIsQuiet m u) Q E s:=by
 intro n
 induction n with
 | zero =>
  intro m A s d u Q _ p h;cases d with
  | v x=>exact Zac p.1 p.2 h
  | t _=>exact p.elim
  | l _=>exact p.elim
 | succ n ih =>
  intro m A s d u Q hm p h;cases d with
  | v x=>exact Zac p.1 p.2 h
  | l _=>exact p.elim
  | t ds =>
   obtain⟨k,rfl⟩:∃ k,m=k+1:=⟨m - 1,by lia⟩
   obtain⟨a,af,rfl,⟨o,ho,hc,j,hd⟩,r⟩:=p;have hT:s.TypeIs (.ref a) "tuple":=⟨o,ho,hc⟩;unfold eqIsQuiet;refine V8 (wpAny_specialOf hT F.slot_tuple_eq.lookup ?_)
   show VQ _ _ (isInstance (.ref a) (.type "tuple") >>= _) _ _ s;refine V8 (wpAny_isInstance hT isSubtype_tuple_tuple ?_)
   simp only[Bool.not_true,O5,if_false];refine V8 (Lf ho hd ?_)
   refine V8 ?_
   show VQ _ _ (forIn af.toArray _ _) _ _ s;rw[<- LG];refine wpAny_forIn_list _ (λrest r s'=>r.1=Vp/\s'=s/\∃ left,Vm (λd v=>Yw s.heap n d v) left rest) _ ?_ ?_ _ _ ⟨rfl,rfl,ds,by simpa using r⟩
   .rintro v rest r s' ⟨hr,rfl,left,hl⟩
    cases hl with
    | cons h1 fI =>
     refine V8 (ih k #[0] h1 ?_)
     simp only[Bool.not_true,O5,if_false];exact Ui ⟨rfl,rfl,_,fI⟩
   .rintro⟨r1,r2⟩ s' ⟨hr,rfl,_⟩
    simp only at hr;subst hr;exact Ui h
end
noncomputable def Qpa (prog:Vg) (w:Vb):HeapKind prog w Dt where
 is:=λh d a=>Yw h 8 d (.ref a)
 hash:=haD w
 draws:=drD
 room:=λA=>A.units+8 < UR
 inj:=λp q=>Yw.inj _ _ _ _ _ p q
 keeps:=λp ho hd hs=>Yw.keeps ho hd hs _ _ _ p
 pyHash:=λhu p h=>JTd 8 hu p h
 eqBool:=λhu p q h=>Xed 8 hu p q _ _ _ _ h
 quiet:=λp h=>QMd 8 8 (Um _) p h
end L2
end
section
namespace L2
open PySem PySem.Spec PyProof.Rows
abbrev NX:=List (Dt×Vh×V)
def NKV:NX->List (Dt×Vh×Va)->Prop:=Vm λp q=>p.1=q.1/\p.2.1=q.2.1/\Qt p.2.2 q.2.2
def isN(P:Vg)(w:Vb)(a:Vh)(xs:NX)(h:Vq):Prop:=xs.length<=Vs/\(a == Vu)=false/\∃ ys,NKV xs ys/\∃ o es ep,h.get? a=Vo o/\o.ExactDict/\o.data=.dict es ep/\es.toList=ys.map (entryOfKey (Qpa P w))/\(ys.map (·.1)).Nodup
def dN(P:Vg)(w:Vb)(a:Vh)(xs:NX):HO:=.ext (isN P w a xs)
structure Qjb(P:Vg)(w:Vb)(K:VC)(H:Hp)(a:Vh)(xs:NX):Prop where
 at_:H a=Vo (dN P w a xs)
 keys:∀ x∈xs,Rep K H 8 x.1 (.ref x.2.1)/\hD x.1=true
noncomputable def ZRa (xs:NX) (d:Dt):Option V:=(xs.find? λx=>decide (x.1=d)).map (·.2.2)
theorem ZOb{α β:Type}{F:α->β->Prop}:∀ {xs:List α} {us:List β},xs.length=us.length->(∀ (i:Nat) x u,xs[i]?=Vo x->us[i]?=Vo u->F x u)->Vm F xs us
 | [],[],_,_=>.nil
 | [],_::_,h,_=>by simp at h
 | _::_,[],h,_=>by simp at h
 | x::xs,u::us,h,f=>.cons (f 0 _ _ rfl rfl) (ZOb (by simpa using h) λi a b ha hb=>f (i+1) a b (by simpa using ha) (by simpa using hb))
theorem YNb{P:Vg}{w:Vb}{a:Vh}{xs:NX}(h1 h2:Vq)(p:isN P w a xs h1)(k:∀ o,h1.get? a=Vo o->h2.get? a=Vo o):isN P w a xs h2:=by
 obtain⟨z,y,ys,r,o,es,ep,e,c⟩:=p;exact⟨z,y,ys,r,o,es,ep,k o e,c⟩
section
variable{X:Cx}{aa:YP_}{σ:St}{H:Hp}{s:VG}{a b:Vh}{xs:NX}{d:Dt}
theorem Rep.has(I:Inv X aa σ H s){n:Nat}{x:V}(r:Rep X.K H n d x):∀ {u:Va},hD d=true->Qt x u->Yw s.heap n d u:=by
 induction r with
 | @v n x f =>
  intro u h r;rw[hD]at h;cases n <;> exact⟨h,r⟩
 | t h e r1 ih =>
  intro u hh r;cases (show u=Vk _ from r)
  rw[hD]at hh;obtain⟨af,w1,p,_⟩:=I.tuple h;have l1:=w1.length;refine⟨_,af,rfl,p,ZOb #[0] λi d u hd hu=>?_⟩
  have hi:=(List.getElem?_eq_some_iff.mp hu).1
  obtain⟨u',e',r'⟩:=w1.get (i:=i) (IA #[0])
  rw[hu]at e';cases e';exact ih i d _ hd (IA #[0]) (Q9c hh d (Og hd)) r'
 | l h e _ _ =>
  intro u hh _;rw[hD]at hh;exact(Uc hh).elim
theorem Qjb.dict(I:Inv X aa σ H s)(g:Qjb X.prog X.w X.K H a xs):xs.length<=Vs/\(a == Vu)=false/\∃ ys,NKV xs ys/\s.heap.DictOfH (Qpa X.prog X.w) a ys:=by
 obtain⟨⟨z,y,ys,r,o,es,ep,h1,h2,h3,h4,h5⟩,_,_⟩:=(show QN X.prog X.w H s.heap a (dN X.prog X.w a xs) from I.hok a _ g.at_)
 refine⟨z,y,ys,r,o,es,ep,h1,h2,h3,h4,λq hq=>?_,h5⟩
 obtain⟨i,hi⟩:=mem_iff_getElem?.mp hq;have l:=Vn r;have hp:xs[i]?=Vo (xs[i]'(by have:=(List.getElem?_eq_some_iff.mp hi).1;lia)):=IA _
 have z:=Ql r hp hi;rw[<- z.1,<- z.2.1];have k:=g.keys _ (Og hp);exact k.1.has I k.2 rfl
theorem NKV.val{xs:NX}{ys:List (Dt×Vh×Va)}(r:NKV xs ys)(d:Dt):YX (ZRa xs d) ((ON ys d).map (·.2)):=by
 induction r with
 | nil=>exact UL
 | @cons p q ps qs hq t ih =>
  unfold ZRa ON;rw[OF,OF,<- hq.1]
  by_cases e:p.1=d
  .rw[decide_eq_true e];exact hq.2.2
  .rw[decide_eq_false e];exact ih
theorem NKV.none{xs:NX}{ys:List (Dt×Vh×Va)}(r:NKV xs ys){d:Dt}(h:ZRa xs d=Vp):ON ys d=Vp:=by
 have:=r.val d;rw[h]at this;cases e:ON ys d with
 | none=>rfl
 | some p=>rw[e]at this;exact this.elim
theorem NKV.some{xs:NX}{ys:List (Dt×Vh×Va)}(r:NKV xs ys){d:Dt}:(ZRa xs d).isSome=(ON ys d).isSome:=by
 have:=(r.val d).isSome_eq;rw[OO]at this;exact this
variable{A:VF}{E:YQ_}
theorem Xfd{Q:YQ_}(hu:A.units+9 < UR)(I:Inv X aa σ H s)(g:Qjb X.prog X.w X.K H a xs)(r:Rep X.K H 8 d (.ref b))(hd:hD d=true)(h:∀ s',Inv X aa σ H s'->Q (.bool (ZRa xs d).isSome) s') :
 VQ (VR X.prog X.w) A (VX .In (.ref b) (.ref a)) Q E s:=by
 obtain⟨z,y,ys,aH,dd⟩:=g.dict I;refine wpAny_in_heap (knd:=Qpa X.prog X.w) (show A.units+1+8 < UR by lia) (r.has I hd rfl) y dd ?_
 rw[<- aH.some];exact h _ (I.tok _)
theorem YSd{v:V}{Q:YQ_}(hu:A.units+9 < UR)(I:Inv X aa σ H s)(g:Qjb X.prog X.w X.K H a xs)(r:Rep X.K H 8 d (.ref b))(hd:hD d=true)(l:ZRa xs d=Vo v)(h:∀ w' s',Inv X aa σ H s'->Qt v w'->Q w' s') :
 VQ (VR X.prog X.w) A (Oo (.ref a) (.ref b)) Q E s:=by
 obtain⟨z,y,ys,aH,dd⟩:=g.dict I;obtain⟨w',hw,bj⟩:=YX.some_of (v:=v) (o:=(ON ys d).map (·.2)) (by rw[<- l];exact aH.val d)
 obtain⟨p,hp,aP⟩:=Option.map_eq_some_iff.mp hw;refine wpAny_getItem_heap (knd:=Qpa X.prog X.w) (show A.units+1+8 < UR by lia) (r.has I hd rfl) dd hp ?_
 rw[aP];exact h w' _ (I.tok _) bj
theorem YTd{v:V}{u:Va}{Q:Unit->VG->Prop}(hu:A.units+9 < UR)(I:Inv X aa σ H s)(g:Qjb X.prog X.w X.K H a xs)(r:Rep X.K H 8 d (.ref b))(hd:hD d=true)(l:ZRa xs d=Vp)(hl:xs.length < Vs)(rv:Qt v u)
 (h:∀ s',Inv X aa σ (upd H a (dN X.prog X.w a (xs++[(d,b,v)]))) s'->Q () s'):VQ (VR X.prog X.w) A (setItem (.ref a) (.ref b) u) Q E s:=by
 obtain⟨z,y,ys,aH,dd⟩:=g.dict I;refine wpAny_setItem_heap (knd:=Qpa X.prog X.w) (hsz:=by rw[<- Vn aH];exact z) (show A.units+1+8 < UR by lia) (r.has I hd rfl) dd λh' dA hs=>h _ ?_
 obtain⟨q,es,ep,hq,h2,h3,h4,_,h5⟩:=dA;rw[storedH_new (aH.none l)]at h4 h5;refine Jya I (by rw[g.at_];exact UL) hs ⟨q,hq⟩ ⟨⟨by rw[Oh];exact hl,y,_,OJ aH ⟨rfl,rfl,rv⟩,q,es,ep,hq,h2,h3,h4,h5⟩,⟨q,hq⟩,YNb⟩
theorem Qjb.typeIs(I:Inv X aa σ H s)(g:Qjb X.prog X.w X.K H a xs):s.TypeIs (.ref a) "dict":=let ⟨_,_,_,_,dd⟩:=g.dict I;dd.typeIs
end
def JUd(P:Vg)(w:Vb)(K:VC)(ty td:TE):TE:=λσ H Q=>ty σ H λy H1=>td σ H1 λx H2=>∃ a b xs d,x=.ref a/\y=.ref b/\Qjb P w K H2 a xs/\Rep K H2 8 d (.ref b)/\hD d=true/\Q (.bl (ZRa xs d).isSome) H2
def Y0c(P:Vg)(w:Vb)(K:VC)(td ty:TE):TE:=λσ H Q=>td σ H λx H1=>ty σ H1 λy H2=>∃ a b xs d v,x=.ref a/\y=.ref b/\Qjb P w K H2 a xs/\Rep K H2 8 d (.ref b)/\hD d=true/\ZRa xs d=Vo v/\Q v H2
def Y1c(P:Vg)(w:Vb)(K:VC)(td ty tv:TE):TS:=λD σ H=>tv σ H λv H1=>td σ H1 λx H2=>ty σ H2 λy H3=>∃ a b xs d,x=.ref a/\y=.ref b/\Qjb P w K H3 a xs/\Rep K H3 8 d (.ref b)/\hD d=true/\ZRa xs d=Vp/\xs.length < Vs/\D.nx σ (upd H3 a (dN P w a (xs++[(d,b,v)])))
def Y2c(P:Vg)(w:Vb):TE:=λ_ H Q=>∀ p,H p=Vp->Q (.ref p) (upd H p (dN P w p []))
section
variable{X:Cx}{o i e value:Expr}{pos aL aj aq:Pos}{td ty tv:TE}
theorem JVd(hu:X.A.units+9 < UR)(hi:PE X i ty)(ho:PE X o td):PC X .In i o (JUd X.prog X.w X.K ty td):=by
 intro aa s σ H Q I h;refine thn (hi aa s σ H _ I h) λiv s1 ⟨y,H1,I1,ry,q1⟩=>thn (ho aa s1 σ H1 _ I1 q1) λu s2 hZ=>?_
 obtain⟨x,H2,I2,rx,a,b,xs,d,ex,ey,g,r,hd,q2⟩:=hZ;subst ex ey;obtain rfl:u=Vk a:=rx;obtain rfl:iv=Vk b:=ry;exact Xfd hu I2 g r hd λs3 I3=>⟨.bl (ZRa xs d).isSome,H2,I3,rfl,q2⟩
theorem QNd(hu:X.A.units+9 < UR)(ho:PE X o td)(hi:PE X i ty)(hs:Jsd i):PE X (.Subscript o i pos) (Y0c X.prog X.w X.K td ty):=by
 intro aa s σ H Q I h;refine QVc F.slot_dict_getitem.lookup hs (thn (ho aa s σ H _ I h) λu s1 ⟨x,H1,I1,rx,q1⟩=>thn (hi aa s1 σ H1 _ I1 q1) λiv s2 hZ=>?_)
 obtain⟨y,H2,I2,ry,a,b,xs,d,v,ex,ey,g,r,hd,l,q2⟩:=hZ;subst ex ey;obtain rfl:u=Vk a:=rx;obtain rfl:iv=Vk b:=ry;exact⟨g.typeIs I2,YSd hu I2 g r hd l λw' s3 I3 bj=>⟨v,H2,I3,bj,q2⟩⟩
theorem QOd(hu:X.A.units+9 < UR)(ho:PE X o td)(hi:PE X i ty)(hv:PE X value tv)(hs:V5 value (Vo (.Subscript o i aL)) pos.line X.env=pure false) :
 PS X (.Assign [.Subscript o i aL] value pos) (Y1c X.prog X.w X.K td ty tv):=by
 intro aa s σ H D I h;refine wpAny_Assign_Subscript (thn (hv aa s σ H _ I h) λr s1 ⟨v,H1,I1,rv,q1⟩=>thn (ho aa s1 σ H1 _ I1 q1) λu s2 ⟨x,H2,I2,rx,q2⟩=>thn (hi aa s2 σ H2 _ I2 q2) λiv s3 hZ=>?_) hs
 obtain⟨y,H3,I3,ry,a,b,xs,d,ex,ey,g,rp,hd,l,hl,q3⟩:=hZ;subst ex ey;obtain rfl:u=Vk a:=rx;obtain rfl:iv=Vk b:=ry;exact YTd hu I3 g rp hd l hl rv λs4 I4=>⟨σ,_,I4,q3⟩
theorem Y3c{P:Vg}{w:Vb}{H:Hp}(h:Vq)(hb:Vu < h.objs.size):QN P w H (h.push { cls:=.type "dict",data:=.dict #[] }) h.objs.size (dN P w h.objs.size []) :=
 ⟨⟨Us _,beq_eq_false_iff_ne.mpr (VN (VA hb)),[],.nil,_,#[],0,Ul _ rfl,⟨rfl,rfl,rfl⟩,rfl,rfl,LH⟩,⟨_,Ul _ rfl⟩,YNb⟩
theorem Y4c:PE X (.Dict [] [] pos) (Y2c X.prog X.w):=λaa s σ H Q I h =>
 wpAny_Dict_empty ⟨.ref s.heap.objs.size,_,I.laid (a:=s.heap.objs.size) (o:=dN X.prog X.w s.heap.objs.size []) (t':=s.toks) (λ_ _ q=>Uk _ q) (Um _) (Y3c s.heap I.big),rfl,h _ (I.hok.fresh (Um _))⟩
end
theorem Q1.u9{k:Nat}{A:VF}(r:Q1 k A):A.units+9 < UR:=by have:=r.un;lia
def TD(H:Hp):Nat->Dt->V->Prop
 | 0,.v x,y=>hV x=true/\y=x
 | 0,.t _,_=>False
 | 0,.l _,_=>False
 | _+1,.v x,y=>hV x=true/\y=x
 | n+1,.t ds,y=>∃ (a:Vh) (xs:List V),y=.ref a/\H a=Vo (.tup xs)/\Vm (λd v=>TD H n d v) ds xs
 | _+1,.l _,_=>False
section
variable{H H':Hp}{K:VC}
theorem TD.flat{n:Nat}{x y:V}:TD H n (.v x) y->hV x=true/\y=x:=by cases n <;> exact id
theorem TD.ofV{n:Nat}{x:V}(f:hV x=true):TD H n (.v x) x:=by cases n <;> exact⟨f,rfl⟩
inductive Zpd(H:Hp)(n:Nat)(ds:List Dt)(y:V):Prop
 | mk (m:Nat) (a:Vh) (xs:List V) (e:n=m+1) (e2:y=.ref a) (h:H a=Vo (.tup xs)) (r:Vm (λd v=>TD H m d v) ds xs):Zpd H n ds y
theorem TD.tup{n:Nat}{ds:List Dt}{y:V}(q:TD H n (.t ds) y):Zpd H n ds y:=by
 cases n with
 | zero=>exact q.elim
 | succ m=>obtain⟨a,xs,e,h,r⟩:=q;exact⟨m,a,xs,rfl,e,h,r⟩
theorem TD.ofT{n:Nat}{a:Vh}{xs:List V}{ds:List Dt}(h:H a=Vo (.tup xs))(r:Vm (λd v=>TD H n d v) ds xs):TD H (n+1) (.t ds) (.ref a):=⟨a,xs,rfl,h,r⟩
theorem TD.sameT(s:QO H H'):∀ (n:Nat) {d:Dt} {y:V},TD H n d y->TD H' n d y:=by
 intro n
 induction n with
 | zero=>intro d y q;cases d <;> exact q
 | succ n ih =>
  intro d y q;cases d with
  | v x=>exact q
  | l x=>exact q
  | t ds=>obtain⟨a,xs,e,h,r⟩:=q;exact⟨a,xs,e,s _ _ h,Paired.mapP r λd v z=>ih z⟩
theorem TD.same{n:Nat}{d:Dt}{y:V}(q:TD H n d y)(s:Qf H H'):TD H' n d y:=TD.sameT s.t n q
theorem TD.mono:∀ (n:Nat) {m:Nat} {d:Dt} {y:V},n<=m->TD H n d y->TD H m d y:=by
 intro n
 induction n with
 | zero =>
  intro m d y _ q;cases d with
  | v x=>obtain⟨f,e⟩:=q;subst e;exact TD.ofV f
  | t _=>exact q.elim
  | l _=>exact q.elim
 | succ n ih =>
  intro m d y hm q;cases d with
  | v x=>obtain⟨f,e⟩:=q;subst e;exact TD.ofV f
  | l _=>exact q.elim
  | t ds =>
   obtain⟨a,xs,e,h,r⟩:=q;obtain⟨k,rfl⟩:∃ k,m=k+1:=⟨m - 1,by lia⟩
   exact⟨a,xs,e,h,Paired.mapP r λd v z=>ih #[0] z⟩
theorem TD.rep:∀ (n:Nat) {d:Dt} {y:V},TD H n d y->Rep K H n d y:=by
 intro n
 induction n with
 | zero =>
  intro d y q;cases d with
  | v x=>obtain⟨f,e⟩:=q;subst e;exact .v (XNa f)
  | t _=>exact q.elim
  | l _=>exact q.elim
 | succ n ih =>
  intro d y q;cases d with
  | v x=>obtain⟨f,e⟩:=q;subst e;exact .v (XNa f)
  | l _=>exact q.elim
  | t ds =>
   obtain⟨a,xs,e,h,r⟩:=q;subst e;exact .t (SqT.of h) (Vn r) λi d x h1 h2=>ih (Ql r h1 h2)
theorem TD.h:∀ (n:Nat) {d:Dt} {y:V},TD H n d y->hD d=true:=by
 intro n
 induction n with
 | zero =>
  intro d y q;cases d with
  | v x=>rw[hD];exact q.1
  | t _=>exact q.elim
  | l _=>exact q.elim
 | succ n ih =>
  intro d y q;cases d with
  | v x=>rw[hD];exact q.1
  | l _=>exact q.elim
  | t ds =>
   obtain⟨a,xs,e,h,r⟩:=q;rw[hD];refine YWc λx hx=>?_
   obtain⟨i,hi⟩:=mem_iff_getElem?.mp hx;have l:=Vn r;have hl:=(List.getElem?_eq_some_iff.mp hi).1
   exact ih (Ql r hi (IA (show i < xs.length by lia)))
theorem TD.pair{n:Nat}{a:Vh}{x y:V}{d e:Dt}(h:H a=Vo (.tup [x,y]))(hx:TD H n d x)(hy:TD H n e y):TD H (n+1) (.t [d,e]) (.ref a):=TD.ofT h (.cons hx (.cons hy .nil))
inductive Y5c(H:Hp)(n:Nat)(d e:Dt)(y:V):Prop
 | mk (a:Vh) (x z:V) (ey:y=.ref a) (h:H a=Vo (.tup [x,z])) (r1:TD H n d x) (r2:TD H n e z):Y5c H n d e y
theorem TD.pair_of{n:Nat}{y:V}{d e:Dt}(q:TD H (n+1) (.t [d,e]) y):Y5c H n d e y:=by
 obtain⟨a,xs,rfl,h,r⟩:=q;cases r with
 | cons r1 r2 =>
  cases r2 with
  | cons r3 r4=>cases r4;exact⟨a,_,_,rfl,h,r1,r3⟩
end
mutual
theorem Y6c:∀ d e:Dt,hD d=true->hD e=true->(eqD d e=true↔d=e)
 | .v x,.v y,h,h'=>by
  rw[hD]at h h';rw[eqD,YYc h h',decide_eq_true_iff]
 | .t xs,.t ys,h,h'=>by
  rw[hD]at h h';rw[eqD,Zbc xs ys h h'];exact⟨λe=>by rw[e],λe=>by injection e⟩
 | .v x,.t ys,_,_=>by simp[eqD]
 | .t xs,.v y,_,_=>by simp[eqD]
 | .l xs,_,h,_=>by rw[hD]at h;exact(Uc h).elim
 | .v x,.l ys,_,h=>by rw[hD]at h;exact(Uc h).elim
 | .t x,.l ys,_,h=>by rw[hD]at h;exact(Uc h).elim
theorem Zbc:∀ d e:List Dt,hDs d=true->hDs e=true->(ZOa d e=true↔d=e)
 | [],[],_,_=>by simp[ZOa]
 | [],_::_,_,_=>by simp[ZOa]
 | _::_,[],_,_=>by simp[ZOa]
 | x::xs,y::ys,h,h'=>by
  rw[hDs,Ov]at h h';rw[ZOa,Ov,Y6c x y h.1 h'.1,Zbc xs ys h.2 h'.2];exact⟨λe=>by rw[e.1,e.2],λe=>by injection e with a b;exact⟨a,b⟩⟩
end
theorem QPd{d e:Dt}(h:hD d=true)(h':hD e=true):eqD d e=decide (d=e):=by
 rw[Uw,Y6c d e h h',decide_eq_true_iff]
theorem YUd{K:VC}{H:Hp}{n:Nat}{d e:Dt}{x y:V}{Q:VK}(hn:n<=60)(h1:TD H n d x)(h2:TD H n e y)(q:Q (.bl (decide (d=e))) H):rD K false x y H Q :=
 ⟨n,d,e,hn,h1.rep,h2.rep,by rw[if_neg #[1],QPd h1.h h2.h];exact q⟩
def QI(S:List Vh)(H H':Hp):Prop:=∀ b o,b∉S->H b=Vo o->H' b=Vo o
section
variable{S:List Vh}{H H' H1 H2:Hp}
theorem QI.refl(S:List Vh)(H:Hp):QI S H H:=λ_ _ _ e=>e
theorem Qf.x(s:Qf H H')(S:List Vh):QI S H H':=λb o _ e=>s b o e
theorem QI.trans(a:QI S H H1)(b:QI S H1 H2):QI S H H2:=λc o n e=>b c o n (a c o n e)
theorem QI.upd{a:Vh}{o:HO}(s:QI S H H')(h:a∈S):QI S H (L2.upd H' a o):=λb u n e=>by
 rw[Qe (λz=>n (by rw[z];exact h))];exact s b u n e
theorem QI.mono{S':List Vh}(s:QI S H H')(h:∀ a∈S,a∈S'):QI S' H H':=λb o n e=>s b o (λz=>n (h b z)) e
end
section
variable{α β:Type}[DecidableEq β]
theorem JQ(g:α->β):∀ {xs:List α} {x:α},(xs.map g).Nodup->x∈xs->xs.find? (λy=>decide (g y=g x))=Vo x
 | [],_,_,h=>nomatch h
 | y::ys,x,nd,h=>by
  rw[UI,nodup_cons]at nd;rw[OF]
  rcases mem_cons.mp h with e | h
  .subst e;rw[decide_eq_true rfl]
  .have:g y≠g x:=λe=>nd.1 (by rw[e];exact mem_map_of_mem h)
   rw[decide_eq_false this];exact JQ g nd.2 h
theorem JLa(g:α->β){xs:List α}{b:β}(h:∀ x∈xs,g x≠b):xs.find? (λy=>decide (g y=b))=Vp:=by
 rw[find?_eq_none]
 intro x hx z;exact h x hx (of_decide_eq_true z)
end
theorem Q8a{α κ:Type}[DecidableEq κ](f:α->κ×V)(xs:List α)(k:κ):Q7 (xs.map f) k=(xs.find? λx=>decide ((f x).1=k)).map λx=>(f x).2:=by
 unfold Q7;rw[find?_map,Option.map_map]
 rfl
theorem YOb{α:Type}(f:α->Dt×Vh×V)(xs:List α)(k:Dt):ZRa (xs.map f) k=(xs.find? λx=>decide ((f x).1=k)).map λx=>(f x).2.2:=by
 unfold ZRa;rw[find?_map,Option.map_map]
 rfl
theorem Yua{κ:Type}[DecidableEq κ]{kvs:List (κ×V)}{k:κ}{v:V}(h:Q7 kvs k=Vp):ZC kvs k v=kvs++[(k,v)]:=by
 unfold ZC;rw[Jxa,h];rfl
theorem Qbc{α κ:Type}[DecidableEq κ](f:α->κ×V)(xs:List α)(k:κ):Y4a (xs.map f) k=(xs.filter λx=>decide ((f x).1≠k)).map f:=by
 unfold Y4a;rw[LI]
 rfl
end L2
end
section
namespace L2
open PySem PySem.Spec PyProof.Rows
theorem TDs.sameT{H H':Hp}{n:Nat}{es:List Dt}{xs:List V}(r:Vm (λd v=>TD H n d v) es xs)(s:QO H H'):Vm (λd v=>TD H' n d v) es xs:=Paired.mapP r λ_ _ z=>TD.sameT s n z
def Jzb(P:Vg)(w:Vb)(K:VC)(mg:Str->Option Va)(base:Vq)(k:Nat)(m:Str)(ta:TE1)(t:TA):TE1:=λσ H Q E=>ta σ H (λx H1=>∃ a C dx fs sp,x=.ref a/\H1 a=Vo (.ins C dx fs)/\fs.lookup m=Vp/\Cls K C/\MeV P w K mg base k C m sp/\t σ H1 λvs H2=>sp (x::vs) H2 Q E) E
section
variable{X:Cx}{m:Str}{k:Nat}{ta:TE1}{t:TA}{e o:Expr}{es:List Expr}{pos aj:Pos}{pl:Sem Bool}
theorem ZPb(he:PE1 X o ta)(hr:Q1 k X.A)(cU:X.ex=[])(ha:PA X.nox (e::es) t)
 (bJ:VU (e::es) X.env=(false,VS e X.env)::VU es X.env:=by rfl) (aV:(VT pos (VU es X.env)).any (·.1)=false:=by rfl)
 (ht:VS (.Call (.Attribute o m aj) (e::es) [] pos) X.env=(do
  let ov <- VS o X.env
  V0 aj.atName
  let (f,first) <- V1 [ov] (UB ov m pl)
  Ls pos f first (VT pos (VU (e::es) X.env)) (U3 pos (U4 [] X.env))):=by rfl) :
 PE1 X (.Call (.Attribute o m aj) (e::es) [] pos) (Jzb X.prog X.w X.K X.mg X.base k m ta t):=by
 intro aa s σ H Q E I h;refine Lu (pl:=pl) (thn (he aa s σ H _ E I h) λu s1 hZ=>?_) ht
 obtain⟨y,H1,I1,rx,a,C,dx,fs,sp,ex,ea,l,c,G,q⟩:=hZ;obtain⟨f,fd,ps,hm,F,hb⟩:=G;subst ex;obtain rfl:u=Vk a:=rx;refine Xm I1 ea c hm l ?_
 refine UZ (first:=[.ref a]) (h₀:=X.base) I.ok.mod.kin hm.kp (thn (X8b ha I1 q) λus s2 ⟨vs,H2,I2,r,q2⟩=>⟨I2.kIn,?_⟩) bJ aV
 exact JGa (us:=.ref a::us) (vs:=.ref a::vs) F hr hb cU I2 (.cons rfl r) q2
theorem Qkb(he:PE1 X o ta)(hr:Q1 k X.A)(cU:X.ex=[])
 (ht:VS (.Call (.Attribute o m aj) [] [] pos) X.env=(do
  let ov <- VS o X.env
  V0 aj.atName
  let (f,first) <- V1 [ov] (UB ov m pl)
  Ls pos f first (VT pos (VU [] X.env)) (U3 pos (U4 [] X.env))):=by rfl) :
 PE1 X (.Call (.Attribute o m aj) [] [] pos) (Jzb X.prog X.w X.K X.mg X.base k m ta ZLa):=by
 intro aa s σ H Q E I h;refine Lu (pl:=pl) (thn (he aa s σ H _ E I h) λu s1 hZ=>?_) ht
 obtain⟨y,H1,I1,rx,a,C,dx,fs,sp,ex,ea,l,c,G,q⟩:=hZ;obtain⟨f,fd,ps,hm,F,hb⟩:=G;subst ex;obtain rfl:u=Vk a:=rx;refine Xm I1 ea c hm l ?_
 exact U0 (first:=[.ref a]) I1.kIn hm.kp (JGa (us:=[.ref a]) (vs:=[.ref a]) F hr hb cU I1 (.cons rfl .nil) q)
end
end L2
end
section
open L2
namespace Tr
def Qo:Dt->V
 | .t (.v k::_)=>k
 | _=>.non
def Q8(l:Int)(es:List Dt):Dt:=.t [.v (.int l),.t es]
def Zt(k:V)(n:Int):Dt:=.t [.v k,.v (.int n)]
def QM:List Dt->V
 | []=>.non
 | e::_=>Qo e
theorem JR{l l':Int}{es aD:List Dt}(h:Q8 l es=Q8 l' aD):l=l'/\es=aD:=by
 unfold Q8 at h;injection h with h
 injection h with h1 h
 injection h with h2 h
 injection h1 with h1
 injection h1 with h1
 injection h2 with h2
 exact⟨h1,h2⟩
theorem YPb{k k':V}{n n':Int}(h:Zt k n=Zt k' n'):k=k'/\n=n':=by
 unfold Zt at h;injection h with h
 injection h with h1 h
 injection h with h2 h
 injection h1 with h1
 injection h2 with h2
 injection h2 with h2
 exact⟨h1,h2⟩
theorem JMa(k:V)(n:Int):Qo (Zt k n)=k:=rfl
section
variable(lv:V->Nat)
def step(l:Int)(ae:List (List Dt))(e:Dt):List (List Dt) :=
 if ae=[]\/l < lv (Qo e) then ae++[[e]] else ae.dropLast++[ae.getLast?.getD []++[e]]
def QW(l:Int)(es:List Dt):List (List Dt):=es.foldl (step lv l) []
structure YK(l:Int)(es:List Dt)(ae:List (List Dt)):Prop where
 flat:ae.flatten=es
 full:∀ part∈ae,part≠[]
 head:∀ (i:Nat) x r,0 < i->ae[i]?=Vo (x::r)->l < lv (Qo x)
 rest:∀ x r,(x::r)∈ae->∀ y∈r,(lv (Qo y):Int)<=l
variable{lv}{l:Int}{es:List Dt}{ae:List (List Dt)}
theorem YK.nil:YK lv l [] []:=⟨rfl,(λ_ h=>by cases h),(λi x r _ h=>by simp at h),(λx r h=>by cases h)⟩
theorem YK.more{x:Dt}(c:YK lv l es ae)(h:ae=[]\/l < lv (Qo x)):YK lv l (es++[x]) (ae++[[x]]) where
 flat:=by rw[LJ,c.flat];simp
 full:=λpart hp=>by
  rcases mem_append.mp hp with z | z
  .exact c.full part z
  .have:part=[x]:=by simpa using z
   rw[this];simp
 head:=λi y r hi e=>by
  by_cases hl:i < ae.length
  .rw[Oe hl]at e;exact c.head i y r hi e
  .rw[Od #[0]]at e
   have h0:i - ae.length=0:=by
    cases q:i - ae.length with
    | zero=>rfl
    | succ m=>rw[q]at e;simp at e
   rw[h0]at e;simp at e
   rcases h with z | z
   .rw[z]at h0;simp at h0;lia
   .rw[<- e.1];exact z
 rest:=λy r hp z hz=>by
  rcases mem_append.mp hp with w | w
  .exact c.rest y r w z hz
  .have:y::r=[x]:=by simpa using w
   cases this;cases hz
theorem YK.on{x:Dt}{ini:List (List Dt)}{last:List Dt}(c:YK lv l es (ini++[last]))(h:(lv (Qo x):Int)<=l):YK lv l (es++[x]) (ini++[last++[x]]) where
 flat:=by have:=c.flat;simp at this ⊢;rw[<- this];simp
 full:=λpart hp=>by
  rcases mem_append.mp hp with z | z
  .exact c.full part (VO _ z)
  .have:part=last++[x]:=by simpa using z
   rw[this];simp
 head:=λi y r hi e=>by
  by_cases hl:i < ini.length
  .rw[Oe hl]at e
   exact c.head i y r hi (by rw[Oe hl];exact e)
  .rw[Od #[0]]at e
   have h0:i - ini.length=0:=by
    cases q:i - ini.length with
    | zero=>rfl
    | succ m=>rw[q]at e;simp at e
   rw[h0]at e;have aC:=c.full last #[2]
   match last,aC,e,c with
   | z::zs,_,e,c =>
    simp at e;rw[<- e.1];exact c.head i z zs hi (by rw[Od #[0],h0];rfl)
 rest:=λy r hp z hz=>by
  rcases mem_append.mp hp with w | w
  .exact c.rest y r (VO _ w) z hz
  .have w:y::r=last++[x]:=by simpa using w
   have aC:=c.full last #[2]
   match last,aC,w,c with
   | u::us,_,w,c =>
    simp at w;obtain⟨rfl,rfl⟩:=w
    rcases mem_append.mp hz with v | v
    .exact c.rest y us #[2] z v
    .have:z=x:=by simpa using v
     rw[this];exact h
theorem ZA{α:Type}:∀ {xs:List α},xs≠[]->∃ ini last,xs=ini++[last]
 | [],h=>absurd rfl h
 | [x],_=>⟨[],x,rfl⟩
 | x::y::ys,_=>by
  obtain⟨ini,last,e⟩:=ZA (xs:=y::ys) #[2]
  exact⟨x::ini,last,by rw[e];rfl⟩
theorem YK.step{x:Dt}(c:YK lv l es ae):YK lv l (es++[x]) (step lv l ae x):=by
 unfold Tr.step
 split
 .rename_i h;exact c.more h
 .rename_i h
  have h1:ae≠[]:=λz=>h (.inl z)
  obtain⟨ini,last,rfl⟩:=ZA h1;have:(lv (Qo x):Int)<=l:=by have:¬ l < lv (Qo x):=λz=>h (.inr z);lia
  simpa using c.on this
theorem Yq(es:List Dt)(x:Dt):QW lv l (es++[x])=step lv l (QW lv l es) x:=by
 unfold QW;rw[foldl_append];rfl
theorem Qqa{α:Type}{C:List α->Prop}(h0:C [])(h1:∀ xs x,C xs->C (xs++[x]))(xs:List α):C xs:=by
 have:∀ n (xs:List α),xs.length=n->C xs:=by
  intro n
  induction n with
  | zero=>intro xs h;rw[length_eq_zero_iff.mp h];exact h0
  | succ n ih =>
   intro xs h;obtain⟨ini,last,rfl⟩:=ZA (xs:=xs) (by intro z;rw[z]at h;simp at h)
   exact h1 _ _ (ih ini (by simpa using h))
 exact this _ xs rfl
theorem JA(l:Int):∀ es,YK lv l es (QW lv l es):=Qqa YK.nil λxs x c=>by rw[Yq];exact c.step
theorem Q9a{es:List Dt}(h:es≠[]):QW lv l es≠[]:=λz=>h (by have:=(JA (lv:=lv) l es).flat;rw[z]at this;exact this.symm)
theorem YQb{es:List Dt}(aC:es≠[])(h:∀ e∈es,(lv (Qo e):Int)<=l):QW lv l es=[es]:=by
 have c:=JA (lv:=lv) l es
 match q:QW lv l es with
 | []=>exact absurd q (Q9a aC)
 | [p]=>rw[q]at c;have:=c.flat;simp at this;rw[this]
 | p::p2::r =>
  rw[q]at c;have aP:=c.full p2 #[2]
  match p2,aP with
  | x::xs,_ =>
   have h1:=c.head 1 x xs #[0] rfl
   have h2:x∈es:=by rw[<- c.flat];simp
   have:=h x h2
   lia
end
structure Fn(tbl:List (Int×Dt)):Prop where
 num:∀ n d d',(n,d)∈tbl->(n,d')∈tbl->d=d'
 dat:∀ n n' d,(n,d)∈tbl->(n',d)∈tbl->n=n'
inductive QP(tbl:List (Int×Dt))(l:Int):List (List Dt)->List Dt->Prop
 | nil:QP tbl l [] []
 | cons {part:List Dt} {ae:List (List Dt)} {hs:List Dt} {n:Int} (h:(n,Q8 l part)∈tbl) (r:QP tbl l ae hs):QP tbl l (part::ae) (Zt (QM part) n::hs)
section
variable{tbl aE:List (Int×Dt)}{l:Int}{ae:List (List Dt)}{hs:List Dt}
theorem QP.mono(h:QP tbl l ae hs)(s:∀ x∈tbl,x∈aE):QP aE l ae hs:=by
 induction h with
 | nil=>exact .nil
 | cons h _ ih=>exact .cons (s _ h) ih
theorem QP.snoc{part:List Dt}{n:Int}(h:QP tbl l ae hs)(m:(n,Q8 l part)∈tbl):QP tbl l (ae++[part]) (hs++[Zt (QM part) n]):=by
 induction h with
 | nil=>exact .cons m .nil
 | cons h _ ih=>exact .cons h ih
theorem QP.length(h:QP tbl l ae hs):hs.length=ae.length:=by
 induction h with
 | nil=>rfl
 | cons _ _ ih=>simp[ih]
theorem QP.det(f:Fn tbl)(h:QP tbl l ae hs):∀ {aQ:List Dt},QP tbl l ae aQ->hs=aQ:=by
 induction h with
 | nil=>intro aQ h';cases h';rfl
 | cons h _ ih =>
  intro aQ h';cases h' with
  | cons h2 r2=>rw[f.dat _ _ _ h h2,ih r2]
end
structure Yx(lv:V->Nat)(tbl:List (Int×Dt))(rows:List Dt)(top:Nat)(L:Nat->List Dt):Prop where
 low:L 0=rows
 up:∀ j,j<=top->QP tbl j (QW lv j (L j)) (L (j+1))
 one:(L (top+1)).length=1
 two:∀ j,1<=j->j<=top->1 < (L j).length
section
variable{lv:V->Nat}{tbl aE:List (Int×Dt)}{rows rows':List Dt}{top top':Nat}{L L':Nat->List Dt}
theorem Yx.mono(c:Yx lv tbl rows top L)(s:∀ x∈tbl,x∈aE):Yx lv aE rows top L:=⟨c.low,λj h=>(c.up j h).mono s,c.one,c.two⟩
end
def YRb:Dt->Int
 | .t [_,.v (.int n)]=>n
 | _=>0
section
variable{lv:V->Nat}{tbl:List (Int×Dt)}{l:Int}{ae:List (List Dt)}{hs rows:List Dt}{top:Nat}{L:Nat->List Dt}
theorem QP.keys(h:QP tbl l ae hs):hs.map Qo=ae.map QM:=by
 induction h with
 | nil=>rfl
 | cons h r ih=>rw[UI,UI,ih];rfl
theorem QP.mem(h:QP tbl l ae hs){x:Dt}(hx:x∈hs):∃ part∈ae,∃ n,x=Zt (QM part) n/\(n,Q8 l part)∈tbl:=by
 induction h with
 | nil=>cases hx
 | @cons part ae hs n h r ih =>
  rcases mem_cons.mp hx with e | hx
  .exact⟨part,VL,n,e,h⟩
  .obtain⟨p,hp,q⟩:=ih hx;exact⟨p,VM _ hp,q⟩
end
structure Yva(lv:V->Nat)(tbl:List (Int×Dt))(rows:List Dt)(j:Nat)(L:Nat->List Dt):Prop where
 low:L 0=rows
 up:∀ i,i < j->QP tbl i (QW lv i (L i)) (L (i+1))
 two:∀ i,1<=i->i < j->1 < (L i).length
section
variable{lv:V->Nat}{tbl aE:List (Int×Dt)}{rows hs:List Dt}{j:Nat}{L:Nat->List Dt}
theorem Yva.start(h:QP tbl 0 (QW lv 0 rows) hs):Yva lv tbl rows 1 (λi=>if i=0 then rows else hs) where
 low:=rfl
 up:=λi hi=>by
  obtain rfl:i=0:=by lia
  exact h
 two:=λi h1 h2=>by lia
theorem Yva.next(p:Yva lv tbl rows j L)(s:∀ x∈tbl,x∈aE)(hj:1<=j)(h2:1 < (L j).length)(h:QP aE j (QW lv j (L j)) hs):Yva lv aE rows (j+1) (λi=>if i=j+1 then hs else L i) where
 low:=by show(if 0=j+1 then hs else L 0)=rows;rw[if_neg #[0]];exact p.low
 up:=λi hi=>by
  show QP aE i (QW lv i (if i=j+1 then hs else L i)) (if i+1=j+1 then hs else L (i+1))
  rw[if_neg #[0]]
  by_cases e:i=j
  .subst e;rw[if_pos rfl];exact h
  .rw[if_neg #[0]];exact(p.up i #[0]).mono s
 two:=λi h1 hi=>by
  show 1 < (if i=j+1 then hs else L i).length
  rw[if_neg #[0]]
  by_cases e:i=j
  .subst e;exact h2
  .exact p.two i h1 #[0]
theorem Yva.chain{top:Nat}(p:Yva lv tbl rows (top+1) L)(h:(L (top+1)).length=1):Yx lv tbl rows top L:=⟨p.low,λi hi=>p.up i #[0],h,λi h1 h2=>p.two i h1 #[0]⟩
theorem Yva.full(p:Yva lv tbl rows j L)(hr:rows≠[]):∀ i,i<=j->L i≠[]:=by
 intro i
 induction i with
 | zero=>intro _;rw[p.low];exact hr
 | succ i ih =>
  intro h z;have u:=p.up i #[0]
  have l:=u.length;rw[z]at l;exact Q9a (ih #[0]) (length_eq_zero_iff.mp l.symm)
theorem Yva.top(p:Yva lv tbl rows j L)(h6:∀ k,lv k<=6)(hr:rows≠[])(hj:7<=j):(L 7).length=1:=by
 have u:=p.up 6 #[0]
 rw[YQb (p.full hr 6 #[0]) (λe _=>by have:=h6 (Qo e);lia)]at u
 rw[u.length];rfl
end
end Tr
end
section
namespace L2
open PySem PySem.Spec PyProof.Rows
section
variable{a b c d e u:TS}{D:ZG}{σ:St}{H:Hp}
theorem ZZ(h:∀ R:St->Hp->Prop,(∀ σ H,u D σ H->R σ H)->a { D with nx:=R } σ H):Js a u D σ H:=h (u D) λ_ _ z=>z
theorem JNa(h:∀ R:St->Hp->Prop,(∀ σ H,u D σ H->R σ H)->Js a b { D with nx:=R } σ H):Js a (Js b u) D σ H:=h (u D) λ_ _ z=>z
theorem XOa(h:∀ R:St->Hp->Prop,(∀ σ H,u D σ H->R σ H)->Js a (Js b c) { D with nx:=R } σ H):Js a (Js b (Js c u)) D σ H:=h (u D) λ_ _ z=>z
theorem QQd(h:∀ R:St->Hp->Prop,(∀ σ H,u D σ H->R σ H)->Js a (Js b (Js c d)) { D with nx:=R } σ H):Js a (Js b (Js c (Js d u))) D σ H:=h (u D) λ_ _ z=>z
theorem QRd(h:∀ R:St->Hp->Prop,(∀ σ H,u D σ H->R σ H)->Js a (Js b (Js c (Js d e))) { D with nx:=R } σ H):Js a (Js b (Js c (Js d (Js e u)))) D σ H:=h (u D) λ_ _ z=>z
end
section
variable{X:Cx}
def isT(z:Str):Va->Bool
 | .str y _=>decide (y=z)
 | _=>false
theorem Zcc{z:Str}:∀ {zs:List Str} {us:List Va},Qv (zs.map V.str) us->us.any (isT z)=decide (z∈zs)
 | [],_,h=>by cases h;simp
 | y::zs,_,h=>by
  cases h with
  | cons r t =>
   obtain⟨k,rfl⟩:=r;rw[Ow,Zcc t];show(decide (y=z) || decide (z∈zs))=decide (z∈y::zs);rw[Uw,Bool.or_eq_true,decide_eq_true_iff,decide_eq_true_iff,decide_eq_true_iff,Lp,eq_comm (a:=z)]
theorem JWd{A:VF}{s:VG}{z:Str}{k:Tok}{zs:List Str}{us:List Va}(r:Qv (zs.map V.str) us):∀ y∈us,Ol A s y (.str z k) (isT z y):=by
 intro y hy;obtain⟨i,hi,e⟩:=mem_iff_getElem.mp hy;have l:=r.length;rw[UK]at l;have rv:∃ z' k',y=.str z' k':=by
  have go:∀ {zs:List Str} {us:List Va},Qv (zs.map V.str) us->∀ y∈us,∃ z' k',y=.str z' k':=by
   intro zs
   induction zs with
   | nil=>intro us h y hy;cases h;cases hy
   | cons z zs ih =>
    intro us h y hy;cases h with
    | cons r t =>
     obtain⟨k,rfl⟩:=r
     rcases mem_cons.mp hy with e | h2
     .exact⟨z,k,e⟩
     .exact ih t y h2
  exact go r y hy
 obtain⟨z',k',rfl⟩:=rv;have:=Yna (A:=A) (s:=s) (show Qt (.str z') (.str z' k') from⟨k',rfl⟩) (show Qt (.str z) (.str z k) from⟨k,rfl⟩) rfl rfl
 rw[show eqV (.str z') (.str z)=isT z (.str z' k') from ?_]at this
 .exact this
 .show(z' == z)=decide (z'=z)
  rw[Uw,beq_iff_eq,decide_eq_true_iff]
def Xgd(K:VC)(neg:Bool):R2:=λx y H Q=>∃ (z:Str) (b:Vh) (zs:List Str),x=.str z/\y=.ref b/\SqT K H b (zs.map V.str)/\Q (.bl (if neg then !decide (z∈zs) else decide (z∈zs))) H
theorem JXd:OpR X (VX .In) (Xgd X.K false):=by
 intro aa s σ H x y v u Q I rx ry h;obtain⟨z,b,zs,rfl,rfl,hb,q⟩:=h;obtain⟨t,rfl⟩:=rx;cases ry;obtain⟨af,r,p,_⟩:=I.tuple hb;refine SeqAt.in_tupleAt (isT z) p (λy hy=>JWd r y (by simpa using hy)) ⟨.bl (decide (z∈zs)),H,I,?_,q⟩
 rw[<- Array.any_toList];rw[Zcc r];rfl
end
theorem JYd{X:Cx}{op:Va->Va->Sem Va}{r1 r2:R2}(h1:OpR X op r1)(h2:OpR X op r2):OpR X op (λx y H Q=>r1 x y H Q\/r2 x y H Q):=by
 intro aa s σ H x y v u Q I rx ry h
 rcases h with h | h
 .exact h1 aa s σ H x y v u Q I rx ry h
 .exact h2 aa s σ H x y v u Q I rx ry h
end L2
end
section
open L2 PySem
namespace Tr
def Y7c(tbl:List (Int×Dt)):Nat->Dt->List Dt->Prop
 | 0,d,es=>es=[d]
 | l+1,d,es=>∃ k n part bg,d=Zt k n/\(n,Q8 (l:Int) part)∈tbl/\Vm (Y7c tbl l) part bg/\es=bg.flatten
def Zdc(tbl:List (Int×Dt))(l:Nat)(part es:List Dt):Prop:=∃ bg,Vm (Y7c tbl l) part bg/\es=bg.flatten
theorem JOa{α β:Type}{F:α->β->Prop}:∀ {xs ys:List α} {us:List β},Vm F (xs++ys) us->∃ u1 u2,us=u1++u2/\Vm F xs u1/\Vm F ys u2
 | [],_,us,h=>⟨[],us,rfl,.nil,h⟩
 | x::xs,ys,_,.cons r t=>by
  obtain⟨u1,u2,e,a,b⟩:=JOa t;exact⟨_::u1,u2,by rw[e];rfl,.cons r a,b⟩
section
variable{lv:V->Nat}{tbl:List (Int×Dt)}{rows:List Dt}{top:Nat}{L:Nat->List Dt}
theorem Jac(rows:List Dt):Zdc tbl 0 rows rows:=by
 refine⟨rows.map λd=>[d],?_,?_⟩
 .induction rows with
  | nil=>exact .nil
  | cons d r ih=>exact .cons rfl ih
 .induction rows with
  | nil=>rfl
  | cons d r ih=>rw[UI,LK,<- ih];rfl
theorem Jbc{j:Nat}{ae:List (List Dt)}{hs:List Dt}(h:QP tbl (j:Int) ae hs):∀ {bg:List (List Dt)},Vm (Y7c tbl j) ae.flatten bg->∃ bY,Vm (Y7c tbl (j+1)) hs bY/\bY.flatten=bg.flatten:=by
 induction h with
 | nil=>intro bg p;cases p;exact⟨[],.nil,rfl⟩
 | @cons part ae hs n hm r ih =>
  intro bg p;rw[LK]at p;obtain⟨u1,u2,e,a,b⟩:=JOa p;obtain⟨bY,q,f⟩:=ih b;refine⟨u1.flatten::bY,.cons ⟨_,n,part,u1,rfl,hm,a,rfl⟩ q,?_⟩
  rw[LK,f,e,LJ]
theorem Yx.sub(c:Yx lv tbl rows top L):∀ j,j<=top+1->Zdc tbl j (L j) rows:=by
 intro j
 induction j with
 | zero=>intro _;rw[c.low];exact Jac rows
 | succ j ih =>
  intro h;obtain⟨bg,p,e⟩:=ih #[0]
  have u:=c.up j #[0]
  rw[<- (JA (lv:=lv) (j:Int) (L j)).flat]at p;obtain⟨bY,q,f⟩:=Jbc u p;exact⟨bY,q,by rw[f];exact e⟩
theorem Yx.spread(c:Yx lv tbl rows top L){k:V}{n:Int}(e:L (top+1)=[Zt k n]):∃ part,(n,Q8 (top:Int) part)∈tbl/\Zdc tbl top part rows:=by
 obtain⟨bg,p,f⟩:=c.sub (top+1) (Um _);rw[e]at p;cases p with
 | cons r t =>
  cases t;obtain⟨k',n',part,eV,e1,hm,q,g⟩:=r;obtain⟨_,rfl⟩:=YPb e1;exact⟨part,hm,eV,q,by rw[f,g];simp⟩
end
end Tr
end
section
namespace L2
open PySem PySem.Spec PyProof.Rows PySem.W
theorem JAb:On (.type "list") "keys"=pure Vp:=by rw[LL,LM];kernel_rfl
theorem Xya:On (.type "list") "__getattr__"=pure Vp:=by rw[LL,LM];kernel_rfl
section
variable{prog:Vg}{w:Vb}{A:VF}{E:YQ_}{h:Vq}{g:Array GenState}{d:Drawn}{t:Nat}{os:OsState}{a:Vh}{af:Array Va}{c:Nat}
theorem Xza{tk:Tok}{Q:IE->VG->Prop}(hh:A.handled=Vp)(hx:h.get? a=Vo { cls:=.type "list",dict:=Vp,data:=.seq af c,slots:=#[] })
 (hE:∀ h' tk e,LN h h' e (.ref a) "keys"->E (.ref e) ⟨h',g,d,tk,os⟩) :
 VQ (VR prog w) A (O8.«object.__getattribute__» ⟨[.ref a,.str "keys" tk],[]⟩) Q E ⟨h,g,d,t,os⟩:=by
 have hT:(⟨h,g,d,t,os⟩:VG).TypeIs (.ref a) "list":=⟨_,hx,rfl⟩;have f4:=JAb
 repeat (any_goals (first | assumption | wp_step))
 exact wpAny_raiseAttrError hh hE (attrMsg_fits (by decide +kernel) (by decide +kernel))
theorem JBb{tk:Tok}{Q:YQ_}(hh:A.handled=Vp)(hx:h.get? a=Vo { cls:=.type "list",dict:=Vp,data:=.seq af c,slots:=#[] })
 (hE:∀ h' tk e,LN h h' e (.ref a) "keys"->E (.ref e) ⟨h',g,d,tk,os⟩) :
 VQ (VR prog w) A (getAttrBy (.ref a) (.str "keys" tk) false) Q E ⟨h,g,d,t,os⟩:=by
 have hT:(⟨h,g,d,t,os⟩:VG).TypeIs (.ref a) "list":=⟨_,hx,rfl⟩;have f1:=LO;have f2:=F.slot_list_getattribute.lookup;have f3:=F.slot_list_getattribute.bind (.ref a);have f5:=Xya;unfold getAttrBy
 repeat (any_goals (first | assumption | wp_step))
 refine LB F.slot_list_getattribute.plain F.entry_list_ga (F.slot_list_getattribute.check _ _ _ _ _ _ _ _ hT (F.args_list_getattribute_2 _ _) (Xza hh hx λh' u5 e aF=>?_))
 obtain⟨t',u',he⟩:=aF.there;show VQ _ _ (LP _ _ _ _ _ _ _) _ _ _;unfold LP
 repeat (any_goals (first | assumption | wp_step))
 exact hE _ _ _ aF
theorem Qlb{Q:Option Va->VG->Prop}(hh:A.handled=Vp)(hx:h.get? a=Vo { cls:=.type "list",dict:=Vp,data:=.seq af c,slots:=#[] })
 (hQ:∀ h' tk,(∀ b u,h.get? b=Vo u->h'.get? b=Vo u)->Q Vp ⟨h',g,d,tk,os⟩):VQ (VR prog w) A (getAttr? (.ref a) "keys") Q E ⟨h,g,d,t,os⟩:=by
 unfold getAttr? getAttrBy?;refine V8 (wpAny_mkText ?_)
 refine V8 (Lj (JBb hh hx λh' tk e aF=>?_))
 obtain⟨t',u',he⟩:=aF.there;have f1:=LO
 repeat (any_goals (first | assumption | wp_step))
 exact hQ _ _ aF.keeps
end
theorem Z0:entryFor table "dict.update.loop"=Vo O8.«dict.update.loop»:=entryFor_of_tree (by kernel_rfl)
theorem QU:plainId "dict.update.loop"=true:=by decide +kernel
section
variable{prog:Vg}{w:Vb}{K:Type}[DecidableEq K]{knd:KeyKind prog w K}{A:VF}{E:YQ_}{s:VG}
def JB(knd:KeyKind prog w K)(h:Vq)(vs:List Va)(kks:List (K×Va)):Prop:=∀ (i:Nat) k x,kks[i]?=Vo (k,x)->∃ t key,vs[i]?=Vo (.ref t)/\Vt h t #[key,x]/\knd.is k key=true
theorem JB.but{h h':Vq}{vs:List Va}{kks:List (K×Va)}(p:JB knd h vs kks)(P:Vh->Prop)(hP:∀ t af,Vt h t af->P t)(hk:∀ b o,P b->h.get? b=Vo o->h'.get? b=Vo o):JB knd h' vs kks:=λi k x e=>by
 obtain⟨t,key,a,b,c⟩:=p i k x e;have pt:=hP t _ b;obtain⟨o,ho,r⟩:=b;exact⟨t,key,a,⟨o,hk t o pt ho,r⟩,c⟩
theorem Qmb{it l d:Vh}{vs:List Va}{kks:List (K×Va)}(hh:A.handled=Vp)(hl:kks.length=vs.length)(hb:vs.length<=1000)(aC:it≠d)(ol:l≠d)(om:l≠it) :
 ∀ (m i:Nat) (fJ:Tok) (s:VG) (R:UD->VG->Prop),m=vs.length - i->i<=vs.length->s.heap.IsListIter it l i->s.heap.IsList l vs.toArray->s.heap.DictOf knd d (OR [] (kks.take i))->(OR [] (kks.take i)).length<=i->JB knd s.heap vs kks ->
  (∀ h' tk,(∀ b o,b≠it->b≠d->s.heap.get? b=Vo o->h'.get? b=Vo o)->h'.DictOf knd d (OR [] kks)->R (.ok (.ret .none)) { s with heap:=h',toks:=tk }) ->
  UF (VR prog w) A (.builtin "dict.update.loop" ⟨[.ref d,.ref it,.int i fJ,.none],[]⟩) R s:=by
 intro m
 induction m with
 | zero =>
  intro i fJ s R hm hi hit fL hD _ hp hR;have e:i=vs.length:=by lia
  subst e;refine Lv Z0 ?_
  rw[Lw QU _];unfold O8.«dict.update.loop»;dsimp only;refine V8 (wpAny_pyNext_list_end hh hit fL #[2] λh' eb=>?_)
  dsimp only;rw[Ip #[0]]at hD
  show VQ _ _ (Builtin.Dict.addKeywords d [] >>= _) _ _ _;refine V8 (Ui (Ui (hR h' s.toks (λb o h1 h2 e=>eb b o h1 e) (hD.extBut eb (VN aC)))))
 | succ m ih =>
  intro i fJ s R hm hi hit fL hD lD hp hR;have bS:i < vs.length:=by lia
  obtain⟨k,x,jR⟩:∃ k x,kks[i]?=Vo (k,x):=⟨_,_,IA #[0]⟩
  obtain⟨t,key,ij,ht,dO⟩:=hp i k x jR;refine Lv Z0 ?_
  rw[Lw QU _];unfold O8.«dict.update.loop»;dsimp only;refine V8 (wpAny_pyNext_list_item hit fL (x:=.ref t) (by simpa using ij) λh' iq sb=>?_)
  dsimp only;obtain⟨ot,cf,cS,nt,cT⟩:=id ht;have ir:t≠it:=λz=>by
   obtain⟨oi,iu,iw,_⟩:=hit;rw[z,iu]at cf;cases cf;rw[iw]at cS;exact absurd (Lr cS) #[1]
  have u6:t≠d:=λz=>by
   obtain⟨od,_,_,ix,bu,_⟩:=hD;rw[z,ix]at cf;cases cf;have:=bu.1;rw[this]at cS;exact absurd (Lr cS) #[1]
  have dU:h'.get? t=Vo ot:=(sb.2 t ir).trans cf;have cj:h'.DictOf knd d (OR [] (kks.take i)):=hD.sameBut sb (VN aC);refine V8 (V9 (V8 (wpAny_tryCatch ?_)))
  unfold Builtin.Dict.pairItems;refine V8 (Lz (T:="tuple") ⟨_,dU,cS⟩ ?_)
  rw[if_pos #[1]]
  refine V8 (Lf dU cT (Ui ?_))
  show VQ _ _ (V1 [key,x] (dictSet d key x)) _ _ _;refine V9 (wpAny_dictSet_pairs dO cj (λh2 cE dg=>?_) (VI lD (VI (show i<=1000 by lia) (by rw[Ux];decide))))
  have et:OR [] (kks.take (i+1))=OI (OR [] (kks.take i)) k x:=by
   unfold OR;rw[Im,jR,foldl_append];rfl
  have keep:∀ b o,b≠it->b≠d->s.heap.get? b=Vo o->h2.get? b=Vo o:=λb o h1 h2 e=>(dg.2 b h2).trans ((sb.2 b h1).trans e)
  have bM:∀ t' af,Vt s.heap t' af->t'≠it/\t'≠d:=λt' af ⟨o',aS,bB,_⟩=>by
   constructor
   .intro z
    obtain⟨oi,iu,iw,_⟩:=hit;rw[z,iu]at aS;cases aS;rw[iw]at bB;exact absurd (Lr bB) #[1]
   .intro z
    obtain⟨od,_,_,ix,bu,_⟩:=hD;rw[z,ix]at aS;cases aS;rw[bu.1]at bB;exact absurd (Lr bB) #[1]
  refine Ui ⟨Lx QU _,?_⟩
  refine ih (i+1) _ _ R #[0] #[0] ?_ ?_ (by rw[et];exact cE) ?_ (hp.but (λb=>b≠it/\b≠d) bM λb o hb e=>keep b o hb.1 hb.2 e) λh3 tk gG jS=>?_
  .obtain⟨o,ho,r⟩:=iq
   exact⟨o,(dg.2 it aC).trans ho,r⟩
  .obtain⟨o,ho,r⟩:=fL
   exact⟨o,(dg.2 l ol).trans ((sb.2 l om).trans ho),r⟩
  .rw[et]
   unfold OI
   split
   .simp;lia
   .simp;lia
  .exact hR h3 tk (λb o h1 h2 e=>gG b o h1 h2 (keep b o h1 h2 e)) jS
theorem Jcc{R:UD->VG->Prop}{D l:Vh}{vs:List Va}{kks:List (K×Va)}{c:Nat}(hh:A.handled=Vp)(ba:s.heap.DictOf knd D [])(hx:s.heap.get? l=Vo { cls:=.type "list",dict:=Vp,data:=.seq vs.toArray c,slots:=#[] })(oq:l≠D)(hl:kks.length=vs.length)(hb:vs.length<=1000)(hp:JB knd s.heap vs kks)
 (hR:∀ h' tk,(∀ b o,b≠D->s.heap.get? b=Vo o->h'.get? b=Vo o)->h'.DictOf knd D (OR [] kks)->R (.ok (.ret .none)) { s with heap:=h',toks:=tk }) :
 VQ (VR prog w) A.in1 (O8.«dict.__init__» ⟨[.ref D,.ref l],[]⟩)
  (λfin s'=>match fin with | .done f=>R (.ok f) s' | .again c'=>c'.quiet=true/\UF (VR prog w) A c' R s') (λe s'=>R (.error e) s') s:=by
 unfold O8.«dict.__init__»;refine V8 ?_
 unfold Builtin.Dict.selfAndRest;refine V8 (wpAny_notOrdered_dict ba.typeIs ?_)
 show VQ _ _ (pure (D,[Vk l])) _ _ _;refine Ui ?_
 show VQ _ _ (LQ "dict.__init__" D (.ref l) [] .none) _ _ _;unfold LQ;refine V8 (Lz (T:="list") ⟨_,hx,rfl⟩ ?_)
 rw[if_pos #[1]]
 obtain⟨jT,g,dr,fJ,os⟩:=s;refine V8 (Qlb (A:=A.in1) hh hx λh1 jU keep=>?_)
 rw[if_pos #[1]]
 refine V8 (Lg ?_)
 have iY:=keep l _ hx;have di:h1.IsList l vs.toArray:=⟨_,iY,rfl,c,rfl⟩;refine V8 (Uj (s:=⟨h1,g,dr,jU,os⟩) di ?_)
 have kp:∀ b o,jT.get? b=Vo o->(h1.push { cls:=.type "list_iterator",data:=.fields #[.ref l,.int 0 0] }).get? b=Vo o:=λb o e=>Uk _ (keep b o e)
 have cF:∀ b o,jT.get? b=Vo o->b < h1.objs.size:=λb o e=>Vx (keep b o e)
 have cE:(h1.push { cls:=.type "list_iterator",data:=.fields #[.ref l,.int 0 0] }).DictOf knd D []:=let ⟨o,es,ep,ho,r⟩:=ba;⟨o,es,ep,kp D o ho,r⟩
 have ou:D < h1.objs.size:=by obtain⟨o,_,_,ho,_⟩:=ba;exact cF D o ho
 refine Ui ⟨Lx QU _,?_⟩
 refine Qmb (knd:=knd) (A:=A) (it:=h1.objs.size) (l:=l) (d:=D) (vs:=vs) (kks:=kks) hh hl hb (Ud ou) oq (VA (cF l _ hx)) vs.length 0 _ _ R #[0] (Us _) ⟨_,Ul _ rfl,rfl,rfl⟩ ⟨_,kp l _ hx,rfl,c,rfl⟩ cE (Us _) (hp.but (λ_=>True) (λ_ _ _=>trivial) λb o _ e=>kp b o e) λh' tk hk cj=>?_
 exact hR h' tk (λb o hb e=>hk b o (VA (cF b o e)) hb (kp b o e)) cj
theorem Jdc{Q:YQ_}{l:Vh}{vs:List Va}{kks:List (K×Va)}{c:Nat}(hh:A.handled=Vp)(hx:s.heap.get? l=Vo { cls:=.type "list",dict:=Vp,data:=.seq vs.toArray c,slots:=#[] })(hl:kks.length=vs.length)(hb:vs.length<=1000)(hp:JB knd s.heap vs kks)
 (h:∀ h' tk,(∀ b o,s.heap.get? b=Vo o->h'.get? b=Vo o)->h'.DictOf knd s.heap.objs.size (OR [] kks)->Q (.ref s.heap.objs.size) { s with heap:=h',toks:=tk }) :
 VQ (VR prog w) A (Ut (.type "dict") [.ref l]) Q E s:=by
 refine callType_codes (Q₁:=λobj s₁=>obj=.ref s.heap.objs.size/\s₁={ s with heap:=s.heap.push { cls:=.type "dict",data:=.dict #[] } }) F.kt_called_dict (F.kt_typeCall_dict_1 _) F.entry_dict_init (kt_code_dict_new _ ⟨rfl,rfl⟩) λobj s₁ h₁=>?_
 obtain⟨rfl,rfl⟩:=h₁;have ba:(s.heap.push { cls:=.type "dict",data:=.dict #[] }).DictOf knd s.heap.objs.size []:=Heap.DictOf.new s.heap;have ay:l < s.heap.objs.size:=Vx hx;refine⟨ba.typeIs,F.args_dict_init_2 _ _,Jcc (A:=A.in1) (knd:=knd) hh ba (Uk _ hx) (VA ay) hl hb (hp.but (λ_=>True) (λ_ _ _=>trivial) λb o _ e=>Uk _ e) λh' tk hk cj=>?_⟩
 exact⟨rfl,h h' tk (λb o e=>hk b o (VA (Vx e)) (Uk _ e)) cj⟩
end
def Y8c:List V->Hp->VK->Prop:=λxs H Q=>∃ (p:Vh) (ys:List V) (kvs:List (Key×V)),xs=[.ref p]/\H p=Vo (.lst ys)/\ys.length<=1000/\Vm (λ(kv:Key×V) y=>∃ t,y=.ref t/\H t=Vo (.tup [kV kv.1,kv.2])) kvs ys/\∀ D,H D=Vp->Q (.ref D) (upd H D (.dK (JZ [] kvs)))
theorem Qnb{X:Cx}{aa:YP_}{σ:St}{H:Hp}{s:VG}(I:Inv X aa σ H s):∀ {kvs:List (Key×V)} {ys:List V} {af:List Va},Vm (λ(kv:Key×V) y=>∃ t,y=V.ref t/\H t=Vo (.tup [kV kv.1,kv.2])) kvs ys->Qv ys af ->
 ∃ kks:List (Key×Va),KV kvs kks/\JB (QC X.prog X.w) s.heap af kks
 | [],_,_,.nil,v=>by cases v;exact⟨[],.nil,λi k x e=>by simp at e⟩
 | kv::kvs,_,_,.cons r p,v=>by
  cases v with
  | cons rv v =>
   obtain⟨t,rfl,ht⟩:=r;obtain⟨kks,a,b⟩:=Qnb I p v;cases rv;obtain⟨hz,jts,rj,hj⟩:=(show QN X.prog X.w H s.heap t (.tup [kV kv.1,kv.2]) from I.hok t _ ht)
   cases rj with
   | @cons _ key _ _ r1 rj =>
   cases rj with
   | @cons _ x _ _ r2 rj =>
   cases rj;refine⟨(kv.1,x)::kks,.cons ⟨rfl,r2⟩ a,λi k y e=>?_⟩
   cases i with
   | zero =>
    simp at e;obtain⟨rfl,rfl⟩:=e;exact⟨t,key,rfl,hj,(QLd r1).1⟩
   | succ i =>
    simp at e;obtain⟨t',ow,h1,h2,h3⟩:=b i k y e;exact⟨t',ow,by simpa using h1,h2,h3⟩
theorem ZSa{X:Cx}(hh:X.A.handled=Vp):Jt X (.type "dict") Y8c:=by
 intro aa s σ H xs us Q I r h;obtain⟨p,ys,kvs,rfl,hp,lz,pr,q⟩:=h;obtain⟨u,rfl,ru⟩:=Ys r;obtain rfl:u=Vk p:=ru;obtain⟨hz,af,n,rv,hx⟩:=(show QN X.prog X.w H s.heap p (.lst ys) from I.hok p _ hp)
 obtain⟨kks,kv,pa⟩:=Qnb I pr rv;have l1:=Vn pr;have l2:=rv.length;have l3:=kv.length;refine Jdc (knd:=QC X.prog X.w) hh hx #[0] #[0] pa λh' tk kp hD=>?_
 have fM:(JZ [] kvs).length<=Vs:=by
  have h1:=YY kvs [];rw[OG]at h1;rw[Ux];lia
 exact⟨.ref s.heap.objs.size,_,I.laid (a:=s.heap.objs.size) (o:=.dK (JZ [] kvs)) (t':=tk) kp (Um _) ⟨fM,beq_eq_false_iff_ne.mpr (VN (VA I.big)),_,kv.merge .nil,hD⟩,rfl,q _ (I.hok.fresh (Um _))⟩
def JZd:List V->Hp->VK->Prop:=λxs H Q=>∃ d kvs,xs=[.ref d]/\H d=Vo (.dK kvs)/\kvs.length<=1000/\∀ D,H D=Vp->Q (.ref D) (upd H D (.lst (kvs.map λp=>kV p.1)))
theorem Qob{X:Cx}(hh:X.A.handled=Vp):Jt X (.type "list") JZd:=by
 intro aa s σ H xs us Q I r h;obtain⟨d,kvs,rfl,hd,hl,q⟩:=h;obtain⟨u,rfl,ru⟩:=Ys r;obtain rfl:u=Vk d:=ru;obtain⟨z,y,vs,rv,o,es,ep,e0,c1,c2,c3⟩:=(show QN X.prog X.w H s.heap d (.dK kvs) from I.hok d _ hd)
 have da:s.heap.DictAt (QC X.prog X.w) d vs ep:=⟨o,es,e0,c1,c2,c3⟩;refine kdl_call (kdl_dict (knd:=QC X.prog X.w) (ep:=ep) y) hh da (by rw[<- rv.len];exact VJ (Qm #[0])) λh' tk aJ c kp hD cC=>?_
 exact⟨.ref s.heap.objs.size,_,I.laid (t':=tk) kp (Um _) (show QN X.prog X.w _ h' _ (.lst (kvs.map λp=>kV p.1)) from⟨by rw[UK];exact VJ (Qm #[0]),aJ.toList,c,ZMb rv cC,by simpa using hD⟩),rfl,q _ (I.hok.fresh (Um _))⟩
theorem Zec:VE "dict"=Vo (.type "dict"):=by rfl
theorem Q7b:On (.type "tuple") "keys"=pure Vp:=by rw[LL,LM];kernel_rfl
theorem Ywa:On (.type "tuple") "__getattr__"=pure Vp:=by rw[LL,LM];kernel_rfl
section
variable{prog:Vg}{w:Vb}{A:VF}{E:YQ_}{h:Vq}{g:Array GenState}{d:Drawn}{t:Nat}{os:OsState}{a:Vh}{af:Array Va}{c:Nat}{sl:Array (Option Va)}
theorem Yxa{tk:Tok}{Q:IE->VG->Prop}(hh:A.handled=Vp)(hx:h.get? a=Vo { cls:=.type "tuple",dict:=Vp,data:=.seq af c,slots:=sl })
 (hE:∀ h' tk e,LN h h' e (.ref a) "keys"->E (.ref e) ⟨h',g,d,tk,os⟩) :
 VQ (VR prog w) A (O8.«object.__getattribute__» ⟨[.ref a,.str "keys" tk],[]⟩) Q E ⟨h,g,d,t,os⟩:=by
 have hT:(⟨h,g,d,t,os⟩:VG).TypeIs (.ref a) "tuple":=⟨_,hx,rfl⟩;have f4:=Q7b
 repeat (any_goals (first | assumption | wp_step))
 exact wpAny_raiseAttrError hh hE (attrMsg_fits (by decide +kernel) (by decide +kernel))
theorem Q8b{tk:Tok}{Q:YQ_}(hh:A.handled=Vp)(hx:h.get? a=Vo { cls:=.type "tuple",dict:=Vp,data:=.seq af c,slots:=sl })
 (hE:∀ h' tk e,LN h h' e (.ref a) "keys"->E (.ref e) ⟨h',g,d,tk,os⟩) :
 VQ (VR prog w) A (getAttrBy (.ref a) (.str "keys" tk) false) Q E ⟨h,g,d,t,os⟩:=by
 have hT:(⟨h,g,d,t,os⟩:VG).TypeIs (.ref a) "tuple":=⟨_,hx,rfl⟩;have f1:=LO;have f2:=F.slot_tuple_getattribute.lookup;have f3:=F.slot_tuple_getattribute.bind (.ref a);have f5:=Ywa;unfold getAttrBy
 repeat (any_goals (first | assumption | wp_step))
 refine LB F.slot_tuple_getattribute.plain F.entry_tuple_ga (F.slot_tuple_getattribute.check _ _ _ _ _ _ _ _ hT (F.args_tuple_getattribute_2 _ _) (Yxa hh hx λh' u5 e aF=>?_))
 obtain⟨t',u',he⟩:=aF.there;show VQ _ _ (LP _ _ _ _ _ _ _) _ _ _;unfold LP
 repeat (any_goals (first | assumption | wp_step))
 exact hE _ _ _ aF
theorem XAa{Q:Option Va->VG->Prop}(hh:A.handled=Vp)(hx:h.get? a=Vo { cls:=.type "tuple",dict:=Vp,data:=.seq af c,slots:=sl })
 (hQ:∀ h' tk,(∀ b u,h.get? b=Vo u->h'.get? b=Vo u)->Q Vp ⟨h',g,d,tk,os⟩):VQ (VR prog w) A (getAttr? (.ref a) "keys") Q E ⟨h,g,d,t,os⟩:=by
 unfold getAttr? getAttrBy?;refine V8 (wpAny_mkText ?_)
 refine V8 (Lj (Q8b hh hx λh' tk e aF=>?_))
 obtain⟨t',u',he⟩:=aF.there;have f1:=LO
 repeat (any_goals (first | assumption | wp_step))
 exact hQ _ _ aF.keeps
end
section
variable{prog:Vg}{w:Vb}{K:Type}[DecidableEq K]{knd:KeyKind prog w K}{A:VF}{E:YQ_}{s:VG}
theorem XBa{it l d:Vh}{vs:List Va}{kks:List (K×Va)}(hh:A.handled=Vp)(hl:kks.length=vs.length)(hb:vs.length<=1000)(aC:it≠d)(ol:l≠d)(om:l≠it) :
 ∀ (m i:Nat) (fJ:Tok) (s:VG) (R:UD->VG->Prop),m=vs.length - i->i<=vs.length->s.heap.IsTupleIter it l i->s.heap.IsTuple l vs.toArray->s.heap.DictOf knd d (OR [] (kks.take i))->(OR [] (kks.take i)).length<=i->JB knd s.heap vs kks ->
  (∀ h' tk,(∀ b o,b≠it->b≠d->s.heap.get? b=Vo o->h'.get? b=Vo o)->h'.DictOf knd d (OR [] kks)->R (.ok (.ret .none)) { s with heap:=h',toks:=tk }) ->
  UF (VR prog w) A (.builtin "dict.update.loop" ⟨[.ref d,.ref it,.int i fJ,.none],[]⟩) R s:=by
 intro m
 induction m with
 | zero =>
  intro i fJ s R hm hi hit fL hD _ hp hR;have e:i=vs.length:=by lia
  subst e;refine Lv Z0 ?_
  rw[Lw QU _];unfold O8.«dict.update.loop»;dsimp only;refine V8 (wpAny_pyNext_tuple_end hh hit fL #[2] λh' eb=>?_)
  dsimp only;rw[Ip #[0]]at hD
  show VQ _ _ (Builtin.Dict.addKeywords d [] >>= _) _ _ _;refine V8 (Ui (Ui (hR h' s.toks (λb o h1 h2 e=>eb b o h1 e) (hD.extBut eb (VN aC)))))
 | succ m ih =>
  intro i fJ s R hm hi hit fL hD lD hp hR;have bS:i < vs.length:=by lia
  obtain⟨k,x,jR⟩:∃ k x,kks[i]?=Vo (k,x):=⟨_,_,IA #[0]⟩
  obtain⟨t,key,ij,ht,dO⟩:=hp i k x jR;refine Lv Z0 ?_
  rw[Lw QU _];unfold O8.«dict.update.loop»;dsimp only;refine V8 (wpAny_pyNext_tuple_item hit fL (x:=.ref t) (by simpa using ij) λh' iq sb=>?_)
  dsimp only;obtain⟨ot,cf,cS,nt,cT⟩:=id ht;have ir:t≠it:=λz=>by
   obtain⟨oi,iu,iw,_⟩:=hit;rw[z,iu]at cf;cases cf;rw[iw]at cS;exact absurd (Lr cS) #[1]
  have u6:t≠d:=λz=>by
   obtain⟨od,_,_,ix,bu,_⟩:=hD;rw[z,ix]at cf;cases cf;have:=bu.1;rw[this]at cS;exact absurd (Lr cS) #[1]
  have dU:h'.get? t=Vo ot:=(sb.2 t ir).trans cf;have cj:h'.DictOf knd d (OR [] (kks.take i)):=hD.sameBut sb (VN aC);refine V8 (V9 (V8 (wpAny_tryCatch ?_)))
  unfold Builtin.Dict.pairItems;refine V8 (Lz (T:="tuple") ⟨_,dU,cS⟩ ?_)
  rw[if_pos #[1]]
  refine V8 (Lf dU cT (Ui ?_))
  show VQ _ _ (V1 [key,x] (dictSet d key x)) _ _ _;refine V9 (wpAny_dictSet_pairs dO cj (λh2 cE dg=>?_) (VI lD (VI (show i<=1000 by lia) (by rw[Ux];decide))))
  have et:OR [] (kks.take (i+1))=OI (OR [] (kks.take i)) k x:=by
   unfold OR;rw[Im,jR,foldl_append];rfl
  have keep:∀ b o,b≠it->b≠d->s.heap.get? b=Vo o->h2.get? b=Vo o:=λb o h1 h2 e=>(dg.2 b h2).trans ((sb.2 b h1).trans e)
  have bM:∀ t' af,Vt s.heap t' af->t'≠it/\t'≠d:=λt' af ⟨o',aS,bB,_⟩=>by
   constructor
   .intro z
    obtain⟨oi,iu,iw,_⟩:=hit;rw[z,iu]at aS;cases aS;rw[iw]at bB;exact absurd (Lr bB) #[1]
   .intro z
    obtain⟨od,_,_,ix,bu,_⟩:=hD;rw[z,ix]at aS;cases aS;rw[bu.1]at bB;exact absurd (Lr bB) #[1]
  refine Ui ⟨Lx QU _,?_⟩
  refine ih (i+1) _ _ R #[0] #[0] ?_ ?_ (by rw[et];exact cE) ?_ (hp.but (λb=>b≠it/\b≠d) bM λb o hb e=>keep b o hb.1 hb.2 e) λh3 tk gG jS=>?_
  .obtain⟨o,ho,r⟩:=iq
   exact⟨o,(dg.2 it aC).trans ho,r⟩
  .obtain⟨o,ho,r⟩:=fL
   exact⟨o,(dg.2 l ol).trans ((sb.2 l om).trans ho),r⟩
  .rw[et]
   unfold OI
   split
   .simp;lia
   .simp;lia
  .exact hR h3 tk (λb o h1 h2 e=>gG b o h1 h2 (keep b o h1 h2 e)) jS
theorem Qcc{R:UD->VG->Prop}{D l:Vh}{vs:List Va}{kks:List (K×Va)}{c:Nat}{sl:Array (Option Va)}(hh:A.handled=Vp)(ba:s.heap.DictOf knd D [])(hx:s.heap.get? l=Vo { cls:=.type "tuple",dict:=Vp,data:=.seq vs.toArray c,slots:=sl })(oq:l≠D)(hl:kks.length=vs.length)(hb:vs.length<=1000)(hp:JB knd s.heap vs kks)
 (hR:∀ h' tk,(∀ b o,b≠D->s.heap.get? b=Vo o->h'.get? b=Vo o)->h'.DictOf knd D (OR [] kks)->R (.ok (.ret .none)) { s with heap:=h',toks:=tk }) :
 VQ (VR prog w) A.in1 (O8.«dict.__init__» ⟨[.ref D,.ref l],[]⟩)
  (λfin s'=>match fin with | .done f=>R (.ok f) s' | .again c'=>c'.quiet=true/\UF (VR prog w) A c' R s') (λe s'=>R (.error e) s') s:=by
 unfold O8.«dict.__init__»;refine V8 ?_
 unfold Builtin.Dict.selfAndRest;refine V8 (wpAny_notOrdered_dict ba.typeIs ?_)
 show VQ _ _ (pure (D,[Vk l])) _ _ _;refine Ui ?_
 show VQ _ _ (LQ "dict.__init__" D (.ref l) [] .none) _ _ _;unfold LQ;refine V8 (Lz (T:="tuple") ⟨_,hx,rfl⟩ ?_)
 rw[if_pos #[1]]
 obtain⟨jT,g,dr,fJ,os⟩:=s;refine V8 (XAa (A:=A.in1) hh hx λh1 jU keep=>?_)
 rw[if_pos #[1]]
 refine V8 (Lg ?_)
 have iY:=keep l _ hx;have di:h1.IsTuple l vs.toArray:=⟨_,iY,rfl,c,rfl⟩;refine V8 (Uo (s:=⟨h1,g,dr,jU,os⟩) di ?_)
 have kp:∀ b o,jT.get? b=Vo o->(h1.push { cls:=.type "tuple_iterator",data:=.fields #[.ref l,.int 0 0] }).get? b=Vo o:=λb o e=>Uk _ (keep b o e)
 have cF:∀ b o,jT.get? b=Vo o->b < h1.objs.size:=λb o e=>Vx (keep b o e)
 have cE:(h1.push { cls:=.type "tuple_iterator",data:=.fields #[.ref l,.int 0 0] }).DictOf knd D []:=let ⟨o,es,ep,ho,r⟩:=ba;⟨o,es,ep,kp D o ho,r⟩
 have ou:D < h1.objs.size:=by obtain⟨o,_,_,ho,_⟩:=ba;exact cF D o ho
 refine Ui ⟨Lx QU _,?_⟩
 refine XBa (knd:=knd) (A:=A) (it:=h1.objs.size) (l:=l) (d:=D) (vs:=vs) (kks:=kks) hh hl hb (Ud ou) oq (VA (cF l _ hx)) vs.length 0 _ _ R #[0] (Us _) ⟨_,Ul _ rfl,rfl,rfl⟩ ⟨_,kp l _ hx,rfl,c,rfl⟩ cE (Us _) (hp.but (λ_=>True) (λ_ _ _=>trivial) λb o _ e=>kp b o e) λh' tk hk cj=>?_
 exact hR h' tk (λb o hb e=>hk b o (VA (cF b o e)) hb (kp b o e)) cj
theorem Qdc{Q:YQ_}{l:Vh}{vs:List Va}{kks:List (K×Va)}{c:Nat}{sl:Array (Option Va)}(hh:A.handled=Vp)(hx:s.heap.get? l=Vo { cls:=.type "tuple",dict:=Vp,data:=.seq vs.toArray c,slots:=sl })(hl:kks.length=vs.length)(hb:vs.length<=1000)(hp:JB knd s.heap vs kks)
 (h:∀ h' tk,(∀ b o,s.heap.get? b=Vo o->h'.get? b=Vo o)->h'.DictOf knd s.heap.objs.size (OR [] kks)->Q (.ref s.heap.objs.size) { s with heap:=h',toks:=tk }) :
 VQ (VR prog w) A (Ut (.type "dict") [.ref l]) Q E s:=by
 refine callType_codes (Q₁:=λobj s₁=>obj=.ref s.heap.objs.size/\s₁={ s with heap:=s.heap.push { cls:=.type "dict",data:=.dict #[] } }) F.kt_called_dict (F.kt_typeCall_dict_1 _) F.entry_dict_init (kt_code_dict_new _ ⟨rfl,rfl⟩) λobj s₁ h₁=>?_
 obtain⟨rfl,rfl⟩:=h₁;have ba:(s.heap.push { cls:=.type "dict",data:=.dict #[] }).DictOf knd s.heap.objs.size []:=Heap.DictOf.new s.heap;have ay:l < s.heap.objs.size:=Vx hx;refine⟨ba.typeIs,F.args_dict_init_2 _ _,Qcc (A:=A.in1) (knd:=knd) hh ba (Uk _ hx) (VA ay) hl hb (hp.but (λ_=>True) (λ_ _ _=>trivial) λb o _ e=>Uk _ e) λh' tk hk cj=>?_⟩
 exact⟨rfl,h h' tk (λb o e=>hk b o (VA (Vx e)) (Uk _ e)) cj⟩
end
def J0d:List V->Hp->VK->Prop:=λxs H Q=>∃ (p:Vh) (ys:List V) (kvs:List (Key×V)),xs=[.ref p]/\H p=Vo (.tup ys)/\ys.length<=1000/\Vm (λ(kv:Key×V) y=>∃ t,y=.ref t/\H t=Vo (.tup [kV kv.1,kv.2])) kvs ys/\∀ D,H D=Vp->Q (.ref D) (upd H D (.dK (JZ [] kvs)))
theorem Qpb{X:Cx}(hh:X.A.handled=Vp):Jt X (.type "dict") J0d:=by
 intro aa s σ H xs us Q I r h;obtain⟨p,ys,kvs,rfl,hp,lz,pr,q⟩:=h;obtain⟨u,rfl,ru⟩:=Ys r;obtain rfl:u=Vk p:=ru;obtain⟨⟨hz,o1,e1,d1⟩,af,rv,o,ho,hc,n,hd⟩:=(show QN X.prog X.w H s.heap p (.tup ys) from I.hok p _ hp)
 have d1:o.dict=Vp:=by rw[ho]at e1;cases e1;exact d1
 clear e1;obtain⟨oc,od,odt,ce⟩:=o;dsimp only at hc hd d1;subst hc hd d1;have hx:=ho;obtain⟨kks,kv,pa⟩:=Qnb I pr rv;have l1:=Vn pr;have l2:=rv.length;have l3:=kv.length;refine Qdc (knd:=QC X.prog X.w) hh hx #[0] #[0] pa λh' tk kp hD=>?_
 have fM:(JZ [] kvs).length<=Vs:=by
  have h1:=YY kvs [];rw[OG]at h1;rw[Ux];lia
 exact⟨.ref s.heap.objs.size,_,I.laid (a:=s.heap.objs.size) (o:=.dK (JZ [] kvs)) (t':=tk) kp (Um _) ⟨fM,beq_eq_false_iff_ne.mpr (VN (VA I.big)),_,kv.merge .nil,hD⟩,rfl,q _ (I.hok.fresh (Um _))⟩
theorem Jv{α β:Type}{F:α->β->Prop}:∀ {a:List α} {b:List β} {c:List α} {d:List β},Vm F a b->Vm F c d->Vm F (a++c) (b++d)
 | _,_,_,_,.nil,h=>h
 | _,_,_,_,.cons r t,h=>.cons r (Jv t h)
section
variable{X:Cx}{e:Expr}{te:TE}{p pos p2 fH:Pos}{aa:YP_}{σ:St}{H:Hp}{s:VG}
theorem QSd{j k:Nat}{x:Str}{ps:List Str}{sp:Sp}{q1 q2:Pos}(G:Cal X.prog X.w X.K X.mg X.base j x ps sp)(hr:Q1 k X.A)(hj:j<=k)(hg:Gl X x)(aN:(x == ("__debug__":Str))=false:=by decide):PE X (.Call (.Name x q1) [] [] q2) (Jsa sp [] E0 ZLa):=by
 obtain⟨f,fd,F,b,kp,m⟩:=G;exact JWc F (hr.mono hj) hg m kp b .nil ZEb aN
end
end L2
end
section
open L2 PySem
namespace Tr
section
variable{lv:V->Nat}{l:Int}
theorem Y9c{A B:List (List Dt)}{x:Dt}(h:B≠[]):step lv l (A++B) x=A++step lv l B x:=by
 obtain⟨ini,last,rfl⟩:=ZA h;unfold step
 by_cases c:l < lv (Qo x)
 .rw[if_pos (.inr c),if_pos (.inr c),IV]
 .rw[if_neg (λz=>z.elim (λz=>by simp at z) c),if_neg (λz=>z.elim (λz=>by simp at z) c)]
  rw[<- IV,LR,LR,getLast?_concat,getLast?_concat,IV]
theorem YSb{X Y:List Dt}(h:X=[]\/Y=[]\/l < lv (QM Y)):QW lv l (X++Y)=QW lv l X++QW lv l Y:=by
 rcases h with h | h | h
 .rw[h];rfl
 .rw[h,UV];unfold QW;simp
 .by_cases hY:Y=[]
  .rw[hY,UV];unfold QW;simp
  revert h hY
  refine Qqa (C:=λY=>l < lv (QM Y)->Y≠[]->QW lv l (X++Y)=QW lv l X++QW lv l Y) (λ_ z=>absurd rfl z) (λY x ih h _=>?_) Y
  rw[<- IV,Yq,Yq]
  by_cases e:Y=[]
  .subst e
   rw[UV];unfold step;rw[if_pos (.inr h),if_pos (.inl rfl)];rfl
  .rw[ih (by cases Y with | nil=>exact absurd rfl e | cons y r=>exact h) e,Y9c (Q9a e)]
theorem YTb{es:List Dt}{ae:List (List Dt)}(c:YK lv l es ae):QW lv l es=ae:=by
 revert es
 refine Qqa (C:=λae=>∀ {es:List Dt},YK lv l es ae->QW lv l es=ae) (λ{es} c=>?_) (λps p ih es c=>?_) ae
 .have:=c.flat;simp at this;rw[this];rfl
 have hp:=c.full p #[2]
 obtain⟨x,r,rfl⟩:∃ x r,p=x::r:=by cases p with | nil=>exact absurd rfl hp | cons x r=>exact⟨x,r,rfl⟩
 have c':YK lv l ps.flatten ps:=⟨rfl,λq hq=>c.full q (VO _ hq),λi y s hi e=>c.head i y s hi (by rw[Oe (List.getElem?_eq_some_iff.mp e).1];exact e),λy s hy=>c.rest y s (VO _ hy)⟩
 have fl:=c.flat;rw[LJ]at fl;simp at fl;rw[<- fl];have h1:ps.flatten=[]\/(x::r)=[]\/l < lv (QM (x::r)):=by
  by_cases e:ps=[]
  .exact .inl (by rw[e];rfl)
  .refine .inr (.inr ?_)
   exact c.head ps.length x r (length_pos_iff.mpr e) #[2]
 rw[YSb h1,ih c']
 congr 1
 have h2:∀ y∈r,(lv (Qo y):Int)<=l:=c.rest x r #[2]
 clear fl h1 c' hp c ih
 revert h2
 refine Qqa (C:=λr=>(∀ y∈r,(lv (Qo y):Int)<=l)->QW lv l (x::r)=[x::r]) (λ_=>?_) (λr y ih h=>?_) r
 .unfold QW step;simp
 .rw[show x::(r++[y])=(x::r)++[y] from rfl,Yq,ih λz hz=>h z (VO _ hz)]
  have:=h y #[2]
  unfold step;rw[if_neg (λz=>z.elim (λz=>by simp at z) λz=>by lia)]
  rfl
theorem YK.left{es:List Dt}{P Q:List (List Dt)}(c:YK lv l es (P++Q)):YK lv l P.flatten P:=⟨rfl,λq hq=>c.full q (VO _ hq),λi y s hi e=>c.head i y s hi (by rw[Oe (List.getElem?_eq_some_iff.mp e).1];exact e),λy s hy=>c.rest y s (VO _ hy)⟩
theorem YK.right{es:List Dt}{P Q:List (List Dt)}(c:YK lv l es (P++Q)):YK lv l Q.flatten Q:=⟨rfl,λq hq=>c.full q (Ur _ hq),λi y s hi e=>c.head (P.length+i) y s #[0] (by rw[Od #[0],Nat.add_sub_cancel_left];exact e),λy s hy=>c.rest y s (Ur _ hy)⟩
end
section
variable{tbl aE:List (Int×Dt)}{l:Int}
theorem QP.app{P P':List (List Dt)}{hs aQ:List Dt}(h:QP tbl l P hs)(h':QP tbl l P' aQ):QP tbl l (P++P') (hs++aQ):=by
 induction h with
 | nil=>exact h'
 | cons m _ ih=>exact .cons m ih
theorem QP.split:∀ {hs aQ:List Dt} {P:List (List Dt)},QP tbl l P (hs++aQ)->∃ P1 P2,P=P1++P2/\QP tbl l P1 hs/\QP tbl l P2 aQ
 | [],aQ,P,h=>⟨[],P,rfl,.nil,h⟩
 | x::hs,aQ,P,h=>by
  rw[LF]at h;generalize e:x::(hs++aQ)=q at h;cases h with
  | nil=>cases e
  | @cons part ae _ n m r =>
   injection e with e1 e2
   subst e1 e2;obtain⟨P1,P2,rfl,a,b⟩:=QP.split r;exact⟨part::P1,P2,rfl,.cons m a,b⟩
end
def Tow(lv:V->Nat)(tbl:List (Int×Dt)):Nat->List Dt->List Dt->Prop
 | 0,R,hs=>hs=R
 | l+1,R,hs=>∃ gs,Tow lv tbl l R gs/\QP tbl l (QW lv l gs) hs
section
variable{lv:V->Nat}{tbl aE:List (Int×Dt)}
theorem Tow.mono(s:∀ x∈tbl,x∈aE):∀ {l:Nat} {R hs:List Dt},Tow lv tbl l R hs->Tow lv aE l R hs
 | 0,_,_,h=>h
 | l+1,_,_,⟨gs,a,b⟩=>⟨gs,a.mono s,b.mono s⟩
theorem Tow.det(f:Fn tbl):∀ {l:Nat} {R hs aQ:List Dt},Tow lv tbl l R hs->Tow lv tbl l R aQ->hs=aQ
 | 0,_,_,_,h,h'=>h.trans h'.symm
 | l+1,_,_,_,⟨gs,a,b⟩,⟨gs',a',b'⟩=>by
  have:=Tow.det f a a';subst this;exact b.det f b'
theorem ZQb{P:List (List Dt)}{p:List Dt}(h:p≠[]):QM ((p::P).flatten)=QM p:=by
 cases p with
 | nil=>exact absurd rfl h
 | cons x r=>rfl
theorem Tow.fst:∀ {l:Nat} {R hs:List Dt},Tow lv tbl l R hs->(R=[]↔hs=[])/\QM hs=QM R
 | 0,_,_,h=>by rw[show _=_ from h];exact⟨Iff.rfl,rfl⟩
 | l+1,R,hs,⟨gs,a,b⟩=>by
  obtain⟨h1,h2⟩:=a.fst;have c:=JA (lv:=lv) (l:Int) gs;generalize QW lv l gs=P at b c;cases b with
  | nil =>
   have:=c.flat;simp at this;subst this;exact⟨⟨λ_=>rfl,λ_=>h1.mpr rfl⟩,h2⟩
  | @cons part ae hs n m r =>
   have fu:=c.full part #[2]
   have fl:=c.flat;refine⟨⟨λe=>?_,λe=>by cases e⟩,?_⟩
   .rw[h1.mp e]at fl
    simp at fl;exact absurd fl.1 fu
   .rw[<- h2,<- fl,ZQb fu];rfl
theorem Tow.ne{l:Nat}{R hs:List Dt}(h:Tow lv tbl l R hs)(n:R≠[]):hs≠[]:=λz=>n (h.fst.1.mpr z)
theorem Tow.ne'{l:Nat}{R hs:List Dt}(h:Tow lv tbl l R hs)(n:hs≠[]):R≠[]:=λz=>n (h.fst.1.mp z)
theorem Tow.app:∀ {l:Nat} {A B a b:List Dt},Tow lv tbl l A a->Tow lv tbl l B b->(A=[]\/B=[]\/l<=lv (QM B))->Tow lv tbl l (A++B) (a++b)
 | 0,_,_,_,_,ha,hb,_=>by rw[show _=_ from ha,show _=_ from hb];rfl
 | l+1,A,B,_,_,⟨ga,a1,a2⟩,⟨gb,b1,b2⟩,h=>by
  refine⟨ga++gb,a1.app b1 (h.imp_right λz=>z.imp_right λz=>by lia),?_⟩
  rw[YSb]
  .exact a2.app b2
  .rcases h with h | h | h
   .exact .inl (a1.fst.1.mp h)
   .exact .inr (.inl (b1.fst.1.mp h))
   .refine .inr (.inr ?_);rw[b1.fst.2];lia
theorem Tow.split:∀ {l:Nat} {R a b:List Dt},Tow lv tbl l R (a++b)->∃ A B,R=A++B/\Tow lv tbl l A a/\Tow lv tbl l B b/\(a=[]\/b=[]\/l<=lv (QM B))
 | 0,R,a,b,h=>⟨a,b,(show _=R from h).symm,rfl,rfl,.inr (.inr (Us _))⟩
 | l+1,R,a,b,⟨gs,h1,h2⟩=>by
  obtain⟨P,Q,e,hP,hQ⟩:=h2.split;have c:=JA (lv:=lv) (l:Int) gs;rw[e]at c;have eg:gs=P.flatten++Q.flatten:=by rw[<- LJ];exact c.flat.symm
  rw[eg]at h1;obtain⟨A,B,eR,tA,tB,hc⟩:=h1.split;refine⟨A,B,eR,⟨_,tA,by rw[YTb c.left];exact hP⟩,⟨_,tB,by rw[YTb c.right];exact hQ⟩,?_⟩
  by_cases ea:a=[]
  .exact .inl ea
  by_cases eb:b=[]
  .exact .inr (.inl eb)
  refine .inr (.inr ?_)
  rw[<- tB.fst.2];cases hQ with
  | nil=>exact absurd rfl eb
  | @cons part ae hs n m r =>
   have fu:=c.full part #[2]
   rw[ZQb fu];have hp:0 < P.length:=by rw[<- hP.length];exact length_pos_iff.mpr ea
   obtain⟨x,s,rfl⟩:∃ x s,part=x::s:=by cases part with | nil=>exact absurd rfl fu | cons x s=>exact⟨x,s,rfl⟩
   have:=c.head P.length x s hp #[2]
   show l+1<=lv (Qo x)
   lia
theorem Tow.one{l:Nat}{R:List Dt}{h:Dt}(t:Tow lv tbl (l+1) R [h]):∃ n part,h=Zt (QM R) n/\(n,Q8 (l:Int) part)∈tbl/\Tow lv tbl l R part/\QW lv l part=[part]:=by
 obtain⟨gs,a,b⟩:=t;have c:=JA (lv:=lv) (l:Int) gs;generalize e:QW lv l gs=P at b c;cases b with
 | @cons part ae hs n m r =>
  cases r;have fl:=c.flat;simp at fl;subst fl;exact⟨n,part,by rw[a.fst.2],m,a,e⟩
theorem Yx.tow{rows:List Dt}{top:Nat}{L:Nat->List Dt}(c:Yx lv tbl rows top L):∀ j,j<=top+1->Tow lv tbl j rows (L j):=by
 intro j
 induction j with
 | zero=>intro _;exact c.low
 | succ j ih=>intro h;exact⟨L j,ih #[0],c.up j #[0]⟩
inductive Zqd(lv:V->Nat)(tbl:List (Int×Dt))(l:Nat)(R a b:List Dt)(h:Dt):Prop
 | mk (A M B:List Dt) (n:Int) (part:List Dt) (e:R=A++(M++B)) (tA:Tow lv tbl (l+1) A a) (tM:Tow lv tbl (l+1) M [h]) (tB:Tow lv tbl (l+1) B b) (eh:h=Zt (QM M) n) (hm:(n,Q8 (l:Int) part)∈tbl) (tp:Tow lv tbl l M part) (hM:M≠[]) (c1:A=[]\/l+1<=lv (QM M)) (c2:B=[]\/l+1<=lv (QM B)):Zqd lv tbl l R a b h
theorem Tow.at_{l:Nat}{R a b:List Dt}{h:Dt}(t:Tow lv tbl (l+1) R (a++h::b)):Zqd lv tbl l R a b h:=by
 obtain⟨A,N,e,tA,tN,h1⟩:=t.split;obtain⟨M,B,e2,tM,tB,h2⟩:=(show Tow lv tbl (l+1) N ([h]++b) from tN).split
 obtain⟨n,part,eh,hm,tp,_⟩:=tM.one;have hM:M≠[]:=tM.ne' #[2]
 refine⟨A,M,B,n,part,by rw[e,e2],tA,tM,tB,eh,hm,tp,hM,?_,?_⟩
 .rcases h1 with z | z | z
  .exact .inl (tA.fst.1.mpr z)
  .cases z
  .refine .inr ?_
   rw[e2]at z;cases M with
   | nil=>exact absurd rfl hM
   | cons x r=>exact z
 .rcases h2 with z | z | z
  .cases z
  .exact .inl (tB.fst.1.mpr z)
  .exact .inr z
theorem Tow.mid{l:Nat}{A M B a m b:List Dt}(tA:Tow lv tbl (l+1) A a)(tM:Tow lv tbl (l+1) M m)(tB:Tow lv tbl (l+1) B b)(h1:A=[]\/M=[]\/l+1<=lv (QM M))(h2:B=[]\/l+1<=lv (QM B)):Tow lv tbl (l+1) (A++(M++B)) (a++(m++b)):=by
 refine tA.app (tM.app tB (.inr h2)) ?_
 rcases h1 with z | z | z
 .exact .inl z
 .subst z;exact .inr h2
 .by_cases e:M=[]
  .subst e;exact .inr h2
  .refine .inr (.inr ?_)
   cases M with
   | nil=>exact absurd rfl e
   | cons x r=>exact z
theorem Tow.up{l:Nat}{R gs hs:List Dt}(t:Tow lv tbl l R gs)(h:QP tbl l (QW lv l gs) hs):Tow lv tbl (l+1) R hs:=⟨gs,t,h⟩
theorem Zfc{es:List Dt}{l:Int}:(QW lv l es).length<=es.length:=by
 have c:=JA (lv:=lv) l es;have fu:=c.full;have fl:=c.flat;generalize QW lv l es=P at fu fl;rw[<- fl];clear fl c
 induction P with
 | nil=>simp
 | cons p r ih =>
  have h1:=fu p #[2]
  have h2:0 < p.length:=length_pos_iff.mpr h1;have:=ih λq hq=>fu q (VM _ hq)
  rw[LK,Oh,UC];lia
theorem Tow.len{l:Nat}{R gs hs:List Dt}(t:Tow lv tbl l R gs)(h:QP tbl l (QW lv l gs) hs):hs.length<=gs.length:=by
 rw[h.length];exact Zfc
theorem Tow.len0:∀ {l:Nat} {R hs:List Dt},Tow lv tbl l R hs->hs.length<=R.length
 | 0,_,_,h=>by rw[show _=_ from h];exact Um _
 | l+1,_,_,⟨gs,a,b⟩=>VI (a.len b) a.len0
end
section
variable(lt:V->V->Prop)
def Y0(k:V)(row:Dt)(R R':List Dt):Prop:=∃ A C,R'=A++row::C/\(R=A++C\/∃ o,R=A++o::C/\Qo o=k)/\(∀ a∈A,lt (Qo a) k)/\∀ c∈C,lt k (Qo c)
def ZTa(k:V)(R R':List Dt):Prop:=∃ A o C,R=A++o::C/\R'=A++C/\Qo o=k
def UpR(R:List Dt):Prop:=R.Pairwise λa b=>lt (Qo a) (Qo b)
variable{lt}
theorem Y0.mid{k:V}{row:Dt}{A M M' B:List Dt}(h:Y0 lt k row M M')(hA:∀ a∈A,lt (Qo a) k)(hB:∀ b∈B,lt k (Qo b)):Y0 lt k row (A++(M++B)) (A++(M'++B)):=by
 obtain⟨X,Y,e,e2,h1,h2⟩:=h;refine⟨A++X,Y++B,by rw[e];simp,?_,λa ha=>?_,λc hc=>?_⟩
 .rcases e2 with e2 | ⟨o,e2,ho⟩
  .left;rw[e2];simp
  .right;exact⟨o,by rw[e2];simp,ho⟩
 .exact(mem_append.mp ha).elim (hA a) (h1 a)
 .exact(mem_append.mp hc).elim (h2 c) (hB c)
theorem ZTa.mid{k:V}{A M M' B:List Dt}(h:ZTa k M M'):ZTa k (A++(M++B)) (A++(M'++B)):=by
 obtain⟨X,o,Y,e,e2,h1⟩:=h;exact⟨A++X,o,Y++B,by rw[e];simp,by rw[e2];simp,h1⟩
theorem UpR.left{A B:List Dt}(h:UpR lt (A++B)):UpR lt A:=(pairwise_append.mp h).1
theorem UpR.right{A B:List Dt}(h:UpR lt (A++B)):UpR lt B:=(pairwise_append.mp h).2.1
theorem UpR.across{A B:List Dt}(h:UpR lt (A++B)){a b:Dt}(ha:a∈A)(hb:b∈B):lt (Qo a) (Qo b):=(pairwise_append.mp h).2.2 a ha b hb
theorem Qra{R:List Dt}(h:R≠[]):∃ x∈R,Qo x=QM R:=by
 cases R with
 | nil=>exact absurd rfl h
 | cons x r=>exact⟨x,by simp,rfl⟩
theorem UpR.ahead{A M:List Dt}{k:V}(h:UpR lt (A++M))(hM:M≠[])(tr:∀ {a b c},lt a b->lt b c->lt a c)(le:lt (QM M) k\/QM M=k):∀ a∈A,lt (Qo a) k:=λa ha=>by
 obtain⟨x,hx,e⟩:=Qra hM;have:=h.across ha hx;rw[e]at this
 rcases le with le | le
 .exact tr this le
 .rw[<- le];exact this
theorem UpR.behind{M B:List Dt}{k:V}(h:UpR lt (M++B))(tr:∀ {a b c},lt a b->lt b c->lt a c)(le:B=[]\/lt k (QM B)):∀ b∈B,lt k (Qo b):=λb hb=>by
 rcases le with le | le
 .subst le;cases hb
 .have u:=h.right
  cases B with
  | nil=>cases hb
  | cons x r =>
   rcases mem_cons.mp hb with e | e
   .rw[e];exact le
   .exact tr le ((pairwise_cons.mp u).1 b e)
theorem Y0.fst{k:V}{row:Dt}{R R':List Dt}(h:Y0 lt k row R R')(irr:∀ a,¬ lt a a)(tr:∀ {a b c},lt a b->lt b c->lt a c)(hk:Qo row=k)(hR:R≠[])(le:lt (QM R) k\/QM R=k):QM R'=QM R:=by
 obtain⟨A,C,e,e2,h1,h2⟩:=h;cases A with
 | cons x r =>
  rw[e]
  rcases e2 with e2 | ⟨o,e2,ho⟩
  .rw[e2];rfl
  .rw[e2];rfl
 | nil =>
  rw[e];show Qo row=_;rw[hk]
  rcases e2 with e2 | ⟨o,e2,ho⟩
  .exfalso
   rw[LC]at e2;subst e2;obtain⟨x,hx,ex⟩:=Qra hR;have:=h2 x hx;rw[ex]at this
   rcases le with le | le
   .exact irr _ (tr this le)
   .rw[le]at this;exact irr _ this
  .rw[e2];exact ho.symm
theorem ZTa.fst{k:V}{R R':List Dt}(h:ZTa k R R')(hf:QM R≠k):QM R'=QM R/\R'≠[]:=by
 obtain⟨A,o,C,e,e2,h1⟩:=h;cases A with
 | cons x r=>rw[e,e2];exact⟨rfl,by simp⟩
 | nil=>exact absurd (by rw[e];exact h1) hf
theorem ZTa.up{k:V}{R R':List Dt}(h:ZTa k R R')(u:UpR lt R):UpR lt R':=by
 obtain⟨A,o,C,e,e2,h1⟩:=h;rw[e]at u;rw[e2];exact u.sublist (LS (LU _ _) _)
theorem Y0.mem{k:V}{row:Dt}{R R':List Dt}(h:Y0 lt k row R R')(irr:∀ a,¬ lt a a)(x:Dt):x∈R'↔x=row\/(x∈R/\Qo x≠k):=by
 obtain⟨A,C,e,e2,h1,h2⟩:=h;have ne:∀ y,y∈A\/y∈C->Qo y≠k:=λy hy z=>by
  rcases hy with hy | hy
  .have:=h1 y hy;rw[z]at this;exact irr _ this
  .have:=h2 y hy;rw[z]at this;exact irr _ this
 rw[e]
 constructor
 .intro h
  rcases mem_append.mp h with h | h
  .refine .inr ⟨?_,ne x (.inl h)⟩
   rcases e2 with e2 | ⟨o,e2,_⟩ <;> rw[e2] <;> simp[h]
  .rcases mem_cons.mp h with h | h
   .exact .inl h
   .refine .inr ⟨?_,ne x (.inr h)⟩
    rcases e2 with e2 | ⟨o,e2,_⟩ <;> rw[e2] <;> simp[h]
 .rintro(h | ⟨h,hk⟩)
  .simp[h]
  .rcases e2 with e2 | ⟨o,e2,ho⟩
   .rw[e2]at h
    rcases mem_append.mp h with h | h <;> simp[h]
   .rw[e2]at h
    rcases mem_append.mp h with h | h
    .simp[h]
    .rcases mem_cons.mp h with h | h
     .rw[h]at hk;exact absurd ho hk
     .simp[h]
theorem ZTa.mem{k:V}{R R':List Dt}(h:ZTa k R R')(u:UpR lt R)(irr:∀ a,¬ lt a a)(x:Dt):x∈R'↔x∈R/\Qo x≠k:=by
 obtain⟨A,o,C,e,e2,h1⟩:=h;rw[e]at u ⊢;rw[e2];have hA:∀ a∈A,Qo a≠k:=λa ha z=>by
  have:=u.across ha (VL (a:=o) (l:=C));rw[z,h1]at this;exact irr _ this
 have hC:∀ c∈C,Qo c≠k:=λc hc z=>by
  have:=(pairwise_cons.mp u.right).1 c hc;rw[z,h1]at this;exact irr _ this
 constructor
 .intro h
  rcases mem_append.mp h with h | h
  .exact⟨by simp[h],hA x h⟩
  .exact⟨by simp[h],hC x h⟩
 .rintro⟨h,hk⟩
  rcases mem_append.mp h with h | h
  .simp[h]
  .rcases mem_cons.mp h with h | h
   .rw[h]at hk;exact absurd h1 hk
   .simp[h]
end
section
variable{lv:V->Nat}{tbl:List (Int×Dt)}
structure XCa(lv:V->Nat)(tbl:List (Int×Dt))(R:List Dt)(top:Nat)(n:Int):Prop where
 one:∃ k,Tow lv tbl (top+1) R [Zt k n]
 two:∀ j hs,1<=j->j<=top->Tow lv tbl j R hs->1 < hs.length
theorem Yx.toRoot{rows:List Dt}{top:Nat}{L:Nat->List Dt}{k:V}{n:Int}(f:Fn tbl)(c:Yx lv tbl rows top L)(e:L (top+1)=[Zt k n]):XCa lv tbl rows top n :=
 ⟨⟨k,by have:=c.tow (top+1) (Um _);rw[e]at this;exact this⟩,λj hs h1 h2 t=>by rw[t.det f (c.tow j #[0])];exact c.two j h1 h2⟩
theorem Tow.levels:∀ {l:Nat} {R hs:List Dt},Tow lv tbl l R hs->∃ L:Nat->List Dt,L 0=R/\L l=hs/\∀ j,j < l->QP tbl j (QW lv j (L j)) (L (j+1))
 | 0,R,hs,h=>⟨λ_=>R,rfl,(show hs=R from h).symm,λj hj=>by lia⟩
 | l+1,R,hs,⟨gs,a,b⟩=>by
  obtain⟨L,h0,h1,h2⟩:=a.levels;refine⟨λj=>if j=l+1 then hs else L j,(if_neg #[0]).trans h0,if_pos rfl,λj hj=>?_⟩
  show QP tbl j (QW lv j (if j=l+1 then hs else L j)) (if j+1=l+1 then hs else L (j+1))
  rw[if_neg #[0]]
  by_cases e:j=l
  .subst e;rw[if_pos rfl,h1];exact b
  .rw[if_neg #[0]];exact h2 j #[0]
theorem Xp{l:Nat}{R:List Dt}{L:Nat->List Dt}(h0:L 0=R)(h:∀ j,j < l->QP tbl j (QW lv j (L j)) (L (j+1))):∀ j,j<=l->Tow lv tbl j R (L j):=by
 intro j
 induction j with
 | zero=>intro _;exact h0
 | succ j ih=>intro hj;exact⟨L j,ih #[0],h j #[0]⟩
theorem XCa.chain{R:List Dt}{top:Nat}{n:Int}(r:XCa lv tbl R top n):∃ L k,Yx lv tbl R top L/\L (top+1)=[Zt k n]:=by
 obtain⟨k,t⟩:=r.one;obtain⟨L,h0,h1,h2⟩:=t.levels;exact⟨L,k,⟨h0,λj hj=>h2 j #[0],by rw[h1];rfl,λj fC dB=>r.two j _ fC dB (Xp h0 h2 j #[0])⟩,h1⟩
theorem XCa.page{R:List Dt}{top:Nat}{n:Int}(r:XCa lv tbl R top n):∃ part,(n,Q8 (top:Int) part)∈tbl/\Tow lv tbl top R part/\QW lv top part=[part]/\R≠[]:=by
 obtain⟨k,t⟩:=r.one;obtain⟨n',part,e,hm,tp,hc⟩:=t.one;obtain⟨_,rfl⟩:=YPb e;exact⟨part,hm,tp,hc,t.ne' #[2]⟩
end
section
variable{lv:V->Nat}{tbl:List (Int×Dt)}
theorem YUb{l:Int}{e:Dt}:∀ (r:List Dt),(QW lv l (e::r)).map QM=Qo e::(r.map Qo).filter λk=>decide (l < lv k):=by
 refine Qqa rfl λr x ih=>?_
 rw[show e::(r++[x])=(e::r)++[x] from rfl,Yq]
 have c:=JA (lv:=lv) l (e::r);have aC:=Q9a (lv:=lv) (l:=l) (es:=e::r) #[2]
 generalize QW lv l (e::r)=P at ih c aC;obtain⟨ini,last,rfl⟩:=ZA aC;unfold step
 by_cases h:l < lv (Qo x)
 .rw[if_pos (.inr h),Il,ih,Il,IU]
  simp[h,QM]
 .rw[if_neg (λz=>z.elim (λz=>by simp at z) h),LR,getLast?_concat,Option.getD_some]
  rw[Il]at ih ⊢;have fu:=c.full last #[2]
  have e1:QM (last++[x])=QM last:=by cases last with | nil=>exact absurd rfl fu | cons y s=>rfl
  rw[UI,e1,Dx];rw[UI,Dx]at ih;rw[ih,Il,IU];simp[h]
theorem Tow.keys:∀ {l:Nat} {e:Dt} {r hs:List Dt},Tow lv tbl (l+1) (e::r) hs->hs.map Qo=Qo e::(r.map Qo).filter λk=>decide (l < lv k)
 | 0,e,r,hs,⟨gs,a,b⟩=>by
  rw[show gs=_ from a]at b
  rw[b.keys,YUb]
  congr 1
  exact LV λk _=>by simp
 | l+1,e,r,hs,⟨gs,a,b⟩=>by
  have ih:=Tow.keys a;rw[b.keys];cases gs with
  | nil=>cases ih
  | cons g gr =>
   rw[UI]at ih;injection ih with i1 i2
   rw[YUb,i1,i2,filter_filter]
   congr 1
   refine LV λk _=>?_
   rw[<- Bool.decide_and];exact decide_eq_decide.mpr #[0]
theorem Tow.many{l:Nat}{R hs:List Dt}(h:Tow lv tbl (l+1) R hs)(hR:R≠[]):hs.length=1+(((R.map Qo).tail).filter λk=>decide (l < lv k)).length:=by
 cases R with
 | nil=>exact absurd rfl hR
 | cons e r =>
  have:=congrArg Oa h.keys;rw[UK,UC]at this;rw[this,Nat.add_comm];rfl
theorem Tow.more{l:Nat}{R R' hs aQ:List Dt}{aE:List (Int×Dt)}(h:Tow lv tbl (l+1) R hs)(h':Tow lv aE (l+1) R' aQ)(hR:R≠[])(s:(R.map Qo).Sublist (R'.map Qo)):hs.length<=aQ.length:=by
 have mq:R'≠[]:=λz=>by
  rw[z]at s;have:=sublist_nil.mp s;exact hR (map_eq_nil_iff.mp this)
 rw[h.many hR,h'.many mq];have:=((s.tail).filter λk=>decide (l < lv k)).length_le
 lia
variable{lt:V->V->Prop}
theorem Y0.sub{k:V}{row:Dt}{R R':List Dt}(h:Y0 lt k row R R')(hk:Qo row=k):(R.map Qo).Sublist (R'.map Qo):=by
 obtain⟨A,C,e,e2,h1,h2⟩:=h;rw[e]
 rcases e2 with e2 | ⟨o,e2,ho⟩
 .rw[e2,Il,Il]
  exact LS (by rw[UI];exact LU _ _) _
 .rw[e2,Il,Il,UI,UI,ho,hk]
  exact List.Sublist.refl _
theorem ZTa.sub{k:V}{R R':List Dt}(h:ZTa k R R'):(R'.map Qo).Sublist (R.map Qo):=by
 obtain⟨A,o,C,e,e2,h1⟩:=h;rw[e,e2,Il,Il,UI];exact LS (LU _ _) _
theorem Tow.single{l:Nat}{R R' hs aQ:List Dt}{aE:List (Int×Dt)}(h:Tow lv tbl (l+1) R hs)(h':Tow lv aE (l+1) R' aQ)(h1:hs.length=1)(mq:R'≠[])(s:(R'.map Qo).Sublist (R.map Qo)):∃ k n,aQ=[Zt k n]:=by
 have:=h'.more h mq s;have hn:=h'.ne mq;cases aQ with
 | nil=>exact absurd rfl hn
 | cons x r =>
  cases r with
  | nil =>
   obtain⟨n,part,e,_⟩:=h'.one;exact⟨_,n,by rw[e]⟩
  | cons y s=>simp at this;lia
theorem Tow.down{i j:Nat}{R hs gs:List Dt}(f:Fn tbl)(hj:Tow lv tbl j R hs)(hi:Tow lv tbl i R gs)(h:i<=j):hs.length<=gs.length:=by
 obtain⟨L,h0,h1,h2⟩:=hj.levels;have key:∀ d,d<=j - i->(L (i+d)).length<=(L i).length:=by
  intro d
  induction d with
  | zero=>intro _;exact Um _
  | succ d ih =>
   intro hd;have u:=h2 (i+d) #[0]
   have:=ih #[0]
   have c:=Zfc (lv:=lv) (es:=L (i+d)) (l:=((i+d:Nat):Int));rw[<- u.length]at c;rw[<- Nat.add_assoc];lia
 have e:=(Xp h0 h2 i h).det f hi;have k:=key (j - i) (Um _);rw[show i+(j - i)=j by lia,h1,e]at k
 exact k
theorem XCa.of_two{R part:List Dt}{j:Nat}{k:V}{n:Int}(f:Fn tbl)(t:Tow lv tbl (j+1) R [Zt k n])(tp:Tow lv tbl j R part)(h:j=0\/1 < part.length):XCa lv tbl R j n :=
 ⟨⟨k,t⟩,λi hs h1 h2 ti=>by
  rcases h with h | h
  .lia
  .have:=tp.down f ti h2;lia⟩
end
section
variable(lt:V->V->Prop)(tbl:List (Int×Dt))(k:V)
inductive Way:Int->List Int->Prop
 | leaf {n:Int} {part:List Dt} (h:(n,Q8 0 part)∈tbl):Way n [n]
 | stop {n:Int} {l:Nat} {part:List Dt} (h:(n,Q8 ((l+1:Nat):Int) part)∈tbl) (a:∀ x∈part,lt k (Qo x)):Way n [n]
 | go {n n':Int} {l:Nat} {a b:List Dt} {k':V} {w:List Int} (h:(n,Q8 ((l+1:Nat):Int) (a++Zt k' n'::b))∈tbl) (h1:¬ lt k k') (h2:∀ x∈b,lt k (Qo x)) (r:Way n' w):Way n (n::w)
end
end Tr
end
section
namespace L2
open PySem PySem.Spec PyProof.Rows PySem.W
section
variable{prog:Vg}{w:Vb}{A:VF}{E:YQ_}{s:VG}{κ:Iy}{ks vs:List Va}{r:Nat->Nat}
theorem ZRb(hl:ks.length=vs.length)(h2:2<=vs.length)(dW:vs.length < 64)(hc:∀ i j (C:Bool->VG->Prop),i < vs.length->j < vs.length->C (decide (r i < r j)) s->kas_ask prog w A κ ks i j C s) :
 VQ (VR prog w) A (sortRuns'.run (SortSt.mk' κ (ks.toArray.zip vs.toArray) #[] 7 Vp)) (λx s'=>∃ p:Array Nat,arrOf x.2=p.map (kas_item (ks.toArray.zip vs.toArray))/\IG x.2=Vp/\s'=s/\SortT.Ok vs.length p/\SortT.Up r p vs.length) E s:=by
 refine kat_run (Q:=λag s'=>∃ p:Array Nat,arrOf ag=p.map (kas_item (ks.toArray.zip vs.toArray))/\IG ag=Vp/\s'=s/\SortT.Ok vs.length p/\SortT.Up r p vs.length)
  (G:=λp s'=>s'=s/\SortT.Ok vs.length p/\SortT.Up r p vs.length) hl h2 dW (λp ag s' a1 a2 a3 a4=>⟨p,a2,a3,a4⟩) ?_
 refine SortT.Q1c (n:=vs.length) (r:=r) (I:=λs'=>s'=s) (λi j C s' hi hj es hC=>?_) _ s rfl (SortT.Zl (λp hp s' es=>⟨es,hp⟩) _ (SortT.QFd #[0]))
 subst es;exact hc i j C hi hj (hC s' rfl)
end
def Zgc(K:VC):List V->Hp->VK->Prop:=λvs H Q=>∃ a xs lt,vs=[.ref a]/\SqL K H a xs/\xs.length < 64/\YLc xs lt /\
 ∀ D H' ys,Qf H H'->H D=Vp->H' D=Vo (.lst ys)->ys.Perm xs->ys.Pairwise (λa b=>lt b a=false)->Q (.ref D) H'
def Xac:List V->Hp->VK->Prop:=λxs H Q=>∃ d kvs,xs=[.ref d]/\H d=Vo (.dK kvs)/\kvs.length<=1000/\∀ D,H D=Vp->Q (.ref D) (upd H D (.dK kvs))
theorem Xq{X:Cx}:Jt X (.type "dict") Xac:=by
 intro aa s σ H xs us Q I r h;obtain⟨p,kvs,rfl,hp,lz,q⟩:=h;obtain⟨u,rfl,ru⟩:=Ys r;obtain rfl:u=Vk p:=ru;obtain⟨hz,hn,kks,kv,hD⟩:=(show QN X.prog X.w H s.heap p (.dK kvs) from I.hok p _ hp)
 have l3:=kv.length;refine kt_call_dict hn hD (by rw[<- l3];exact hz) λh' hm hs=>?_
 have kp:∀ b o,s.heap.get? b=Vo o->h'.get? b=Vo o:=λb o e=>(hs.2 b (VA (Vx e))).trans (Uk _ e)
 exact⟨.ref s.heap.objs.size,_,I.laid (a:=s.heap.objs.size) (o:=.dK kvs) (t':=s.toks) kp (Um _) ⟨hz,beq_eq_false_iff_ne.mpr (VN (VA I.big)),_,kv,hm⟩,rfl,q _ (I.hok.fresh (Um _))⟩
end L2
end
section
namespace L2
open PySem PySem.W PyProof.Rows
theorem Zhc{A:VF}{s:VG}{kb:List (Key×Va)}:∀ {kvs:List (Key×V)} {xs:List (Key×Va)},KV kvs xs->(∀ p∈kvs,Jd p.2=true)->(∀ p∈kvs,∃ y,OH kb p.1=Vo y/\Qt p.2 y)->KeqHits A s kb xs true
 | _,_,.nil,_,_=>.nil
 | _,_,.cons (a:=p) (b:=q) ⟨e,r⟩ t,f,h=>by
  obtain⟨y,hy,ry⟩:=h p VL;rw[e]at hy;have x:=Yna (A:=A) (s:=s) r ry (f p VL) (f p VL);rw[Yvb (f p VL)]at x;exact KeqHits.hit hy x (Zhc t (λp hp=>f p (VM _ hp)) λp hp=>h p (VM _ hp))
theorem Jec{kvs:List (Key×V)}(nd:(kvs.map LW).Nodup){p:Key×V}(hp:p∈kvs):Q7 kvs p.1=Vo p.2:=by
 induction kvs with
 | nil=>cases hp
 | cons x r ih =>
  rw[UI]at nd;obtain⟨n1,n2⟩:=nodup_cons.mp nd
  rcases mem_cons.mp hp with rfl | hp
  .exact Qia rfl
  .rw[Qja λe=>n1 (by rw[e];exact mem_map.mpr ⟨p,hp,rfl⟩)]
   exact ih n2 hp
end L2
end
section
namespace L2
open PySem PySem.Spec PyProof.Rows
theorem Yya{K:VC}{a:Vh}(xs:List V){te:TE}{σ:St}{H1:Hp}{Q:VK}(P:Hp->Nat->V->Prop)(mono:∀ H H' i v,Yu H H'->P H i v->P H' i v)(hx:SqL K H1 a xs)(hz:xs.length<=Vs)
 (he:∀ i x H2 (R:VK),xs[i]?=Vo x->Qf H1 H2->(∀ v H3,P H3 i v->Qf H2 H3->R v H3)->te (Vo x::σ) H2 R)
 (hq:∀ D H2 ys,H1 D=Vp->Qf H1 H2->H2 D=Vo (.lst ys)->ys.length=xs.length->(∀ i y,ys[i]?=Vo y->P H2 i y)->Q (.ref D) H2):LcR (Itl K a) JAa te σ Q H1:=by
 intro D hD;refine⟨λi m ys H2=>m=xs.length - i/\i<=xs.length/\ys.length=i/\H2 D=Vo (.lst ys)/\Qf H1 H2/\∀ j y,ys[j]?=Vo y->P H2 j y,⟨_,rfl,Us _,rfl,Qa,Qb hD _,λj y h=>by simp at h⟩,?_⟩
 rintro i m ys H2 ⟨rfl,hi,hl,hd,sm,hp⟩;refine⟨hd,?_⟩
 by_cases ay:i < xs.length
 .refine .inr ⟨⟨xs,xs[i],sm.seq hx,by simp[ay]⟩,by lia,λx H' y=>?_⟩
  obtain⟨e,aF⟩:=y;subst e;have gF:=aF xs (sm.seq hx);unfold JAa;refine Qud ?_
  refine he i x _ _ gF sm λv H3 pv s3=>⟨s3 _ _ hd,xs.length - (i+1),by lia,rfl,ay,by rw[Oh,hl];rfl,Qa,(sm.trans s3).updL hD _,λj y h=>?_⟩
  have st:=Xd (zs:=ys++[v]) (s3 _ _ hd)
  by_cases hj:j < ys.length
  .rw[Oe hj]at h
   exact mono _ _ _ _ (s3.l.trans st) (hp j y h)
  .rw[Od #[0]]at h
   have dB:j=i:=by
    have:=(List.getElem?_eq_some_iff.mp h).1
    simp at this
    lia
   subst dB;rw[hl]at h;simp at h;subst h;exact mono _ _ _ _ st pv
 .have e:i=xs.length:=by lia
  subst e;exact .inl ⟨⟨xs,sm.seq hx,Um _⟩,hq D H2 ys hD sm hd hl hp⟩
section
variable{X:Cx}{e:Expr}{es:List Expr}{t:TA}{p pos:Pos}
theorem XPa(i:Nat){x:Str}{te:TE}{aL:Pos}(hN:X.N.Nodup)(he:PE X e te)(hi:X.N[i]?=Vo x:=by rfl)(hx:Loc X.env.scope x:=by first | exact Or.inl rfl | exact OE rfl)(hs:V5 e (Vo (.Name x aL)) pos.line X.env=pure false:=by rfl)(hf:X.fn x=true\/X.env.scope.names.lookup x=Vo .local:=by first | exact .inl rfl | exact .inr rfl | assumption) :
 PS X (.Assign [.Name x aL] e pos) (Zzc te (Y0a i)):=Z1d hN hi hx he hs hf
theorem Jh{j k:Nat}{x:Str}{ps:List Str}{sp:Sp}(G:Cal X.prog X.w X.K X.mg X.base j x ps sp)(hr:Q1 k X.A)(ha:PA X (e::es) t)(hj:j<=k:=by decide)(hg:Gl X x:=by rfl)(aN:(x == ("__debug__":Str))=false:=by decide)
 (he:VU (e::es) X.env=(false,VS e X.env)::VU es X.env:=by rfl) (aV:(VT pos (VU es X.env)).any (·.1)=false:=by rfl):PE X (.Call (.Name x p) (e::es) [] pos) (Jsa sp [] E0 t):=YZ G hr hj hg ha aN he aV
theorem Xbc{j k:Nat}{x:Str}{ps:List Str}{sp:Sp}(G:YPd X.prog X.w X.K X.mg X.base j x ps sp)(hr:Q1 k X.A)(ha:PA X.nox (e::es) t)(hj:j<=k:=by decide)(hg:Gl X x:=by rfl)(cU:X.ex=[]:=by rfl)(aN:(x == ("__debug__":Str))=false:=by decide)
 (he:VU (e::es) X.env=(false,VS e X.env)::VU es X.env:=by rfl) (aV:(VT pos (VU es X.env)).any (·.1)=false:=by rfl):PE1 X (.Call (.Name x p) (e::es) [] pos) (X7b sp t):=QJd G hr hj hg cU ha aN he aV
end
theorem Qqb:entryFor table "dict_itemiterator.__iter__"=Vo O8.«dict_keyiterator.__iter__»:=entryFor_alias (id':="dict_keyiterator.__iter__") (by kernel_rfl) rfl (by decide +kernel) (by kernel_rfl)
theorem XDa{prog:Vg}{w:Vb}{A:VF}{E:YQ_}{s:VG}{it d:Vh}{i n ep:Nat}{ok ov:Va}{Q:YQ_}(hit:IsItemIter s.heap it d i n ep ok ov)(h:Q (.ref it) s):VQ (VR prog w) A (Ug (.ref it)) Q E s:=by
 have hT:s.TypeIs (.ref it) "dict_itemiterator":=⟨_,hit,rfl⟩;refine wpAny_pyIter_slot hT F.slot_dict_itemiterator_iter (Lc F.slot_dict_itemiterator_iter hT Qqb ?_ (F.args_dict_itemiterator_iter_1 _))
 show VQ _ _ (ret (.ref it)) _ _ s;exact Ui ⟨_,rfl,"dict_itemiterator",_,hT,F.slot_dict_itemiterator_next.lookup,h⟩
def Itm(d:Vh)(ob:Obj)(kvs:List (Key×V)):It :=
 ⟨λi H=>H d=Vo (.frz ob (.dK kvs))/\i < kvs.length,λi H x H'=>∃ p k v,H p=Vp/\kvs[i]?=Vo (k,v)/\x=.ref p/\H'=upd H p (.tup [kV k,v]),λi H=>H d=Vo (.frz ob (.dK kvs))/\kvs.length<=i⟩
theorem Qec{P:Vg}{w:Vb}{K:VC}{cz:List Expr}{kk:Nat}{bC:Pos}(it d:Vh)(ob:Obj)(kvs:List (Key×V))(es:Array DictEntry)(ep:Nat)(cT:ob.data=.dict es ep):Jgb P w K (.Tuple cz kk bC) (Itm d ob kvs) [it] it (λi h=>∃ ok ov,IsItemIter h it d i kvs.length ep ok ov) where
 mem:=by simp
 obj:=λi h st b hb=>by
  have e:b=it:=by simpa using hb
  subst e;obtain⟨ok,ov,st⟩:=st;exact⟨_,st,λv z=>by cases z⟩
 keep:=λi h h' st k=>let ⟨ok,ov,st⟩:=st;⟨ok,ov,k it #[2] _ st⟩
 item:=by
  intro X hP hw hK hc i aa s σ H E I hf st hg;subst hP hw hK;obtain⟨hz,hi⟩:=hg;obtain⟨ok,ov,st⟩:=st;obtain⟨_,vs,rv,da⟩:=Jtb I.hok hz cT;have hl:=rv.len;obtain⟨k,v,aG⟩:∃ k v,kvs[i]?=Vo (k,v):=⟨kvs[i].1,kvs[i].2,IA hi⟩
  obtain⟨u,hu,ru⟩:=rv.get aG;rw[hl]at st;refine wpAny_pyNext_items_item st da hu λkey h1 hk gh ht mh iy=>⟨_,rfl,wpAny_letOwnedTupleGo_items gh λh2 u7 sb=>?_⟩
  have fT:Yc X aa H s.heap.objs.size:=I.fpOk (Um _) (I.hok.fresh (Um _));have jN:it≠s.heap.objs.size:=VA (Vx st);have I1:Inv X aa σ H { s with heap:=h2 }:=I.moved (t':=s.toks) (ch:=[it]) (λc hc=>hf c hc) λc o hc e=>by
   have hc:c≠it:=by simpa using hc
   exact(sb.2 c hc).trans (iy c o hc e)
  have jO:h2.get? s.heap.objs.size=Vo { cls:=.type "tuple",data:=.seq #[key,u] }:=(sb.2 _ (VN jN)).trans ht;have I2:Inv X aa σ (upd H s.heap.objs.size (.tup [kV k,v])) { s with heap:=h2 }:=I1.adopt (h':=h2) (t':=s.toks) fT (λ_ _ _ q=>q) ⟨⟨show 2<=Vs by decide,_,jO,rfl⟩,[key,u],.cons (X9b hk) (.cons ru .nil),⟨_,jO,rfl,_,rfl⟩⟩
  refine⟨.ref s.heap.objs.size,_,I2,rfl,⟨_,k,v,fT.1,aG,rfl,rfl⟩,⟨key,u,by rw[hl];exact u7⟩,λb hb=>?_⟩
  have e:b=it:=by simpa using hb
  subst e;rw[Qe jN];exact(hf b #[2]).1
 done:=by
  intro X hP hw hK hc i aa s σ H E I hf st hg;subst hP hw hK;obtain⟨hz,hi⟩:=hg;obtain⟨ok,ov,st⟩:=st;obtain⟨_,vs,rv,da⟩:=Jtb I.hok hz cT;have hl:=rv.len;obtain⟨f0,f1,f2,f3,f4,f5⟩:=hf it #[2]
  rw[hl]at st;exact wpAny_pyNext_items_end (I.ok.hd hc) st da (getElem?_eq_none #[0]) λh' eb=>⟨rfl,I.turned (t':=s.toks) (λb o hb e=>eb b o hb e) f0 f1 f3 f4 f5⟩
 self:=λ_ _ _ _ _ st h=>let ⟨_,_,st⟩:=st;XDa st h
def Xcc(X:Cx)(tl:TE):TI:=λσ H R=>tl σ H λx H1=>∃ d kvs,x=.ref d/\H1 d=Vo (.dK kvs)/\∀ ob,NF X d->R (Itm d ob kvs) (upd H1 d (.frz ob (.dK kvs)))
section
variable{X:Cx}
theorem Xdc{cz:List Expr}{kk:Nat}{bC aj aq:Pos}{o:Expr}{tl:TE}(hl:PE X o tl)(bm:UN o "items" X.env (VS o X.env)=VS o X.env:=by rfl)(bn:(aj.endLine == aq.line)=true:=by rfl):PI X (.Tuple cz kk bC) (.Call (.Attribute o "items" aj) [] [] aq) (Xcc X tl):=by
 intro aa s σ H R I h;refine OU bm rfl bn OV F.slot_dict_items F.type_dict_items (thn (hl aa s σ H _ I h) λu s1 hZ=>?_)
 obtain⟨x,H1,I1,rx,d,kvs,ex,hd,q⟩:=hZ;subst ex;obtain rfl:u=Vk d:=rx;obtain⟨t1,t2,_⟩:=X1a I1 (.inl ⟨kvs,.inl hd⟩);obtain⟨ob,jP,I2⟩:=I1.freeze hd;obtain⟨z,y,vs,rv,o,es,ep,e0,c1,c2,c3⟩:=(show QN X.prog X.w H1 s1.heap d (.dK kvs) from I1.hok d _ hd)
 rw[jP]at e0;cases e0;have da:s1.heap.DictAt (QC X.prog X.w) d vs ep:=⟨ob,es,jP,c1,c2,c3⟩;have nf:=I1.nf hd;refine⟨t1,t2,method_meetsIn F.slot_dict_items F.entry_dict_items rfl (Oy ⟨rfl,t1,F.args_dict_items_1 _,_,meets_dict_items (QC X.prog X.w) d y,⟨vs,da.dictOf⟩,?_⟩)⟩
 have gv:(s1.heap.push { cls:=.type "dict_items",data:=.fields #[.ref d] }).IsItemsView s1.heap.objs.size d:=⟨_,Ul _ rfl,rfl,rfl⟩
 refine wpAny_pyIter_items (knd:=QC X.prog X.w) gv (da.push _) ?_
 have hsz:(s1.heap.push { cls:=.type "dict_items",data:=.fields #[.ref d] }).objs.size=s1.heap.objs.size+1:=UM ..;refine⟨s1.heap.objs.size+1,[s1.heap.objs.size+1],λi h=>∃ ok ov,IsItemIter h (s1.heap.objs.size+1) d i kvs.length ep ok ov,Itm d ob kvs,upd H1 d (.frz ob (.dK kvs)),by rw[<- hsz],I2.kept (t':=s1.toks) λb o e=>Uk _ (Uk _ e),?_,⟨.none,.none,?_⟩,λb hb=>?_,q ob nf⟩
 .exact Qec _ d ob kvs es ep c2
 .show IsItemIter _ (s1.heap.objs.size+1) d 0 kvs.length ep .none .none
  rw[rv.len,<- hsz];exact Ul _ rfl
 .have e:b=s1.heap.objs.size+1:=by simpa using hb
  subst e;exact I2.fpOk (U1 _) (I2.hok.fresh (U1 _))
theorem Qfc{tl:TE}{g:TG}{tb:TS}{D:ZG}{σ:St}{H:Hp}:Q2b (Xcc X tl) g tb D σ H=tl σ H λx H1=>∃ d kvs,x=.ref d/\H1 d=Vo (.dK kvs)/\∀ ob,NF X d->FoR (Itm d ob kvs) g tb D σ (upd H1 d (.frz ob (.dK kvs))):=rfl
end
theorem Jfc{d:Vh}{ob:Obj}{kvs:List (Key×V)}{g:TG}{tb:TS}{D:ZG}{σ:St}{H:Hp}(Pv:Nat->St->Hp->Prop)(h0:Pv 0 σ H)(hl:∀ i σ H,i<=kvs.length->Pv i σ H->H d=Vo (.frz ob (.dK kvs)))
 (hs:∀ i k v σ H p,kvs[i]?=Vo (k,v)->Pv i σ H->H p=Vp->g (.ref p) σ (upd H p (.tup [kV k,v])) λσ2 H2=>tb { D with nx:=Pv (i+1),ct:=Pv (i+1),bk:=D.nx } σ2 H2) (hd:∀ σ H,Pv kvs.length σ H->D.nx σ H):FoR (Itm d ob kvs) g tb D σ H:=by
 refine⟨λi m σ H=>m=kvs.length - i/\i<=kvs.length/\Pv i σ H,⟨_,rfl,Us _,h0⟩,?_⟩
 rintro i m σ H ⟨rfl,hi,p⟩;have hz:=hl i σ H hi p
 by_cases ay:i < kvs.length
 .refine .inr ⟨⟨hz,ay⟩,Pv (i+1),λσ' H' q=>⟨kvs.length - (i+1),by lia,rfl,by lia,q⟩,λx H' hZ=>?_⟩
  obtain⟨a,k,v,hp,aG,ex,e⟩:=hZ;subst e ex;exact hs i k v σ H a aG p hp
 .have:i=kvs.length:=by lia
  subst this;exact .inl ⟨⟨hz,Um _⟩,hd σ H p⟩
structure Qgc(K:VC)(x qual:Str)(st:VV)(ds:List Va)(f:Vh)(fd:UU):Prop where
 ex:∃ (oc i4:Va) (od i5:Option Vh) (T:Vh) (m:Nat) (kV aW pm:Va) (an:Option Vh) (ah ct:Va) (ce dj:Array (Option Va)),
  fd=Oi x qual (Yg st) (Jg st) (Qd st) (.ref T) kV aW pm an ah ct/\K.lookup f=Vo ⟨oc,od,.func fd,ce⟩/\K.lookup T=Vo ⟨i4,i5,.seq ds.toArray m,dj⟩/\Oj K ah qual=true
 kp:UJ K (.ref f)=true
section
variable{P:Vg}{w:Vb}{K:VC}{mg:Str->Option Va}{base:Vq}
theorem Qgc.ok{x qual:Str}{st:VV}{ds:List Va}{f:Vh}{fd:UU}{N ps:List Str}{k:Nat}{sp:Sp}(F:Qgc K x qual st ds f fd)(S:Qg N ps (Qd st))(len:∀ vs H Q E,sp vs H Q E->vs.length=ps.length)
 (bV:∀ (ah:Va) (A:VF) (outer:List Env) (s:VG) (H:Hp) (vs:List V) (Q:VK) (E:XK),Q1 k (A.deeper (U9 qual (Qd st) s.heap.objs.size f ah))->sp vs H Q E ->
  ∃ t,PSs (Xva CX0 P w K mg base N qual (Qd st) f ah A outer s H E).nox (Jg st) t/\t { nx:=λ_ H'=>Q .non H',rt:=Q } (X4 N vs) H):Qp P w K mg base CX0 (k+1) f fd ps sp:=by
 obtain⟨oc,i4,od,i5,T,m,kV,aW,pm,an,ah,ct,ce,dj,rfl,lk,_,bu⟩:=F.ex;refine Zfd lk bu S len λA outer s H vs Q E hr eQ=>?_
 obtain⟨t,h,q⟩:=bV ah A outer s H vs Q E hr eQ;exact⟨t,h.nox,q⟩
theorem Qgc.binds{x qual:Str}{st:VV}{ds gs:List Va}{f:Vh}{fd:UU}{ps:List Str}(F:Qgc K x qual st ds f fd)
 (h:∀ (T:Vh) (kV aW pm:Va) (an:Option Vh) (ah ct:Va) (us:List Va),(us++gs).length=ps.length->∃ k,bindArgs (Oi x qual (Yg st) (Jg st) (Qd st) (.ref T) kV aW pm an ah ct) ⟨us,[]⟩=seqItems? (.ref T) >>= k/\k (Vo ds.toArray)=pure (ps.zip (us++gs))):Zz K fd ps gs:=by
 obtain⟨oc,i4,od,i5,T,m,kV,aW,pm,an,ah,ct,ce,dj,rfl,lk,lt,bu⟩:=F.ex;intro s us hK hl;obtain⟨k,h1,h2⟩:=h T kV aW pm an ah ct us hl;exact BindsTo.of_defaults (T:=T) rfl (hK _ _ lt) rfl h1 h2
end
theorem QTd{K:VC}{x qual:Str}{st:VV}{f T:Vh}{ds:List Va}{oc i4:Va}{od i5 an:Option Vh}{ce dj:Array (Option Va)}{m:Nat}{kV aW pm ah ct:Va}(l:K.lookup f=Vo ⟨oc,od,.func (Oi x qual (Yg st) (Jg st) (Qd st) (.ref T) kV aW pm an ah ct),ce⟩)(t:K.lookup T=Vo ⟨i4,i5,.seq ds.toArray m,dj⟩)
 (c:Oj K ah qual=true) (k:UJ K (.ref f)=true):Qgc K x qual st ds f (Oi x qual (Yg st) (Jg st) (Qd st) (.ref T) kV aW pm an ah ct):=⟨⟨oc,i4,od,i5,T,m,kV,aW,pm,an,ah,ct,ce,dj,rfl,l,t,c⟩,k⟩
def Qhc(P:Vg)(w:Vb)(K:VC)(mg:Str->Option Va)(base:Vq)(k:Nat)(x:Str)(ps:List Str)(gs:List Va)(sp:Sp):Prop :=
 ∃ f fd,Qp P w K mg base CX0 k f fd ps sp/\Zz K fd ps gs/\UJ K (.ref f)=true/\mg x=Vo (.ref f)
theorem JCb{X:Cx}{e:Expr}{es:List Expr}{t:TA}{p pos:Pos}{j k:Nat}{x:Str}{ps:List Str}{gs:List Va}{qV:List V}{sp:Sp}(G:Qhc X.prog X.w X.K X.mg X.base j x ps gs sp)(gv:Qv qV gs)(hr:Q1 k X.A)(ha:PA X (e::es) t)(hj:j<=k:=by decide)(hg:Gl X x:=by rfl)(aN:(x == ("__debug__":Str))=false:=by decide)
 (he:VU (e::es) X.env=(false,VS e X.env)::VU es X.env:=by rfl) (aV:(VT pos (VU es X.env)).any (·.1)=false:=by rfl):PE X (.Call (.Name x p) (e::es) [] pos) (Jsa sp qV E0 t):=by
 obtain⟨f,fd,F,b,kp,m⟩:=G;exact QTc F (hr.mono hj) hg m kp b gv ZEb ha aN he aV
theorem Zic:Qv [V.non,V.non] [Vi,Vi]:=.cons rfl (.cons rfl .nil)
theorem QUd:Qv [V.non] [Vi]:=.cons rfl .nil
theorem lcP{J:It}{tt:TT}{te:TE}{σ:St}{H1:Hp}{Q:VK}(xs:List V)(p:V->Bool)(Pv:Hp->V->V->Prop)(mono:∀ H H' x v,Yu H H'->Pv H x v->Pv H' x v)(hz:xs.length<=Vs)
 (ft:∀ i H2,i < xs.length->Qf H1 H2->J.go i H2/\∀ x H',J.yld i H2 x H'->H'=H2/\xs[i]?=Vo x) (bJ:∀ H2,Qf H1 H2->J.stop xs.length H2)
 (ht:∀ (i:Nat) x H2 (R:Bool->Hp->Prop),xs[i]?=Vo x->Qf H1 H2->R (p x) H2->tt (Vo x::σ) H2 R)
 (he:∀ (i:Nat) x H2 (R:VK),xs[i]?=Vo x->p x=true->Qf H1 H2->(∀ v H3,Pv H3 x v->Qf H2 H3->R v H3)->te (Vo x::σ) H2 R)
 (hq:∀ D H2 ys,H1 D=Vp->Qf H1 H2->H2 D=Vo (.lst ys)->Vm (Pv H2) (xs.filter p) ys->Q (.ref D) H2):LcR J tt te σ Q H1:=by
 intro D hD;refine⟨λi m ys H2=>m=xs.length - i/\i<=xs.length/\Vm (Pv H2) ((xs.take i).filter p) ys/\H2 D=Vo (.lst ys)/\Qf H1 H2,⟨_,rfl,Us _,.nil,Qa,Qb hD _⟩,?_⟩
 rintro i m ys H2 ⟨rfl,hi,hy,hd,sm⟩;refine⟨hd,?_⟩
 by_cases ay:i < xs.length
 .obtain⟨go,yl⟩:=ft i H2 ay sm
  have hl:ys.length<=i:=by
   rw[<- Vn hy];exact VI (OM _ _) (by rw[Ob];lia)
  refine .inr ⟨go,by lia,λx H' y=>?_⟩
  obtain⟨e,hx⟩:=yl x H' y;subst e;have hn:(xs.take (i+1)).filter p=(xs.take i).filter p++if p x=true then [x] else []:=by
   rw[take_succ,hx,IU];cases hp:p x <;> simp[hp]
  refine ht i x _ _ hx sm ?_
  cases hp:p x with
  | true =>
   rw[if_pos rfl];refine he i x _ _ hx hp sm λv H3 pv s3=>⟨s3 _ _ hd,xs.length - (i+1),by lia,rfl,ay,?_,Qa,(sm.trans s3).updL hD _⟩
   have sl:=Xd (zs:=ys++[v]) (s3 _ _ hd);rw[hn,hp,if_pos rfl];exact Jv (Paired.mapP hy λa b z=>mono _ _ _ _ (s3.l.trans sl) z) (.cons (mono _ _ _ _ sl pv) .nil)
  | false =>
   rw[if_neg Uc];refine⟨xs.length - (i+1),by lia,rfl,ay,?_,hd,sm⟩
   rw[hn,hp,if_neg Uc,UV];exact hy
 .have e:i=xs.length:=by lia
  subst e;rw[IT]at hy;exact .inl ⟨bJ H2 sm,hq D H2 ys hD sm hd hy⟩
theorem Xec{K:VC}{a:Vh}{tt:TT}{te:TE}{σ:St}{H1:Hp}{Q:VK}(xs:List V)(p:V->Bool)(Pv:Hp->V->V->Prop)(mono:∀ H H' x v,Yu H H'->Pv H x v->Pv H' x v)(hx:SqL K H1 a xs)(hz:xs.length<=Vs)
 (ht:∀ (i:Nat) x H2 (R:Bool->Hp->Prop),xs[i]?=Vo x->Qf H1 H2->R (p x) H2->tt (Vo x::σ) H2 R)
 (he:∀ (i:Nat) x H2 (R:VK),xs[i]?=Vo x->p x=true->Qf H1 H2->(∀ v H3,Pv H3 x v->Qf H2 H3->R v H3)->te (Vo x::σ) H2 R)
 (hq:∀ D H2 ys,H1 D=Vp->Qf H1 H2->H2 D=Vo (.lst ys)->Vm (Pv H2) (xs.filter p) ys->Q (.ref D) H2):LcR (Itl K a) tt te σ Q H1 :=
 lcP xs p Pv mono hz (λi H2 hi s=>⟨⟨xs,xs[i],s.seq hx,by simp[hi]⟩,λx H' y=>⟨y.1,y.2 xs (s.seq hx)⟩⟩) (λH2 s=>⟨xs,s.seq hx,Um _⟩) ht he hq
theorem YVb{d:Vh}{ob:Obj}{kvs:List (Key×V)}{tt:TT}{te:TE}{σ:St}{H1:Hp}{Q:VK}(p:V->Bool)(Pv:Hp->V->V->Prop)(mono:∀ H H' x v,Yu H H'->Pv H x v->Pv H' x v)(hz:kvs.length<=Vs)(hd:H1 d=Vo (.frz ob (.dK kvs)))
 (ht:∀ k v H2 (R:Bool->Hp->Prop),(k,v)∈kvs->Qf H1 H2->R (p (kV k)) H2->tt (Vo (kV k)::σ) H2 R)
 (he:∀ k v H2 (R:VK),(k,v)∈kvs->p (kV k)=true->Qf H1 H2->(∀ v H3,Pv H3 (kV k) v->Qf H2 H3->R v H3)->te (Vo (kV k)::σ) H2 R)
 (hq:∀ D H2 ys,H1 D=Vp->Qf H1 H2->H2 D=Vo (.lst ys)->Vm (Pv H2) ((kvs.map λq=>kV q.1).filter p) ys->Q (.ref D) H2):LcR (Itd d ob kvs) tt te σ Q H1:=by
 have at_:∀ (i:Nat) x,(kvs.map λq=>kV q.1)[i]?=Vo x->∃ q,q∈kvs/\x=kV q.1:=λi x hx=>by
  rw[Of]at hx
  cases e:kvs[i]? with
  | none=>rw[e]at hx;cases hx
  | some q=>rw[e]at hx;cases hx;exact⟨q,Og e,rfl⟩
 refine lcP (kvs.map λq=>kV q.1) p Pv mono (by rw[UK];exact hz) (λi H2 hi s=>⟨⟨s _ _ hd,by rwa [UK]at hi⟩,λx H' ⟨e,k,v,aG,ex⟩=>⟨e,by rw[Of,aG,ex];rfl⟩⟩)
  (λH2 s=>⟨s _ _ hd,by rw[UK];exact Um _⟩) (λi x H2 R hx s r=>?_) (λi x H2 R hx hp s r=>?_) hq
 .obtain⟨q,hm,rfl⟩:=at_ i x hx;exact ht q.1 q.2 H2 R hm s r
 .obtain⟨q,hm,rfl⟩:=at_ i x hx;exact he q.1 q.2 H2 R hm hp s r
def YWb(t:TE):TE:=t
theorem Xr{X:Cx}{e:Expr}{t:TE}(h:PE X e t):PE X e (YWb t):=h
section
variable{K:VC}{σ:St}{H:Hp}{Q:VK}{ia ic:Nat}{l l2:Vh}{xs bs zs:List V}{i j:Int}{t1 t2 tb:TE}
theorem J1d{n:Nat}(h:n<=9000):n<=Vs:=VI h (by rw[Ux];decide)
theorem XQa(xs:List V)(lo hi:Option Int):(ZT xs lo hi).length<=xs.length:=by
 unfold ZT;rw[Ob,Op]
 lia
theorem ZUa(e1:σ[ia]?=Vo (Vo (.ref l)))(e2:σ[ic]?=Vo (Vo (.ref l2)))(h1:∀ H Q,Q (.int i) H->t1 σ H Q)(h2:∀ H Q,Q (.int j) H->t2 σ H Q)
 (hb:∀ H0 (R:VK),Qf H H0->(∀ b H1,Qf H0 H1->H1 b=Vo (.lst bs)->R (.ref b) H1)->tb σ H0 R) (hl:H l=Vo (.lst xs)) (gu:H l2=Vo (.lst zs)) (lx:xs.length<=1000) (lz:zs.length<=1000) (lb:bs.length<=1000)
 (q:∀ r H',Qf H H'->H r=Vp->H' r=Vo (.lst (ZT xs Vp (Vo i)++bs++ZT zs (Vo j) Vp))->Q (.ref r) H') :
 YWb (tOp Ysb (tOp Ysb (tSl (Jjb K) (Ju ia) Ye (Jva t1)) tb) (tSl (Jjb K) (Ju ic) (Jva t2) Ye)) σ H Q:=by
 have c1:=XQa xs Vp (Vo i);have c2:=XQa zs (Vo j) Vp;unfold YWb;simp only[tOp,tSl,Jva,Ye,Jjb,Ysb];refine Ya e1 (h1 _ _ ⟨i,rfl,l,xs,rfl,SqL.of hl,λp hp=>hb _ _ (Qb hp _) λb H1 s1 iz=>⟨p,b,_,_,rfl,rfl,s1 _ _ Qa,iz,J1d #[0],λp2 aP=>?_⟩⟩)
 have s2:=((Qb hp _).trans s1).trans (Qb aP (.lst (ZT xs Vp (Vo i)++bs)));refine Ya e2 (h2 _ _ ⟨j,rfl,l2,zs,rfl,SqL.of (s2 _ _ gu),λp3 cV=>⟨p2,p3,_,_,rfl,rfl,Qb cV _ _ _ Qa,Qa,J1d (by rw[Oh];lia),λp4 dX=>?_⟩⟩)
 have s3:=s2.trans (Qb cV (.lst (ZT zs (Vo j) Vp)));refine q p4 _ (s3.trans (Qb dX _)) ?_ Qa
 cases e:H p4 with
 | none=>rfl
 | some o=>rw[s3 _ _ e]at dX;cases dX
theorem J2d(e1:σ[ia]?=Vo (Vo (.ref l)))(h1:∀ H Q,Q (.int i) H->t1 σ H Q)(h2:∀ H Q,Q (.int j) H->t2 σ H Q)(hl:H l=Vo (.lst xs))(lx:xs.length<=1000)
 (q:∀ r H',Qf H H'->H r=Vp->H' r=Vo (.lst (ZT xs Vp (Vo i)++ZT xs (Vo j) Vp))->Q (.ref r) H') :
 YWb (tOp Ysb (tSl (Jjb K) (Ju ia) Ye (Jva t1)) (tSl (Jjb K) (Ju ia) (Jva t2) Ye)) σ H Q:=by
 have c1:=XQa xs Vp (Vo i);have c2:=XQa xs (Vo j) Vp;unfold YWb;simp only[tOp,tSl,Jva,Ye,Jjb,Ysb];refine Ya e1 (h1 _ _ ⟨i,rfl,l,xs,rfl,SqL.of hl,λp hp=>Ya e1 (h2 _ _ ⟨j,rfl,l,xs,rfl,SqL.of (Qb hp _ _ _ hl),λp3 cV=>⟨p,p3,_,_,rfl,rfl,Qb cV _ _ _ Qa,Qa,J1d #[0],λp4 dX=>?_⟩⟩)⟩)
 have s3:=(Qb hp (.lst (ZT xs Vp (Vo i)))).trans (Qb cV (.lst (ZT xs (Vo j) Vp)));refine q p4 _ (s3.trans (Qb dX _)) ?_ Qa
 cases e:H p4 with
 | none=>rfl
 | some o=>rw[s3 _ _ e]at dX;cases dX
end
theorem Jgc{d:Vh}{ob:Obj}{kvs:List (Key×V)}{te:TE}{σ:St}{H1:Hp}{Q:VK}(Pl:Nat->Hp->List V->Prop)(hz:kvs.length<=Vs)
 (h0:∀ D,H1 D=Vp->Pl 0 (upd H1 D (.lst [])) []) (hd:∀ i H ys,Pl i H ys->H d=Vo (.frz ob (.dK kvs))/\ys.length=i)
 (hs:∀ D i k v H ys,H1 D=Vp->kvs[i]?=Vo (k,v)->H D=Vo (.lst ys)->Pl i H ys->te (Vo (kV k)::σ) H λv' H'=>H' D=Vo (.lst ys)/\Pl (i+1) (upd H' D (.lst (ys++[v']))) (ys++[v']))
 (hq:∀ D H ys,H1 D=Vp->H D=Vo (.lst ys)->Pl kvs.length H ys->Q (.ref D) H):LcR (Itd d ob kvs) JAa te σ Q H1:=by
 intro D hD;refine⟨λi m ys H2=>m=kvs.length - i/\i<=kvs.length/\H2 D=Vo (.lst ys)/\Pl i H2 ys,⟨_,rfl,Us _,Qa,h0 D hD⟩,?_⟩
 rintro i m ys H2 ⟨rfl,hi,cP,hp⟩;refine⟨cP,?_⟩
 have hf:=hd i H2 ys hp
 by_cases ay:i < kvs.length
 .refine .inr ⟨⟨hf.1,ay⟩,by lia,?_⟩
  rintro x H' ⟨rfl,k,v,aG,rfl⟩;unfold JAa;refine Qud ?_
  have:=hs D i k v H' ys hD aG cP hp;have e:(λv' gH=>gH D=Vo (HO.lst ys)/\∃ m',m' < kvs.length - i/\m'=kvs.length - (i+1)/\i+1<=kvs.length/\upd gH D (.lst (ys++[v'])) D=Vo (.lst (ys++[v']))/\Pl (i+1) (upd gH D (.lst (ys++[v']))) (ys++[v']))=λv' gH=>gH D=Vo (.lst ys)/\Pl (i+1) (upd gH D (.lst (ys++[v']))) (ys++[v']):=by
   funext v' gH
   refine propext ⟨λ⟨a,_,_,_,_,_,b⟩=>⟨a,b⟩,λ⟨a,b⟩=>⟨a,_,by lia,rfl,ay,Qa,b⟩⟩
  exact e ▸ this
 .have e:i=kvs.length:=by lia
  subst e;exact .inl ⟨⟨hf.1,Um _⟩,hq D H2 ys hD cP hp⟩
def JDb(td:TE):TE:=λσ H Q=>td σ H λx H1=>∃ a kvs,x=.ref a/\H1 a=Vo (.dK kvs)/\Q .non (upd H1 a (.dK []))
theorem Yza{X:Cx}{o:Expr}{aj aq:Pos}{td:TE}(ho:PE X o td)(bm:UN o "clear" X.env (VS o X.env)=VS o X.env:=by rfl)(bn:(aj.endLine == aq.line)=true:=by rfl):PE X (.Call (.Attribute o "clear" aj) [] [] aq) (JDb td):=by
 intro aa s σ H Q I h;refine OU bm rfl bn OV F.slot_dict_clear F.type_dict_clear (thn (ho aa s σ H _ I h) λu s1 hZ=>?_)
 obtain⟨x,H1,I1,rx,a,kvs,ex,ha,q⟩:=hZ;subst ex;obtain rfl:u=Vk a:=rx;obtain⟨t1,t2,_⟩:=X1a I1 (.inl ⟨kvs,.inl ha⟩);obtain⟨z,hd,vs,aH,dd⟩:=Yac I1.hok ha;refine⟨t1,t2,method_meetsIn F.slot_dict_clear F.entry_dict_clear rfl (Oy ⟨rfl,t1,F.args_dict_clear_1 _,_,meets_dict_clear (QC X.prog X.w) a,vs,dd,by rw[<- aH.length];exact z,λh' dA hs=>?_⟩)⟩
 have he:∃ q,h'.get? a=Vo q:=let ⟨q,_,_,hq,_⟩:=dA;⟨q,hq⟩
 exact⟨.non,_,Jya I1 (by rw[ha];exact UL) hs he (XTb (Us _) hd .nil dA),rfl,q⟩
end L2
end
section
namespace L2
open PySem PySem.W PyProof.Rows
def YVd:R2:=λx y H Q=>∃ a b kvs,x=.ref a/\y=.ref b/\a≠b/\Rd H a (.dK kvs)/\Rd H b (.dK kvs)/\(∀ p∈kvs,Jd p.2=true)/\(kvs.map LW).Nodup/\Q (.bl false) H
theorem QVd{X:Cx}(hu:X.A.units+64 < UR):OpR X (VX .NotEq) YVd:=by
 intro aa s σ H x y v u Q I rx ry h;obtain⟨a,b,kvs,rfl,rfl,ab,ha,hb,fl,nd,q⟩:=h;cases rx;cases ry;obtain⟨_,a1,va,ra,da⟩:=Qla I.hok ha;obtain⟨_,b1,vb,rb,db⟩:=Qla I.hok hb;have l1:va.length=vb.length:=by rw[<- Vn ra,<- Vn rb]
 refine keq_ne (knd:=QC X.prog X.w) a1 b1 da db #[0] (λ_=>Zhc ra fl λp hp=>?_) ?_
 .have:=rb.val p.1
  rw[Jec nd hp]at this;cases hy:OH vb p.1 with
  | none=>rw[hy]at this;exact this.elim
  | some y=>rw[hy]at this;exact⟨y,rfl,this⟩
 .rw[l1,beq_self_eq_true]
  exact⟨.bl _,H,I,rfl,q⟩
end L2
end
section
namespace L2
open PySem PySem.Spec PyProof.Rows PySem.W
section
variable{X:Cx}{aa:YP_}{σ:St}{H:Hp}{s:VG}{k:Nat}{f:Vh}{fd:UU}{p0:Str}{sp:Sp}{A:VF}{E:YQ_}
theorem Jhc{D kS:Vh}{e e1:Nat}{ks:List Va}{vs:List Va}{xs:List V}{rk:V->List V}{lt:V->V->Bool}{P:IE->VG->Prop}(I:Inv X (aa++[(D,IF "list" #[] e1)]) σ H s)(fD:Yc X aa H D)(fK:Yc X (aa++[(D,IF "list" #[] e1)]) H kS)
 (hk:s.heap.get? kS=Vo (IF "list" ks.toArray e)) (dW:xs.length < 64) (hl:ks.length=xs.length) (hK:X4b X.K sp H xs rk lt) (mr:Jpb X.K H rk xs ks) (rv:Qv xs vs)
 (h:∀ ys s',Inv X aa σ (upd H D (.lst ys)) s'->ys.Perm xs->ys.Pairwise (λa b=>lt b a=false)->P (.done (.ret .none)) s'):VQ (VR X.prog X.w) A (ksk_end D false vs.toArray e1 (.ref kS) ks.toArray) P E s:=by
 have dC:=rv.length;unfold ksk_end;simp only[O5,if_false]
 by_cases h2:vs.toArray.size < 2
 .rw[if_pos h2,if_pos h2]
  refine V8 (Ui ?_)
  rw[StateT.run_pure];refine V8 (Ui ?_)
  try dsimp only
  refine ZJb (st:=SortSt.mk' general' (ks.toArray.zip vs.toArray) #[] 7 Vp) I fD fK hk #[0] (out:=vs) ?_ rfl rv #[0] λs' I'=>h xs s' I' (List.Perm.refl _) ?_
  .apply Array.toList_inj.mp
   show(Array.map (·.2) (ks.toArray.zip vs.toArray)).toList=_;rw[Array.toList_map,ksk_zip];show LX (·.2) (ks.zip vs)=vs;exact map_snd_zip #[0]
  .rw[Uy]at h2
   exact YAb #[0]
 .rw[if_neg h2,if_neg h2]
  rw[Uy]at h2;obtain⟨fs,t1,t2,t3⟩:=ZXc I hK.hd hl mr;refine V8 (kat_kind (T:=.type "int") t1 #[0] (λv hv=>?_) #[1] ?_)
  .obtain⟨n,t,rfl⟩:=t3 v hv
   exact Looks.of_pure rfl
  have et:(Vl "int" != Vl "tuple")=true:=by decide
  rw[et];have hn:0 < xs.length:=by lia
  have run:=ZRb (prog:=X.prog) (w:=X.w) (A:=A) (E:=E) (κ:=tuples' true) (ks:=ks) (vs:=vs) (s:=s) (r:=λi=>xs.countP (lt · (xs.getD i .non))) #[0] #[0] #[0]
   (λi j C hi hj hC=>by
    rw[<- dC]at hi hj;rw[hK.swo.rank (JEa hi) (JEa hj)]at hC;exact Ywc I hK hl mr hi hj hC)
  rw[<- dC]at run;refine V8 (VW run ?_ λ_ _ x=>x)
  rintro⟨⟨⟩,ag⟩ s' ⟨p,ox,hf,es,ok,up⟩;subst es;have bd:=kat_snds #[0] ox
  exact ZJb I fD fK hk #[0] bd hf (rv.pick p.toList) (by rw[UK,V2,ok.size];lia) λs' I'=>h _ s' I' (Qab ok) (Yzb hK.swo ok hn up)
theorem Qic{D kS:Vh}{e1:Nat}{vs:List Va}{xs:List V}{rk:V->List V}{lt:V->V->Bool}{P:IE->VG->Prop}(F:Qp X.prog X.w X.K X.mg X.base CX0 k f fd [p0] sp)(hb:Zz X.K fd [p0] [])(hr:Q1 k A)(nT:A.frames=Vo X.stack)
 (I:Inv X (aa++[(D,IF "list" #[] e1)]) σ H s) (fD:Yc X aa H D) (fK:Yc X (aa++[(D,IF "list" #[] e1)]) H kS)
 (hk:s.heap.get? kS=Vo (IF "list" #[] 0)) (dW:xs.length < 64) (hK:X4b X.K sp H xs rk lt) (rv:Qv xs vs)
 (h:∀ H' ys s',Qf H H'->Inv X aa σ (upd H' D (.lst ys)) s'->H' D=Vp->ys.Perm xs->ys.Pairwise (λa b=>lt b a=false)->P (.done (.ret .none)) s'):VQ (VR X.prog X.w) A (ksk_rest D (.ref f) false vs.toArray e1 (.ref kS)) P E s:=by
 have dC:=rv.length;unfold ksk_rest;refine V8 (Lg ?_)
 first
  | rw[forIn_toArray]
  | (rw[<- LG];simp only[toList_toArray])
  | rw[<- LG]
 refine V8 (ksk_fold (λi s'=>∃ (H':Hp) (ks:List Va) (e:Nat),Inv X (aa++[(D,IF "list" #[] e1)]) σ H' s'/\Qf H H'/\H' kS=Vp/\s'.heap.get? kS=Vo (IF "list" ks.toArray e)/\ks.length=i/\Jpb X.K H' rk xs ks)
  vs 0 s ⟨H,[],0,I,Qf.refl _,fK.1,hk,rfl,[],rfl,λj p v e1 _=>by simp at e1⟩ (λj x s' hx hJ=>?_) λs' hJ=>?_)
 .rw[Nat.zero_add]at hJ
  obtain⟨H',ks,e,I',sm,hn,i6,hl,ps,rfl,hp⟩:=hJ;rw[UK]at hl;have hj:j < xs.length:=by rw[dC];exact(List.getElem?_eq_some_iff.mp hx).1
  obtain⟨u,hu,ru⟩:=rv.get (IA hj)
  rw[hx]at hu;cases hu;have I2:Inv X ((aa++[(D,IF "list" #[] e1)])++[(kS,IF "list" (ps.map Vk).toArray e)]) σ H' s':=I'.pins_of λp hp=>(mem_append.mp hp).elim (λz=>I'.pin p (Ur _ z)) λz=>by
   have z:p=(kS,IF "list" (ps.map Vk).toArray e):=by simpa using z
   subst z;exact⟨i6,hn,fK.2.1,fK.2.2.1,λv q=>by cases q⟩
  refine V8 (Lj (VW (Yvc F hb hr nT I2 ru (hK.key xs[j] (IC hj) H' sm (λv H3=>∃ p,v=.ref p/\Qf H' H3/\SqT X.K H3 p (rk xs[j])) λp H3 s3 t3=>⟨p,rfl,s3,t3⟩)) (λu cN hu=>?_) λ_ _ hF=>hF.elim))
  obtain⟨v,H3,I3,r3,p,rfl,s3,t3⟩:=hu;cases r3;have gG:=(I3.pin (kS,IF "list" (ps.map Vk).toArray e) (Ur _ (Ur _ #[2])))
  have s1:=II cN.heap kS (Ot (·.push (Vk p)));have ea:(Ir (ps.map Vk)).push (Vk p)=Ir ((ps++[p]).map Vk):=by simp
  obtain⟨c2,gE⟩:∃ c2,(cN.heap.update kS (Ot (·.push (Vk p)))).get? kS=Vo (IF "list" (Ir ((ps++[p]).map Vk)) c2):=⟨_,by rw[<- ea];exact IJ gG.1 (·.push (Vk p))⟩
  try dsimp only
  refine V8 (IK gG.1 rfl ?_ (by rw[Uy,UK];exact VJ (Qm #[0])) (by rw[Array.size_push,Uy,UK];exact Nat.succ_le_succ (VJ (Qm #[0]))))
  refine Ui ⟨rfl,H3,_,c2,I3.unpinned.turned (t':=cN.toks) (λb o hb q=>(s1.2 b hb).trans q) gG.2.1 fK.2.1 fK.2.2.2.1 fK.2.2.2.2.1 fK.2.2.2.2.2,sm.trans s3,gG.2.1,gE,by rw[UK,Oh,hl];simp,ps++[p],rfl,λi q v e1 e2=>?_⟩
  by_cases hi:i < ps.length
  .rw[Oe hi]at e1
   exact s3.seqT (hp i q v e1 e2)
  .rw[Od #[0]]at e1
   have hz:i - ps.length=0:=by
    cases q':i - ps.length with
    | zero=>rfl
    | succ m=>rw[q']at e1;simp at e1
   rw[hz]at e1;have:i=j:=by lia
   subst this;rw[IA hj]at e2
   simp at e1;cases e1;cases e2;exact t3
 .rw[Nat.zero_add]at hJ
  obtain⟨H',ks,e,I',sm,hn,i6,hl,mr⟩:=hJ;refine V8 (LA i6 rfl ?_)
  have jV:=(I'.pin (D,IF "list" #[] e1) (Ur _ (Ur _ #[2]))).2.1
  exact Jhc I' ⟨jV,fD.2⟩ ⟨hn,fK.2⟩ i6 dW #[0] ⟨hK.hd,λv hv H2 s2=>hK.key v hv H2 (sm.trans s2),hK.lex,hK.swo⟩ mr rv λys cN nJ p1 p2=>h H' ys cN sm nJ jV p1 p2
end
section
variable{X:Cx}{aa:YP_}{σ:St}{H:Hp}{s:VG}{k:Nat}{f:Vh}{fd:UU}{p0:Str}{sp:Sp}
theorem YXb{l:Vh}{xs:List V}{rk:V->List V}{lt:V->V->Bool}{Q:VK}(F:Qp X.prog X.w X.K X.mg X.base CX0 k f fd [p0] sp)(hb:Zz X.K fd [p0] [])(hr:Q1 (k+2) X.A)
 (I:Inv X aa σ H s) (hl:SqL X.K H l xs) (dW:xs.length < 64) (hK:X4b X.K sp H xs rk lt)
 (h:∀ D H' ys,Qf H H'->H D=Vp->H' D=Vo (.lst ys)->ys.Perm xs->ys.Pairwise (λa b=>lt b a=false)->Q (.ref D) H') :
 VQ (VR X.prog X.w) X.A (Ut (.builtin "sorted") [.ref l] [(La "key",.ref f)]) (EP X aa σ Q) X.xe s:=by
 obtain⟨vs,rv,pl,hz⟩:=I.list hl;have dC:=rv.length;have gI:vs.length<=Vs:=by rw[<- dC];exact hz
 refine call_function_entry_kw kind_sorted plain_sorted entry_sorted (ksk_s1 _ _) ?_
 unfold O8.«sorted»;refine V8 (m:=checkCount "sorted" 1 1 _) (Ui ?_)
 refine V8 (collect_list pl.isList ?_ gI)
 refine V8 (LY ?_ gI)
 obtain⟨hsz,jW⟩:=Yxc s.heap vs;have cb:=Ul ((s.heap.push (IF "list" #[] 0)).update s.heap.objs.size (Ot (·++vs.toArray))) (o:=IF "list" vs.toArray 0) rfl
 rw[hsz]at cb;have keep:=λb o q=>Uk (IF "list" vs.toArray 0) (jW b o q)
 have I1:Inv X aa σ H { s with heap:=((s.heap.push (IF "list" #[] 0)).update s.heap.objs.size (Ot (·++vs.toArray))).push (IF "list" vs.toArray 0) }:=I.kept (t':=s.toks) keep
 have fD:Yc X aa H (s.heap.objs.size+1):=I.fpOk (U1 _) (I.hok.fresh (U1 _));show VQ _ _ _ _ _ { s with heap:=((s.heap.push (IF "list" #[] 0)).update s.heap.objs.size (Ot (·++vs.toArray))).push (IF "list" vs.toArray 0) }
 rw[hsz];generalize ((s.heap.push (IF "list" #[] 0)).update s.heap.objs.size (Ot (·++vs.toArray))).push (IF "list" vs.toArray 0)=h1 at cb I1;generalize s.heap.objs.size+1=D at cb fD;refine V8 (V9 (wpAny_call_entry_kw slot_list_sort ⟨_,cb,rfl⟩ entry_list_sort ?body (ksk_l1 _ _)))
 case body =>
  rw[ksk_t1];unfold ksk_tree;have s1:=II h1 D (Ot λ_=>(#[]:Array Va))
  obtain⟨e1,cW⟩:∃ e1,(h1.update D (Ot λ_=>(#[]:Array Va))).get? D=Vo (IF "list" #[] e1):=⟨_,IJ cb λ_=>#[]⟩
  have I2:Inv X aa σ H { s with heap:=h1.update D (Ot λ_=>(#[]:Array Va)) }:=I1.turned (t':=s.toks) (λb o hb q=>(s1.2 b hb).trans q) fD.1 fD.2.1 fD.2.2.2.1 fD.2.2.2.2.1 fD.2.2.2.2.2
  have I3:Inv X (aa++[(D,IF "list" #[] e1)]) σ H { s with heap:=h1.update D (Ot λ_=>(#[]:Array Va)) }:=I2.pins_of λp hp=>(mem_append.mp hp).elim (λz=>I2.pin p (Ur _ z)) λz=>by
   have z:p=(D,IF "list" #[] e1):=by simpa using z
   subst z;exact⟨cW,fD.1,fD.2.1,fD.2.2.1,λv q=>by cases q⟩
  have I4:Inv X (aa++[(D,IF "list" #[] e1)]) σ H { s with heap:=(h1.update D (Ot λ_=>(#[]:Array Va))).push (IF "tuple" vs.toArray 0) }:=I3.kept (t':=s.toks) λb u q=>Uk _ q
  have fK:Yc X (aa++[(D,IF "list" #[] e1)]) H ((h1.update D (Ot λ_=>(#[]:Array Va))).push (IF "tuple" vs.toArray 0)).objs.size:=I4.fpOk (Um _) (I4.hok.fresh (Um _))
  have I5:Inv X (aa++[(D,IF "list" #[] e1)]) σ H { s with heap:=((h1.update D (Ot λ_=>(#[]:Array Va))).push (IF "tuple" vs.toArray 0)).push (IF "list" #[] 0) }:=I4.kept (t':=s.toks) λb u q=>Uk _ q
  refine V8 (LA cb rfl ?_)
  refine V8 (IK cb rfl ?_ (by rw[Uy];exact gI) (Us _))
  refine V8 (IL cW rfl ?_)
  refine V8 (wpAny_newTuple ?_ (by show vs.length<=_;exact gI))
  refine V8 (LY ?_ (Us _))
  refine V9 ?_
  refine Qic (s:={ s with heap:=((h1.update D (Ot λ_=>(#[]:Array Va))).push (IF "tuple" vs.toArray 0)).push (IF "list" #[] 0) }) F hb hr.in1.in1 I.ok.frames I5 fD fK (Ul _ rfl) dW hK rv λH' ys s' sm I' hD p1 p2=>?_
  exact⟨_,rfl,Ui ⟨_,rfl,.ref D,_,I',rfl,h D _ ys (sm.updL fD.1 _) fD.1 Qa p1 p2⟩⟩
theorem YYb{j:Nat}{fx:Str}{e:Expr}{te:TE}{p kp fm pos:Pos}(G:Cal X.prog X.w X.K X.mg X.base j fx [p0] sp)(hr:Q1 k X.A)(hj:j+2<=k)(hs:Gl X "sorted")(hm:X.mg "sorted"=Vp)(hf:Gl X fx)(he:PE X e te)
 (aN:(fx == ("__debug__":Str))=false:=by decide) (bJ:VU [e] X.env=[(false,VS e X.env)]:=by rfl) :
 PE X (.Call (.Name "sorted" p) [e] [⟨Vo "key",.Name fx kp,fm⟩] pos) (X5b X.K sp te):=by
 obtain⟨f,fd,F,b,kpt,m⟩:=G;intro aa s σ H Q I h;refine UY (ZHa I hs hm Q6a ?_)
 refine callWith_kw (thn (QRc he Zc bJ pos aa s σ H (λvs H1=>∃ x,vs=[x]/\∃ a xs rk lt,x=.ref a/\SqL X.K H1 a xs/\xs.length < 64/\X4b X.K sp H1 xs rk lt /\
  ∀ D H' ys,Qf H1 H'->H1 D=Vp->H' D=Vo (.lst ys)->ys.Perm xs->ys.Pairwise (λa b=>lt b a=false)->Q (.ref D) H') I ?_) λus s1 ⟨vs,H1,I1,r1,x,ex,a,xs,rk,lt,ea,hl,dW,hK,q⟩=>?_) (by rw[bJ];rfl) (by rw[bJ];rfl)
 .show te σ H _
  exact(show(te σ H λx H1=>_) from h) |> λz=>by
   refine(?_:te σ H _)
   have:=z
   simpa only[ZLa,exists_eq_left',List.cons.injEq,and_true]using this
 .subst ex ea
  obtain⟨u,rfl,ru⟩:=Ys r1;obtain rfl:u=Vk a:=ru;refine thn (Qqd (nm:=Vo "key") (QJc hf m (v:=.ref f) rfl aN) Jjd pos aa s1 σ H1 (λzs H2=>zs=[.ref f]/\H2=H1) I1 ⟨rfl,rfl⟩) λws s2 hZ=>?_
  obtain⟨zs,H2,I2,rz,ez,eH⟩:=hZ;subst ez eH;obtain⟨u2,rfl,vc⟩:=Ys rz;obtain rfl:u2=Vk f:=vc;exact YXb F b (hr.mono hj) I2 hl dW hK q
end
section
variable{X:Cx}{aa:YP_}{σ:St}{H:Hp}{s:VG}{A:VF}{E:YQ_}
theorem Y8a{l:Vh}{xs:List V}{lt:V->V->Bool}{Q:VK}(I:Inv X aa σ H s)(hz:xs.length<=Vs)(dW:xs.length < 64)(hK:YLc xs lt)
 (hc:∀ (E:YQ_) (R:List Va->VG->Prop),(∀ vs h' tk,Qv xs vs->(∀ b o,s.heap.get? b=Vo o->h'.get? b=Vo o)->R vs { s with heap:=h',toks:=tk })->VQ (VR X.prog X.w) X.A.in1 (collect (.ref l)) R E s)
 (h:∀ D H' ys,Qf H H'->H D=Vp->H' D=Vo (.lst ys)->ys.Perm xs->ys.Pairwise (λa b=>lt b a=false)->Q (.ref D) H') :
 VQ (VR X.prog X.w) X.A (Ut (.builtin "sorted") [.ref l]) (EP X aa σ Q) X.xe s:=by
 refine Calls.call_function_entry kind_sorted plain_sorted entry_sorted (args_sorted1 _) ?_
 unfold O8.«sorted»;refine V8 (m:=checkCount "sorted" 1 1 _) (Ui ?_)
 refine V8 (hc _ _ λvs h' tk rv kept=>?_)
 have I0:Inv X aa σ H { s with heap:=h',toks:=tk }:=I.kept kept
 clear hc I;generalize ({ s with heap:=h',toks:=tk }:VG)=s at I0 ⊢
 have I:=I0;clear I0;have dC:=rv.length;have gI:vs.length<=Vs:=by rw[<- dC];exact hz
 refine V8 (LY ?_ gI)
 have cb:=Ul s.heap (o:=IF "list" vs.toArray 0) rfl
 have I1:Inv X aa σ H { s with heap:=s.heap.push (IF "list" vs.toArray 0) }:=I.kept (t':=s.toks) λb o q=>Uk _ q
 have fD:Yc X aa H s.heap.objs.size:=I.fpOk (Um _) (I.hok.fresh (Um _));show VQ _ _ _ _ _ { s with heap:=s.heap.push (IF "list" vs.toArray 0) }
 generalize s.heap.push (IF "list" vs.toArray 0)=h1 at cb I1;generalize s.heap.objs.size=D at cb fD;refine V8 (V9 (Lc slot_list_sort ⟨_,cb,rfl⟩ entry_list_sort ?body (args_list_sort _)))
 case body =>
  rw[list_sort_plain];have s1:=II h1 D (Ot λ_=>(#[]:Array Va))
  obtain⟨e1,cW⟩:∃ e1,(h1.update D (Ot λ_=>(#[]:Array Va))).get? D=Vo (IF "list" #[] e1):=⟨_,IJ cb λ_=>#[]⟩
  have I2:Inv X aa σ H { s with heap:=h1.update D (Ot λ_=>(#[]:Array Va)) }:=I1.turned (t':=s.toks) (λb o hb q=>(s1.2 b hb).trans q) fD.1 fD.2.1 fD.2.2.2.1 fD.2.2.2.2.1 fD.2.2.2.2.2
  have I3:Inv X (aa++[(D,IF "list" #[] e1)]) σ H { s with heap:=h1.update D (Ot λ_=>(#[]:Array Va)) }:=I2.pins_of λp hp=>(mem_append.mp hp).elim (λz=>I2.pin p (Ur _ z)) λz=>by
   have z:p=(D,IF "list" #[] e1):=by simpa using z
   subst z;exact⟨cW,fD.1,fD.2.1,fD.2.2.1,λv q=>by cases q⟩
  have I5:Inv X (aa++[(D,IF "list" #[] e1)]) σ H { s with heap:=((h1.update D (Ot λ_=>(#[]:Array Va))).push (IF "tuple" vs.toArray 0)).push (IF "list" #[] 0) }:=I3.kept (t':=s.toks) λb u q=>Uk _ (Uk _ q)
  refine V8 (LA cb rfl ?_)
  refine V8 (IK cb rfl ?_ (by rw[Uy];exact gI) (Us _))
  refine V8 (IL cW rfl ?_)
  refine V8 (wpAny_newTuple ?_ (by show vs.length<=_;exact gI))
  refine V8 (LY ?_ (Us _))
  refine V9 ?_
  show VQ (VR X.prog X.w) _ _ _ _ { s with heap:=((h1.update D (Ot λ_=>(#[]:Array Va))).push (IF "tuple" vs.toArray 0)).push (IF "list" #[] 0) }
  generalize ((h1.update D (Ot λ_=>(#[]:Array Va))).push (IF "tuple" vs.toArray 0)).push (IF "list" #[] 0)=h2 at I5
  dsimp only;have tail:∀ {st:SortSt} {out:List Va} {ys:List V},(arrOf st).map (·.2)=Ir out->IG st=Vp->Qv ys out->ys.length < 1000->ys.Perm xs->ys.Pairwise (λa b=>lt b a=false) ->
   VQ (VR X.prog X.w) X.A.in1.in1 (do
    let ep <- seqEpoch D
    Builtin.List.listUpdate (Vk D) λx=>Array.map (λx=>x.snd) (arrOf st)
    match IG st with
    | some e=>do
     rule "list.sort.comparison-raised"
     throw e
     if (ep != e1)=true then do
         rule "list.sort.modified"
         raiseErrorWords "ValueError" "list modified during sort"
         ret Vi
      else ret Vi
    | x =>
     if (ep != e1)=true then do
      rule "list.sort.modified"
      raiseErrorWords "ValueError" "list modified during sort"
      ret Vi
     else ret Vi)
    (λfin s'=>∃ v,fin=Fin.done (Flow.ret v)/\VQ (VR X.prog X.w) X.A.in1 (ret (Vk D)) (λfin s'=>∃ v,fin=Fin.done (Flow.ret v)/\EP X aa σ Q v s') X.xe s')
    X.xe { s with heap:=h2 }:=by
   intro st out ys bd hf ro aT p1 p2;have hD:=(I5.pin (D,IF "list" #[] e1) (Ur _ (Ur _ #[2]))).1
   have s2:=II h2 D (Ot λ_=>Ir out)
   obtain⟨c2,gE⟩:∃ c2,(h2.update D (Ot λ_=>Ir out)).get? D=Vo (IF "list" (Ir out) c2):=⟨_,IJ hD λ_=>Ir out⟩
   have ho:out.length < 1000:=by rw[<- ro.length];exact aT
   rw[bd];refine V8 (IL hD rfl ?_)
   refine V8 (IK hD rfl ?_ (Us _) (by rw[Uy];exact Nat.le_succ_of_le (VJ (Qm #[0]))))
   rw[hf];simp only[bne_self_eq_false,O5,if_false];have I6:Inv X aa σ (upd H D (.lst ys)) { s with heap:=h2.update D (Ot λ_=>Ir out) }:=(I5.unpinned).adopt (t':=s.toks) fD (λb u hb q=>(s2.2 b hb).trans q) ⟨VJ (Qm #[0]),out,c2,ro,gE⟩
   exact Ui ⟨_,rfl,Ui ⟨_,rfl,.ref D,_,I6,rfl,h D _ ys ((Qf.refl _).updL fD.1 _) fD.1 Qa p1 p2⟩⟩
  by_cases bD:vs.toArray.size < 2
  .rw[if_pos bD,if_pos bD]
   refine V8 (Ui ?_)
   rw[StateT.run_pure];refine V8 (Ui ?_)
   refine tail (st:=SortSt.mk' general' (vs.toArray.zip vs.toArray) #[] 7 Vp) (out:=vs) ?_ rfl rv #[0] (List.Perm.refl _) (YAb (by rw[Uy]at bD;lia))
   apply Array.toList_inj.mp
   show(Array.map (·.2) (vs.toArray.zip vs.toArray)).toList=_;rw[Array.toList_map,ksk_zip];show LX (·.2) (vs.zip vs)=vs;exact map_snd_zip #[0]
  .rw[if_neg bD,if_neg bD]
   rw[Uy]at bD;obtain⟨T,vd,hT⟩:=hK.ty;have mem:∀ v∈vs,∃ x∈xs,Qt x v:=λv hv=>by
    obtain⟨i,hi,rfl⟩:=mem_iff_getElem.mp hv;obtain⟨u,eu,ru⟩:=rv.get (i:=i) (x:=xs[i]'#[0]) (IA _)
    rw[IA hi]at eu
    cases eu;exact⟨_,IC _,ru⟩
   refine V8 (kas_kind (T:=.type T) #[0] (λv hv=>?_) vd #[2] ?_)
   .obtain⟨x,hx,rx⟩:=mem v hv
    exact Looks.of_pure (hT x hx v rx)
   have hn:0 < xs.length:=by lia
   have at_:∀ i,i < xs.length->Qt (xs.getD i .non) (vs.getD i Vi)/\xs.getD i .non∈xs:=λi hi=>by
    obtain⟨u,eu,ru⟩:=rv.get (i:=i) (x:=xs[i]) (IA _)
    have e1:xs.getD i .non=xs[i]:=by simp[hi]
    have e2:vs.getD i Vi=u:=by simp[List.getD,eu]
    rw[e1,e2];exact⟨ru,IC _⟩
   have run:=ZRb (prog:=X.prog) (w:=X.w) (A:=X.A.in1.in1) (E:=X.xe) (κ:=oneType') (ks:=vs) (vs:=vs) (s:={ s with heap:=h2 }) (r:=λi=>xs.countP (lt · (xs.getD i .non))) rfl #[0] #[0]
    (λi j C hi hj hC=>by
     rw[<- dC]at hi hj;rw[hK.swo.rank (at_ i hi).2 (at_ j hj).2]at hC;unfold kas_ask;exact hK.ask _ (at_ i hi).2 _ (at_ j hj).2 _ _ (at_ i hi).1 (at_ j hj).1 _ _ _ _ _ _ hC)
   rw[<- dC]at run;refine V8 (VW run ?_ λ_ _ x=>x)
   rintro⟨⟨⟩,ag⟩ s' ⟨p,ox,hf,es,ok,up⟩;subst es;have bd:=kat_snds (ks:=vs) (vs:=vs) rfl ox;exact tail bd hf (rv.pick p.toList) (by rw[UK,V2,ok.size];lia) (Qab ok) (Yzb hK.swo ok hn up)
end
def QWd:List V->Hp->VK->Prop:=λvs H Q=>∃ d kvs lt,vs=[.ref d]/\H d=Vo (.dK kvs)/\kvs.length < 64/\YLc (kvs.map λp=>kV p.1) lt /\
 ∀ D H' ys,Qf H H'->H D=Vp->H' D=Vo (.lst ys)->ys.Perm (kvs.map λp=>kV p.1)->ys.Pairwise (λa b=>lt b a=false)->Q (.ref D) H'
theorem Q9b{X:Cx}(hh:X.A.handled=Vp):Jt X (.builtin "sorted") QWd:=by
 intro aa s σ H xs us Q I r h;obtain⟨d,kvs,lt,rfl,hd,hl,hK,q⟩:=h;obtain⟨u,rfl,ru⟩:=Ys r;obtain rfl:u=Vk d:=ru;obtain⟨z,y,vs,rv,o,es,ep,e0,c1,c2,c3⟩:=(show QN X.prog X.w H s.heap d (.dK kvs) from I.hok d _ hd)
 have da:s.heap.DictAt (QC X.prog X.w) d vs ep:=⟨o,es,e0,c1,c2,c3⟩;refine Y8a I (by rw[UK];exact VJ (Qm #[0])) (by rw[UK];exact hl) hK (λE R hR=>?_) q
 exact YLb (kdl_dict (knd:=QC X.prog X.w) (ep:=ep) y) hh da (by rw[<- rv.len];exact VJ (Qm #[0])) λh' tk aJ hk cC=>hR _ h' tk (ZMb rv cC) hk
theorem Zi{X:Cx}:Jt X (.builtin "sorted") (Zgc X.K):=by
 intro aa s σ H xs us Q I r h;obtain⟨a,ys,lt,rfl,hl,dW,hK,q⟩:=h;obtain⟨u,rfl,ru⟩:=Ys r;obtain rfl:u=Vk a:=ru;obtain⟨vs,rv,pl,hz⟩:=I.list hl;have dC:=rv.length;exact Y8a I hz dW hK (λE R hR=>collect_list pl.isList (hR vs _ _ rv (Yxc s.heap vs).2) (by rw[<- dC];exact hz)) q
end L2
end
section
open L2 PySem
namespace Tr
abbrev Rt:=Option (Int×Nat×V)
end Tr
end
section
namespace My
open PySem L2 Pl Th Tr
variable{CX:CXT}{P:Vg}{w:Vb}{mg:Str->Option Va}{base:Vq}{L N ac zs:List Str}{qual z:Str}{scope:Scope}{a d d1 d2 f:Vh}{cd:Va}{A:VF}{outer:List Env}{s:VG}{H H' H0 H1 H2:Hp}{E:XK}{X:Cx}{pos:Pos}{hi k lo v:V}{am c n:Int}{ky xs ys:List V}{i j:Nat}{ob:Nat->Vh}{fd:UU}{M es:List Dt}{st:StL}{o:HO}{lv:V->Nat}{tbl:List (Int×Dt)}{Q:VK}{R:List (V×Cl)}{cs ds:Cl}{kvs:List (Key×V)}{B B':Bk}{S:List Vh}
variable{P:Vg}{w:Vb}{K:VC}{mg:Str->Option Va}{base:Vq}
theorem Xfc{K:VC}:(Xva CX P w K mg base N qual scope f cd A outer s H E).K=K:=rfl
theorem Xgc{K:VC}:(Xva CX P w K mg base N qual scope f cd A outer s H E).prog=P:=rfl
theorem Xhc{K:VC}:(Xva CX P w K mg base N qual scope f cd A outer s H E).w=w:=rfl
theorem YWd{sc:Scope}{x:Str}{M:List Str}{cl:List (Str×Vh)}{C:Vh}{fp:List Vh}:(blk X sc x M cl C s H fp).K=X.K:=rfl
theorem dly{G:Prop}(h:∀ g:Prop,(G->g)->g):G:=h G id
local macro_rules | `(tactic| walk_at "sc") => `(tactic| exact ⟨rfl, rfl, rfl, by decide +kernel, rfl, by decide +kernel, by decide +kernel⟩)
local macro_rules | `(tactic| walk_at "n") => do let h := LZ `h; let r := LZ `rfl; `(tactic| first | (cases $h:ident; subst_vars; rfl) | (repeat (first | (rcases $h:ident with ⟨$r:ident, _⟩; rfl) | rcases $h:ident with ⟨_, $h:ident⟩)))
local macro_rules | `(tactic| walk_at "rd") => do let x := ("Xfc YWd ZTc ZUc ZVc Ymc Ync Yoc Ypc QCd QDd Js JFc XYb Jld Q4b Jmd Jwd rIn Yic Ysb Jjb Jzd Int.reduceLT Int.reduceLE Int.reduceToNat ZWd QPc tB ZOd ZNd tOr JCc ZRd JDc tOp tUn XEb XFb tC ZVd Zzc Y0a JGc tCB Jsa XZa ZLa Jgd Jhd rI rI0 rU rEq rNe X7c X8c X9c Qad Qbd Qcd Qdd Qed Qfd Qgd Qhd Qid Qjd Qkd tBM Jnd Jlb Jhb tSl Jva Ye ZYc X5b XVb Qfc XXb Qgb YRc XUb Ycc Ybc Jtd Jmb YPc YQc Z8c YOc ZG.thawed Xgc Xhc Jzb JUd Y0c Y1c Y2c XWb JDb tIf YGc ZZd JHc ZYd JOd YIc JAa List.getElem?_cons_zero List.getElem?_cons_succ List.set_cons_zero List.set_cons_succ Option.some.injEq V.int.injEq V.bl.injEq V.str.injEq V.ref.injEq exists_eq_left exists_eq_left' exists_eq_right exists_and_left List.cons.injEq and_true true_and List.append_nil decide_eq_true_eq Bool.not_eq_true' decide_eq_false_iff_not Bool.not_true Bool.not_false if_true if_false Bool.true_eq_false Bool.false_eq_true reduceCtorEq exists_const exists_false false_and and_false not_true_eq_false not_false_eq_true ite_true ite_false".splitOn " ").toArray.map λs => LZ s.toName; let y := ("YMd JFd JGd JHd QAd".splitOn " ").toArray.map λs => LZ s.toName; let d := ("Js JFc XYb Jld Q4b Jmd Jwd rIn Yic Ysb Jjb Jzd ZWd QPc tB ZOd ZNd tOr JCc ZRd JDc tOp tUn tC ZVd Zzc Y0a JGc tCB Jsa XZa ZLa Jgd Jhd rI rI0 rU rEq rNe tBM Jnd Jlb Jhb tSl Jva Ye X5b XVb XXb Qgb XUb Ycc Ybc Jtd Jmb YPc YOc Jzb JUd Y0c Y1c Y2c XWb JDb tIf ZZd JHc ZYd JOd JAa Xfc Xgc Xhc QXd Jic Cx.nox stl".splitOn " ").toArray.map λs => LZ s.toName; `(tactic| ((try dsimp only [$[$d:ident],*]); try simp (maxSteps := 1000000) only [$[↓$y:ident],*, $[$x:ident],*]))
local macro_rules | `(tactic| walk_at "side") => `(tactic| first | lia | decide | ((first | unfold Qaa | unfold Q3b | (refine XIb.ok ?_; unfold XIb) | unfold XIb); first | lia | decide))
local macro_rules | `(tactic| walk_at "go") => `(tactic| (repeat refine And.intro (by walk_at "side") ?_))
def top(i:Nat):VV:=PySem.Challenge.pw_twigtable_k27_rows_and_cells.main.body.getD i (.Pass ⟨0,0,0,0⟩)
def JPa(i j:Nat):VV:=match top i with | .ClassDef _ _ _ body _ _ _ _ _ _ _=>body.getD j (.Pass ⟨0,0,0,0⟩) | s=>s
abbrev ZVa:VV:=top 15
theorem Qsa:Qg ["thing"] ["thing"] (Qd ZVa):=by walk_at "sc"
abbrev YAa:VV:=top 17
theorem Qrb:Qg ["one"] ["one"] (Qd YAa):=by walk_at "sc"
abbrev YBa:VV:=top 21
theorem Qsb:Qg ["thing"] ["thing"] (Qd YBa):=by walk_at "sc"
abbrev YCa:VV:=top 22
theorem Qtb:Qg ["value"] ["value"] (Qd YCa):=by walk_at "sc"
abbrev ZWa:VV:=top 29
theorem Y9a:Qg ["rows","at","key"] ["rows","at","key"] (Qd ZWa):=by walk_at "sc"
abbrev Y1:VV:=top 38
theorem Qta:Qg ["key","mix","sign"] ["key"] (Qd Y1):=by walk_at "sc"
abbrev Qua:VV:=JPa 42 0
theorem JQa:Qg ["self","level","entries"] ["self","level","entries"] (Qd Qua):=by walk_at "sc"
abbrev Qva:VV:=JPa 42 1
theorem JRa:Qg ["self"] ["self"] (Qd Qva):=by walk_at "sc"
abbrev Xs:VV:=JPa 42 2
theorem Zja:Qg ["self"] ["self"] (Qd Xs):=by walk_at "sc"
abbrev Xt:VV:=JPa 42 4
theorem Zka:Qg ["self"] ["self"] (Qd Xt):=by walk_at "sc"
abbrev Y2:VV:=JPa 43 1
theorem Qwa:Qg ["self","pages"] ["self","pages"] (Qd Y2):=by walk_at "sc"
abbrev Xu:VV:=JPa 44 1
theorem Zla:Qg ["self"] ["self"] (Qd Xu):=by walk_at "sc"
abbrev Xv:VV:=JPa 46 0
theorem Zma:Qg ["self"] ["self"] (Qd Xv):=by walk_at "sc"
abbrev J0:VV:=JPa 46 2
theorem Xe:Qg ["self","number"] ["self","number"] (Qd J0):=by walk_at "sc"
abbrev Qxa:VV:=top 56
theorem JSa:Qg ["rows","at","row"] ["rows","at","row"] (Qd Qxa):=by walk_at "sc"
abbrev ZXa:VV:=top 62
theorem Xaa:Qg [] [] (Qd ZXa):=by walk_at "sc"
abbrev Xw:VV:=top 63
theorem Zna:Qg ["table","column"] ["table","column"] (Qd Xw):=by walk_at "sc"
abbrev ZYa:VV:=top 73
theorem Xba:Qg ["table","cells","values","row","column"] ["table","cells"] (Qd ZYa):=by walk_at "sc"
abbrev Qya:VV:=top 78
theorem JTa:Qg ["_law_script","_law_k"] ["_law_script","_law_k"] (Qd Qya):=by walk_at "sc"
abbrev ZZa:VV:=top 79
theorem Xca:Qg ["_law_cell_here","_law_k","_law_number"] ["_law_cell_here","_law_k"] (Qd ZZa):=by walk_at "sc"
abbrev Qza:VV:=top 80
theorem JUa:Qg ["_law_cell_here","_law_some"] ["_law_cell_here"] (Qd Qza):=by walk_at "sc"
abbrev Xx:VV:=top 82
theorem Zoa:Qg ["_law_cell_here"] ["_law_cell_here"] (Qd Xx):=by walk_at "sc"
abbrev Y3:VV:=top 86
theorem QAa:Qg ["_law_one","_law_other"] ["_law_one","_law_other"] (Qd Y3):=by walk_at "sc"
abbrev Zv:VV:=top 87
theorem Yy:Qg ["_law_some","_law_keys"] ["_law_some"] (Qd Zv):=by walk_at "sc"
abbrev QBa:VV:=top 88
theorem JVa:Qg ["_law_key_here","_law_way"] ["_law_key_here","_law_way"] (Qd QBa):=by walk_at "sc"
abbrev Y4:VV:=top 93
theorem QCa:Qg ["_law_row_here"] ["_law_row_here"] (Qd Y4):=by walk_at "sc"
abbrev Yz:VV:=top 94
theorem X5:Qg ["_law_columns","_law_row_here","_law_found","_law_column"] ["_law_columns","_law_row_here"] (Qd Yz):=by walk_at "sc"
abbrev QDa:VV:=top 97
theorem JWa:Qg ["_law_some"] ["_law_some"] (Qd QDa):=by walk_at "sc"
abbrev YA:VV:=top 99
theorem X6:Qg ["_law_some","_law_name","_law_found","_law_key_here"] ["_law_some","_law_name"] (Qd YA):=by walk_at "sc"
abbrev QEa:VV:=top 16
theorem Xy:Qg ["thing"] ["thing"] (Qd QEa):=by walk_at "sc"
abbrev YDa:VV:=top 18
theorem Qub:Qg ["thing","least"] ["thing","least"] (Qd YDa):=by walk_at "sc"
abbrev Qvb:VV:=top 23
theorem ZSb:Qg ["one","other"] ["one","other"] (Qd Qvb):=by walk_at "sc"
abbrev JEb:VV:=top 39
theorem YZb:Qg ["key","mix"] ["key"] (Qd JEb):=by walk_at "sc"
abbrev QFa:VV:=JPa 43 0
theorem JXa:Qg ["self","rows"] ["self","rows"] (Qd QFa):=by walk_at "sc"
abbrev QGa:VV:=JPa 44 0
theorem JYa:Qg ["self","level","heads"] ["self","level","heads"] (Qd QGa):=by walk_at "sc"
abbrev Xz:VV:=JPa 46 1
theorem Zpa:Qg ["self","page","told","number"] ["self","page"] (Qd Xz):=by walk_at "sc"
abbrev XA:VV:=JPa 46 4
theorem Zqa:Qg ["self","number","told"] ["self","number"] (Qd XA):=by walk_at "sc"
abbrev QHa:VV:=top 81
theorem JZa:Qg ["_law_cell_here","_law_size","_law_fill","_law_at","_law_signs"] ["_law_cell_here","_law_size"] (Qd QHa):=by walk_at "sc"
abbrev QIa:VV:=top 83
theorem J0a:Qg ["_law_cell_here","_law_high","_law_low","_law_number"] ["_law_cell_here"] (Qd QIa):=by walk_at "sc"
abbrev XB:VV:=top 90
theorem Zra:Qg ["_law_cell_here","_law_many","_law_letters","_law_at","_law_names_here","_law_k","_law_places","_law_size"] ["_law_cell_here","_law_many"] (Qd XB):=by walk_at "sc"
abbrev YB:VV:=top 98
theorem X7:Qg ["_law_some","_law_low","_law_high","_law_found","_law_key_here"] ["_law_some","_law_low","_law_high"] (Qd YB):=by walk_at "sc"
abbrev Qwb:VV:=top 19
theorem ZTb:Qg ["thing"] ["thing"] (Qd Qwb):=by walk_at "sc"
abbrev Z0a:VV:=top 20
theorem Xda:Qg ["thing"] ["thing"] (Qd Z0a):=by walk_at "sc"
abbrev Z1a:VV:=top 25
theorem Xea:Qg ["keys","key","low","high","middle"] ["keys","key"] (Qd Z1a):=by walk_at "sc"
abbrev Jw:VV:=top 30
theorem YO:Qg ["key","high"] ["key","high"] (Qd Jw):=by walk_at "sc"
abbrev Z2a:VV:=top 40
theorem Xfa:Qg ["key","rest","level"] ["key"] (Qd Z2a):=by walk_at "sc"
abbrev Z3a:VV:=top 84
theorem Xga:Qg ["_law_cell_here","_law_rest","_law_size"] ["_law_cell_here"] (Qd Z3a):=by walk_at "sc"
abbrev XC:VV:=top 85
theorem Zsa:Qg ["_law_cell_here","_law_rest","_law_size"] ["_law_cell_here"] (Qd XC):=by walk_at "sc"
abbrev Z4a:VV:=top 24
theorem Xha:Qg ["values","ordered","value"] ["values"] (Qd Z4a):=by walk_at "sc"
abbrev XD:VV:=top 27
theorem Zta:Qg ["entries","key","place"] ["entries","key"] (Qd XD):=by walk_at "sc"
abbrev QJa:VV:=top 31
theorem J1a:Qg ["key","low","high"] ["key","low","high"] (Qd QJa):=by walk_at "sc"
abbrev YC:VV:=top 32
theorem X8:Qg ["heads","at","low","high"] ["heads","at","low","high"] (Qd YC):=by walk_at "sc"
abbrev YEa:VV:=top 45
theorem Qxb:Qg ["level","entries"] ["level","entries"] (Qd YEa):=by walk_at "sc"
abbrev Xic:VV:=top 48
theorem Xjc:Qg ["entries","level","parts","entry"] ["entries","level"] (Qd Xic):=by walk_at "sc"
abbrev YFa:VV:=top 64
theorem Qyb:Qg ["key"] ["key"] (Qd YFa):=by walk_at "sc"
abbrev Z5a:VV:=top 65
theorem Xia:Qg ["table","column","value"] ["table","column","value"] (Qd Z5a):=by walk_at "sc"
abbrev QKa:VV:=top 91
theorem J2a:Qg ["_law_cell_here","_law_keys","_law_k","_law_key_here"] ["_law_cell_here"] (Qd QKa):=by walk_at "sc"
abbrev Z6a:VV:=top 92
theorem Xja:Qg ["_law_cell_here","_law_columns","_law_row_here","_law_k"] ["_law_cell_here","_law_columns"] (Qd Z6a):=by walk_at "sc"
abbrev XE:VV:=JPa 46 3
theorem Zua:Qg ["self","number","told"] ["self","number"] (Qd XE):=by walk_at "sc"
abbrev Z7a:VV:=top 49
theorem Xka:Qg ["pages","level","entries","heads","part","page"] ["pages","level","entries"] (Qd Z7a):=by walk_at "sc"
abbrev XF:VV:=top 66
theorem Zva:Qg ["table","column"] ["table","column"] (Qd XF):=by walk_at "sc"
abbrev Z8a:VV:=top 69
theorem Xla:Qg ["values"] ["values"] (Qd Z8a):=by walk_at "sc"
abbrev ZQ:VV:=top 102
theorem JS:Qg ["_law_cell_here","_law_columns","_law_keys","_law_some","_law_k","_law_row_here","_law_j","_law_draw"] ["_law_cell_here","_law_columns","_law_keys"] (Qd ZQ):=by walk_at "sc"
abbrev Qjc:VV:=top 28
theorem Zjc:Qg ["pages","root","key","path","number","page","at"] ["pages","root","key"] (Qd Qjc):=by walk_at "sc"
abbrev YGa:VV:=top 50
theorem Qzb:Qg ["pages","level","heads","top","above"] ["pages","level","heads"] (Qd YGa):=by walk_at "sc"
abbrev YHa:VV:=top 60
theorem QAb:Qg ["pages","heads","number","under"] ["pages","heads"] (Qd YHa):=by walk_at "sc"
abbrev XG:VV:=top 68
theorem Zwa:Qg ["cells","column","value","values"] ["cells","column","value"] (Qd XG):=by walk_at "sc"
abbrev JFb:VV:=top 51
theorem Y0b:Qg ["pages","rows","at"] ["pages","rows"] (Qd JFb):=by walk_at "sc"
abbrev QBb:VV:=top 75
theorem ZUb:Qg ["pages","table","key","cells"] ["pages","table","key"] (Qd QBb):=by walk_at "sc"
abbrev YIa:VV:=top 74
theorem QCb:Qg ["pages","table","key","column","row"] ["pages","table","key","column"] (Qd YIa):=by walk_at "sc"
abbrev XH:VV:=top 103
theorem Zxa:Qg ["_law_pages","_law_columns","_law_some","_law_rows","_law_key_here","_law_row_here"] ["_law_pages","_law_columns","_law_some"] (Qd XH):=by walk_at "sc"
abbrev QLa:VV:=top 89
theorem J3a:Qg ["_law_found","_law_due","_law_one","_law_other"] ["_law_found","_law_due"] (Qd QLa):=by walk_at "sc"
abbrev QMa:VV:=top 95
theorem J4a:Qg ["_law_found","_law_due","_law_at","_law_column","_law_value"] ["_law_found","_law_due"] (Qd QMa):=by walk_at "sc"
abbrev XI:VV:=top 96
theorem Zya:Qg ["_law_found","_law_columns","_law_some","_law_due","_law_one","_law_row_here"] ["_law_found","_law_columns","_law_some"] (Qd XI):=by walk_at "sc"
abbrev XJ:VV:=top 100
theorem Zza:Qg ["_law_pages","_law_table","_law_columns","_law_some","_law_key_here","_law_name","_law_found"] ["_law_pages","_law_table","_law_columns","_law_some","_law_key_here","_law_name"] (Qd XJ):=by walk_at "sc"
abbrev Y5:VV:=JPa 42 5
theorem QNa:Qg ["self","pages","rows","number"] ["self","pages"] (Qd Y5):=by walk_at "sc"
abbrev QOa:VV:=top 33
theorem J5a:Qg ["pages","number","low","high","seen","page","heads","at"] ["pages","number","low","high"] (Qd QOa):=by walk_at "sc"
abbrev YJa:VV:=top 52
theorem QDb:Qg ["pages","root"] ["pages","root"] (Qd YJa):=by walk_at "sc"
abbrev XL:VV:=top 55
theorem ZAa:Qg ["pages","number","row","page","at","way","heads","inner"] ["pages","number","row"] (Qd XL):=by walk_at "sc"
abbrev QEb:VV:=top 59
theorem ZVb:Qg ["pages","left","right","one","entries","others","inner"] ["pages","left","right"] (Qd QEb):=by walk_at "sc"
abbrev YKa:VV:=top 34
theorem QFb:Qg ["pages","root","low","high","seen","rows","number","page"] ["pages","root","low","high"] (Qd YKa):=by walk_at "sc"
abbrev Xkc:VV:=top 54
theorem Xlc:Qg ["pages","root","key","cells","row","level"] ["pages","root","key","cells"] (Qd Xkc):=by walk_at "sc"
abbrev Y6:VV:=top 67
theorem QPa:Qg ["pages","table","column","columns","rows"] ["pages","table","column"] (Qd Y6):=by walk_at "sc"
abbrev YLa:VV:=top 70
theorem QGb:Qg ["pages","table","key","cells","column"] ["pages","table","key","cells"] (Qd YLa):=by walk_at "sc"
abbrev Z9a:VV:=top 72
theorem Xma:Qg ["pages","table","key","column","value","cells"] ["pages","table","key","column","value"] (Qd Z9a):=by walk_at "sc"
abbrev YMa:VV:=top 76
theorem QHb:Qg ["pages","table","low","high","rows"] ["pages","table","low","high"] (Qd YMa):=by walk_at "sc"
abbrev Ji:VV:=top 104
theorem Z8:Qg ["_law_pages","_law_table","_law_columns","_law_some","_law_found","_law_row_here"] ["_law_pages","_law_table","_law_columns","_law_some"] (Qd Ji):=by walk_at "sc"
abbrev J1:VV:=top 105
theorem YNa:Qg ["_law_pages","_law_table","_law_columns","_law_some","_law_low","_law_high"] ["_law_pages","_law_table","_law_columns","_law_some","_law_low","_law_high"] (Qd J1):=by walk_at "sc"
abbrev J2:VV:=top 58
theorem Xf:Qg ["pages","number","key","page","at","entries","inner"] ["pages","number","key"] (Qd J2):=by walk_at "sc"
abbrev Qkc:VV:=top 57
theorem Zkc:Qg ["pages","root","key"] ["pages","root","key"] (Qd Qkc):=by walk_at "sc"
abbrev Jaa:VV:=top 71
theorem Xna:Qg ["pages","table","key"] ["pages","table","key"] (Qd Jaa):=by walk_at "sc"
abbrev QQa:VV:=top 101
theorem J6a:Qg ["_law_pages","_law_table","_law_columns","_law_some","_law_cell_here","_law_key_here","_law_name","_law_way","_law_new","_law_value","_law_row_here","_law_handed","_law_made"] ["_law_pages","_law_table","_law_columns","_law_some","_law_cell_here","_law_key_here","_law_name"] (Qd QQa):=by walk_at "sc"
abbrev ZWb:VV:=top 106
theorem Xmc:Qg ["_law_script","_law_names_here","_law_keys","_law_pages","_law_table","_law_columns","_law_name","_law_some","_law_held","_law_k","_law_key_here","_law_low","_law_high"] ["_law_script"] (Qd ZWb):=by walk_at "sc"
structure Zs(mg:Str->Option Va):Prop where
 all:mg "all"=Vp
 bool:mg "bool"=Vp
 dict:mg "dict"=Vp
 int:mg "int"=Vp
 isinstance:mg "isinstance"=Vp
 len:mg "len"=Vp
 list:mg "list"=Vp
 max:mg "max"=Vp
 min:mg "min"=Vp
 ord:mg "ord"=Vp
 range:mg "range"=Vp
 sorted:mg "sorted"=Vp
 str:mg "str"=Vp
 tuple:mg "tuple"=Vp
 zip:mg "zip"=Vp
 MOST_SIGNS:∃ t,mg "MOST_SIGNS"=Vo (.int (40) t)
 MOST_LETTERS:∃ t,mg "MOST_LETTERS"=Vo (.int (12) t)
 PERCENT:∃ t,mg "PERCENT"=Vo (.int (37) t)
 MODULUS:∃ t,mg "MODULUS"=Vo (.int (2147483647) t)
 TOP_LEVEL:∃ t,mg "TOP_LEVEL"=Vo (.int (6) t)
def YXd(i j:Nat):Bool:=([(0,0),(1,0),(1,1),(2,0),(2,2),(3,3)]:List (Nat×Nat)).contains (i,j)
structure Tx(K:VC)(mg:Str->Option Va)(ob:Nat->Vh):Prop extends Zs mg where
 mg_Page:mg "Page"=Vo (.ref (ob 0))
 mg_Leaf:mg "Leaf"=Vo (.ref (ob 1))
 mg_Twig:mg "Twig"=Vo (.ref (ob 2))
 mg_Pages:mg "Pages"=Vo (.ref (ob 3))
 ob_:∀ i,i < 4->ObC K (ob i) ["level","rows","heads","entries","told_by_number","number_by_told","count"]
 isa:∀ i j,i < 4->j < 4->UP K (.ref (ob i)) (.ref (ob j))=Vo (YXd i j)
theorem QXd{K:VC}:(Xva CX P w K mg base N qual scope f cd A outer s H E).mg=mg:=rfl
theorem Jic{K:VC}:(Xva CX P w K mg base N qual scope f cd A outer s H E).base=base:=rfl
def stl:List Str->List V->St
 | _::N,v::vs=>Vo v::stl N vs
 | _::N,[]=>Vp::stl N []
 | [],_=>[]
theorem YOa:∀ {N:List Str} {vs:List V},Nat.ble vs.length N.length=true->L2.X4 N vs=stl N vs
 | [],[],_=>rfl
 | _::N,[],_=>by
  have:=YOa (N:=N) (vs:=[]) (by cases N <;> rfl)
  unfold L2.X4 at this ⊢;simp only[stl,<- this,UC,OG,Nat.sub_zero,replicate_succ,Dx,LC]
 | n::N,v::vs,h=>by
  have:=YOa (N:=N) (vs:=vs) h;unfold L2.X4 at this ⊢;simp only[stl,<- this,UC,Nat.add_sub_add_right,UI,LF]
theorem Xhd{e:Expr}(i:Nat){x:Str}{te:TE}{aL:Pos}(hi:X.N[i]?=Vo x)(hs:V5 e (Vo (.Name x aL)) pos.line X.env=pure false)(hN:X.N.Nodup)(he:PE X e te)(hx:Loc X.env.scope x)(hf:X.fn x=true\/X.env.scope.names.lookup x=Vo .local):PS X (.Assign [.Name x aL] e pos) (Zzc te (Y0a i)):=XPa i hN he hi hx hs hf
theorem pvK(i:Nat){x:Str}{pos:Pos}(hN:X.N[i]?=Vo x)(hv:Vis X.env.scope x)(hd:(x == ("__debug__":Str))=false)(hc:(x == ("__classdict__":Str))=false):PE X (.Name x pos) (Ju i):=pv i hN hv hd hc
theorem pgK(i:Nat){x:Str}(h1:X.N[i]?=Vo x)(h0:X.N.Nodup)(h2:Loc X.env.scope x)(h3:X.fn x=true\/X.env.scope.names.lookup x=Vo .local):PG X (.Name x pos) (Y0a i):=Jfb h0 h1 h2 h3
theorem tyK{x:Str}{u:Va}(hv:VE x=Vo u)(r:Qt v u)(hm:X.mg x=Vp)(hg:Gl X x)(hn:x≠"__name__")(hd:(x == ("__debug__":Str))=false):PE X (.Name x pos) (tC v):=Jdb hg hm hv r hn hd
theorem ptB{o:BoolOp}{es:List Expr}{p:Pos}{t:TT}(h:PW X (.BoolOp o es p) t):PT X (.BoolOp o es p) t:=h.pt
theorem ptC{f:Expr}{es:List Expr}{ks}{p:Pos}{t:TE}(h:PE X (.Call f es ks p) t):PT X (.Call f es ks p) (tB t):=ZIa h
theorem ptN{x:Str}{p:Pos}{t:TE}(h:PE X (.Name x p) t):PT X (.Name x p) (λσ H Q=>t σ H λx H'=>∃ k,Jdd X.K x H' k/\Q k H'):=JRc h λ_=>rfl
theorem lcJ(j:Nat){l:List Str}{y:Str}(h:l[j]?=Vo y):l[j]?=Vo y:=h
theorem lcA{sc dsc:Scope}{x:Str}{ps:List Str}(_:Qg N ps dsc)(hN:X.N=N)(hs:X.env.scope=dsc)(h:JEd dsc sc x N N=true):X3a X sc x N:=QYc hN hs h
theorem tR{s:String}:Qt (.ty s) (.type s):=rfl
abbrev PEn(X:Cx)(x:Str)(p:Pos)(t:TE):=PE X (.Name x p) t
abbrev PEc(X:Cx)(x:Const)(n:Nat)(p:Pos)(t:TE):=PE X (.Constant x n p) t
abbrev PEl(X:Cx)(f:Expr)(a:List Expr)(k:List U2)(p:Pos)(t:TE):=PE X (.Call f a k p) t
abbrev PEb(X:Cx)(a:Expr)(o:Operator)(b:Expr)(p:Pos)(t:TE):=PE X (.BinOp a o b p) t
local macro_rules | `(tactic| walk_at "v") => `(tactic| with_unfolding_all first | exact rfl | exact Or.inl rfl | exact OE rfl | exact OE (Or.inl rfl) | exact OE (OE rfl) | decide)
local macro_rules | `(tactic| exists $x,*) => `(tactic| (exists 1, $x,*; walk_at "rd"))
local macro_rules | `(tactic| exists 1, $x,*) => do let i (s : String) := LZ s.toName; let r (s : List String) := do { let t <- s.toArray.mapM λs => do { let a := s.splitOn ","; let b <- a.tail.toArray.mapM λx => if x = "?" then `(tactic| walk_at "v") else if x = "!" then `(tactic| assumption) else if x = "*" then `(tactic| (apply Xbc; assumption)) else if x.startsWith "~" then `(tactic| with_reducible exact $(i (x.drop 1).toString)) else if x.startsWith "<" then `(tactic| rotate_left 3) else if x.startsWith ">" then `(tactic| rotate_right 3) else `(tactic| exact $(i x)); let h := a.head!.splitOn ":"; let h := Lean.Syntax.mkApp (i h.head!) (h.tail.toArray.map λn => Lean.Syntax.mkNumLit n); let b := #[<- `(tactic| apply $h)] ++ b; `(tactic| ($[$b:tactic];*)) }; `(tactic| first $[| $t:tactic]*) }; let g <- ("PA Zc Q2|PEn pvK:#,rfl,?,?,? tyK,~JDd,tR,T.int tyK,~Qzd,tR,T.bool tyK,~X2b,tR,T.str tyK,~X7a,tR,T.tuple tyK,~QXc,tR,T.list tyK,~Zec,tR,T.dict|PEc JBc Jcb ZMd Ykb|PEl Qq,<3,~Jz,>3,Qna QK,<3,~X7a,>3,Q6b Qq,<3,~Yjc,>3,JSc J3c,PySem.F.plainAttrs_list,~PySem.F.slot_list_append,PySem.F.type_list_append,ZCb J3c,PySem.F.plainAttrs_list,~PySem.F.slot_list_extend,PySem.F.type_list_extend,Qac J3c,PySem.F.plainAttrs_str,~PySem.F.slot_str_join,PySem.F.type_str_join,Qyd YZ,! QSd,! YQd,! JSd,! PE1.pe,*|PEb Qu,~Z7d Qu,~Z6d Qu,~X6c Qu,~QBd Qu,~Z8d Qu,~Jad Qu,~Z9d|PE JVc Jid Jfd YDd,~Jbd ZTd Yzd ZSd ZUd Yd,~JQc Yd,~QOc JEc|PT Yla ptB ptC ptN Qj,~YEd Qj,~YFd Qj,~JQc Qj,~QOc|PSs Jpa Yb ZR|PS Qca Ymb Jeb JKc Z6c Xhd:#,rfl,?,nd|PW X2c ZQd ZPd Yyd|PG pgK:#,rfl,nd,?,? Z0d|PO Qrd Qsd|Qw QWc Jnb|PI ZAc ZBc Xdc|PGs JIc X3c|PassesOwn PassesOwn.never|Q1 hr|List.Nodup nd".splitOn "|").toArray.mapM λs => do { let l := s.splitOn " "; let t <- r (l.tail.flatMap λs => if s.contains '#' then (VB 16).map λn => s.replace "#" (toString n) else [s]); `(tactic| (show $(i l.head!) ..; $t:tactic)) }; let z <- r ("T.len T.isinstance T.range T.tuple T.list T.sorted T.dict T.max T.min T.ord T.all T.zip".splitOn " "); let b <- r ("JAd Jz X7a QXc Q6a Zec JBd JCd Yjc JMd".splitOn " "); let u <- r ("hr.u1 hr.u9 hr.units hr.units0".splitOn " "); let t <- `(tactic| repeat' (refine (?_ : (_ : Prop)); first | with_reducible (show VE _ = _; $b:tactic) | ((with_reducible show Cx.mg _ _ = Vp); $z:tactic) | exact rfl $[| $g:tactic]* | (show _ < UR; $u:tactic) | walk_at "v" | exact λ_ => rfl | exact λ_ _ => rfl | exact ⟨rfl, rfl, rfl, rfl⟩ | (show VY _ _ = _; exact Jcd _) | (show X3a .. ; exact lcA $(i "S") rfl rfl (by decide +kernel)) | (show _ <= _; lia) | (show Around.handled _ = _; exact $(i "hr.hd")) | (show _ ≠ _; decide) | assumption | (intro _ _ _ _ _; first | show PE .. | show Qw ..))); let x := x.getElems; let S := i "S"; let h <- (x.extract 1 x.size).mapM λh => `(tactic| focus ((first | exact $h | apply $h); $t:tactic)); let h := #[t] ++ h; `(tactic| (refine ⟨_, (by have $S:ident := $(x[0]!); have $(i "nd"):ident := Qg.nd $S; $[$h:tactic];*), ?_⟩; refine JDa (YOa rfl) ?_)) -- walk_at
theorem stN{g:TG}{tb:TS}{x:V}{σ:St}{P:St->Hp->Prop}{r:VK}{b:St->Hp->Prop}(h:∀ N:St->Hp->Prop,(∀ σ H,P σ H->N σ H)->g x σ H λσ2 H2=>tb { nx:=N,rt:=r,bk:=b,ct:=N } σ2 H2):g x σ H λσ2 H2=>tb { nx:=P,rt:=r,bk:=b,ct:=P } σ2 H2:=h P λ_ _ z=>z
section
variable{K:VC}
theorem Y1b:UP K (.type "int") (.type "tuple")=Vo false:=by rfl
theorem Y2b:UP K (.type "str") (.type "tuple")=Vo false:=by rfl
theorem Y3b:UP K (.type "NoneType") (.type "tuple")=Vo false:=by rfl
theorem QRa:UP K (.type "tuple") (.type "tuple")=Vo true:=by rfl
theorem Y4b:UP K (.type "list") (.type "list")=Vo true:=by rfl
theorem JGb:UP K (.type "NoneType") (.type "bool")=Vo false:=by rfl
theorem JHb:UP K (.type "str") (.type "bool")=Vo false:=by rfl
end
theorem YPa(v:V):[v].length<=Vs:=show 1<=Vs by decide
theorem QG{n:Nat}(h:n<=1000):n<=Vs:=VJ (Qm h)
theorem at0(x:V)(r:List V):atI (x::r) 0=Vo x:=QQ (j:=0) rfl
theorem at1(x y:V)(r:List V):atI (x::y::r) 1=Vo y:=QQ (j:=1) rfl
theorem Jjc{P:V->Prop}(py:∀ (i:Nat) y,ys[i]?=Vo y->P y):∀ v∈ys,P v:=λv hv=>by
 obtain⟨i,hi,e⟩:=mem_iff_getElem.mp hv;exact py i v (by rw[IA hi,e])
namespace M11
def p:Int:=2147483647
theorem Qlc(cs:List Int):∀ (a:Int),0<=a->a < 2147483647->0<=cs.foldl (λm c=>(m * 131+c) % 2147483647) a/\cs.foldl (λm c=>(m * 131+c) % 2147483647) a < 2147483647:=by
 induction cs with
 | nil=>intro a h1 h2;exact⟨h1,h2⟩
 | cons c cs ih =>
  intro a h1 h2;simp only[IW]
  apply ih <;> lia
def lev:Nat->Int->Nat
 | 0,_=>0
 | n+1,m=>if m % 4=0 then lev n (m / 4)+1 else 0
theorem Y5b(n:Nat)(m:Int):lev (n+1) m=if m % 4=0 then lev n (m / 4)+1 else 0:=rfl
theorem Xnc:∀ (n:Nat) (m:Int),lev n m<=n
 | 0,_=>Um _
 | n+1,m=>by
  unfold lev
  split
  .have:=Xnc n (m / 4);lia
  .lia
theorem Xoc{n:Nat}{m:Int}{r:Int}{l:Nat}(h:l+lev (n - l) r=lev n m)(hl:l < n)(e:r % 4=0):(l+1)+lev (n - (l+1)) (r / 4)=lev n m:=by
 have e1:n - l=(n - (l+1))+1:=by lia
 rw[e1,Y5b,if_pos e]at h
 lia
theorem Zlc{n:Nat}{m:Int}{r:Int}{l:Nat}(h:l+lev (n - l) r=lev n m)(hl:¬ (l < n/\r % 4=0))(hn:l<=n):l=lev n m:=by
 by_cases h1:l < n
 .have h2:r % 4≠0:=λe=>hl ⟨h1,e⟩
  have e1:n - l=(n - (l+1))+1:=by lia
  rw[e1,Y5b,if_neg h2]at h
  lia
 .have e:n - l=0:=by lia
  rw[e]at h;simp only[lev]at h
  lia
end M11
def Q4:V->Prop
 | .int n => -(10 ^ 30) < n/\n < 10 ^ 30
 | .str z=>z.length<=40
 | _=>False
def Jba(z:Str):List Int:=z.cps.toList.map λ(c:Nat)=>(c:Int)
def J3d:V->Int
 | .int n=>(n * 48271+11) % 2147483647
 | .str z=>(Jba z).foldl (λm c=>(m * 131+c) % 2147483647) 7
 | _=>0
def JIb(v:V):Int:=Builtin.bitXor (J3d v) (J3d v / 32768)
def QF(v:V):Nat:=M11.lev 6 (JIb v)
theorem Jkc{α β:Type}{l:List α}{c:α}{f:β->α->β}{a:β}(h:l[i]?=Vo c):(l.take (i+1)).foldl f a=f ((l.take i).foldl f a) c:=by
 rw[Im,h];simp
theorem QYd{c:Nat}(h:z.cps.toList[i]?=Vo c):(Jba z)[i]?=Vo (c:Int):=by
 unfold Jba;rw[Of,h]
 rfl
theorem Xpc(z:Str):(Jba z).length=z.length:=by
 unfold Jba;rw[UK];simp[Os]
theorem Jj{α:Type}{l:List α}{k:Int}(h0:0<=k)(h1:k < (l.length:Int)):∃ c,atI l k=Vo c:=by
 have hk:k.toNat < l.length:=by lia
 have ek:k=((k.toNat:Nat):Int):=by lia
 have h:=QQ (xs:=l) (j:=k.toNat) (IA hk)
 rw[<- ek]at h;exact⟨_,h⟩
inductive YD(ai:VC)(vs:List V)(H:Hp)(Q:VK)(E:XK):Prop
 | mk:∀ v,vs=[v]->Q4 v->Q (.int (J3d v)) H->YD ai vs H Q E
inductive QIb(ai:VC)(vs:List V)(H:Hp)(Q:VK)(E:XK):Prop
 | mk:∀ v,vs=[v]->Q4 v->Q (.int (JIb v)) H->QIb ai vs H Q E
inductive QSa(ai:VC)(vs:List V)(H:Hp)(Q:VK)(E:XK):Prop
 | mk:∀ v,vs=[v]->Q4 v->Q (.int (QF v)) H->QSa ai vs H Q E
theorem Zf{K:VC}:UP K (.type "int") (.type "str")=Vo false:=by rfl
theorem QS{K:VC}:UP K (.type "str") (.type "str")=Vo true:=by rfl
seal PE PT PW PA PS PSs PI PG Qw PGs PO PE1 PC
seal La in
theorem QJb(T:Tx K mg ob)(F:Fun K "mixed_first" "mixed_first" Y1 f fd):Qp P w K mg base CX0 1 f fd ["key"] (YD K):=by
 refine F.ok Qta (λvs H Q E h=>?_) (λah A outer s H vs Q E hr h=>?_)
 .walk_at "n"
 obtain⟨v,rfl,hv,q⟩:=h
 exists Qta,Qu,Qz,Q5a,T.MODULUS,Q6,X1b,Qu,Qz,Q5a,T.MODULUS
 cases v with
 | int n =>
  refine QJ (.int n) Zf ⟨_,rfl,?_⟩
  walk_at "rd";walk_at "go";exact q
 | str z =>
  refine QJ (.str z) QS ⟨_,rfl,?_⟩
  walk_at "rd";refine QEd (z:=z) (λi σ' H'=>H'=H/\∃ x,σ'=[Vo (.str z),Vo (.int (((Jba z).take i).foldl (λm c=>(m * 131+c) % 2147483647) 7)),x]) ⟨rfl,_,rfl⟩ ?_ ?_
  .rintro i c σ' H' hc ⟨rfl,x,rfl⟩
   walk_at "rd";have hr:=M11.Qlc ((Jba z).take i) 7 #[1] #[1]
   refine⟨by refine XIb.ok ?_;unfold XIb;lia,rfl,?_,_,rfl⟩
   rw[Jkc (QYd hc)]
   rfl
  .rintro σ' H' ⟨rfl,x,rfl⟩
   walk_at "rd";rw[Ip (by rw[Xpc];exact Um _)]
   exact q
 | _=>exact hv.elim
seal La in
theorem Xqc(T:Tx K mg ob)(XWc:Cal P w K mg base 1 "mixed_first" ["key"] (YD K))(F:Fun K "mixed" "mixed" JEb f fd):Qp P w K mg base CX0 2 f fd ["key"] (QIb K):=by
 refine F.ok YZb (λvs H Q E h=>?_) (λah A outer s H vs Q E hr h=>?_)
 .walk_at "n"
 obtain⟨v,rfl,hv,q⟩:=h
 exists YZb
 refine⟨v,rfl,hv,?_⟩
 walk_at "rd";walk_at "go";exact q
seal La in
theorem Y6b(T:Tx K mg ob)(Y8d:Cal P w K mg base 2 "mixed" ["key"] (QIb K))(F:Fun K "level_of" "level_of" Z2a f fd):Qp P w K mg base CX0 3 f fd ["key"] (QSa K):=by
 refine F.ok Xfa (λvs H Q E h=>?_) (λah A outer s H vs Q E hr h=>?_)
 .walk_at "n"
 obtain⟨v,rfl,hv,q⟩:=h
 exists Xfa,Qj,YM,Q5a,T.TOP_LEVEL,Qj,Q5,Qu,Qz
 refine⟨v,rfl,hv,?_⟩
 walk_at "rd";refine⟨λm σ' H'=>H'=H/\∃ (r:Int) (l:Nat),σ'=[Vo v,Vo (.int r),Vo (.int l)]/\l<=6/\m=6 - l/\l+M11.lev (6 - l) r=QF v,⟨6,rfl,JIb v,0,rfl,by decide,rfl,by show 0+M11.lev 6 (JIb v)=QF v;rw[Nat.zero_add];rfl⟩,?_⟩
 rintro m σ' H' ⟨rfl,r,l,rfl,hl,rfl,e⟩;walk_at "rd"
 by_cases h1:l < 6
 .rw[if_pos #[0]]
  walk_at "go"
  by_cases h2:r % 4=0
  .rw[if_pos h2]
   refine⟨λσ2 H2=>H2=H'/\σ2=[Vo v,Vo (.int (r / 4)),Vo (.int ((l+1:Nat):Int))],λσ2 H2 ⟨a,b⟩=>⟨6 - (l+1),by lia,a,r / 4,l+1,b,by lia,rfl,M11.Xoc e h1 h2⟩,?_⟩
   walk_at "rd";exact⟨rfl,by lia⟩
  .rw[if_neg h2]
   have:=M11.Zlc e (λz=>h2 z.2) hl
   rw[this];exact q
 .rw[if_neg #[0]]
  have:=M11.Zlc e (λz=>h1 z.1) hl
  rw[this];exact q
def pgF(tw:Bool)(l:Int)(t:Vh):List (Str×V):=ZS (if tw=true then "heads" else "rows") (.ref t) (ZS "entries" (.ref t) (ZS "level" (.int l) []))
theorem Qmc{tw:Bool}:(if tw=true then 2 else 1) < 4:=by cases tw <;> decide
inductive PgD(ob:Nat->Vh)(H:Hp)(a:Vh)(l:Int)(es:List Dt):Prop
 | mk (tw:Bool) (dx t:Vh) (e:tw=decide (l≠0)) (h:H a=Vo (.ins (ob (if tw=true then 2 else 1)) dx (pgF tw l t))) (r:TD H 7 (.t es) (.ref t)):PgD ob H a l es
theorem PgD.same{l:Int}(h:PgD ob H a l es)(s:Qf H H'):PgD ob H' a l es:=by
 obtain⟨tw,dx,t,e,h1,h2⟩:=h;exact⟨tw,dx,t,e,s _ _ h1,h2.same s⟩
section
variable{K:VC}{mg:Str->Option Va}{ob:Nat->Vh}{a t dx:Vh}{tw:Bool}{l:Int}{i:Nat}{σ:St}{H:Hp}{Q:VK}
theorem JT(T:Tx K mg ob)(hs:σ[i]?=Vo (Vo (.ref a)))(ha:H a=Vo (.ins (ob (if tw=true then 2 else 1)) dx (pgF tw l t)))(q:Q (.int l) H):Qod K (Ju i) "level" σ H Q :=
 Zb (T.ob_ _ Qmc) #[1] hs ha (by cases tw <;> rfl) q
theorem Z9(T:Tx K mg ob)(hs:σ[i]?=Vo (Vo (.ref a)))(ha:H a=Vo (.ins (ob (if tw=true then 2 else 1)) dx (pgF tw l t)))(q:Q (.ref t) H):Qod K (Ju i) "entries" σ H Q :=
 Zb (T.ob_ _ Qmc) #[1] hs ha (by cases tw <;> rfl) q
end
theorem QZd{x:V}(h:xs[0]?=Vo x):atI xs 0=Vo x:=QQ (j:=0) h
inductive ZI(ai:VC)(ob:Nat->Vh)(vs:List V)(H:Hp)(Q:VK)(E:XK):Prop
 | mk:∀ a l es,vs=[.ref a]->PgD ob H a l es->(∀ r H',Qf H H'->H r=Vp->TD H' 8 (Q8 l es) (.ref r)->Q (.ref r) H')->ZI ai ob vs H Q E
theorem XM(T:Tx K mg ob)(F:Fun K "told" "Page.told" Qva f fd):Qp P w K mg base CX0 1 f fd ["self"] (ZI K ob):=by
 refine F.ok JRa (λvs H Q E h=>?_) (λah A outer s H vs Q E hr h=>?_)
 .walk_at "n"
 obtain⟨a,l,es,rfl,hP,q⟩:=h
 exists JRa
 obtain⟨tw,dx,t,_,ha,ht⟩:=hP;exact JT T rfl ha (Z9 T rfl ha ⟨QY,λp hp=>q p _ (Qb hp _) hp (TD.pair Qa (.ofV rfl) (ht.same (Qb hp _)))⟩)
inductive Zw(ai:VC)(ob:Nat->Vh)(vs:List V)(H:Hp)(Q:VK)(E:XK):Prop
 | mk:∀ a l k r es,vs=[.ref a]->PgD ob H a l (.t (.v k::r)::es)->Q k H->Zw ai ob vs H Q E
theorem Y7(T:Tx K mg ob)(F:Fun K "first" "Page.first" Xs f fd):Qp P w K mg base CX0 1 f fd ["self"] (Zw K ob):=by
 refine F.ok Zja (λvs H Q E h=>?_) (λah A outer s H vs Q E hr h=>?_)
 .walk_at "n"
 obtain⟨a,l,k,r,es,rfl,hP,q⟩:=h
 exists Zja,Qh,Qi,Qh,Qi
 obtain⟨tw,dx,t,_,ha,ht⟩:=hP;obtain⟨_,_,xs,_,e,aK,rt⟩:=ht.tup;cases e;cases rt with
 | cons r1 _ =>
  obtain⟨_,b,ys,_,rfl,hb,rb⟩:=r1.tup;cases rb with
  | cons r2 _ =>
   obtain⟨_,rfl⟩:=r2.flat;exact Z9 T rfl ha ⟨t,rfl,_,SqT.of aK,_,QZd rfl,b,rfl,_,SqT.of hb,_,QZd rfl,q⟩
inductive Jk(K:VC)(ob:Nat->Vh)(vs:List V)(H:Hp)(Q:VK)(E:XK):Prop
 | mk:∀ a tw dx l e b xs,vs=[.ref a,.int l,.ref e]->H a=Vo (.ins (ob (if tw=true then 2 else 1)) dx [])->HE b H e xs->xs.length<=900->(∀ t H',H' a=Vo (.ins (ob (if tw=true then 2 else 1)) dx (ZS "entries" (.ref t) (ZS "level" (.int l) [])))->H' t=Vo (.tup xs)->(∀ fs,Qf (upd H a (.ins (ob (if tw=true then 2 else 1)) dx fs)) (upd H' a (.ins (ob (if tw=true then 2 else 1)) dx fs)))->Q .non H')->Jk K ob vs H Q E
theorem JJb(T:Tx K mg ob)(F:Fun K "__init__" "Page.__init__" Qua f fd):Qp P w K mg base CX0 1 f fd ["self","level","entries"] (Jk K ob):=by
 refine F.ok JQa (λvs H Q E h=>?_) (λah A outer s H vs Q E hr h=>?_)
 .walk_at "n"
 obtain⟨a,tw,dx,l,e,b,xs,rfl,ha,he,lx,q⟩:=h
 exists JQa,Qga,Qga
 have c:=T.ob_ _ (Qmc (tw:=tw));generalize ob (if tw=true then 2 else 1)=C at *
 refine Jwb c #[1] rfl (y:=.int l) (H1:=H) (λQ q=>q) ha #[1] ?_
 have oy:HE b _ e xs:=HE.upd_ins (o:=.ins C dx (ZS "level" (.int l) [])) he ha;have last:∀ (t:Vh) (H1:Hp),H1 a=Vo (.ins C dx (ZS "level" (.int l) []))->H1 t=Vo (.tup xs)->(∀ fs,Qf (upd H a (.ins C dx fs)) (upd H1 a (.ins C dx fs)))->Q .non (upd H1 a (.ins C dx (ZS "entries" (.ref t) (ZS "level" (.int l) [])))):=by
  intro t H1 h1 ht jX;have ta:t≠a:=λz=>by rw[z,h1]at ht;cases ht
  exact q t _ Qa (by rw[Qe ta];exact ht) λfs=>by rw[YL];exact jX fs
 cases b with
 | false =>
  refine⟨e,rfl,xs,.inl ⟨SqL.of oy,λt ht=>⟨a,C,dx,_,rfl,Qb ht _ _ _ Qa,c.cl,c.no _ #[1],show 1 < 1000 by decide,?_⟩⟩⟩
  have ta:t≠a:=λz=>by rw[z,Qa]at ht;cases ht
  refine last t _ (Qb ht _ _ _ Qa) Qa λfs=>?_
  rw[YKb (VN ta),YL,<- YKb (VN ta)];exact Qb (by rw[Qe ta]at ht ⊢;exact ht) _
 | true =>
  refine⟨e,rfl,xs,.inr ⟨SqT.of oy,⟨a,C,dx,_,rfl,Qa,c.cl,c.no _ #[1],show 1 < 1000 by decide,?_⟩⟩⟩
  exact last e _ Qa oy λfs=>by rw[YL];exact Qf.refl _
theorem ZXb{C dx C' i7:Vh}{fs gX:List (Str×V)}(ha:H a=Vo (.ins C dx fs))(s:Qf (upd H a (.ins C' i7 gX)) H'):QO H H':=λb xs e=>s _ _ (by rw[Qe (Zj e ha (by intro z;cases z))];exact e)
inductive Yh(K:VC)(ob:Nat->Vh)(vs:List V)(H:Hp)(Q:VK)(E:XK):Prop
 | mk:∀ a dx e b xs es,vs=[.ref a,.ref e]->H a=Vo (.ins (ob 1) dx [])->HE b H e xs->Vm (λd v=>TD H 6 d v) es xs->xs.length<=900->(∀ dx fs H',Qf (upd H a (.ins (ob 1) dx fs)) H'->PgD ob H' a 0 es->Q .non H')->Yh K ob vs H Q E
theorem JKb(T:Tx K mg ob)(dY:BaI P w K mg base 1 "Page" (Jk K ob))(F:Fun K "__init__" "Leaf.__init__" QFa f fd):Qp P w K mg base CX0 2 f fd ["self","rows"] (Yh K ob):=by
 refine F.ok JXa (λvs H Q E h=>?_) (λah A outer s H vs Q E hr h=>?_)
 .walk_at "n"
 obtain⟨a,dx,e,b,xs,es,rfl,ha,he,re,lx,q⟩:=h
 exists JXa,ZNb,Qga
 have c:=T.ob_ 1 #[1]
 refine⟨a,false,dx,0,e,b,xs,rfl,ha,he,lx,λt H1 h1 ht hs=>?_⟩
 have ta:t≠a:=λz=>by rw[z,h1]at ht;cases ht
 refine Jwb c #[1] rfl (y:=.ref t) (H1:=H1) (λQ q=>Zb c #[1] rfl h1 rfl q) h1 (show 2 < 1000 by decide) ?_
 exact q dx _ _ (hs _) ⟨false,dx,t,rfl,Qa,TD.ofT (by rw[Qe ta];exact ht) (TDs.sameT re (ZXb ha (hs _)))⟩
inductive Yi(K:VC)(ob:Nat->Vh)(vs:List V)(H:Hp)(Q:VK)(E:XK):Prop
 | mk:∀ a dx l e b xs es,vs=[.ref a,.int l,.ref e]->l≠0->H a=Vo (.ins (ob 2) dx [])->HE b H e xs->Vm (λd v=>TD H 6 d v) es xs->xs.length<=900->(∀ dx fs H',Qf (upd H a (.ins (ob 2) dx fs)) H'->PgD ob H' a l es->Q .non H')->Yi K ob vs H Q E
theorem JLb(T:Tx K mg ob)(dY:BaI P w K mg base 1 "Page" (Jk K ob))(F:Fun K "__init__" "Twig.__init__" QGa f fd):Qp P w K mg base CX0 2 f fd ["self","level","heads"] (Yi K ob):=by
 refine F.ok JYa (λvs H Q E h=>?_) (λah A outer s H vs Q E hr h=>?_)
 .walk_at "n"
 obtain⟨a,dx,l,e,b,xs,es,rfl,hl,ha,he,re,lx,q⟩:=h
 exists JYa,ZNb,Qga
 have c:=T.ob_ 2 #[1]
 refine⟨a,true,dx,l,e,b,xs,rfl,ha,he,lx,λt H1 h1 ht hs=>?_⟩
 have ta:t≠a:=λz=>by rw[z,h1]at ht;cases ht
 refine Jwb c #[1] rfl (y:=.ref t) (H1:=H1) (λQ q=>Zb c #[1] rfl h1 rfl q) h1 (show 2 < 1000 by decide) ?_
 exact q dx _ _ (hs _) ⟨true,dx,t,(decide_eq_true hl).symm,Qa,TD.ofT (by rw[Qe ta];exact ht) (TDs.sameT re (ZXb ha (hs _)))⟩
inductive XN(ai:VC)(ob:Nat->Vh)(vs:List V)(H:Hp)(Q:VK)(E:XK):Prop
 | mk:∀ l e b xs es,vs=[.int l,.ref e]->HE b H e xs->Vm (λd v=>TD H 6 d v) es xs->xs.length<=900->(∀ a H',Qf H H'->H a=Vp->PgD ob H' a l es->Q (.ref a) H')->XN ai ob vs H Q E
theorem Qnc(T:Tx K mg ob)(ve:MkV P w K mg base 2 "Twig" (ob 2) (Yi K ob))(vf:MkV P w K mg base 2 "Leaf" (ob 1) (Yh K ob))(F:Fun K "page_of" "page_of" YEa f fd):Qp P w K mg base CX0 4 f fd ["level","entries"] (XN K ob):=by
 refine F.ok Qxb (λvs H Q E h=>?_) (λah A outer s H vs Q E hr h=>?_)
 .walk_at "n"
 obtain⟨l,e,b,xs,es,rfl,he,re,lx,q⟩:=h
 exists Qxb,Qj,Q5
 have sH:∀ (x dx:Vh) (o u:HO),H x=Vp->H dx=Vp->Qf H (upd (upd H dx u) x o):=λx dx o u h1 h2=>XMa h1 h2 (Qf.refl _)
 refine QR (λh=>?_) λh=>?_
 .refine λx dx hx fG aC=>⟨x,dx,e,b,xs,es,rfl,Qa,he.same (sH _ _ _ _ hx fG),TDs.sameT re (sH _ _ _ _ hx fG).t,lx,λi7 fs H' s' pg=>⟨rfl,q x H' ?_ hx ?_⟩⟩
  .rw[YL]at s';exact XMa hx fG s'
  .subst h;exact pg
 .refine λx dx hx fG aC=>⟨x,dx,l,e,b,xs,es,rfl,h,Qa,he.same (sH _ _ _ _ hx fG),TDs.sameT re (sH _ _ _ _ hx fG).t,lx,λi7 fs H' s' pg=>⟨rfl,q x H' ?_ hx pg⟩⟩
  rw[YL]at s';exact XMa hx fG s'
abbrev StL:=List (Int×Dt×Vh)
def stF(d1 d2:Vh)(c:Int):List (Str×V):=ZS "count" (.int c) (ZS "number_by_told" (.ref d2) (ZS "told_by_number" (.ref d1) []))
def QKb(x:Int×Dt×Vh):Key×V:=(.inl x.1,.ref x.2.2)
def QTa(x:Int×Dt×Vh):Dt×Vh×V:=(x.2.1,x.2.2,.int x.1)
def J6d(d:Dt):Prop:=∃ l k r,∃ es:List Dt,d=Q8 l (.t (.v k::r)::es)/\hV k=true/\es.length < 900
structure Qs(P:Vg)(w:Vb)(ob:Nat->Vh)(H:Hp)(p d1 d2:Vh)(st:StL)(c:Int):Prop where
 obj:∃ dx,H p=Vo (.ins (ob 3) dx (stF d1 d2 c))
 num:H d1=Vo (.dK (st.map QKb))
 tol:H d2=Vo (dN P w d2 (st.map QTa))
 td:∀ x∈st,TD H 8 x.2.1 (.ref x.2.2)
 sh:∀ x∈st,J6d x.2.1
 lt:∀ x∈st,x.1 < c
 nn:(st.map (·.1)).Nodup
 nd:(st.map (·.2.1)).Nodup
 few:st.length<=16000000
section
variable{P:Vg}{w:Vb}{K:VC}{ob:Nat->Vh}{H H':Hp}{p d1 d2:Vh}{st:StL}{c:Int}
theorem Qs.pd1(h:Qs P w ob H p d1 d2 st c):p≠d1:=by
 obtain⟨dx,e⟩:=h.obj;exact Zj e h.num (by intro z;cases z)
theorem Qs.pd2(h:Qs P w ob H p d1 d2 st c):p≠d2:=by
 obtain⟨dx,e⟩:=h.obj;exact Zj e h.tol (by intro z;cases z)
theorem Qs.d12(h:Qs P w ob H p d1 d2 st c):d1≠d2:=Zj h.num h.tol (by intro z;cases z)
theorem Qs.keep(h:Qs P w ob H p d1 d2 st c)(s:QO H H')(hp:H' p=H p)(h1:H' d1=H d1)(h2:H' d2=H d2):Qs P w ob H' p d1 d2 st c :=
 ⟨by rw[hp];exact h.obj,by rw[h1];exact h.num,by rw[h2];exact h.tol,λx hx=>TD.sameT s 8 (h.td x hx),h.sh,h.lt,h.nn,h.nd,h.few⟩
theorem Qs.same(h:Qs P w ob H p d1 d2 st c)(s:Qf H H'):Qs P w ob H' p d1 d2 st c:=by
 obtain⟨dx,e⟩:=h.obj;exact h.keep s.t (by rw[s _ _ e,e]) (by rw[s _ _ h.num,h.num]) (by rw[s _ _ h.tol,h.tol])
theorem Qs.dn(h:Qs P w ob H p d1 d2 st c):Qjb P w K H d2 (st.map QTa):=⟨h.tol,λx hx=>by
 obtain⟨y,hy,rfl⟩:=mem_map.mp hx;exact⟨(h.td y hy).rep,(h.td y hy).h⟩⟩
theorem Qs.get(h:Qs P w ob H p d1 d2 st c){x:Int×Dt×Vh}(hx:x∈st):Q7 (st.map QKb) (.inl x.1)=Vo (.ref x.2.2):=by
 rw[Q8a];have:(λy:Int×Dt×Vh=>decide ((QKb y).1=(Vc x.1:Key)))=λy=>decide (y.1=x.1):=by
  funext y
  exact decide_eq_decide.mpr ⟨λe=>by injection e,λe=>by show Vc _=_;rw[e]⟩
 rw[this,JQ (λy:Int×Dt×Vh=>y.1) h.nn hx];rfl
theorem Qs.getN(h:Qs P w ob H p d1 d2 st c){x:Int×Dt×Vh}(hx:x∈st):ZRa (st.map QTa) x.2.1=Vo (.int x.1):=by
 rw[YOb];have:=JQ (λy:Int×Dt×Vh=>y.2.1) h.nd hx
 rw[show(λy:Int×Dt×Vh=>decide ((QTa y).1=x.2.1))=λy=>decide (y.2.1=x.2.1) from rfl,this];rfl
theorem Qs.fun_(h:Qs P w ob H p d1 d2 st c){n:Int}{d d':Dt}{t t':Vh}(h1:(n,d,t)∈st)(h2:(n,d',t')∈st):d=d'/\t=t':=by
 have e1:=JQ (λy:Int×Dt×Vh=>y.1) h.nn h1
 have e2:=JQ (λy:Int×Dt×Vh=>y.1) h.nn h2
 have e:=e1.symm.trans e2;injection e with e
 injection e with _ e
 injection e with a b
 exact⟨a,b⟩
theorem YYd(h:∀ x∈st,x.1≠n):Q7 (st.map QKb) (.inl n)=Vp:=by
 rw[Q8a];have:(λy:Int×Dt×Vh=>decide ((QKb y).1=(Vc n:Key)))=λy=>decide (y.1=n):=by
  funext y
  exact decide_eq_decide.mpr ⟨λe=>by injection e,λe=>by show Vc _=_;rw[e]⟩
 rw[this,JLa (λy:Int×Dt×Vh=>y.1) h];rfl
theorem Xrc{d:Dt}(h:∀ x∈st,x.2.1≠d):ZRa (st.map QTa) d=Vp:=by
 rw[YOb];have:=JLa (λy:Int×Dt×Vh=>y.2.1) h
 rw[show(λy:Int×Dt×Vh=>decide ((QTa y).1=d))=λy=>decide (y.2.1=d) from rfl,this];rfl
theorem ZD(h:Qs P w ob H p d1 d2 st c)(s:QI [p,d1,d2] H H'):QO H H':=λb xs e=>s b _ (λz=>by
 obtain⟨dx,eo⟩:=h.obj
 rcases mem_cons.mp z with z | z
 .rw[z,eo]at e;cases e
 rcases mem_cons.mp z with z | z
 .rw[z,h.num]at e;cases e
 .rw[mem_singleton.mp z,h.tol]at e;cases e) e
end
inductive JC(P:Vg)(w:Vb)(ob:Nat->Vh)(vs:List V)(H:Hp)(Q:VK)(E:XK):Prop
 | mk:∀ p dx,vs=[.ref p]->H p=Vo (.ins (ob 3) dx [])->(∀ d1 d2 H' dx fs,H d1=Vp->H d2=Vp->Qf (upd H p (.ins (ob 3) dx fs)) H'->Qs P w ob H' p d1 d2 [] 0->Q .non H')->JC P w ob vs H Q E
theorem Zab(T:Tx K mg ob)(F:Fun K "__init__" "Pages.__init__" Xv f fd):Qp P w K mg base CX0 1 f fd ["self"] (JC P w ob):=by
 refine F.ok Zma (λvs H Q E h=>?_) (λah A outer s H vs Q E hr h=>?_)
 .walk_at "n"
 obtain⟨a,dx,rfl,ha,q⟩:=h
 exists Zma,Qga,JN,Qga,Y4c,Qga
 have c:=T.ob_ 3 #[1]
 intro p hp;have pa:a≠p:=λz=>by rw[<- z,ha]at hp;cases hp
 refine⟨a,ob 3,dx,_,rfl,by rw[Qe pa];exact ha,c.cl,c.no _ #[1],by decide,?_⟩
 intro p2 aP;have oC:a≠p2:=λz=>by rw[<- z,Qa]at aP;cases aP
 have fN:upd H p (.dK []) p2=Vp:=by rw[Qe (VN oC)]at aP;exact aP
 have pp:p2≠p:=λz=>by rw[z,Qa]at fN;cases fN
 have gJ:H p2=Vp:=by rw[Qe pp]at fN;exact fN
 refine⟨a,ob 3,dx,ZS "told_by_number" (.ref p) [],rfl,by rw[Qe oC];exact Qa,c.cl,c.no _ #[1],(show 1 < 1000 by decide),?_⟩
 refine⟨a,ob 3,dx,ZS "number_by_told" (.ref p2) (ZS "told_by_number" (.ref p) []),rfl,Qa,c.cl,c.no _ #[1],(show 2 < 1000 by decide),?_⟩
 show Q V.non _;rw[YL];refine q p p2 _ dx (stF p p2 0) hp gJ (λb o hb=>?_) ⟨⟨dx,Qa⟩,?_,?_,(λx hx=>nomatch hx),(λx hx=>nomatch hx),(λx hx=>nomatch hx),LH,LH,Us _⟩
 .by_cases e:b=a
  .rw[e,Qa]at hb ⊢;exact hb
  .rw[Qe e]at hb ⊢
   rw[Qe (QE hb gJ),Qe e,Qe (QE hb hp)];exact hb
 .rw[Qe (VN pa),Qe (VN pp),Qe (VN pa)];exact Qa
 .rw[Qe (VN oC)];exact Qa
inductive ZJ(P:Vg)(w:Vb)(ob:Nat->Vh)(vs:List V)(H:Hp)(Q:VK)(E:XK):Prop
 | mk:∀ p d1 d2 st c n,vs=[.ref p,.int n]->Qs P w ob H p d1 d2 st c->(∀ d t,(n,d,t)∈st->Q (.ref t) H)->((∀ x∈st,x.1≠n)->False)->ZJ P w ob vs H Q E
theorem YQa(T:Tx K mg ob)(F:Fun K "told_at" "Pages.told_at" J0 f fd):Qp P w K mg base CX0 1 f fd ["self","number"] (ZJ P w ob):=by
 refine F.ok Xe (λvs H Q E h=>?_) (λah A outer s H vs Q E hr h=>?_)
 .walk_at "n"
 obtain⟨p,d1,d2,st,c,n,rfl,hS,q1,q2⟩:=h
 exists Xe,XUa,ZGb,Ze
 obtain⟨dx,ho⟩:=hS.obj;have cc:=T.ob_ 3 #[1]
 refine Zb cc #[1] rfl ho rfl ⟨d1,rfl,_,Zr.k (k:=.inl n) hS.num,?_⟩
 by_cases hx:∃ x∈st,x.1=n
 .obtain⟨⟨n',d,t⟩,hm,rfl⟩:=hx
  rw[hS.get hm];rw[if_neg #[2]]
  exact Zb cc #[1] rfl ho rfl ⟨d1,rfl,.ref t,by rw[<- hS.get hm];exact Zr.k (k:=.inl _) hS.num,q1 d t hm⟩
 .exact(q2 λx h e=>hx ⟨x,h,e⟩).elim
inductive QH(P:Vg)(w:Vb)(ob:Nat->Vh)(vs:List V)(H:Hp)(Q:VK)(E:XK):Prop
 | mk:∀ p d1 d2 st c n,vs=[.ref p,.int n]->Qs P w ob H p d1 d2 st c->(∀ l es t,(n,Q8 l es,t)∈st->∀ a H',Qf H H'->H a=Vp->PgD ob H' a l es->Q (.ref a) H')->((∀ x∈st,x.1≠n)->False)->QH P w ob vs H Q E
theorem Zbb(T:Tx K mg ob)(vg:Cal P w K mg base 4 "page_of" ["level","entries"] (XN K ob))(Z6:MeV P w K mg base 1 (ob 3) "told_at" (ZJ P w ob))(F:Fun K "page" "Pages.page" XE f fd):Qp P w K mg base CX0 5 f fd ["self","number"] (QH P w ob):=by
 refine F.ok Zua (λvs H Q E h=>?_) (λah A outer s H vs Q E hr h=>?_)
 .walk_at "n"
 obtain⟨p,d1,d2,st,c,n,rfl,hS,q1,q2⟩:=h
 exists Zua,PE1.pe,QT,Qh,Qi,Qh,Qi
 obtain⟨dx,ho⟩:=hS.obj;have cc:=T.ob_ 3 #[1]
 refine JP rfl ho rfl cc.cl (Z6.mono #[1]) ⟨p,d1,d2,st,c,n,rfl,hS,λd t hm=>?_,q2⟩
 obtain⟨l,k,r,es,ed,hk,le⟩:=hS.sh _ hm;have td:=hS.td _ hm;dsimp only at ed td;subst ed;obtain⟨_,x,z,e,ht,t1,t2⟩:=td.pair_of;cases e;obtain⟨_,rfl⟩:=t1.flat;obtain⟨m,e',xs,em,rfl,he,re⟩:=t2.tup;obtain rfl:m=6:=by lia
 refine⟨t,rfl,_,SqT.of ht,.int l,rfl,⟨t,rfl,_,SqT.of ht,.ref e',rfl,?_⟩⟩
 exact⟨l,e',true,xs,_,rfl,he,re,by have:=Vn re;simp at this;lia,λa H' s ha pg=>q1 l _ t hm a H' s ha pg⟩
inductive JD(P:Vg)(w:Vb)(ob:Nat->Vh)(vs:List V)(H:Hp)(Q:VK)(E:XK):Prop
 | mk:∀ p d1 d2 st c a l es,vs=[.ref p,.ref a]->Qs P w ob H p d1 d2 st c->PgD ob H a l es->J6d (Q8 l es)->st.length < 16000000->(∀ n t,(n,Q8 l es,t)∈st->∀ H',Qf H H'->Q (.int n) H')->((∀ x∈st,x.2.1≠Q8 l es)->∀ t H',QI [p,d1,d2] H H'->Qs P w ob H' p d1 d2 (st++[(c,Q8 l es,t)]) (c+1)->Q (.int c) H')->JD P w ob vs H Q E
theorem Zcb(T:Tx K mg ob)(vh:MeV P w K mg base 1 (ob 0) "told" (ZI K ob))(qW:MeV P w K mg base 1 (ob 1) "told" (ZI K ob))(qX:MeV P w K mg base 1 (ob 2) "told" (ZI K ob))(F:Fun K "kept" "Pages.kept" Xz f fd):Qp P w K mg base CX0 2 f fd ["self","page"] (JD P w ob):=by
 refine F.ok Zpa (λvs H Q E h=>?_) (λah A outer s H vs Q E hr h=>?_)
 .walk_at "n"
 obtain⟨p,d1,d2,st,c,a,l,es,rfl,hS,hP,jw,few,q1,q2⟩:=h
 exists Zpa,PE1.pe,ZPa,XUa,JVd,QNd,ZY,QOd,Qga,Qu,Qz
 obtain⟨dx,ho⟩:=hS.obj;have cc:=T.ob_ 3 #[1]
 obtain⟨tw,vi,t0,bx,ha,ht⟩:=id hP;have Mt:MeV P w K mg base 1 (ob (if tw=true then 2 else 1)) "told" (ZI K ob):=by cases tw with | true=>exact qX | false=>exact qW
 refine Yra rfl ha (by cases tw <;> rfl) (T.ob_ _ Qmc).cl Mt ⟨a,l,es,rfl,hP,λr H1 s1 i8 t1=>?_⟩
 have bz:=hS.same s1;have cW:=s1 _ _ ho;refine Zb cc #[1] rfl cW rfl ⟨d2,rfl,r,rfl,_,bz.dn,Q8 l es,t1.rep,t1.h,?_⟩
 by_cases hx:∃ x∈st,x.2.1=Q8 l es
 .obtain⟨⟨n,d,t⟩,hm,e⟩:=hx
  dsimp only at e;subst e;have g:=bz.getN hm;dsimp only at g;rw[g,if_pos (show(Vo (V.int n)).isSome=true from rfl)]
  exact Zb cc #[1] rfl cW rfl ⟨d2,rfl,r,rfl,_,bz.dn,Q8 l es,t1.rep,t1.h,_,g,q1 n t hm _ s1⟩
 .have aF:∀ x∈st,x.2.1≠Q8 l es:=λx h e=>hx ⟨x,h,e⟩
  have hc:∀ x∈st,x.1≠c:=λx h e=>by have:=hS.lt x h;lia
  rw[Xrc aF,if_neg #[1]]
  refine Zb cc #[1] rfl cW rfl ?_
  refine Zb cc #[1] rfl cW rfl ⟨d1,rfl,_,Xb.k (k:=.inl c) bz.num (by rw[UK,Ux];lia),?_⟩
  rw[J8c _ (YYd hc)];have fO:QI [p,d1,d2] H1 (upd H1 d1 (.dK (st.map QKb++[(.inl c,.ref r)]))):=(QI.refl _ _).upd #[2]
  have bK:=ZD bz fO;refine Zb cc #[1] rfl (by rw[Qe hS.pd1];exact cW) rfl ⟨d2,rfl,r,rfl,st.map QTa,⟨by rw[Qe (VN hS.d12)];exact bz.tol,λx hx=>?_⟩,Q8 l es,(TD.sameT bK 8 t1).rep,t1.h,Xrc aF,by rw[UK,Ux];lia,?_⟩
  .obtain⟨y,hy,rfl⟩:=mem_map.mp hx
   exact⟨(TD.sameT bK 8 (bz.td y hy)).rep,(bz.td y hy).h⟩
  generalize e2:upd H1 d1 (.dK (st.map QKb++[(.inl c,.ref r)]))=H2 at fO bK;have fP:QI [p,d1,d2] H1 (upd H2 d2 (dN P w d2 (st.map QTa++[(Q8 l es,r,.int c)]))):=fO.upd #[2]
  have p3:upd H2 d2 (dN P w d2 (st.map QTa++[(Q8 l es,r,.int c)])) p=Vo (.ins (ob 3) dx (stF d1 d2 c)):=by rw[Qe hS.pd2,<- e2,Qe hS.pd1];exact cW
  refine Jwb (fs:=stF d1 d2 c) cc #[1] rfl (y:=.int (c+1)) (H1:=upd H2 d2 (dN P w d2 (st.map QTa++[(Q8 l es,r,.int c)]))) (λQ q=>by
   simp only[tOp,XEb,XFb,tC,rI0];exact⟨c,1,rfl,rfl,q⟩) p3 (show 3 < 1000 by decide) ?_
  have ms:QI [p,d1,d2] H1 (upd (upd H2 d2 (dN P w d2 (st.map QTa++[(Q8 l es,r,.int c)]))) p (.ins (ob 3) dx (stF d1 d2 (c+1)))):=fP.upd #[2]
  have ig:=ZD bz ms;refine q2 aF r _ ((s1.x _).trans ms) ⟨⟨dx,Qa⟩,?_,?_,λx hx=>?_,λx hx=>?_,λx hx=>?_,?_,?_,?_⟩
  .rw[Qe (VN hS.pd1),Qe hS.d12,<- e2,Qa,Il];rfl
  .rw[Qe (VN hS.pd2),Qa,Il];rfl
  .rcases mem_append.mp hx with h | h
   .exact TD.sameT ig 8 (bz.td x h)
   .rw[mem_singleton.mp h];exact TD.sameT ig 8 t1
  .rcases mem_append.mp hx with h | h
   .exact hS.sh x h
   .rw[mem_singleton.mp h];exact jw
  .rcases mem_append.mp hx with h | h
   .have:=hS.lt x h;lia
   .rw[mem_singleton.mp h];show c < c+1;lia
  .rw[Il,L3]
   refine⟨hS.nn,by simp,λa ha b hb e=>?_⟩
   obtain⟨y,hy,rfl⟩:=mem_map.mp ha;simp at hb;exact hc y hy (by rw[e,hb])
  .rw[Il,L3]
   refine⟨hS.nd,by simp,λa ha b hb e=>?_⟩
   obtain⟨y,hy,rfl⟩:=mem_map.mp ha;simp at hb;exact aF y hy (by rw[e,hb])
  .rw[Oh];show _+1<=16000000;lia
inductive JE(P:Vg)(w:Vb)(ob:Nat->Vh)(vs:List V)(H:Hp)(Q:VK)(E:XK):Prop
 | mk:∀ p d1 d2 st c n,vs=[.ref p,.int n]->Qs P w ob H p d1 d2 st c->(∀ l k r es t,(n,Q8 l (.t (.v k::r)::es),t)∈st->∀ a H',Qf H H'->H a=Vp->TD H' 1 (.t [.v (.int l),.v k]) (.ref a)->Q (.ref a) H')->((∀ x∈st,x.1≠n)->False)->JE P w ob vs H Q E
theorem Zdb(T:Tx K mg ob)(Z6:MeV P w K mg base 1 (ob 3) "told_at" (ZJ P w ob))(F:Fun K "card" "Pages.card" XA f fd):Qp P w K mg base CX0 2 f fd ["self","number"] (JE P w ob):=by
 refine F.ok Zqa (λvs H Q E h=>?_) (λah A outer s H vs Q E hr h=>?_)
 .walk_at "n"
 obtain⟨p,d1,d2,st,c,n,rfl,hS,q1,q2⟩:=h
 exists Zqa,PE1.pe,QT,Qh,Qi,Qh,Qi,Qh,Qi,Qh,Qi
 obtain⟨dx,ho⟩:=hS.obj;have cc:=T.ob_ 3 #[1]
 refine JP rfl ho rfl cc.cl (Z6.mono #[1]) ⟨p,d1,d2,st,c,n,rfl,hS,λd t hm=>?_,q2⟩
 obtain⟨l,k,r,es,ed,hk,le⟩:=hS.sh _ hm;have td:=hS.td _ hm;dsimp only at ed td;subst ed;obtain⟨_,x,z,e,ht,t1,t2⟩:=td.pair_of;cases e;obtain⟨_,rfl⟩:=t1.flat;obtain⟨m,e',xs,em,rfl,he,re⟩:=t2.tup;cases re with
 | cons r1 _ =>
  obtain⟨_,b,ys,_,rfl,hb,rb⟩:=r1.tup;cases rb with
  | cons r2 _ =>
   obtain⟨_,rfl⟩:=r2.flat;exact⟨t,rfl,_,SqT.of ht,.int l,rfl,t,rfl,_,SqT.of ht,.ref e',rfl,e',rfl,_,SqT.of he,.ref b,QZd rfl,b,rfl,_,SqT.of hb,_,QZd rfl,QY,λa ha=>q1 l _ _ _ t hm a _ (Qb ha _) ha (TD.pair Qa (.ofV rfl) (.ofV hk))⟩
inductive YE(ai:VC)(vs:List V)(H:Hp)(Q:VK)(E:XK):Prop
 | mk:∀ v,vs=[v]->QA v->(∀ p,H p=Vp->Q (.ref p) (upd H p (.tup (rk v))))->YE ai vs H Q E
seal La in
theorem Qoc(T:Tx K mg ob)(F:Fun K "rank_of" "rank_of" YCa f fd):Qp P w K mg base CX0 1 f fd ["value"] (YE K):=by
 refine F.ok Qtb (λvs H Q E h=>?_) (λah A outer s H vs Q E hr h=>?_)
 .walk_at "n"
 obtain⟨v,rfl,hv,q⟩:=h
 exists Qtb
 cases v with
 | non=>walk_at "rd";exact⟨by decide,q⟩
 | int n =>
  walk_at "rd";refine QJ (.int n) Zf ⟨_,rfl,?_⟩
  walk_at "rd";exact⟨by show 2<=Vs;decide,q⟩
 | str z =>
  walk_at "rd";refine QJ (.str z) QS ⟨_,rfl,?_⟩
  walk_at "rd";exact⟨by show 2<=Vs;decide,q⟩
 | _=>exact hv.elim
inductive Je(ai:VC)(vs:List V)(H:Hp)(Q:VK)(E:XK):Prop
 | mk:∀ a b,vs=[a,b]->QA a->QA b->(∀ H',Qf H H'->Q (.bl (ltV a b)) H')->Je ai vs H Q E
seal La in
theorem Jmc(T:Tx K mg ob)(vj:Cal P w K mg base 1 "rank_of" ["value"] (YE K))(F:Fun K "before" "before" Qvb f fd):Qp P w K mg base CX0 2 f fd ["one","other"] (Je K):=by
 refine F.ok ZSb (λvs H Q E h=>?_) (λah A outer s H vs Q E hr h=>?_)
 .walk_at "n"
 obtain⟨a,b,rfl,ha,hb,q⟩:=h
 exists ZSb,Yd,Jxd
 refine⟨a,rfl,ha,λp hp=>?_⟩
 walk_at "rd";refine⟨b,rfl,hb,λp2 aP=>?_⟩
 walk_at "rd";exact⟨rk a,SqT.of (by rw[Qe (QE Qa aP)];exact Qa),rk b,SqT.of Qa,ltV a b,Yyc ha hb,q _ ((Qb hp _).trans (Qb aP _))⟩
def Qba(d:Dt):Prop:=∃ k r,d=.t (.v k::r)/\Q4 k
theorem Y8b(h:Q4 k):hV k=true:=by
 cases k with
 | int n=>rfl
 | str z=>rfl
 | _=>exact h.elim
theorem Zq(h:Q4 k):Pl.QA k:=by
 cases k with
 | int n=>exact h
 | str z=>exact h
 | _=>exact h.elim
theorem J7d(k:V):QF k<=6:=M11.Xnc 6 _
theorem QD(s:Qf H H')(n:H d=Vp):Qf H (upd H' d o):=λb u hb=>by
 rw[Qe (QE hb n)];exact s b u hb
structure Yj(H:Hp)(p:Vh)(ps:List Vh)(ae:List (List V)):Prop where
 at_:H p=Vo (.lst (ps.map V.ref))
 len:ps.length=ae.length
 part:∀ (i:Nat) q l,ps[i]?=Vo q->ae[i]?=Vo l->H q=Vo (.lst l)
 nd:(p::ps).Nodup
section
variable{H:Hp}{p:Vh}{ps:List Vh}{ae:List (List V)}
theorem Yj.more{q:Vh}{l:List V}(pa:Yj H p ps ae)(hq:H q=Vp):Yj (upd (upd H q (.lst l)) p (.lst ((ps++[q]).map V.ref))) p (ps++[q]) (ae++[l]):=by
 have qp:q≠p:=λz=>by rw[z,pa.at_]at hq;cases hq
 have qY:q∉ps:=λz=>by
  obtain⟨i,hi,e⟩:=mem_iff_getElem.mp z;have:=pa.part i q (ae[i]'(by rw[<- pa.len];exact hi)) (by rw[IA hi,e]) (IA _)
  rw[hq]at this;cases this
 have qZ:p∉ps:=(nodup_cons.mp pa.nd).1;refine⟨Qa,by simp[pa.len],λi r m e1 e2=>?_,?_⟩
 .have rp:r≠p:=λz=>by
   have hm:=Og e1;rw[z]at hm
   rcases mem_append.mp hm with w | w
   .exact qZ w
   .exact qp (by simpa using w:p=q).symm
  rw[Qe rp]
  by_cases hl:i < ps.length
  .rw[Oe hl]at e1
   rw[Oe (by rw[<- pa.len];exact hl)]at e2
   have rq:r≠q:=λz=>qY (by rw[<- z];exact Og e1)
   rw[Qe rq];exact pa.part i r m e1 e2
  .rw[Od #[0]]at e1
   rw[Od (by rw[<- pa.len];lia),<- pa.len]at e2
   have h0:i - ps.length=0:=by
    cases w:i - ps.length with
    | zero=>rfl
    | succ m=>rw[w]at e1;simp at e1
   rw[h0]at e1 e2;simp at e1 e2;subst e1 e2;exact Qa
 .have:=pa.nd
  simp only[nodup_cons,L3,IS,Dp]at this ⊢;refine⟨λz=>z.elim qZ λz=>qp z.symm,this.2,by simp,λa ha b hb=>?_⟩
  intro z;subst hb;subst z;exact qY ha
theorem Yj.on{ini:List Vh}{q:Vh}{li:List (List V)}{last new:List V}(pa:Yj H p (ini++[q]) (li++[last])):Yj (upd H q (.lst new)) p (ini++[q]) (li++[new]):=by
 have nd:=pa.nd;have qp:p≠q:=λz=>(nodup_cons.mp nd).1 (by rw[z];simp)
 have nq:q∉ini:=λz=>by
  have:=(nodup_cons.mp nd).2;rw[L3]at this;exact this.2.2 q z q #[2] rfl
 have len:ini.length=li.length:=by have:=pa.len;simp at this;exact this
 refine⟨by rw[Qe qp];exact pa.at_,by simp[len],λi r m e1 e2=>?_,nd⟩
 by_cases hl:i < ini.length
 .rw[Oe hl]at e1
  rw[Oe #[0]]at e2
  have rq:r≠q:=λz=>nq (by rw[<- z];exact Og e1)
  rw[Qe rq];exact pa.part i r m (by rw[Oe hl];exact e1) (by rw[Oe #[0]];exact e2)
 .rw[Od #[0]]at e1
  rw[Od #[0],<- len]at e2
  have h0:i - ini.length=0:=by
   cases w:i - ini.length with
   | zero=>rfl
   | succ m=>rw[w]at e1;simp at e1
  rw[h0]at e1 e2;simp at e1 e2;subst e1 e2;exact Qa
end
abbrev PP(H:Hp):List (List Dt)->List (List V)->Prop:=Vm λds vs=>Vm (λd v=>TD H 6 d v) ds vs
theorem J7a{α β:Type}{F:α->β->Prop}:∀ {xs:List α} {us:List β} {u:β},Vm F xs (us++[u])->∃ ys y,xs=ys++[y]/\Vm F ys us/\F y u
 | [],us,u,h=>by have:=Vn h;simp at this
 | x::xs,[],u,h=>by
  cases h with
  | cons r t=>cases t;exact⟨[],x,rfl,.nil,r⟩
 | x::xs,v::us,u,h=>by
  cases h with
  | cons r t =>
   obtain⟨ys,y,rfl,t',f⟩:=J7a t;exact⟨x::ys,y,rfl,.cons r t',f⟩
structure JU(H H':Hp)(l:Int)(es:List Dt)(i:Nat)(p:Vh)(ps:List Vh)(ae:List (List V)):Prop where
 same:Qf H H'
 fresh:∀ q∈p::ps,H q=Vp
 pa:Yj H' p ps ae
 pp:PP H (QW QF l (es.take i)) ae
 lp:ae.length<=i
 lq:∀ part∈ae,part.length<=i
section
variable{H H':Hp}{l:Int}{es rr:List Dt}{i:Nat}{p p1 q1 e:Vh}{ps ini:List Vh}{ae li:List (List V)}{last:List V}{k:V}
theorem JU.start(hp:H p=Vp):JU H (upd H p (.lst [])) l es 0 p [] [] where
 same:=Qb hp _
 fresh:=λr hr=>by
  have:r=p:=by simpa using hr
  rw[this];exact hp
 pa:=⟨Qa,rfl,λi r m e=>by simp at e,by simp⟩
 pp:=.nil
 lp:=Us _
 lq:=λx hx=>nomatch hx
theorem Xsc(hd:es[i]?=Vo (.t (.v k::rr))):QW QF l (es.take (i+1))=Tr.step QF l (QW QF l (es.take i)) (.t (.v k::rr)):=by rw[Im,hd];exact Yq _ _
theorem JU.at1(c:JU H H' l es i p ps ae)(aU:H' p1=Vp):upd (upd H' p1 (.lst [])) p (.lst (ps.map V.ref++[V.ref p1])) p1=Vo (.lst []):=by
 have oE:p1≠p:=λz=>by rw[z,c.pa.at_]at aU;cases aU
 rw[Qe oE];exact Qa
theorem JU.atp(c:JU H H' l es i p ps ae)(aU:H' p1=Vp):upd H' p1 (.lst []) p=Vo (.lst (ps.map V.ref)):=by
 have oE:p1≠p:=λz=>by rw[z,c.pa.at_]at aU;cases aU
 rw[Qe (VN oE)];exact c.pa.at_
theorem JU.more(c:JU H H' l es i p ps ae)(hd:es[i]?=Vo (.t (.v k::rr)))(tx:TD H 6 (.t (.v k::rr)) (.ref e))(aU:H' p1=Vp)(hc:QW QF l (es.take i)=[]\/l < (QF k:Int)) :
 JU H (upd (upd (upd H' p1 (.lst [])) p (.lst (ps.map V.ref++[V.ref p1]))) p1 (.lst ([]++[V.ref e]))) l es (i+1) p (ps++[p1]) (ae++[[.ref e]]):=by
 have np:=c.fresh p VL;have oF:H p1=Vp:=by
  cases e:H p1 with
  | none=>rfl
  | some o=>rw[c.same _ _ e]at aU;cases aU
 have em:ps.map V.ref++[V.ref p1]=(ps++[p1]).map V.ref:=by simp
 refine⟨QD (QD (QD c.same oF) np) oF,λr hr=>?_,?_,?_,?_,?_⟩
 .rcases mem_cons.mp hr with z | z
  .rw[z];exact np
  .rcases mem_append.mp z with z | z
   .exact c.fresh r (VM _ z)
   .have:r=p1:=by simpa using z
    rw[this];exact oF
 .rw[em];exact(c.pa.more (l:=[]) aU).on (new:=[]++[.ref e])
 .rw[Xsc hd]
  unfold Tr.step;rw[if_pos (show _\/l < (QF (Qo (Dt.t (Dt.v k::rr))):Int) from hc)]
  exact OJ c.pp (.cons tx .nil)
 .have:=c.lp;simp;lia
 .intro part hp
  rcases mem_append.mp hp with z | z
  .have:=c.lq part z;lia
  .rw[mem_singleton.mp z];simp
theorem JU.on(c:JU H H' l es i p (ini++[q1]) (li++[last]))(hd:es[i]?=Vo (.t (.v k::rr)))(tx:TD H 6 (.t (.v k::rr)) (.ref e))(hc:¬ l < (QF k:Int)) :
 JU H (upd H' q1 (.lst (last++[.ref e]))) l es (i+1) p (ini++[q1]) (li++[last++[.ref e]]):=by
 obtain⟨iniD,lastD,ec,vk,vm⟩:=J7a c.pp;refine⟨QD c.same (c.fresh q1 #[2]),c.fresh,c.pa.on,?_,?_,?_⟩
 .rw[Xsc hd,ec]
  unfold Tr.step;rw[if_neg (λz=>z.elim (λz=>by simp at z) λz=>hc z)]
  simp only[LR,getLast?_append,getLast?_singleton,Option.some_or,Option.getD_some]
  exact OJ vk (OJ vm tx)
 .have:=c.lp;simp at this ⊢;lia
 .intro part hp
  rcases mem_append.mp hp with z | z
  .have:=c.lq part (VO _ z);lia
  .rw[mem_singleton.mp z]
   have:=c.lq last #[2]
   simp;lia
theorem JU.end_(c:JU H H' l es i p ps ae)(h:ps≠[]):∃ ini q1 li last,ps=ini++[q1]/\ae=li++[last]/\H' q1=Vo (.lst last)/\last.length<=i:=by
 obtain⟨ini,q1,rfl⟩:=ZA h;obtain⟨li,last,rfl⟩:=ZA (xs:=ae) (λz=>by have:=c.pa.len;rw[z]at this;simp at this)
 have len:ini.length=li.length:=by have:=c.pa.len;simp at this;exact this
 exact⟨ini,q1,li,last,rfl,rfl,c.pa.part ini.length q1 last #[2] (by rw[len];simp),c.lq last #[2]⟩
theorem JU.none_(c:JU H H' l es i p ps ae)(h:ps=[]):QW QF l (es.take i)=[]:=Iq (by rw[Vn c.pp,<- c.pa.len,h];rfl)
end
inductive Qpc(K:VC)(vs:List V)(H:Hp)(Q:VK)(E:XK):Prop
 | mk:∀ (a:Vh) (b:Bool) (l:Int) (xs:List V) (es:List Dt),vs=[.ref a,.int l]->SqE b K H a xs->xs.length<=900->Vm (λd v=>TD H 6 d v) es xs->(∀ d∈es,Qba d)->(∀ p ps ae H',Qf H H'->(∀ q∈p::ps,H q=Vp)->Yj H' p ps ae->PP H (QW QF l es) ae->Q (.ref p) H')->Qpc K vs H Q E
seal La in
theorem J8d(T:Tx K mg ob)(J9d:Cal P w K mg base 3 "level_of" ["key"] (QSa K))(F:Fun K "cut" "cut" Xic f fd):Qp P w K mg base CX0 4 f fd ["entries","level"] (Qpc K):=by
 refine F.ok Xjc (λvs H Q E h=>?_) (λah A outer s H vs Q E hr h=>?_)
 .walk_at "n"
 obtain⟨a,b,l,xs,es,rfl,hS,h900,re,ak,q⟩:=h
 exists Xjc,Q6,JQd,Qh,Qi,Qh,Qx
 refine⟨by decide,λp hp=>?_⟩
 refine⟨b,⟨_,hS.same (Qb hp _)⟩,?_⟩
 have le:=Vn re;refine QKd xs (λi σ' H'=>∃ (ps:List Vh) (ae:List (List V)) (x3:Option V),σ'=[Vo (.ref a),Vo (.int l),Vo (.ref p),x3]/\JU H H' l es i p ps ae) ⟨[],[],_,rfl,.start hp⟩ ?_ ?_ ?_
 .rintro i σ' H' _ ⟨_,_,_,_,c⟩
  exact hS.same c.same
 .rintro i x σ' H' hx ⟨ps,ae,x3,rfl,c⟩
  refine stN λN hN=>?_
  have hi:=(List.getElem?_eq_some_iff.mp hx).1
  have hd:es[i]?=Vo (es[i]'#[0]):=IA _
  have tx:=Ql re hd hx;obtain⟨k,rr,ed,hk⟩:=ak _ (Og hd);generalize es[i]'#[0]=d at hd tx ed
  subst ed;obtain⟨m,e,ws,_,rfl,he,eW⟩:=id tx.tup;have lp:=c.lp;walk_at "rd";refine⟨_,.inl ⟨_,SqL.of c.pa.at_,rfl⟩,QR (λh=>?_) λh=>?_⟩
  .have vn:ps=[]:=by simpa using h
   refine⟨.inl ⟨rfl,_,SqL.of c.pa.at_⟩,by decide,λp1 aU=>?_⟩
   exact⟨_,c.atp aU,Qm (by rw[UK,c.pa.len];lia),_,SqL.of Qa,.ref p1,Qha _ _,.inl ⟨rfl,_,SqL.of (c.at1 aU)⟩,p1,rfl,[],c.at1 aU,by decide,hN _ _ ⟨_,_,_,rfl,c.more hd tx aU (.inl (c.none_ vn))⟩⟩
  .have aC:ps≠[]:=λz=>h (by rw[z];rfl)
   cases eW with
   | @cons _ k' _ q8 r1 bj =>
   obtain⟨_,rfl⟩:=r1.flat;refine⟨_,SqT.of (c.same _ _ he),_,at0 _ _,_,rfl,hk,_,rfl,QR (λh2=>?_) λh2=>?_⟩
   .refine⟨.inl ⟨rfl,_,SqL.of c.pa.at_⟩,by decide,λp1 aU=>?_⟩
    exact⟨_,c.atp aU,Qm (by rw[UK,c.pa.len];lia),_,SqL.of Qa,.ref p1,Qha _ _,.inl ⟨rfl,_,SqL.of (c.at1 aU)⟩,p1,rfl,[],c.at1 aU,by decide,hN _ _ ⟨_,_,_,rfl,c.more hd tx aU (.inr h2)⟩⟩
   .obtain⟨ini,q1,li,last,rfl,rfl,dF,ll⟩:=c.end_ aC
    exact⟨_,SqL.of c.pa.at_,.ref q1,by rw[Il];exact Qha _ _,.inl ⟨rfl,_,SqL.of dF⟩,q1,rfl,last,dF,Qm #[0],hN _ _ ⟨_,_,_,rfl,c.on hd tx h2⟩⟩
 .rintro σ' H' ⟨ps,ae,x3,rfl,c⟩
  walk_at "rd";have co:=c.pp;rw[Ip #[0]]at co
  exact q p ps ae H' c.same c.fresh c.pa co
def Qn(st:StL):List (Int×Dt):=st.map λx=>(x.1,x.2.1)
theorem Qs.fn{p:Vh}(h:Qs P w ob H p d1 d2 st c):Fn (Qn st) where
 num:=λn d d' h1 h2=>by
  obtain⟨⟨a,b,t⟩,m1,e1⟩:=mem_map.mp h1;obtain⟨⟨a',b',t'⟩,m2,e2⟩:=mem_map.mp h2;injection e1 with x1 y1
  injection e2 with x2 y2
  dsimp only at x1 y1 x2 y2;subst x1 y1 x2 y2;exact(h.fun_ m1 m2).1
 dat:=λn n' d h1 h2=>by
  obtain⟨⟨a,b,t⟩,m1,e1⟩:=mem_map.mp h1;obtain⟨⟨a',b',t'⟩,m2,e2⟩:=mem_map.mp h2;injection e1 with x1 y1
  injection e2 with x2 y2
  dsimp only at x1 y1 x2 y2;subst x1 y1 x2 y2;have q1:=h.getN m1;have q2:=h.getN m2;dsimp only at q1 q2;rw[q1]at q2;injection q2 with q2
  injection q2
def HdD(d:Dt):Prop:=∃ k n,d=Zt k n/\Q4 k
theorem HdD.ent{d:Dt}(h:HdD d):Qba d:=by
 obtain⟨k,n,rfl,hk⟩:=h;exact⟨k,_,rfl,hk⟩
section
variable{P:Vg}{w:Vb}{ob:Nat->Vh}{H H':Hp}{p d1 d2 a:Vh}{st:StL}{c l:Int}{es:List Dt}{Q:VK}{E:XK}
theorem Q0d(hS:Qs P w ob H p d1 d2 st c)(hP:PgD ob H a l es)(jw:J6d (Q8 l es))(few:st.length < 16000000)
 (q:∀ n H3 bv c3,QI [p,d1,d2] H H3->Qs P w ob H3 p d1 d2 bv c3->(n,Q8 l es)∈Qn bv->(∀ x∈Qn st,x∈Qn bv)->bv.length<=st.length+1->Q (.int n) H3):JD P w ob [.ref p,.ref a] H Q E :=
 ⟨p,d1,d2,st,c,a,l,es,rfl,hS,hP,jw,few,λn t hm H' s=>q n H' st c (s.x _) (hS.same s) (mem_map.mpr ⟨_,hm,rfl⟩) (λx h=>h) #[0],
  λ_ t H' s dS=>q c H' _ _ s dS (mem_map.mpr ⟨_,Ur _ (mem_singleton.mpr rfl),rfl⟩) (λx hx=>by
   obtain⟨y,hy,ey⟩:=mem_map.mp hx;exact mem_map.mpr ⟨y,VO _ hy,ey⟩) (by rw[Oh];exact Um _)⟩
end
structure Y9b(P:Vg)(w:Vb)(ob:Nat->Vh)(H1 H':Hp)(p d1 d2 hh:Vh)(st:StL)(l:Int)(ae:List (List Dt))(i:Nat)(ag:StL)(c':Int)(hs:List Dt)(ys:List V):Prop where
 sx:QI [p,d1,d2,hh] H1 H'
 tt:QO H1 H'
 at_:H' hh=Vo (.lst ys)
 tys:Vm (λd v=>TD H' 6 d v) hs ys
 ehs:∀ d∈hs,HdD d
 hds:QP (Qn ag) l (ae.take i) hs
 stA:Qs P w ob H' p d1 d2 ag c'
 sub:∀ x∈Qn st,x∈Qn ag
 len:ag.length<=st.length+i
section
variable{P:Vg}{w:Vb}{ob:Nat->Vh}{H1 H' H2 H3:Hp}{p d1 d2 hh u:Vh}{st ag bv:StL}{l c' c3 n:Int}{ae:List (List Dt)}{i:Nat}{hs rr rest:List Dt}{ys:List V}{k:V}
theorem Y9b.nhh(h:Y9b P w ob H1 H' p d1 d2 hh st l ae i ag c' hs ys):hh∉[p,d1,d2]:=λz=>by
 obtain⟨dx,ho⟩:=h.stA.obj;simp only[Lp,Lq,or_false]at z
 rcases z with z | z | z
 .exact Zj h.at_ ho (by intro z;cases z) z
 .exact Zj h.at_ h.stA.num (by intro z;cases z) z
 .exact Zj h.at_ h.stA.tol (by intro z;cases z) z
theorem Y9b.next(h:Y9b P w ob H1 H' p d1 d2 hh st l ae i ag c' hs ys)(dG:ae[i]?=Vo (.t (.v k::rr)::rest))(hk:Q4 k)(s2:Qf H' H2)(s3:QI [p,d1,d2] H2 H3)(bc:Qs P w ob H3 p d1 d2 bv c3)
 (hm:(n,Q8 l (.t (.v k::rr)::rest))∈Qn bv) (be:∀ x∈Qn ag,x∈Qn bv) (l3:bv.length<=ag.length+1) (hu:H3 u=Vp) :
 upd H3 u (.tup [k,.int n]) hh=Vo (.lst ys)/\Y9b P w ob H1 (upd (upd H3 u (.tup [k,.int n])) hh (.lst (ys++[.ref u]))) p d1 d2 hh st l ae (i+1) bv c3 (hs++[Zt k n]) (ys++[.ref u]):=by
 have bT:=h.stA.same s2;have jY:=s3 _ _ h.nhh (s2 _ _ h.at_);have mv:upd H3 u (.tup [k,.int n]) hh=Vo (.lst ys):=Qb hu _ _ _ jY;have uh:u≠hh:=λz=>by rw[z,jY]at hu;cases hu
 have q9:QO H3 (upd (upd H3 u (.tup [k,.int n])) hh (.lst (ys++[.ref u]))):=(Qb hu _).t.trans (Yp mv);have rf:=(ZD bT s3).trans q9;have len:=h.len;refine⟨mv,h.sx.trans ((s2.x _).trans ((s3.mono #[2]).trans (((Qb hu _).x _).upd #[2]))),h.tt.trans (s2.t.trans rf),Qa,OJ (TDs.sameT h.tys (s2.t.trans rf)) (TD.pair (by rw[Qe uh];exact Qa) (.ofV (Y8b hk)) (.ofV rfl)),λd hd=>?_,?_,?_,λx hx=>be x (h.sub x hx),by lia⟩
 .rcases mem_append.mp hd with z | z
  .exact h.ehs d z
  .rw[mem_singleton.mp z];exact⟨k,_,rfl,hk⟩
 .rw[Im,dG]
  exact(h.hds.mono be).snoc hm
 .obtain⟨dx3,rg⟩:=bc.obj
  exact bc.keep q9 (by rw[Qe (Zj rg jY (by intro z;cases z)),Qe (QE rg hu)]) (by rw[Qe (Zj bc.num jY (by intro z;cases z)),Qe (QE bc.num hu)]) (by rw[Qe (Zj bc.tol jY (by intro z;cases z)),Qe (QE bc.tol hu)])
theorem Y9b.few(h:Y9b P w ob H1 H' p d1 d2 hh st l ae i ag c' hs ys):ys.length<=i:=by
 have h1:=Vn h.tys;have h2:=h.hds.length;rw[Ob]at h2
 lia
end
theorem YRa{l:Int}:(QW lv l es).length<=es.length:=by
 have h1:∀ (ls:List (List Dt)),(∀ x∈ls,x≠[])->ls.length<=ls.flatten.length:=by
  intro ls
  induction ls with
  | nil=>intro _;exact Um _
  | cons y ys ih =>
   intro h;have:=ih λx hx=>h x (VM _ hx)
   have:0 < y.length:=length_pos_iff.mpr (h y VL);simp only[UC,LK,Oh];lia
 have c:=JA (lv:=lv) l es;have:=h1 _ c.full;rw[c.flat]at this;exact this
theorem Q1d{ps:List Vh}{ae:List (List V)}{l:Int}(pa:Yj H1 a ps ae)(pp:PP H0 (QW QF l es) ae)(ak:∀ d∈es,Qba d){i:Nat}{qa:Vh}(i9:ps[i]?=Vo qa) :
 ∃ k rr rest part,(QW QF l es)[i]?=Vo (.t (.v k::rr)::rest)/\Q4 k/\H1 qa=Vo (.lst part)/\Vm (λd v=>TD H0 6 d v) (.t (.v k::rr)::rest) part/\part.length<=es.length/\rest.length < es.length:=by
 have hi:=(List.getElem?_eq_some_iff.mp i9).1
 have li:i < ae.length:=by rw[<- pa.len];exact hi
 have rh:=Vn pp;have oG:=JA (lv:=QF) l es;have rm:ae[i]?=Vo ae[i]:=IA li
 have dG:(QW QF l es)[i]?=Vo ((QW QF l es)[i]'#[0]):=IA _
 have tp:=Ql pp dG rm;have full:=oG.full _ (Og dG);have mem:∀ d∈(QW QF l es)[i]'#[0],d∈es:=λd hd=>by rw[<- oG.flat];exact mem_flatten.mpr ⟨_,Og dG,hd⟩
 have h1:=(sublist_flatten_of_mem (Og dG)).length_le;rw[oG.flat]at h1;generalize (QW QF l es)[i]'#[0]=partD at dG tp full mem h1
 match partD,full,dG,tp,mem,h1 with
 | d0::rest,_,dG,tp,mem,h1 =>
  obtain⟨k,rr,ed,hk⟩:=ak d0 (mem d0 VL);subst ed;have h2:=Vn tp;exact⟨k,rr,rest,_,dG,hk,pa.part i qa _ i9 rm,tp,by lia,by simp at h1;lia⟩
inductive Zm(P:Vg)(w:Vb)(ob:Nat->Vh)(vs:List V)(H:Hp)(Q:VK)(E:XK):Prop
 | mk:∀ p d1 d2 st c l e b xs es,vs=[.ref p,.int l,.ref e]->Qs P w ob H p d1 d2 st c->HE b H e xs->Vm (λd v=>TD H 6 d v) es xs->(∀ d∈es,Qba d)->xs.length<=900->st.length+xs.length<=16000000->(∀ r H' ag c' hs ys,QI [p,d1,d2] H H'->H r=Vp->H' r=Vo (.lst ys)->Vm (λd v=>TD H' 6 d v) hs ys->(∀ d∈hs,HdD d)->QP (Qn ag) l (QW QF l es) hs->Qs P w ob H' p d1 d2 ag c'->(∀ x∈Qn st,x∈Qn ag)->ag.length<=st.length+xs.length->Q (.ref r) H')->Zm P w ob vs H Q E
theorem Xab(T:Tx K mg ob)(Xmd:Cal P w K mg base 4 "cut" ["entries","level"] (Qpc K))(vg:Cal P w K mg base 4 "page_of" ["level","entries"] (XN K ob))(vo:MeV P w K mg base 1 (ob 0) "first" (Zw K ob))(rn:MeV P w K mg base 1 (ob 1) "first" (Zw K ob))(rB:MeV P w K mg base 1 (ob 2) "first" (Zw K ob))(rC:MeV P w K mg base 2 (ob 3) "kept" (JD P w ob))(F:Fun K "heads_of" "heads_of" Z7a f fd):Qp P w K mg base CX0 5 f fd ["pages","level","entries"] (Zm P w ob):=by
 refine F.ok Xka (λvs H Q E h=>?_) (λah A outer s H vs Q E hr h=>?_)
 .walk_at "n"
 obtain⟨p,d1,d2,st,c,l,e,b,xs,es,rfl,hS,he,re,ak,lx,few,q⟩:=h
 exists Xka,Q6,Zk,PE1.pe,ZPa,PE1.pe,QT
 have cc:=T.ob_ 3 #[1]
 have lre:=Vn re;refine⟨by decide,λhh dm=>?_⟩
 have s0:=Qb dm (.lst []);have iA:upd H hh (.lst []) hh=Vo (.lst []):=Qa;generalize upd H hh (.lst [])=H0 at s0 iA ⊢;have vp:SqE b K H0 e xs:=by
  have rE:=s0 _ _ he;cases b with
  | true=>exact SqT.of rE
  | false=>exact SqL.of rE
 refine⟨e,b,l,xs,es,rfl,vp,lx,TDs.sameT re s0.t,ak,λa ps ae H1 s1 fr pa pp=>⟨a,rfl,⟨_,SqL.of pa.at_⟩,?_⟩⟩
 have iB:=s0.trans s1;have bz:=hS.same iB;obtain⟨dx1,cW⟩:=bz.obj;have oH:=s1 _ _ iA;have rF:∀ q∈a::ps,∀ o,H1 q=Vo (.lst o)->q∉[p,d1,d2,hh]:=λq hq o oI z=>by
  simp only[Lp,Lq,or_false]at z
  rcases z with z | z | z | z
  .exact Zj oI cW (by intro z;cases z) z
  .exact Zj oI bz.num (by intro z;cases z) z
  .exact Zj oI bz.tol (by intro z;cases z) z
  .exact QE iA (fr q hq) z.symm
 have rh:=Vn pp;have lpl:(QW QF l es).length<=es.length:=YRa;refine ZU (ps.map V.ref) (λi σ' H'=>∃ ag c' hs ys x4 x5,σ'=[Vo (.ref p),Vo (.int l),Vo (.ref e),Vo (.ref hh),x4,x5]/\Y9b P w ob H1 H' p d1 d2 hh st l (QW QF l es) i ag c' hs ys)
  ⟨st,c,[],[],_,_,rfl,QI.refl _ _,QO.refl _,oH,.nil,(λd h=>nomatch h),.nil,bz,(λx h=>h),by lia⟩ (λi σ' H' _ ⟨_,_,_,_,_,_,_,h⟩=>SqL.of (h.sx _ _ (rF a VL _ pa.at_) pa.at_)) ?_ ?_
 .rintro i x σ' H' hx ⟨ag,c',hs,ys,x4,x5,rfl,hd⟩
  refine stN λN hN=>?_
  rw[Of]at hx
  obtain⟨qa,i9,rfl⟩:=Option.map_eq_some_iff.mp hx;have hi:=(List.getElem?_eq_some_iff.mp i9).1
  have aA:=hd.len;have jv:=hd.few;have aV:=pa.len;obtain⟨k,rr,rest,part,dG,hk,dF,tp,lpart,lrest⟩:=Q1d pa pp ak i9;have vq:=hd.sx _ _ (rF qa (VM _ (Og i9)) _ dF) dF;walk_at "rd";refine⟨l,qa,false,part,_,rfl,vq,TDs.sameT tp (s1.t.trans hd.tt),by lia,λpg H2 s2 dH aM=>?_⟩
  have bT:=hd.stA.same s2;obtain⟨dq,lZ⟩:=bT.obj;obtain⟨tw,vi,t0,bx,aO,ht⟩:=id aM;have Mf:MeV P w K mg base 1 (ob (if tw=true then 2 else 1)) "first" (Zw K ob):=by cases tw with | true=>exact rB | false=>exact rn
  refine⟨.inl ⟨rfl,_,SqL.of (s2 _ _ hd.at_)⟩,?_⟩
  refine Yra rfl aO (by cases tw <;> rfl) (T.ob_ _ Qmc).cl (Mf.mono #[1]) ⟨pg,l,k,rr,rest,rfl,aM,?_⟩
  refine JP rfl lZ rfl cc.cl (rC.mono #[1]) ?_
  simp only[XZa,XEb,XFb,ZLa];refine Q0d bT aM ⟨l,k,rr,rest,rfl,Y8b hk,by lia⟩ #[0] λn H3 bv c3 s3 bc hm be l3=>?_
  show _/\_;refine⟨QY,λu hu=>?_⟩
  obtain⟨mv,bI⟩:=hd.next dG hk s2 s3 bc hm be l3 hu;exact⟨ys,mv,Qm #[0],hN _ _ ⟨bv,c3,_,_,_,_,rfl,bI⟩⟩
 .rintro σ' H' ⟨ag,c',hs,ys,x4,x5,rfl,hd⟩
  walk_at "rd";have hds:=hd.hds;have l':=hd.len;rw[UK,Ip (by rw[rh,<- pa.len];exact Um _)]at hds
  rw[UK,pa.len]at l';exact q hh H' ag c' hs ys (λb o nb hb=>hd.sx b o (λz=>by
   simp only[Lp,Lq,or_false]at z nb
   rcases z with z | z | z | z
   .exact nb (.inl z)
   .exact nb (.inr (.inl z))
   .exact nb (.inr (.inr z))
   .rw[z,dm]at hb;cases hb) (iB _ _ hb)) dm hd.at_ hd.tys hd.ehs hds hd.stA hd.sub #[0]
inductive Ups(lv:V->Nat)(tbl:List (Int×Dt))(j0:Nat)(eZ:List Dt):Nat->List Dt->Prop
 | refl:Ups lv tbl j0 eZ j0 eZ
 | snoc {j:Nat} {hs aQ:List Dt} (u:Ups lv tbl j0 eZ j hs) (h1:1 < hs.length) (h2:QP tbl ((j+1:Nat):Int) (QW lv ((j+1:Nat):Int) hs) aQ):Ups lv tbl j0 eZ (j+1) aQ
theorem Ups.mono{aE:List (Int×Dt)}{j0:Nat}{eZ hs:List Dt}(u:Ups lv tbl j0 eZ j hs)(s:∀ x∈tbl,x∈aE):Ups lv aE j0 eZ j hs:=by
 induction u with
 | refl=>exact .refl
 | snoc _ h1 h2 ih=>exact .snoc ih h1 (h2.mono s)
theorem Ups.part{rows eZ:List Dt}(h0:QP tbl 0 (QW lv 0 rows) eZ){j:Nat}{hs:List Dt}(u:Ups lv tbl 0 eZ j hs):∃ L,Yva lv tbl rows (j+1) L/\L (j+1)=hs:=by
 induction u with
 | refl=>exact⟨_,Yva.start h0,rfl⟩
 | @snoc j hs aQ u h1 h2 ih =>
  obtain⟨L,p,e⟩:=ih;subst e;exact⟨_,p.next (λx h=>h) #[0] h1 h2,by show(if j+1+1=j+1+1 then aQ else _)=aQ;rw[if_pos rfl]⟩
inductive XO(P:Vg)(w:Vb)(ob:Nat->Vh)(vs:List V)(H:Hp)(Q:VK)(E:XK):Prop
 | mk:∀ p d1 d2 st c e hs ys,∀ j:Nat,vs=[.ref p,.int j,.ref e]->j<=6->Qs P w ob H p d1 d2 st c->H e=Vo (.lst ys)->Vm (λd v=>TD H 6 d v) hs ys->(∀ d∈hs,HdD d)->ys.length<=900->st.length+7 * ys.length<=16000000->(∀ H' ag c' m above v,QI [p,d1,d2] H H'->Qs P w ob H' p d1 d2 ag c'->(∀ x∈Qn st,x∈Qn ag)->ag.length<=st.length+7 * ys.length->Ups QF (Qn ag) j hs m above->m<=7->((hs=[]/\v=.non)\/(hs≠[]/\∃ k n,above=[Zt k n]/\v=.int n))->Q v H')->XO P w ob vs H Q E
seal La in
theorem Qqc(T:Tx K mg ob)(XQ:Cal P w K mg base 5 "heads_of" ["pages","level","entries"] (Zm P w ob))(F:Fun K "crowned" "crowned" YGa f fd):Qp P w K mg base CX0 6 f fd ["pages","level","heads"] (XO P w ob):=by
 refine F.ok Qzb (λvs H Q E h=>?_) (λah A outer s H vs Q E hr h=>?_)
 .walk_at "n"
 obtain⟨p,d1,d2,st,c,e,hs,ys,j,rfl,hj,hS,he,re,gK,ly,few,q⟩:=h
 exists Qzb,Qq,Qy,Qu,Qz,Qh,Qi,Qh,Qx
 refine⟨λm σ' H'=>∃ (t:Nat) (ag:StL) (c':Int) (b:Vh) (above:List Dt) (zs:List V),σ'=[Vo (.ref p),Vo (.int j),Vo (.ref e),Vo (.int t),Vo (.ref b)]/\m=7 - t/\t<=7/\(t=7->above.length<=1)/\j<=t/\QI [p,d1,d2] H H'/\H' b=Vo (.lst zs)/\Vm (λd v=>TD H' 6 d v) above zs/\(∀ d∈above,HdD d)/\zs.length<=ys.length/\Qs P w ob H' p d1 d2 ag c'/\(∀ x∈Qn st,x∈Qn ag)/\ag.length<=st.length+(t - j) * ys.length/\Ups QF (Qn ag) j hs t above/\(hs=[]↔above=[]),
  ⟨_,j,st,c,e,hs,ys,rfl,rfl,by lia,λz=>by lia,Um _,QI.refl _ _,he,re,gK,Um _,hS,λx h=>h,by lia,.refl,Iff.rfl⟩,?_⟩
 rintro m σ' H' ⟨t,ag,c',b,above,zs,rfl,rfl,ht,h7,hjt,sx,hb,tz,hd,lz,dS,sub,l',iC,e8⟩;have rG:=Vn tz;have e1:((t+1:Nat):Int)=(t:Int)+1:=by lia
 walk_at "rd";refine⟨zs,.inl (SqL.of hb),QR (λh1=>?_) λh1=>?_⟩
 .have ht6:t<=6:=by
   rcases Nat.lt_or_ge t 7 with z | z
   .lia
   .have:=h7 #[0];lia
  have iz:(t - j) * ys.length<=6 * ys.length:=L4 _ #[0]
  refine⟨λσ2 H2=>∃ (t2:Nat) (ag:StL) (c':Int) (b:Vh) (above:List Dt) (zs:List V),t2=t+1/\σ2=[Vo (.ref p),Vo (.int j),Vo (.ref e),Vo (.int t2),Vo (.ref b)]/\t2<=7/\(t2=7->above.length<=1)/\j<=t2/\QI [p,d1,d2] H H2/\H2 b=Vo (.lst zs)/\Vm (λd v=>TD H2 6 d v) above zs/\(∀ d∈above,HdD d)/\zs.length<=ys.length/\Qs P w ob H2 p d1 d2 ag c'/\(∀ x∈Qn st,x∈Qn ag)/\ag.length<=st.length+(t2 - j) * ys.length/\Ups QF (Qn ag) j hs t2 above/\(hs=[]↔above=[]),
   λσ2 H2 hZ=>(by obtain⟨t2,a1,a2,a3,a4,a5,a6,a7,b1,b2,b3,b4,b5⟩:=hZ;exact⟨7 - t2,by lia,t2,a1,a2,a3,a7,rfl,b1,a4,b2,b3,b4,a5,b5⟩),?_⟩
  walk_at "rd";refine⟨p,d1,d2,ag,c',(t:Int)+1,b,false,zs,above,rfl,dS,hb,tz,λd h=>(hd d h).ent,by lia,by lia,λr H2 bK c2 dM oJ fO hr ck jZ cP dZ bT cG l2=>?_⟩
  have oK:=dZ.length;have lt2:=Vn jZ;have lc:=YRa (lv:=QF) (l:=(t:Int)+1) (es:=above);have oM:above≠[]:=λz=>by rw[z]at rG;simp at rG;lia
  refine⟨bK,c2,r,⟨by lia,rfl⟩,by lia,dM,λz=>?_,by lia,sx.trans fO,oJ,ck,jZ,cP,by lia,bT,λx hx=>cG x (sub x hx),?_,.snoc (iC.mono cG) #[0] (by rw[e1];exact dZ),?_⟩
  .obtain rfl:t=6:=by lia
   rw[oK,YQb oM (λd _=>by have:=J7d (Qo d);lia)]
   exact Um _
  .have:t+1 - j=(t - j)+1:=by lia
   rw[this,L5]
   lia
  .constructor
   .intro z;exact absurd (e8.mp z) oM
   .intro z
    rw[z]at oK;exact absurd (length_eq_zero_iff.mp oK.symm) (Q9a oM)
 .have iz:(t - j) * ys.length<=7 * ys.length:=L4 _ #[0]
  cases tz with
  | nil =>
   refine⟨false,.inl ⟨_,SqL.of hb,rfl⟩,?_⟩
   rw[if_neg #[1]]
   exact q H' ag c' t [] .non sx dS sub #[0] iC ht (.inl ⟨e8.mpr rfl,rfl⟩)
  | @cons d z _ _ tz tz2 =>
   cases tz2 with
   | nil =>
    obtain⟨k,n,rfl,hk⟩:=hd d VL;obtain⟨u,x1,x2,rfl,hu,u1,u2⟩:=TD.pair_of tz;obtain⟨_,rfl⟩:=u1.flat;obtain⟨_,rfl⟩:=u2.flat;refine⟨true,.inl ⟨_,SqL.of hb,rfl⟩,?_⟩
    rw[if_pos rfl];exact⟨_,SqL.of hb,.ref u,rfl,u,rfl,_,SqT.of hu,.int n,rfl,q H' ag c' t [Zt x1 n] (.int n) sx dS sub #[0] iC ht (.inr ⟨(λz=>by have:=e8.mp z;cases this),x1,n,rfl,rfl⟩)⟩
   | cons _ _=>simp at h1;lia
inductive QUa(P:Vg)(w:Vb)(ob:Nat->Vh)(vs:List V)(H:Hp)(Q:VK)(E:XK):Prop
 | mk:∀ p d1 d2 st c e xs es,vs=[.ref p,.ref e]->Qs P w ob H p d1 d2 st c->H e=Vo (.lst xs)->Vm (λd v=>TD H 6 d v) es xs->(∀ d∈es,Qba d)->xs.length<=900->st.length+8 * xs.length<=16000000->(es.map Qo).Pairwise (λa b=>Pl.ltV a b=true)->(∀ H' ag c' v,QI [p,d1,d2] H H'->Qs P w ob H' p d1 d2 ag c'->(∀ x∈Qn st,x∈Qn ag)->ag.length<=st.length+8 * xs.length->((es=[]/\v=.non)\/(es≠[]/\∃ top L k n,top<=6/\Yx QF (Qn ag) es top L/\L (top+1)=[Zt k n]/\v=.int n))->Q v H')->QUa P w ob vs H Q E
seal La in
theorem Xtc(T:Tx K mg ob)(vt:Cal P w K mg base 6 "crowned" ["pages","level","heads"] (XO P w ob))(XQ:Cal P w K mg base 5 "heads_of" ["pages","level","entries"] (Zm P w ob))(j3:Cal P w K mg base 2 "before" ["one","other"] (Je K))(F:Fun K "built" "built" JFb f fd):Qp P w K mg base CX0 7 f fd ["pages","rows"] (QUa P w ob):=by
 refine F.ok Y0b (λvs H Q E h=>?_) (λah A outer s H vs Q E hr h=>?_)
 .walk_at "n"
 obtain⟨p,d1,d2,st,c,e,xs,es,rfl,hS,he,re,ak,lx,few,up,q⟩:=h
 exists Y0b,Q6,Qq,Qy,Qh,Qi,Qh,Qx,Qh,Qi,Qh,Qx
 have le:=Vn re;refine⟨xs,.inl (SqL.of he),1,_,⟨rfl,rfl⟩,⟨by decide,by decide,by lia,by lia⟩,?_⟩
 refine ZH (λi σ' H'=>∃ x2,σ'=[Vo (.ref p),Vo (.ref e),x2]/\Qf H H') ⟨_,rfl,Qf.refl _⟩ ?_ ?_
 .rintro i σ' H' hi ⟨x2,rfl,s1⟩
  refine stN λN hN=>?_
  have bS:i+1 < xs.length:=by lia
  have row:∀ n,n < xs.length->∃ u k r,xs[n]?=Vo (.ref u)/\H' u=Vo (.tup (k::r))/\Q4 k/\(es.map Qo)[n]?=Vo k:=λn hn=>by
   have hx:xs[n]?=Vo xs[n]:=IA hn
   have hd:es[n]?=Vo (es[n]'#[0]):=IA _
   have tx:=Ql re hd hx;obtain⟨k,rr,ed,hk⟩:=ak _ (Og hd);rw[ed]at tx;obtain⟨m,u,ws,_,eu,hu,eW⟩:=tx.tup;cases eW with
   | @cons _ k' _ q8 r1 bj =>
   obtain⟨_,rfl⟩:=r1.flat;exact⟨u,_,q8,by rw[hx,eu],s1 _ _ hu,hk,by rw[Of,hd,ed];rfl⟩
  obtain⟨u0,k0,r0,g0,t0,vw,m0⟩:=row i #[0]
  obtain⟨u1,k1,r1,g1,t1,iy,m1⟩:=row (i+1) bS;have lt:Pl.ltV k0 k1=true:=by
   obtain⟨a0,b0⟩:=List.getElem?_eq_some_iff.mp m0
   obtain⟨a1,b1⟩:=List.getElem?_eq_some_iff.mp m1
   have:=pairwise_iff_getElem.mp up i (i+1) a0 a1 #[0]
   rw[b0,b1]at this;exact this
  walk_at "rd";refine⟨_,SqL.of (s1 _ _ he),.ref u0,by rw[show(1:Int)+(i:Int) - 1=((i:Nat):Int) by lia];exact QQ g0,u0,rfl,_,SqT.of t0,k0,at0 _ _,_,SqL.of (s1 _ _ he),.ref u1,by rw[show(1:Int)+(i:Int)=((i+1:Nat):Int) by lia];exact QQ g1,u1,rfl,_,SqT.of t1,k1,at0 _ _,k0,k1,rfl,Zq vw,Zq iy,λH2 s2=>⟨_,rfl,?_⟩⟩
  rw[lt,if_neg #[1]]
  exact hN _ _ ⟨_,rfl,s1.trans s2⟩
 .rintro σ' H' ⟨x2,rfl,s1⟩
  walk_at "rd";refine⟨p,d1,d2,st,c,0,e,false,xs,es,rfl,hS.same s1,s1 _ _ he,TDs.sameT re s1.t,ak,lx,by lia,λr H2 bK c2 hs ys sx hr ck tys hd cX bT sub l2=>?_⟩
  have lh:=cX.length;have lt:=Vn tys;have lc:=YRa (lv:=QF) (l:=0) (es:=es);refine⟨p,d1,d2,bK,c2,r,hs,ys,0,rfl,by decide,bT,ck,tys,hd,by lia,by lia,λH3 bv c3 m above v fP bc be l3 iC hm hv=>?_⟩
  refine q H3 bv c3 v ((s1.x _).trans (sx.trans fP)) bc (λx hx=>be x (sub x hx)) #[0] ?_
  have e8:es=[]↔hs=[]:=by
   constructor
   .intro z;exact length_eq_zero_iff.mp (by rw[lh,z];rfl)
   .intro z
    rw[z]at lh;cases mw:es with
    | nil=>rfl
    | cons y ii=>exact absurd (length_eq_zero_iff.mp lh.symm) (Q9a (by rw[mw];simp))
  rcases hv with ⟨h1,h2⟩ | ⟨h1,k,n,ea,ev⟩
  .exact .inl ⟨e8.mpr h1,h2⟩
  .have mw:es≠[]:=λz=>h1 (e8.mp z)
   obtain⟨L,pt,eL⟩:=iC.part (cX.mono be);have vy:(L (m+1)).length=1:=by rw[eL,ea];rfl
   have m6:m<=6:=by
    rcases Nat.lt_or_ge m 7 with z | z
    .lia
    .have a:=pt.top J7d mw #[0]
     have b:=pt.two 7 #[0] #[0]
     lia
   exact .inr ⟨mw,m,L,k,n,m6,pt.chain vy,by rw[eL,ea],ev⟩
theorem Yr{K:VC}{k:Nat}{ps:List Str}:Qp P w K mg base CX k f fd ps (λ_ _ _ _=>False) :=
 ⟨λ_ _ _ _ h=>h.elim,λ_ _ _ _ _ _ _ _ _ _ _ _ _ h=>h.elim⟩
inductive JF(ai:VC)(ob:Nat->Vh)(vs:List V)(H:Hp)(Q:VK)(E:XK):Prop
 | mk:∀ a l es,vs=[.ref a]->PgD ob H a l es->l≠0->es.length<=900->(∀ d∈es,∃ k n,d=Zt k n)->(∀ r H',Qf H H'->H r=Vp->H' r=Vo (.lst ((es.map YRb).map V.int))->Q (.ref r) H')->JF ai ob vs H Q E
theorem Zeb(T:Tx K mg ob)(F:Fun K "under" "Twig.under" Xu f fd):Qp P w K mg base CX0 1 f fd ["self"] (JF K ob):=by
 refine F.ok Zla (λvs H Q E h=>?_) (λah A outer s H vs Q E hr h=>?_)
 .walk_at "n"
 obtain⟨a,l,es,rfl,hP,hl,lx,hh,q⟩:=h
 exists Zla,Q3,XWa,Qh (r:=Q4b K),Qi
 obtain⟨tw,dx,t,bx,ha,ht⟩:=hP;obtain rfl:tw=true:=by rw[bx];exact decide_eq_true hl
 obtain⟨m,t',xs,em,e,aK,rt⟩:=ht.tup;cases e;have le:=Vn rt;have hx:∀ (i:Nat) x,xs[i]?=Vo x->∃ b k n,x=.ref b/\H b=Vo (.tup [k,.int n])/\(es.map YRb)[i]?=Vo n:=λi x hi=>by
  have h2:=(List.getElem?_eq_some_iff.mp hi).1
  have hd:es[i]?=Vo (es[i]'#[0]):=IA _
  have tx:=Ql rt hd hi;obtain⟨k,n,ed⟩:=hh _ (Og hd);rw[ed]at tx;obtain rfl:m=6:=by lia
  obtain⟨b,x1,x2,eb,hb,w1,w2⟩:=TD.pair_of tx;obtain⟨_,rfl⟩:=w2.flat;exact⟨b,x1,n,eb,hb,by rw[Of,hd,ed];rfl⟩
 have iD:xs.map (YUc H)=(es.map YRb).map V.int:=by
  refine ID (by simp[le]) λi g1 g2=>?_
  have b1:i < xs.length:=by simpa using g1
  obtain⟨b,k,n,ex,hb,hn⟩:=hx i _ (IA b1)
  simp only[L6];rw[ex,YJb hb];obtain⟨_,e⟩:=List.getElem?_eq_some_iff.mp hn
  simp only[L6]at e;rw[e]
 refine Zb (T.ob_ 2 #[1]) #[1] rfl ha rfl ⟨t,rfl,⟨_,SqT.of aK⟩,Jvb xs (λ_=>true) (YUc H) (SqT.of aK) (QG #[0]) (λi x H2 R _ _ r=>r) (λi x H2 R hi _ s r=>?_) λD H2 hD s2 hd=>?_⟩
 .obtain⟨b,k,n,rfl,hb,_⟩:=hx i x hi
  walk_at "rd";exact⟨_,SqT.of (s _ _ hb),_,rfl,by rw[YJb hb]at r;exact r⟩
 .exact q D H2 s2 hD (by rw[hd,filter_eq_self.mpr (λ_ _=>rfl),iD])
inductive Zx(ai:VC)(ob:Nat->Vh)(vs:List V)(H:Hp)(Q:VK)(E:XK):Prop
 | mk:∀ a,vs=[.ref a]->(∀ r H',Qf H H'->H r=Vp->H' r=Vo (.lst [])->Q (.ref r) H')->Zx ai ob vs H Q E
theorem ZBa(T:Tx K mg ob)(F:Fun K "under" "Page.under" Xt f fd):Qp P w K mg base CX0 1 f fd ["self"] (Zx K ob):=by
 refine F.ok Zka (λvs H Q E h=>?_) (λah A outer s H vs Q E hr h=>?_)
 .walk_at "n"
 obtain⟨a,rfl,q⟩:=h
 exists Zka
 exact⟨by decide,λp hp=>q p _ (Qb hp _) hp Qa⟩
inductive Jl(ai:Vg)(vA:Vb)(ob:Nat->Vh)(vs:List V)(H:Hp)(Q:VK)(E:XK):Prop
 | mk:∀ a o es,vs=[.ref a,o]->PgD ob H a 0 es->(∀ r H' xs,Qf H H'->H r=Vp->H' r=Vo (.lst xs)->Vm (λd v=>TD H' 6 d v) es xs->Q (.ref r) H')->Jl ai vA ob vs H Q E
theorem QLb(T:Tx K mg ob)(F:Fun K "spread" "Leaf.spread" Y2 f fd):Qp P w K mg base CX0 1 f fd ["self","pages"] (Jl P w ob):=by
 refine F.ok Qwa (λvs H Q E h=>?_) (λah A outer s H vs Q E hr h=>?_)
 .walk_at "n"
 obtain⟨a,o,es,rfl,hP,q⟩:=h
 exists Qwa,QK,Zo
 obtain⟨tw,dx,t,bx,ha,ht⟩:=hP;obtain rfl:tw=false:=by rw[bx];rfl
 obtain⟨m,t',xs,em,e,aK,rt⟩:=ht.tup;cases e;obtain rfl:m=6:=by lia
 exact Zb (T.ob_ 1 #[1]) #[1] rfl ha rfl ⟨t,rfl,xs,.inr (SqT.of aK),λp hp=>q p _ xs (Qb hp _) hp Qa (TDs.sameT rt (Qb hp _).t)⟩
theorem Xuc:∀ {part:List Dt} {bg:List (List Dt)},Vm (Y7c tbl 0) part bg->bg.flatten=part
 | [],_,.nil=>rfl
 | d::part,_,.cons (b:=x) r t=>by
  have r:x=[d]:=r;rw[LK,Xuc t,r];rfl
theorem QB{α β:Type}{F:α->β->Prop}:∀ {xs ys:List α} {us vs:List β},Vm F xs us->Vm F ys vs->Vm F (xs++ys) (us++vs)
 | _,_,_,_,.nil,h=>h
 | _,_,_,_,.cons r t,h=>.cons r (QB t h)
inductive X9(P:Vg)(w:Vb)(ob:Nat->Vh)(n:Nat)(vs:List V)(H:Hp)(Q:VK)(E:XK):Prop
 | mk:∀ a p d1 d2 st c,∀ l:Nat,∀ part es,vs=[.ref a,.ref p]->Qs P w ob H p d1 d2 st c->PgD ob H a ((l+1:Nat):Int) part->l<=n->Zdc (Qn st) (l+1) part es->es.length<=900->part.length<=900->(∀ r H' xs,Qf H H'->H r=Vp->H' r=Vo (.lst xs)->Vm (λd v=>TD H' 6 d v) es xs->Q (.ref r) H')->X9 P w ob n vs H Q E
def Jm(P:Vg)(w:Vb)(ob:Nat->Vh):Nat->Sp
 | 0=>λ_ _ _ _=>False
 | n+1=>X9 P w ob n
theorem QMb(T:Tx K mg ob)(rH:MeV P w K mg base 1 (ob 0) "under" (Zx K ob))(XR:MeV P w K mg base 1 (ob 1) "under" (Zx K ob))(Yk:MeV P w K mg base 1 (ob 2) "under" (JF K ob))(JG:MeV P w K mg base 1 (ob 1) "spread" (Jl P w ob))(Qr:MeV P w K mg base 5 (ob 3) "page" (QH P w ob)){n:Nat}(IH:MeV P w K mg base (5+n) (ob 2) "spread" (Jm P w ob n))(F:Fun K "spread" "Page.spread" Y5 f fd):Qp P w K mg base CX0 (5+n+1) f fd ["self","pages"] (Jm P w ob (n+1)):=by
 refine F.ok QNa (λvs H Q E h=>?_) (λah A outer s H vs Q E hr h=>?_)
 .walk_at "n"
 obtain⟨a,p,d1,d2,st,c,l,part,es,rfl,hS,hP,hl,dR,lx,lp,q⟩:=h
 exists QNa,Q6,Zk,PE1.pe,ZPa,PE1.pe,ZPb,QT
 refine⟨by decide,λrp oN=>?_⟩
 have s0:=Qb oN (.lst []);have oO:upd H rp (.lst []) rp=Vo (.lst []):=Qa;generalize upd H rp (.lst [])=H0 at s0 oO ⊢;have rJ:=hP.same s0;obtain⟨tw,dx,t,bx,ha,ht⟩:=id rJ;obtain rfl:tw=true:=by rw[bx];exact decide_eq_true #[0]
 obtain⟨bg,pr,dI⟩:=dR;have lpr:=Vn pr;have hds:∀ d∈part,∃ k n,d=Zt k n:=λd hd=>by
  obtain⟨i,hi⟩:=mem_iff_getElem?.mp hd;have hl:=(List.getElem?_eq_some_iff.mp hi).1
  obtain⟨k,n,_,_,e,_⟩:=Ql pr hi (IA (show i < bg.length by lia))
  exact⟨k,n,e⟩
 refine Yra rfl ha rfl (T.ob_ 2 #[1]).cl (Yk.mono #[0]) ⟨a,_,part,rfl,rJ,by lia,lp,hds,λu H1 s1 hu rK=>?_⟩
 refine⟨u,rfl,⟨_,SqL.of rK⟩,?_⟩
 have iB:=s0.trans s1;have bz:=hS.same iB;have ru:u≠rp:=λz=>by rw[z,oO]at hu;cases hu
 refine ZU ((part.map YRb).map V.int) (λi σ' H'=>∃ zs x3,σ'=[Vo (.ref a),Vo (.ref p),Vo (.ref rp),x3]/\Qf H H'/\H' u=Vo (.lst ((part.map YRb).map V.int))/\H' rp=Vo (.lst zs)/\Vm (λd v=>TD H' 6 d v) (bg.take i).flatten zs) ⟨[],_,rfl,iB,rK,s1 _ _ oO,.nil⟩ (λi σ' H' _ ⟨_,_,_,_,h,_⟩=>SqL.of h) ?_ ?_
 .rintro i x σ' H' hx ⟨zs,x3,rfl,s',mn,aX,tz⟩
  refine stN λN hN=>?_
  rw[Of,Of]at hx
  obtain⟨m,hm,rfl⟩:=Option.map_eq_some_iff.mp hx;obtain⟨d,hd,rfl⟩:=Option.map_eq_some_iff.mp hm;have hi:=(List.getElem?_eq_some_iff.mp hd).1
  have he:bg[i]?=Vo (bg[i]'#[0]):=IA _
  obtain⟨k,nn,aw,bY,rfl,iE,rL,ee⟩:=Ql pr hd he;generalize bg[i]'#[0]=aD at he ee
  have les:aD.length<=es.length:=by
   rw[dI];exact(sublist_flatten_of_mem (Og he)).length_le
  have lz:zs.length<=es.length:=by
   rw[<- Vn tz,dI];have:=congrArg (λl=>(List.flatten l).length) (L7 i bg)
   simp only[LJ,Oh]at this
   lia
  obtain⟨⟨n',vB,t'⟩,d5,en⟩:=mem_map.mp iE;injection en with en1 en2
  dsimp only at en1 en2;subst en1 en2;have dS:=hS.same s';obtain⟨i7,aS⟩:=dS.obj;have fin:∀ (w:Vh) (H2:Hp) (xs:List V),Qf H' H2->H2 w=Vo (.lst xs)->Vm (λd v=>TD H2 6 d v) aD xs->H2 rp=Vo (.lst zs)/\(Qf H (upd H2 rp (.lst (zs++xs)))/\upd H2 rp (.lst (zs++xs)) u=Vo (.lst ((part.map YRb).map V.int))/\Vm (λd v=>TD (upd H2 rp (.lst (zs++xs))) 6 d v) (bg.take (i+1)).flatten (zs++xs)):=by
   intro w H2 xs s2 hw px;have ck:=s2 _ _ aX;have t5:QO H2 (upd H2 rp (.lst (zs++xs))):=Yp ck;refine⟨ck,ZLb (s'.trans s2) oN,by rw[Qe ru];exact s2 _ _ mn,?_⟩
   rw[Im,he];simp only[LJ,Option.toList_some,LK,flatten_nil,UV];exact QB (TDs.sameT tz (s2.t.trans t5)) (TDs.sameT px t5)
  walk_at "rd";refine⟨.inl ⟨rfl,_,SqL.of aX⟩,JP rfl aS rfl (T.ob_ 3 #[1]).cl (Qr.mono #[0]) ⟨p,d1,d2,st,c,n',rfl,dS,λl2 eV t2 eC pg H2 s2 dH aM=>?_,λz=>(z _ d5 rfl).elim⟩⟩
  obtain⟨el,oP⟩:=JR (hS.fun_ d5 eC).1;subst el oP;have vC:aw.length<=900:=by
   obtain⟨l3,k3,r3,oQ,e3,_,h3⟩:=hS.sh _ d5;rw[(JR e3).2];simp;lia
  cases l with
  | zero =>
   obtain⟨fb,dq,t0,bo,aO,iF⟩:=id aM;obtain rfl:fb=false:=by rw[bo];rfl
   have e':aD=aw:=by rw[ee];exact Xuc rL
   refine⟨pg,rfl,_,dq,_,aO,rfl,(T.ob_ 1 #[1]).cl,_,JG.mono #[0],⟨pg,.ref p,aw,rfl,aM,λw H3 xs s3 hw fQ px=>?_⟩⟩
   rw[<- e']at px;obtain⟨g1,g2,g3,g4⟩:=fin w H3 xs (s2.trans s3) fQ px;have cY:=Vn px;exact⟨w,rfl,zs,g1,xs,.inl (SqL.of fQ),VI (show zs.length+xs.length<=5000 by lia) (by rw[Ux];decide),hN _ _ ⟨_,_,rfl,g2,g3,Qa,g4⟩⟩
  | succ l =>
   obtain⟨fb,dq,t0,bo,aO,iF⟩:=id aM;obtain rfl:fb=true:=by rw[bo];exact decide_eq_true #[0]
   obtain⟨n0,rfl⟩:∃ n0,n=n0+1:=⟨n - 1,by lia⟩
   refine⟨pg,rfl,_,dq,_,aO,rfl,(T.ob_ 2 #[1]).cl,_,IH,⟨pg,p,d1,d2,st,c,l,aw,aD,rfl,dS.same s2,aM,by lia,⟨bY,rL,ee⟩,by lia,vC,λw H3 xs s3 hw fQ px=>?_⟩⟩
   obtain⟨g1,g2,g3,g4⟩:=fin w H3 xs (s2.trans s3) fQ px;have cY:=Vn px;exact⟨w,rfl,zs,g1,xs,.inl (SqL.of fQ),VI (show zs.length+xs.length<=5000 by lia) (by rw[Ux];decide),hN _ _ ⟨_,_,rfl,g2,g3,Qa,g4⟩⟩
 .rintro σ' H' ⟨zs,x3,rfl,s',mn,aX,tz⟩
  walk_at "rd";rw[Ip (by rw[UK,UK];lia),<- dI]at tz
  exact q rp H' zs s' oN aX tz
def QZ(st:StL)(es:List Dt)(v:V):Prop:=(es=[]/\v=.non)\/(es≠[]/\∃ top L k n,top<=6/\Yx QF (Qn st) es top L/\L (top+1)=[Zt k n]/\v=.int n)
inductive Jca(P:Vg)(w:Vb)(ob:Nat->Vh)(vs:List V)(H:Hp)(Q:VK)(E:XK):Prop
 | mk:∀ p d1 d2 st c v es,vs=[.ref p,v]->Qs P w ob H p d1 d2 st c->QZ st es v->es.length<=900->(∀ r H' xs,Qf H H'->H r=Vp->H' r=Vo (.lst xs)->Vm (λd v=>TD H' 6 d v) es xs->Q (.ref r) H')->Jca P w ob vs H Q E
theorem Qrc(T:Tx K mg ob)(rO:∀ n,MeV P w K mg base (5+n) (ob 2) "spread" (Jm P w ob n))(JG:MeV P w K mg base 1 (ob 1) "spread" (Jl P w ob))(Qr:MeV P w K mg base 5 (ob 3) "page" (QH P w ob))(F:Fun K "rows_of" "rows_of" YJa f fd):Qp P w K mg base CX0 14 f fd ["pages","root"] (Jca P w ob):=by
 refine F.ok QDb (λvs H Q E h=>?_) (λah A outer s H vs Q E hr h=>?_)
 .walk_at "n"
 obtain⟨p,d1,d2,st,c,v,es,rfl,hS,hT,lx,q⟩:=h
 exists QDb,PE1.pe,ZPb,QT
 rcases hT with ⟨rfl,rfl⟩ | ⟨aC,top,L,k,n,h6,ch,eL,rfl⟩
 .rw[if_pos rfl]
  exact⟨by decide,λr hr=>q r _ [] (Qb hr _) hr Qa .nil⟩
 rw[if_neg (show ¬ V.int n=V.non from λz=>nomatch z)]
 obtain⟨part,iE,dR⟩:=ch.spread eL;obtain⟨⟨n',vB,t'⟩,d5,en⟩:=mem_map.mp iE;injection en with en1 en2
 dsimp only at en1 en2;subst en1 en2;obtain⟨dx,ho⟩:=hS.obj;refine JP rfl ho rfl (T.ob_ 3 #[1]).cl (Qr.mono #[1]) ⟨p,d1,d2,st,c,n',rfl,hS,λl2 eV t2 eC pg H2 s2 dH aM=>?_,λz=>(z _ d5 rfl).elim⟩
 obtain⟨el,oP⟩:=JR (hS.fun_ d5 eC).1;subst el oP;have lp:part.length<=900:=by
  obtain⟨l3,k3,r3,oQ,e3,_,h3⟩:=hS.sh _ d5;rw[(JR e3).2];simp;lia
 cases top with
 | zero =>
  obtain⟨fb,dq,t0,bo,aO,iF⟩:=id aM;obtain rfl:fb=false:=by rw[bo];rfl
  obtain⟨bg,pr,ee⟩:=dR;rw[Xuc pr]at ee;subst ee;exact⟨pg,rfl,_,dq,_,aO,rfl,(T.ob_ 1 #[1]).cl,_,JG.mono #[1],⟨pg,.ref p,_,rfl,aM,λw H3 xs s3 hw fQ px=>q w H3 xs (s2.trans s3) (by
   cases e:H w with
   | none=>rfl
   | some o=>rw[s2 _ _ e]at hw;cases hw) fQ px⟩⟩
 | succ l =>
  obtain⟨fb,dq,t0,bo,aO,iF⟩:=id aM;obtain rfl:fb=true:=by rw[bo];exact decide_eq_true #[0]
  exact⟨pg,rfl,_,dq,_,aO,rfl,(T.ob_ 2 #[1]).cl,_,(rO 7).mono #[1],⟨pg,p,d1,d2,st,c,l,part,es,rfl,hS.same s2,aM,show l<=6 by lia,dR,lx,lp,λw H3 xs s3 hw fQ px=>q w H3 xs (s2.trans s3) (by
   cases e:H w with
   | none=>rfl
   | some o=>rw[s2 _ _ e]at hw;cases hw) fQ px⟩⟩
section
variable{P:Vg}{w:Vb}{K:VC}{ob:Nat->Vh}{H H':Hp}{p d1 d2:Vh}{st:StL}{c:Int}
theorem Qs.off(h:Qs P w ob H p d1 d2 st c){b:Vh}{o:HO}(hb:H b=Vo o)(h1:∀ C dx fs,o≠.ins C dx fs)(h2:∀ kvs,o≠.dK kvs)(h3:∀ φ,o≠.ext φ):b∉[p,d1,d2]:=λz=>by
 obtain⟨dx,eo⟩:=h.obj;simp only[Lp,Lq,or_false]at z
 rcases z with z | z | z
 .rw[z,eo]at hb;injection hb with hb;exact h1 _ _ _ hb.symm
 .rw[z,h.num]at hb;injection hb with hb;exact h2 _ hb.symm
 .rw[z,h.tol]at hb;injection hb with hb;exact h3 _ hb.symm
theorem Qs.lst(h:Qs P w ob H p d1 d2 st c)(s:QI [p,d1,d2] H H'){b:Vh}{xs:List V}(hb:H b=Vo (.lst xs)):H' b=Vo (.lst xs):=s _ _ (h.off hb (by intros;intro z;cases z) (by intros;intro z;cases z) (by intros;intro z;cases z)) hb
theorem Qs.seq(h:Qs P w ob H p d1 d2 st c)(s:QI [p,d1,d2] H H'){b:Vh}{xs:List V}(hb:SqL K H b xs):SqL K H' b xs:=by
 rcases hb with hb | hb
 .rcases hb with hb | ⟨o,hb⟩
  .exact .inl (.inl (h.lst s hb))
  .exact .inl (.inr ⟨o,s _ _ (h.off hb (by intros;intro z;cases z) (by intros;intro z;cases z) (by intros;intro z;cases z)) hb⟩)
 .exact .inr hb
theorem Qs.updL(h:Qs P w ob H p d1 d2 st c){b:Vh}{xs ys:List V}(hb:H b=Vo (.lst xs)):Qs P w ob (upd H b (.lst ys)) p d1 d2 st c:=by
 have n:=h.off hb (by intros;intro z;cases z) (by intros;intro z;cases z) (by intros;intro z;cases z)
 have go:∀ {a},a∈[p,d1,d2]->upd H b (.lst ys) a=H a:=λ{a} ha=>Qe (λz=>n (by rw[<- z];exact ha))
 exact h.keep (Yp hb) (go #[2]) (go #[2]) (go #[2])
end
theorem Jpc(xs:List V)(k:Nat):ZT xs Vp (Vo (k:Int))=xs.take k:=by
 have e1:=HT.Jua xs.length xs.length k;have e2:HT.sIx xs.length 0 Vp=0:=rfl;unfold ZT;rw[e1,e2,Dy,Nat.sub_zero]
 rcases Nat.le_total k xs.length with h | h
 .rw[Nat.min_eq_left h]
 .rw[Nat.min_eq_right h,Ip (Um _),Ip h]
theorem Xbb(xs:List V)(k:Nat):ZT xs (Vo (k:Int)) Vp=xs.drop k:=by
 have e1:=HT.Jua xs.length 0 k;have e2:HT.sIx xs.length xs.length Vp=xs.length:=rfl;unfold ZT;rw[e1,e2]
 rcases Nat.le_total k xs.length with h | h
 .rw[Nat.min_eq_left h,Ip (by rw[Op];exact Um _)]
 .rw[Nat.min_eq_right h,L8 (Um _),L8 h];simp
theorem ZE{α β:Type}{F:α->β->Prop}:∀ {xs:List α} {us:List β} (n:Nat),Vm F xs us->Vm F (xs.take n) (us.take n)
 | _,_,0,_=>.nil
 | _,_,_+1,.nil=>.nil
 | _,_,n+1,.cons r t=>.cons r (ZE n t)
theorem Zn{α β:Type}{F:α->β->Prop}:∀ {xs:List α} {us:List β} (n:Nat),Vm F xs us->Vm F (xs.drop n) (us.drop n)
 | _,_,0,r=>r
 | _,_,_+1,.nil=>.nil
 | _,_,n+1,.cons _ t=>Zn n t
section
local macro_rules | `(tactic| obtain $p:rcasesPatMed := $e) => `(tactic| (refine dly λg hg => ?_; rcases $e:term with $p; all_goals (refine hg ?_; clear hg g)))
def ltK(a b:V):Prop:=Q4 a/\Q4 b/\Pl.ltV a b=true
theorem ltK.irr(a:V):¬ ltK a a:=λh=>by
 have h2:=h.2.2;rw[Pl.irr (Zq h.1)]at h2;exact Uc h2
theorem ltK.tr{a b c:V}(h:ltK a b)(h':ltK b c):ltK a c:=⟨h.1,h'.2.1,Pl.tr (Zq h.1) (Zq h.2.1) (Zq h'.2.1) h.2.2 h'.2.2⟩
theorem ltK.tri{a b:V}(ha:Q4 a)(hb:Q4 b):ltK a b\/a=b\/ltK b a:=by
 cases h1:Pl.ltV a b with
 | true=>exact .inl ⟨ha,hb,h1⟩
 | false =>
  cases h2:Pl.ltV b a with
  | true=>exact .inr (.inr ⟨hb,ha,h2⟩)
  | false=>exact .inr (.inl (Pl.tri (Zq ha) (Zq hb) h1 h2))
theorem JNb{a b:V}(ha:Q4 a)(hb:Q4 b):Qda a b=true:=by
 cases a with
 | int n=>cases b with
  | int m=>rfl
  | str z=>rfl
  | _=>exact hb.elim
 | str z=>cases b with
  | int m=>rfl
  | str z=>rfl
  | _=>exact hb.elim
 | _=>exact ha.elim
structure Xid(H:Hp)(a:Vh)(xs:List V):Prop where
 at_:H a=Vo (.lst xs)
 pl:∀ v∈xs,Pl.QA v
 up:xs.Pairwise λa b=>Pl.ltV a b=true
 len:xs.length < 1000
inductive QWa(ai:VC)(vs:List V)(H:Hp)(Q:VK)(E:XK):Prop
 | mk:∀ (a:Vh) (xs:List V) (v:V),vs=[.ref a,v]->Xid H a xs->Pl.QA v->(∀ H' (lo:Nat),Qf H H'->lo<=xs.length->(∀ (i:Nat) x,i < lo->xs[i]?=Vo x->Pl.ltV x v=true)->(∀ (i:Nat) x,lo<=i->xs[i]?=Vo x->Pl.ltV x v=false)->Q (.int lo) H')->QWa ai vs H Q E
seal La in
theorem Xcb(T:Tx K mg ob)(j3:Cal P w K mg base 2 "before" ["one","other"] (Je K))(F:Fun K "place_of" "place_of" Z1a f fd):Qp P w K mg base CX0 3 f fd ["keys","key"] (QWa K):=by
 refine F.ok Xea (λvs H Q E h=>?_) (λah A outer s H vs Q E hr h=>?_)
 .walk_at "n"
 obtain⟨a,xs,v,rfl,hk,oR,q⟩:=h
 exists Xea,Qq,Qy,Qj,YM,Qu,Qz,Qh,Qx,Qu,Qz
 refine⟨xs,.inl (SqL.of hk.at_),λm σ' H'=>∃ (lo hi:Nat) (x4:Option V),σ'=[Vo (.ref a),Vo v,Vo (.int lo),Vo (.int hi),x4]/\m=hi - lo/\lo<=hi/\hi<=xs.length/\Qf H H'/\(∀ (i:Nat) x,i < lo->xs[i]?=Vo x->Pl.ltV x v=true)/\∀ (i:Nat) x,hi<=i->xs[i]?=Vo x->Pl.ltV x v=false,
  ⟨_,0,xs.length,Vp,rfl,rfl,Us _,Um _,Qf.refl _,λi x h=>absurd h #[0],λi x h e=>absurd (List.getElem?_eq_some_iff.mp e).1 #[0]⟩,?_⟩
 rintro m σ' H' ⟨lo,hi,x4,rfl,rfl,h1,h2,sm,ha,hb⟩;walk_at "rd"
 by_cases ay:(lo:Int) < (hi:Int)
 .rw[if_pos ay]
  have em:((lo:Int)+hi) / 2=(((lo+hi) / 2:Nat):Int):=by lia
  have hm:(lo+hi) / 2 < xs.length:=by lia
  obtain⟨y,hy⟩:∃ y,xs[(lo+hi) / 2]?=Vo y:=⟨_,IA hm⟩
  have py:Pl.QA y:=hk.pl y (Og hy);have rP:∀ (i j:Nat) x z,i < j->xs[i]?=Vo x->xs[j]?=Vo z->Pl.ltV x z=true:=λi j x z cR hx hz=>by
   obtain⟨bS,ex⟩:=List.getElem?_eq_some_iff.mp hx
   obtain⟨md,ez⟩:=List.getElem?_eq_some_iff.mp hz
   rw[<- ex,<- ez];exact pairwise_iff_getElem.mp hk.up i j bS md cR
  refine⟨λσ' H'=>∃ (il bS:Nat) (x4:Option V),σ'=[Vo (.ref a),Vo v,Vo (.int il),Vo (.int bS),x4]/\bS - il < hi - lo/\il<=bS/\bS<=xs.length/\Qf H H'/\(∀ (i:Nat) x,i < il->xs[i]?=Vo x->Pl.ltV x v=true)/\∀ (i:Nat) x,bS<=i->xs[i]?=Vo x->Pl.ltV x v=false,
   λσ' H2 ⟨il,bS,vD,e,e1,e2,e3,e4,e5,e6⟩=>⟨_,e1,il,bS,vD,e,rfl,e2,e3,e4,e5,e6⟩,by unfold Qaa;decide,xs,SqL.of (sm _ _ hk.at_),y,by rw[em];exact QQ hy,y,v,rfl,py,oR,λH2 s2=>⟨_,rfl,?_⟩⟩
  rw[em];cases hl:Pl.ltV y v with
  | true =>
   rw[if_pos rfl];refine⟨(lo+hi) / 2+1,hi,_,rfl,by lia,by lia,h2,sm.trans s2,λi x bS hx=>?_,hb⟩
   by_cases e:i=(lo+hi) / 2
   .rw[e,hy]at hx;cases hx;exact hl
   .have px:Pl.QA x:=hk.pl x (Og hx)
    exact Pl.tr px py oR (rP i _ x y #[0] hx hy) hl
  | false =>
   rw[if_neg Uc];refine⟨lo,(lo+hi) / 2,_,rfl,by lia,by lia,by lia,sm.trans s2,ha,λi x bS hx=>?_⟩
   by_cases e:i=(lo+hi) / 2
   .rw[e,hy]at hx;cases hx;exact hl
   .have px:Pl.QA x:=hk.pl x (Og hx)
    cases q:Pl.ltV x v with
    | false=>rfl
    | true=>rw[Pl.tr py px oR (rP _ i y x #[0] hy hx) q]at hl;cases hl
 .rw[if_neg ay]
  have e:lo=hi:=by lia
  subst e;exact q _ lo sm h2 ha hb
def Jqc(es:List Dt)(k:V)(am:Int):Prop:=∃ a b,es=a++b/\am=(a.length:Int) - 1/\(∀ x∈a,ltK (Qo x) k\/Qo x=k)/\∀ x∈b,ltK k (Qo x)
theorem Qba.key{d:Dt}(h:Qba d):Q4 (Qo d):=by
 obtain⟨k,r,rfl,hk⟩:=h;exact hk
theorem Q2d{lo:Nat}(ak:∀ d∈es,Qba d)(hk:Q4 k)(up:UpR ltK es)(hl:lo<=es.length)(h1:∀ (i:Nat) x,i < lo->(es.map Qo)[i]?=Vo x->Pl.ltV x k=true)(h2:∀ (i:Nat) x,lo<=i->(es.map Qo)[i]?=Vo x->Pl.ltV x k=false) :
 (∀ d,es[lo]?=Vo d->Qo d=k->Jqc es k lo)/\((∀ d,es[lo]?=Vo d->Qo d≠k)->Jqc es k ((lo:Int) - 1)):=by
 have lo1:∀ x∈es.take lo,ltK (Qo x) k:=λx hx=>by
  obtain⟨i,hi,e⟩:=mem_iff_getElem.mp hx;rw[Ob]at hi;rw[L9]at e;refine⟨(ak x (IQ hx)).key,hk,h1 i _ #[0] ?_⟩
  rw[Of,IA #[0],e];rfl
 have l6:∀ (i:Nat) d,lo<=i->es[i]?=Vo d->¬ ltK (Qo d) k:=λi d hi hd z=>by
  have:=h2 i (Qo d) hi (by rw[Of,hd];rfl)
  rw[z.2.2]at this;cases this
 constructor
 .intro d hd e
  obtain⟨ay,ed⟩:=List.getElem?_eq_some_iff.mp hd
  have rQ:es=es.take lo++d::es.drop (lo+1):=by rw[<- ed,Du,L7]
  refine⟨es.take lo++[d],es.drop (lo+1),by rw[IV];exact rQ,by simp;lia,λx hx=>?_,λx hx=>?_⟩
  .rcases mem_append.mp hx with z | z
   .exact .inl (lo1 x z)
   .rw[mem_singleton.mp z];exact .inr e
  .rw[rQ]at up
   rw[<- e];exact(pairwise_cons.mp up.right).1 x hx
 .intro hn
  refine⟨es.take lo,es.drop lo,(L7 _ _).symm,by simp;lia,λx hx=>.inl (lo1 x hx),?_⟩
  cases hd:es[lo]? with
  | none =>
   intro x hx;rw[L8 (List.getElem?_eq_none_iff.mp hd)]at hx
   cases hx
  | some d =>
   obtain⟨ay,ed⟩:=List.getElem?_eq_some_iff.mp hd
   have eV:es.drop lo=d::es.drop (lo+1):=by rw[<- ed,Du]
   have kd:ltK k (Qo d):=by
    rcases ltK.tri hk (ak d (Og hd)).key with z | z | z
    .exact z
    .exact absurd z.symm (hn d hd)
    .exact absurd z (l6 lo d (Um _) hd)
   have rR:UpR ltK (es.drop lo):=up.sublist (drop_sublist _ _);rw[eV]at rR ⊢;intro x hx
   rcases mem_cons.mp hx with z | z
   .rw[z];exact kd
   .exact ltK.tr kd ((pairwise_cons.mp rR).1 x z)
def Xqa(H:Hp):V->V
 | .ref a=>match H a with
  | some (.tup (x::_))=>x
  | _=>.non
 | _=>.non
theorem Yca{r:List V}(h:H a=Vo (.tup (k::r))):Xqa H (.ref a)=k:=by
 simp only[Xqa,h]
theorem QXa(re:Vm (λd v=>TD H 6 d v) es xs)(ak:∀ d∈es,Qba d){i:Nat}{x:V}(hx:xs[i]?=Vo x):∃ d b r,es[i]?=Vo d/\x=.ref b/\H b=Vo (.tup (Qo d::r))/\Q4 (Qo d)/\TD H 6 d x:=by
 have hi:=(List.getElem?_eq_some_iff.mp hx).1
 have le:=Vn re;have hd:es[i]?=Vo (es[i]'#[0]):=IA _
 have tx:=Ql re hd hx;obtain⟨k,rr,ed,hk⟩:=ak _ (Og hd);generalize es[i]'#[0]=d at hd tx ed
 subst ed;obtain⟨m,b,ws,_,eb,hb,eW⟩:=id tx.tup;cases eW with
 | cons r1 _ =>
  obtain⟨_,rfl⟩:=r1.flat;exact⟨_,b,_,hd,eb,hb,hk,tx⟩
inductive ZV(ai:VC)(vs:List V)(H:Hp)(Q:VK)(E:XK):Prop
 | mk:∀ t xs es k,vs=[.ref t,k]->H t=Vo (.tup xs)->Vm (λd v=>TD H 6 d v) es xs->(∀ d∈es,Qba d)->UpR ltK es->Q4 k->xs.length<=900->(∀ H' am,Qf H H'->Jqc es k am->Q (.int am) H')->ZV ai vs H Q E
seal La in
theorem Zfb(T:Tx K mg ob)(Yad:Cal P w K mg base 3 "place_of" ["keys","key"] (QWa K))(F:Fun K "last_up_to" "last_up_to" XD f fd):Qp P w K mg base CX0 4 f fd ["entries","key"] (ZV K):=by
 refine F.ok Zta (λvs H Q E h=>?_) (λah A outer s H vs Q E hr h=>?_)
 .walk_at "n"
 obtain⟨t,xs,es,k,rfl,ht,re,ak,up,hk,lx,q⟩:=h
 exists Zta,Q3,XWa,Qh (r:=Q4b K),Qi,Qj,YM,Qq,Qy,Qj,Q5,Qh,Qi,Qh,Qi
 have le:=Vn re;have iD:xs.map (Xqa H)=es.map Qo:=by
  refine ID (by simp[le]) λi g1 g2=>?_
  have b1:i < xs.length:=by simpa using g1
  obtain⟨d,b,r,hd,ex,hb,_⟩:=QXa re ak (IA b1)
  simp only[L6];rw[ex,Yca hb];obtain⟨_,e⟩:=List.getElem?_eq_some_iff.mp hd
  rw[e]
 refine⟨⟨_,SqT.of ht⟩,Jvb xs (λ_=>true) (Xqa H) (SqT.of ht) (QG #[0]) (λi x H2 R _ _ r=>r) (λi x H2 R hi _ s r=>?_) λD H2 hD s2 hd=>?_⟩
 .obtain⟨d,b,r',_,rfl,hb,_⟩:=QXa re ak hi
  walk_at "rd";exact⟨_,SqT.of (s _ _ hb),_,at0 _ _,by rw[Yca hb]at r;exact r⟩
 rw[filter_eq_self.mpr (λ_ _=>rfl),iD]at hd
 refine⟨D,es.map Qo,k,rfl,⟨hd,λv hv=>?_,?_,by rw[UK];lia⟩,Zq hk,λH3 lo s3 hl h1 h2=>?_⟩
 .obtain⟨d,hd,rfl⟩:=mem_map.mp hv
  exact Zq (ak d hd).key
 .rw[Da]
  exact Db (λ{a b} h=>h.2.2) up
 rw[UK]at hl;obtain⟨u1,u2⟩:=Q2d ak hk up hl h1 h2;have s:=s2.trans s3;walk_at "rd";refine⟨_,.inr (SqT.of (s _ _ ht)),QR (λh=>?_) λh=>?_⟩
 .obtain⟨d,b,r,hd,ex,hb,oS,_⟩:=QXa re ak (IA (show lo < xs.length by lia))
  refine⟨_,SqT.of (s _ _ ht),.ref b,by rw[<- ex];exact QQ (IA #[0]),b,rfl,_,SqT.of (s _ _ hb),_,at0 _ _,JNb oS hk,QR (λe=>?_) λe=>?_⟩
  .exact q _ _ s (u1 d hd e)
  .exact q _ _ s (u2 λd' bI e'=>e (by rw[hd]at bI;cases bI;exact e'))
 .exact q _ _ s (u2 λd hd=>by have:=(List.getElem?_eq_some_iff.mp hd).1;lia)
def J3(d:Dt):Prop:=∃ k c,d=.t [.v k,.t c]/\Q4 k
theorem J3.ent{d:Dt}(h:J3 d):Qba d:=by obtain⟨k,c,rfl,hk⟩:=h;exact⟨k,_,rfl,hk⟩
inductive QYa(ai:VC)(vs:List V)(H:Hp)(Q:VK)(E:XK):Prop
 | mk:∀ t xs,∀ am:Int,∀ k,vs=[.ref t,.int am,k]->H t=Vo (.tup xs)->Q4 k->((am < 0/\Q .non H)\/∃ (i:Nat) (b:Vh) (k' cv:V),am=(i:Int)/\xs[i]?=Vo (.ref b)/\H b=Vo (.tup [k',cv])/\Q4 k'/\Q (if k'=k then cv else .non) H)->QYa ai vs H Q E
seal La in
theorem Xdb(T:Tx K mg ob)(F:Fun K "cells_at" "cells_at" ZWa f fd):Qp P w K mg base CX0 1 f fd ["rows","at","key"] (QYa K):=by
 refine F.ok Y9a (λvs H Q E h=>?_) (λah A outer s H vs Q E hr h=>?_)
 .walk_at "n"
 obtain⟨t,xs,am,k,rfl,ht,hk,hq⟩:=h
 exists Y9a,Qj,YM,Qj,Qea,Qh,Qi,Qh,Qi,Qh,Qi,Qh,Qi
 rcases hq with ⟨h,q⟩ | ⟨i,b,k',cv,rfl,hx,hb,i6,q⟩
 .rw[if_pos h];exact q
 .rw[if_neg #[0]]
  refine⟨_,SqT.of ht,.ref b,QQ hx,b,rfl,_,SqT.of hb,_,at0 _ _,JNb i6 hk,QR (λe=>?_) λe=>?_⟩
  .rw[if_neg (by simpa using e)]at q;exact q
  .rw[if_pos (by simpa using e)]at q
   exact⟨_,SqT.of ht,.ref b,QQ hx,b,rfl,_,SqT.of hb,_,at1 _ _ _,q⟩
def Xvc(H:Hp)(es:List Dt)(k cv:V):Prop:=(∃ c,Dt.t [.v k,.t c]∈es/\TD H 5 (.t c) cv)\/((∀ d∈es,Qo d≠k)/\cv=.non)
def Xwc(st:StL)(k v:V)(ws:List Int):Prop:=(v=.non/\ws=[])\/∃ n,v=.int n/\Way ltK (Qn st) k n ws
structure Jrc(es:List Dt):Prop where
 row:∀ d∈es,J3 d
 up:UpR ltK es
 len:es.length<=900
theorem JV:∀ {l:Nat} {M part:List Dt},Tow QF tbl l M part->(∀ d∈M,J3 d)->UpR ltK M->(∀ d∈part,Qba d)/\UpR ltK part/\part.length<=M.length/\(1<=l->∀ d∈part,HdD d)
 | 0,M,part,t,h1,h2=>by
  rw[show part=M from t]
  exact⟨λd hd=>(h1 d hd).ent,h2,Um _,λz=>by lia⟩
 | l+1,M,part,t,h1,h2=>by
  cases M with
  | nil =>
   have:=t.fst.1.mp rfl;subst this;exact⟨(λd hd=>nomatch hd),Ih,Um _,λ_ d hd=>nomatch hd⟩
  | cons e r =>
   have ks:=t.keys;have hd:∀ d∈part,HdD d:=λd hd=>by
    obtain⟨gs,a,b⟩:=t;obtain⟨p,hp,n,ed,_⟩:=b.mem hd;refine⟨_,n,ed,?_⟩
    have hk:Qo d∈Qo e::(r.map Qo).filter (λk=>decide (l < QF k)):=by rw[<- ks];exact mem_map_of_mem hd
    rw[ed,JMa]at hk
    rcases mem_cons.mp hk with z | z
    .rw[z];exact(h1 e #[2]).ent.key
    .obtain⟨x,hx,ex⟩:=mem_map.mp (mem_filter.mp z).1
     rw[<- ex];exact(h1 x (VM _ hx)).ent.key
   refine⟨λd h=>(hd d h).ent,?_,t.len0,λ_=>hd⟩
   have sub:(part.map Qo).Sublist ((e::r).map Qo):=by
    rw[ks,UI];exact List.Sublist.cons₂ _ filter_sublist
   have up:((e::r).map Qo).Pairwise ltK:=by rw[Da];exact h2
   have:=up.sublist sub;rw[Da]at this;exact this
theorem Qs.find{p:Vh}{d:Dt}(h:Qs P w ob H p d1 d2 st c)(hm:(n,d)∈Qn st):∃ t,(n,d,t)∈st:=by
 obtain⟨⟨a,b,t⟩,m1,e1⟩:=mem_map.mp hm;injection e1 with x1 y1
 dsimp only at x1 y1;subst x1 y1;exact⟨t,m1⟩
theorem Q3d{p:Vh}{l:Int}(hS:Qs P w ob H p d1 d2 st c)(hm:(n,Q8 l es)∈Qn st)(q:∀ a H',Qf H H'->H a=Vp->PgD ob H' a l es->Q (.ref a) H'):QH P w ob [.ref p,.int n] H Q E:=by
 obtain⟨t,ht⟩:=hS.find hm;refine⟨p,d1,d2,st,c,n,rfl,hS,λl2 eV t2 eC a H' s ha pg=>?_,λz=>(z _ ht rfl).elim⟩
 obtain⟨el,ee⟩:=JR (hS.fun_ ht eC).1;subst el ee;exact q a H' s ha pg
theorem JH{K:VC}{kk mm:Nat}{σ:St}{p:Vh}{l:Int}(T:Tx K mg ob)(M:MeV P w K mg base mm (ob 3) "page" (QH P w ob))(hk:mm<=kk)
 (hi:σ[i]?=Vo (Vo (.ref p))) (hj:σ[j]?=Vo (Vo (.int n))) (hS:Qs P w ob H p d1 d2 st c) (hm:(n,Q8 l es)∈Qn st) (q:∀ a H',Qf H H'->H a=Vp->PgD ob H' a l es->Q (.ref a) H'):Qfb P w K mg base kk "page" (Ju i) (XZa (Ju j) ZLa) σ H Q E:=by
 obtain⟨dx,ho⟩:=hS.obj;refine JP hi ho rfl (T.ob_ 3 #[1]).cl (M.mono hk) (Ya hj ?_)
 simp only[ZLa];exact Q3d hS hm q
theorem Qs.off_pg{p C dx t:Vh}{l:Int}{tw:Bool}(h:Qs P w ob H p d1 d2 st c)(ha:H a=Vo (.ins C dx (pgF tw l t))):a∉[p,d1,d2]:=λz=>by
 obtain⟨i7,ho⟩:=h.obj;simp only[Lp,Lq,or_false]at z
 rcases z with z | z | z
 .rw[z,ho]at ha
  injection ha with ha
  injection ha with _ _ hf
  have:=congrArg (UH ("level":Str)) hf;have e1:(stF d1 d2 c).lookup ("level":Str)=Vp:=rfl;have e2:(pgF tw l t).lookup ("level":Str)=Vo (.int l):=by cases tw <;> rfl
  rw[e1,e2]at this;cases this
 .rw[z,h.num]at ha;cases ha
 .rw[z,h.tol]at ha;cases ha
theorem Qs.none_x{p b:Vh}{ag:StL}{c':Int}(_:Qs P w ob H p d1 d2 st c)(s:QI [p,d1,d2] H H')(h':Qs P w ob H' p d1 d2 ag c')(hb:H' b=Vp):H b=Vp:=by
 cases e:H b with
 | none=>rfl
 | some o =>
  have hn:b∉[p,d1,d2]:=λz=>by
   obtain⟨i7,ho⟩:=h'.obj;simp only[Lp,Lq,or_false]at z
   rcases z with z | z | z
   .rw[z,ho]at hb;cases hb
   .rw[z,h'.num]at hb;cases hb
   .rw[z,h'.tol]at hb;cases hb
  rw[s _ _ hn e]at hb;cases hb
theorem PgD.few{p:Vh}{l:Int}(hS:Qs P w ob H p d1 d2 st c)(hm:(n,Q8 l es)∈Qn st):es.length<=900:=by
 obtain⟨t,ht⟩:=hS.find hm;obtain⟨l3,k3,r3,oQ,e3,_,h3⟩:=hS.sh _ ht;rw[(JR e3).2];simp;lia
structure Mid(R M:List Dt)(k:V):Prop where
 ex:∃ A B,R=A++(M++B)/\(∀ a∈A,ltK (Qo a) k)/\∀ b∈B,ltK k (Qo b)
theorem Mid.refl(R:List Dt)(k:V):Mid R R k:=⟨[],[],by simp,(λa h=>nomatch h),λb h=>nomatch h⟩
theorem Mid.trans{R N:List Dt}(h:Mid R M k)(h':Mid M N k):Mid R N k:=by
 obtain⟨A,B,e,h1,h2⟩:=h.ex;obtain⟨C,D,e',h3,h4⟩:=h'.ex;exact⟨A++C,D++B,by rw[e,e'];simp,λa ha=>(mem_append.mp ha).elim (h1 a) (h3 a),λb hb=>(mem_append.mp hb).elim (h4 b) (h2 b)⟩
theorem Mid.none_{R:List Dt}(h:Mid R M k)(n:∀ d∈M,Qo d≠k):∀ d∈R,Qo d≠k:=by
 obtain⟨A,B,e,h1,h2⟩:=h.ex;intro d hd z;rw[e]at hd
 rcases mem_append.mp hd with y | y
 .have:=h1 d y;rw[z]at this;exact ltK.irr _ this
 .rcases mem_append.mp y with y | y
  .exact n d y z
  .have:=h2 d y;rw[z]at this;exact ltK.irr _ this
theorem Mid.mem{R:List Dt}(h:Mid R M k){d:Dt}(hd:d∈M):d∈R:=by
 obtain⟨A,B,e,h1,h2⟩:=h.ex;rw[e];simp[hd]
theorem none_of{b:Vh}(s:Qf H0 H1)(h:H1 b=Vp):H0 b=Vp:=by
 cases e:H0 b with
 | none=>rfl
 | some o=>rw[s _ _ e]at h;cases h
theorem Jrc.mid{R:List Dt}(h:Jrc R)(m:Mid R M k):(∀ d∈M,J3 d)/\UpR ltK M/\M.length<=900:=by
 obtain⟨A,B,e,_,_⟩:=m.ex;have up:=h.up;have l:=h.len;rw[e]at up l;simp only[Oh]at l;exact⟨λd hd=>h.row d (m.mem hd),up.right.left,by lia⟩
inductive Zmc(tbl:List (Int×Dt))(l:Nat)(M a b:List Dt)(h:Dt)(k:V):Prop
 | mk (A N B:List Dt) (n:Int) (part:List Dt) (e:M=A++(N++B)) (tA:Tow QF tbl (l+1) A a) (tB:Tow QF tbl (l+1) B b) (eh:h=Zt (QM N) n) (hm:(n,Q8 (l:Int) part)∈tbl) (tp:Tow QF tbl l N part) (hN:N≠[]) (c1:A=[]\/l+1<=QF (QM N)) (c2:B=[]\/l+1<=QF (QM B)) (h1:∀ a∈A,ltK (Qo a) k) (h2:∀ b∈B,ltK k (Qo b)):Zmc tbl l M a b h k
theorem QNb{l:Nat}{a b:List Dt}{h:Dt}(t:Tow QF tbl (l+1) M (a++h::b))(up:UpR ltK M)(le:ltK (Qo h) k\/Qo h=k)(hb:∀ x∈b,ltK k (Qo x)):Zmc tbl l M a b h k:=by
 obtain⟨A,N,B,n,part,e,tA,tN,tB,eh,hm,tp,hN,h1,h2⟩:=t.at_;rw[eh,JMa]at le;rw[e]at up;refine⟨A,N,B,n,part,e,tA,tB,eh,hm,tp,hN,h1,h2,?_,?_⟩
 .have u1:UpR ltK (A++N):=by rw[<- IV]at up;exact up.left
  exact u1.ahead hN ltK.tr le
 .refine up.right.behind ltK.tr ?_
  by_cases eB:B=[]
  .exact .inl eB
  .have oT:=tB.ne eB
   cases b with
   | nil=>exact absurd rfl oT
   | cons x r =>
    refine .inr ?_
    rw[<- tB.fst.2];exact hb x #[2]
inductive Yda(P:Vg)(w:Vb)(ob:Nat->Vh)(vs:List V)(H:Hp)(Q:VK)(E:XK):Prop
 | mk:∀ p d1 d2 st c v k es,vs=[.ref p,v,k]->Qs P w ob H p d1 d2 st c->QZ st es v->Jrc es->Q4 k->(∀ r y H' cv ws,Qf H H'->H r=Vp->H' r=Vo (.tup [cv,.ref y])->H' y=Vo (.lst (ws.map V.int))->H y=Vp->Xvc H' es k cv->Xwc st k v ws->Q (.ref r) H')->Yda P w ob vs H Q E
inductive SkI(H:Hp)(p y:Vh)(v k:V)(es:List Dt)(st:StL)(m:Nat)(σ':St)(H':Hp):Prop
 | mk:∀ (nv:V) (ws:List Int) (x5 x6:Option V),σ'=[Vo (.ref p),Vo v,Vo k,Vo (.ref y),Vo nv,x5,x6]->Qf H H'->H' y=Vo (.lst (ws.map V.int))->ws.length+m<=8 ->
  ((nv=.non/\(∀ d∈es,Qo d≠k)/\Xwc st k v ws)\/∃ n l M part,nv=.int n/\m=l+1/\(n,Q8 ((l:Nat):Int) part)∈Qn st/\Tow QF (Qn st) l M part/\M≠[]/\Mid es M k/\∀ w',Way ltK (Qn st) k n w'->Xwc st k v (ws++w'))->SkI H p y v k es st m σ' H'
theorem Q4d(T:Tx K mg ob)(rS:Cal P w K mg base 4 "last_up_to" ["entries","key"] (ZV K))(Ybd:Cal P w K mg base 1 "cells_at" ["rows","at","key"] (QYa K))(Qr:MeV P w K mg base 5 (ob 3) "page" (QH P w ob))(F:Fun K "seek" "seek" Qjc f fd):Qp P w K mg base CX0 6 f fd ["pages","root","key"] (Yda P w ob):=by
 refine F.ok Zjc (λvs H Q E h=>?_) (λah A outer s H vs Q E hr h=>?_)
 .walk_at "n"
 obtain⟨p,d1,d2,st,c,v,k,es,rfl,hS,hT,hR,hk,q⟩:=h
 exists Zjc,PE1.pe,QT,Qj,Q5,Qh,Qi,Qh,Qi
 refine⟨by decide,λy hy=>?_⟩
 refine⟨λm σ' H'=>SkI H p y v k es st m σ' H',?_,?_⟩
 .rcases hT with ⟨rfl,rfl⟩ | ⟨aC,top,L,kk,n,h6,ch,eL,rfl⟩
  .exact⟨0,.non,[],Vp,Vp,rfl,Qb hy _,Qa,by simp,.inl ⟨rfl,(λd hd=>nomatch hd),.inl ⟨rfl,rfl⟩⟩⟩
  .obtain⟨part,hm,tp,_,_⟩:=(ch.toRoot hS.fn eL).page
   exact⟨top+1,.int n,[],Vp,Vp,rfl,Qb hy _,Qa,by simp;lia,.inr ⟨n,top,es,part,rfl,rfl,hm,tp,aC,Mid.refl _ _,λw' hw=>.inr ⟨n,rfl,hw⟩⟩⟩
 rintro m σ' H' ⟨nv,ws,x5,x6,rfl,s1,fc,lw,j4⟩;walk_at "rd"
 rcases j4 with ⟨rfl,bA,hw⟩ | ⟨n,l,M,part,rfl,rfl,hm,tp,hM,eD,iG⟩
 .rw[if_neg (not_not_intro rfl)]
  exact⟨QY,λr hr=>q r y _ .non ws (s1.trans (Qb hr _)) (none_of s1 hr) Qa (Qb hr _ _ _ fc) hy (.inr ⟨bA,rfl⟩) hw⟩
 rw[if_pos (λz=>nomatch z)]
 refine⟨_,λσ' H' h=>h,.inl ⟨rfl,_,SqL.of fc⟩,_,fc,Qm (by rw[UK];lia),?_⟩
 have s2:Qf H (upd H' y (.lst (ws.map V.int++[.int n]))):=ZLb s1 hy;have g2:upd H' y (.lst (ws.map V.int++[.int n])) y=Vo (.lst ((ws++[n]).map V.int)):=by rw[Qa,Il];rfl
 generalize upd H' y (.lst (ws.map V.int++[.int n]))=H2 at s2 g2 ⊢;have bT:=hS.same s2;obtain⟨dx,ho⟩:=bT.obj;obtain⟨j5,mx,lenM⟩:=hR.mid eD;obtain⟨ak,eE,lp,gK⟩:=JV tp j5 mx;refine JH T Qr #[1] rfl rfl bT hm λpg H3 s3 dH aM=>?_
 obtain⟨tw,ja,t,bx,aO,ht⟩:=id aM;obtain⟨mm,t',xs,em,e,aK,rt⟩:=ht.tup;cases e;obtain rfl:mm=6:=by lia
 have cY:=Vn rt;refine Z9 T rfl aO ⟨t,xs,part,k,rfl,aK,rt,ak,eE,hk,by lia,λH4 am s4 hu=>?_⟩
 have cH:=s4 _ _ aO;have my:=s2.trans (s3.trans s4);have y4:=s4 _ _ (s3 _ _ g2);have fR:=TDs.sameT rt s4.t;obtain⟨a,b,ep,ea,h1,h2⟩:=hu;refine JT T rfl cH ⟨rfl,QR (λh0=>?_) λh0=>?_⟩
 .injection h0 with h0
  obtain rfl:l=0:=by lia
  obtain rfl:tw=false:=by rw[bx];rfl
  rw[show part=M from tp]at hm ep fR cY
  refine Zb (T.ob_ 1 #[1]) #[1] rfl cH rfl ?_
  have fin:∀ cv,Xvc H4 M k cv->[cv,V.ref y].length<=Vs/\∀ p:Vh,H4 p=Vp->Q (.ref p) (upd H4 p (.tup [cv,.ref y])):=λcv hf=>by
   refine⟨QY,λr hr=>q r y _ cv (ws++[n]) (my.trans (Qb hr _)) (none_of my hr) Qa (Qb hr _ _ _ y4) hy ?_ (iG [n] (.leaf hm))⟩
   rcases hf with ⟨c,hc,tc⟩ | ⟨hn,e⟩
   .exact .inl ⟨c,eD.mem hc,tc.same (Qb hr _)⟩
   .exact .inr ⟨eD.none_ hn,e⟩
  by_cases gL:a=[]
  .subst gL
   refine⟨t,xs,am,k,rfl,s4 _ _ aK,hk,.inl ⟨by rw[ea];decide,fin _ (.inr ⟨λd hd z=>?_,rfl⟩)⟩⟩
   rw[ep]at hd;have:=h2 d hd;rw[z]at this;exact ltK.irr _ this
  .obtain⟨ini,x,rfl⟩:=ZA gL
   have hx:M[ini.length]?=Vo x:=by rw[ep,IV];simp
   have li:ini.length < xs.length:=by have:=(List.getElem?_eq_some_iff.mp hx).1;lia
   have tx:=Ql fR hx (IA li)
   obtain⟨kx,cx,rfl,mB⟩:=j5 x (Og hx);obtain⟨bb,v1,v2,eb,hb,w1,w2⟩:=TD.pair_of tx;obtain⟨_,rfl⟩:=w1.flat;refine⟨t,xs,am,k,rfl,s4 _ _ aK,hk,.inr ⟨ini.length,bb,v1,v2,by rw[ea];simp,by rw[IA li,eb],hb,mB,?_⟩⟩
   by_cases ek:v1=k
   .rw[if_pos ek]
    subst ek;exact fin _ (.inl ⟨cx,Og hx,w2⟩)
   .rw[if_neg ek]
    refine fin _ (.inr ⟨λd hd z=>?_,rfl⟩)
    rw[ep]at hd
    rcases mem_append.mp hd with w | w
    .rcases mem_append.mp w with w | w
     .have u:ltK (Qo d) v1:=by
       have:=mx;rw[ep]at this;exact this.left.across w (mem_singleton.mpr rfl)
      rw[z]at u
      rcases h1 _ (Ur _ (mem_singleton.mpr rfl)) with c | c
      .exact ltK.irr _ (ltK.tr u c)
      .exact ek c
     .rw[mem_singleton.mp w]at z;exact ek z
    .have:=h2 d w
     rw[z]at this;exact ltK.irr _ this
 .have oU:l≠0:=λz=>h0 (by rw[z];rfl)
  obtain⟨l',rfl⟩:∃ l',l=l'+1:=⟨l - 1,by lia⟩
  obtain rfl:tw=true:=by rw[bx];exact decide_eq_true #[0]
  refine⟨am,rfl,QR (λhi=>?_) λhi=>?_⟩
  .have gL:a≠[]:=λz=>by rw[z]at ea;simp at ea;lia
   obtain⟨ini,x,rfl⟩:=ZA gL;have hx:part[ini.length]?=Vo x:=by rw[ep,IV];simp
   have li:ini.length < xs.length:=by have:=(List.getElem?_eq_some_iff.mp hx).1;lia
   have tx:=Ql fR hx (IA li)
   have fA:=h1 x (Ur _ (mem_singleton.mpr rfl));rw[IV]at ep;rw[ep]at tp hm;obtain⟨A,N,B,n',aw,eM,tA,tB,ex,fe,fS,hN,_,_,hA,hB⟩:=QNb tp mx fA h2;subst ex;obtain⟨bb,v1,v2,eb,hb,w1,w2⟩:=TD.pair_of tx;obtain⟨_,rfl⟩:=w2.flat;rw[JMa]at fA;refine Zb (T.ob_ 2 #[1]) #[1] rfl cH rfl ⟨t,rfl,_,am,rfl,SqT.of (s4 _ _ aK),.ref bb,by rw[ea,<- eb];simp;exact QQ (IA li),bb,rfl,_,SqT.of hb,_,at1 _ _ _,l'+1,by lia,.int n',ws++[n],_,_,rfl,my,y4,by simp;lia,.inr ⟨n',l',N,aw,rfl,rfl,fe,fS,hN,eD.trans ⟨A,B,eM,hA,hB⟩,λw' hw=>?_⟩⟩
   have:=iG (n::w') (.go hm (λz=>by rcases fA with c | c;exact ltK.irr _ (ltK.tr z c);rw[c]at z;exact ltK.irr _ z) h2 hw)
   rw[IV];exact this
  .have gL:a=[]:=by
    cases a with
    | nil=>rfl
    | cons x r=>simp at ea;lia
   subst gL;rw[LC]at ep;subst ep;refine⟨0,by lia,.non,ws++[n],_,_,rfl,my,y4,by simp;lia,.inl ⟨rfl,eD.none_ λd hd z=>?_,iG [n] (.stop hm h2)⟩⟩
   have kf:ltK k (QM M):=by
    rw[<- tp.fst.2];have aC:=tp.ne hM;cases part with
    | nil=>exact absurd rfl aC
    | cons x r=>exact h2 x #[2]
   have:=UpR.behind (M:=[]) (B:=M) mx ltK.tr (.inr kf) d hd;rw[z]at this;exact ltK.irr _ this
structure Znc(P:Vg)(w:Vb)(ob:Nat->Vh)(H H':Hp)(p d1 d2:Vh)(st ag:StL)(c':Int)(r:Vh)(l:Nat)(M hs:List Dt)(ys:List V):Prop where
 sx:QI [p,d1,d2] H H'
 fr:H r=Vp
 at_:H' r=Vo (.lst ys)
 ty:Vm (λd v=>TD H' 6 d v) hs ys
 hd:∀ d∈hs,HdD d
 tow:Tow QF (Qn ag) (l+1) M hs
 sA:Qs P w ob H' p d1 d2 ag c'
 sub:∀ x∈Qn st,x∈Qn ag
section
variable{P:Vg}{w:Vb}{ob:Nat->Vh}{H H0 H1:Hp}{p d1 d2 e:Vh}{st ci:StL}{c1:Int}{b:Bool}{xs:List V}{es M:List Dt}{l:Nat}{Q:VK}{E:XK}
theorem YF(hS:Qs P w ob H1 p d1 d2 ci c1)(he:HE b H1 e xs)(re:Vm (λd v=>TD H1 6 d v) es xs)(ak:∀ d∈es,Qba d)(lx:xs.length<=900)(few:ci.length+xs.length<=16000000)(t:Tow QF (Qn ci) l M es)(sx:QI [p,d1,d2] H H1)(sub:∀ x∈Qn st,x∈Qn ci)
 (q:∀ r H' ag c' hs ys,Znc P w ob H H' p d1 d2 st ag c' r l M hs ys->ag.length<=ci.length+xs.length->Q (.ref r) H') (fr:∀ r,H1 r=Vp->H r=Vp):Zm P w ob [.ref p,.int l,.ref e] H1 Q E :=
 ⟨p,d1,d2,ci,c1,l,e,b,xs,es,rfl,hS,he,re,ak,lx,few,λr H' ag c' hs ys fO hr ck tys hd cX bT cG l2=>q r H' ag c' hs ys ⟨sx.trans fO,fr r hr,ck,tys,hd,(t.mono cG).up cX,bT,λx hx=>cG x (sub x hx)⟩ l2⟩
end
theorem Qsc{n:Nat}(h:n<=9000):n<=Vs:=VI h (by rw[Ux];decide)
theorem JOb(v:V):[v].length<=1000:=show 1<=1000 by decide
theorem Xxc{row:Dt}(up:UpR ltK es)(h:Jqc es k am) :
 (∀ (i:Nat) d,am=(i:Int)->es[i]?=Vo d->Qo d=k->Y0 ltK k row es (es.take i++row::es.drop (i+1)))/\((∀ (i:Nat) d,am=(i:Int)->es[i]?=Vo d->Qo d≠k)->∃ j:Nat,am+1=(j:Int)/\j<=es.length/\Y0 ltK k row es (es.take j++row::es.drop j)):=by
 obtain⟨a,b,rfl,rfl,h1,h2⟩:=h
 constructor
 .intro i d hi hd e
  have la:i < a.length:=by lia
  rw[Oe la]at hd
  have ea:a=a.take i++[d]:=by
   have:a.drop i=[d]:=by
    rw[<- Du la,L8 #[0]]
    rw[IA la]at hd
    injection hd with hd
    rw[hd]
   rw[<- this,L7]
  have t1:(a++b).take i=a.take i:=by rw[take_append_of_le_length #[0]]
  have t2:(a++b).drop (i+1)=b:=by rw[show i+1=a.length by lia,drop_left]
  rw[t1,t2];refine⟨a.take i,b,rfl,.inr ⟨d,?_,e⟩,λx hx=>?_,h2⟩
  .conv=>lhs;rw[ea]
   simp
  .rw[ea,IV]at up
   rw[<- e];exact up.across hx #[2]
 .intro hn
  refine⟨a.length,by lia,by simp,a,b,by simp,.inl rfl,λx hx=>?_,h2⟩
  rcases h1 x hx with z | z
  .exact z
  .exfalso
   obtain⟨ini,last,rfl⟩:=ZA (xs:=a) (λy=>by rw[y]at hx;cases hx)
   have hl:=hn ini.length last #[2] (by rw[Oe #[2]];simp)
   rcases mem_append.mp hx with y | y
   .have u:=up.left.across y (mem_singleton.mpr rfl)
    rw[z]at u
    rcases h1 last #[2] with v | v
    .exact ltK.irr _ (ltK.tr u v)
    .exact hl v
   .rw[mem_singleton.mp y]at z;exact hl z
theorem Y0.len{row:Dt}{R R':List Dt}(h:Y0 ltK k row R R'):R'.length<=R.length+1:=by
 obtain⟨A,C,e,e2,_⟩:=h
 rcases e2 with e2 | ⟨o,e2,_⟩ <;> rw[e,e2] <;> simp <;> lia
inductive Zoc(tbl:List (Int×Dt))(l:Nat)(M part:List Dt)(k:V)(am:Int):Prop
 | mk (ini:List Dt) (h:Dt) (bs A N B:List Dt) (n':Int) (aw:List Dt) (e1:part=ini++h::bs) (e2:(if (0:Int) > am then (0:Int) else am)=(ini.length:Int)) (e:M=A++(N++B)) (tA:Tow QF tbl (l+1) A ini) (tB:Tow QF tbl (l+1) B bs) (eh:h=Zt (QM N) n') (hm:(n',Q8 (l:Int) aw)∈tbl) (tp:Tow QF tbl l N aw) (hN:N≠[]) (c2:B=[]\/l+1<=QF (QM B)) (h1:∀ a∈A,ltK (Qo a) k) (h2:∀ b∈B,ltK k (Qo b)) (c1:A=[]\/(l+1<=QF (QM N)/\(ltK (QM N) k\/QM N=k))):Zoc tbl l M part k am
theorem Xyc{l:Nat}{part:List Dt}(t:Tow QF tbl (l+1) M part)(hM:M≠[])(up:UpR ltK M)(hu:Jqc part k am):Zoc tbl l M part k am:=by
 obtain⟨a,b,rfl,rfl,h1,h2⟩:=hu
 by_cases ea:a=[]
 .subst ea
  cases b with
  | nil=>exact absurd rfl (t.ne hM)
  | cons h bs =>
   obtain⟨A,N,B,n,aw,e,tA,tN,tB,eh,hm,tp,hN,c1,c2⟩:=(show Tow QF tbl (l+1) M ([]++h::bs) from t).at_
   have eA:A=[]:=tA.fst.1.mpr rfl;subst eA;rw[LC]at e;have kN:ltK k (QM N):=by have:=h2 h #[2];rw[eh]at this;exact this
   refine⟨[],h,bs,[],N,B,n,aw,rfl,rfl,by rw[e];rfl,tA,tB,eh,hm,tp,hN,c2,(λa ha=>nomatch ha),λb hb=>?_,.inl rfl⟩
   rw[e]at up;obtain⟨x,hx,ex⟩:=Qra hN;have:=up.across hx hb;rw[ex]at this;exact ltK.tr kN this
 .obtain⟨ini,h,rfl⟩:=ZA ea
  rw[IV]at t;have le:=h1 h (Ur _ (mem_singleton.mpr rfl));obtain⟨A,N,B,n,aw,e,tA,tB,eh,hm,tp,hN,c1,c2,hA,hB⟩:=QNb t up le h2;refine⟨ini,h,b,A,N,B,n,aw,by rw[IV];rfl,?_,e,tA,tB,eh,hm,tp,hN,c2,hA,hB,?_⟩
  .rw[Oh,OB,if_neg #[0]];lia
  .rw[eh,JMa]at le
   exact c1.imp_right λz=>⟨z,le⟩
inductive XS(ai:VC)(vs:List V)(H:Hp)(Q:VK)(E:XK):Prop
 | mk:∀ l xs es,∀ am:Int,∀ rb row k,vs=[.ref l,.int am,.ref rb]->H l=Vo (.lst xs)->Vm (λd v=>TD H 6 d v) es xs->(∀ d∈es,J3 d)->UpR ltK es->TD H 6 row (.ref rb)->J3 row->Qo row=k->Jqc es k am->xs.length<=800->(∀ r H' ys aD,Qf H H'->H r=Vp->H' r=Vo (.lst ys)->Vm (λd v=>TD H' 6 d v) aD ys->Y0 ltK k row es aD->ys.length<=xs.length+1->Q (.ref r) H')->XS ai vs H Q E
seal La in
theorem JPb(T:Tx K mg ob)(F:Fun K "rows_with" "rows_with" Qxa f fd):Qp P w K mg base CX0 1 f fd ["rows","at","row"] (XS K):=by
 refine F.ok JSa (λvs H Q E h=>?_) (λah A outer s H vs Q E hr h=>?_)
 .walk_at "n"
 obtain⟨l,xs,es,am,rb,row,k,rfl,hl,re,ar,up,tr,bN,ek,hu,lx,q⟩:=h
 exists JSa,Qj,Q5,Qh,Qi,Qh,Qx,Qh,Qi,Xr,Qu,ZB,Qu,ZB,QV,Zd,QV,Zd,Qu,Qz,Xr,Qu,ZB,Qu,ZB,QV,Zd,Qu,Qz,QV,Zd,Qu,Qz
 have le:=Vn re;obtain⟨u1,u2⟩:=Xxc (row:=row) up hu;obtain⟨kr,cr,eF,oV⟩:=bN;obtain⟨vE,v1,v2,e1,jb,w1,w2⟩:=TD.pair_of (eF ▸ tr);cases e1;obtain⟨_,j6⟩:=w1.flat;have ka:v1=k:=by rw[j6,<- ek,eF];rfl
 have skip:(∀ (i:Nat) d,am=(i:Int)->es[i]?=Vo d->Qo d≠k)->∀ r H',Qf H H'->H r=Vp->H' r=Vo (.lst (ZT xs Vp (Vo (am+1))++[.ref rb]++ZT xs (Vo (am+1)) Vp))->Q (.ref r) H':=λhn r H' s hr g=>by
  obtain⟨j,ej,lj,pj⟩:=u2 hn;rw[ej,Jpc,Xbb,IV]at g;refine q r H' _ _ s hr g (QB (ZE j (TDs.sameT re s.t)) (.cons (tr.same s) (Zn j (TDs.sameT re s.t)))) pj (by simp;lia)
 refine QR (λh0=>?_) λh0=>?_
 .obtain⟨i,ei⟩:∃ i:Nat,am=(i:Int):=⟨am.toNat,by lia⟩
  have hi:i < xs.length:=by
   obtain⟨a,b,e,ea,_⟩:=hu;have:es.length=a.length+b.length:=by rw[e,Oh]
   lia
  obtain⟨d,bb,r',hd,ex,hb,oS,_⟩:=QXa re (λd hd=>(ar d hd).ent) (IA hi)
  refine⟨xs,SqL.of hl,.ref bb,by rw[ei,<- ex];exact QQ (IA hi),bb,rfl,_,SqT.of hb,_,at0 _ _,_,SqT.of jb,_,at0 _ _,JNb oS (by rw[j6];exact oV),QR (λe=>?_) λe=>?_⟩
  .refine ZUa (ia:=0) (ic:=0) rfl rfl (λ_ _ q=>q) (λ_ _ q=>⟨_,_,rfl,rfl,q⟩) (λH0 R s0 r=>⟨YPa _,λp hp=>r p _ (Qb hp _) Qa⟩) hl hl #[0] #[0] (JOb _) λr H' s hr g=>?_
   rw[ei,show(i:Int)+1=((i+1:Nat):Int) by lia,Jpc,Xbb,IV]at g
   exact q r H' _ _ s hr g (QB (ZE i (TDs.sameT re s.t)) (.cons (tr.same s) (Zn (i+1) (TDs.sameT re s.t)))) (u1 i d ei hd (by rw[e,ka])) (by simp;lia)
  .exact ZUa (ia:=0) (ic:=0) rfl rfl (λ_ _ q=>⟨_,_,rfl,rfl,q⟩) (λ_ _ q=>⟨_,_,rfl,rfl,q⟩) (λH0 R s0 r=>⟨YPa _,λp hp=>r p _ (Qb hp _) Qa⟩) hl hl #[0] #[0] (JOb _) (skip λi' d' vF bI z=>e (by
    obtain rfl:i'=i:=by lia
    rw[hd]at bI;cases bI;rw[ka];exact z))
 .exact ZUa (ia:=0) (ic:=0) rfl rfl (λ_ _ q=>⟨_,_,rfl,rfl,q⟩) (λ_ _ q=>⟨_,_,rfl,rfl,q⟩) (λH0 R s0 r=>⟨YPa _,λp hp=>r p _ (Qb hp _) Qa⟩) hl hl #[0] #[0] (JOb _) (skip λi' d' vF bI z=>h0 #[0])
inductive QZa(P:Vg)(w:Vb)(ob:Nat->Vh)(n:Nat)(vs:List V)(H:Hp)(Q:VK)(E:XK):Prop
 | mk:∀ p d1 d2 st c,∀ m:Int,∀ l:Nat,∀ part M rb row k,vs=[.ref p,.int m,.ref rb]->Qs P w ob H p d1 d2 st c->(m,Q8 (l:Int) part)∈Qn st->Tow QF (Qn st) l M part->M≠[]->(∀ d∈M,J3 d)->UpR ltK M->M.length<=800->l<=n->TD H 6 row (.ref rb)->J3 row->Qo row=k->st.length+(l+1) * (M.length+1)<=16000000->(∀ r H' ag c' M' hs ys,Znc P w ob H H' p d1 d2 st ag c' r l M' hs ys->Y0 ltK k row M M'->ag.length<=st.length+(l+1) * (M.length+1)->Q (.ref r) H')->QZa P w ob n vs H Q E
def JI(P:Vg)(w:Vb)(ob:Nat->Vh):Nat->Sp
 | 0=>λ_ _ _ _=>False
 | n+1=>QZa P w ob n
theorem Zgb(T:Tx K mg ob)(rS:Cal P w K mg base 4 "last_up_to" ["entries","key"] (ZV K))(XQ:Cal P w K mg base 5 "heads_of" ["pages","level","entries"] (Zm P w ob))(Zrd:Cal P w K mg base 1 "rows_with" ["rows","at","row"] (XS K))(Qr:MeV P w K mg base 5 (ob 3) "page" (QH P w ob)){n:Nat}(IH:Cal P w K mg base (6+n) "heads_with" ["pages","number","row"] (JI P w ob n))(F:Fun K "heads_with" "heads_with" XL f fd):Qp P w K mg base CX0 (6+n+1) f fd ["pages","number","row"] (JI P w ob (n+1)):=by
 refine F.ok ZAa (λvs H Q E h=>?_) (λah A outer s H vs Q E hr h=>?_)
 .walk_at "n"
 obtain⟨p,d1,d2,st,c,m,l,part,M,rb,row,k,rfl,hS,hm,tw,hM,ar,up,lM,hl,dt,bN,ek,few,q⟩:=h
 exists ZAa,PE1.pe,QT,Qh,Qi,Qj,Q5,QK,Zo,Qq,Zxb,QK,Zo,Qh,Qi,Qh,Qx,Xr,Qu,ZB,Qu,ZB,QV,Zd,QV,Zd,Qu,Qz
 obtain⟨kr,cr,eF,oV⟩:=id bN;obtain⟨vE,v1,v2,e1,jb,w1,w2⟩:=TD.pair_of (eF ▸ dt);cases e1;obtain⟨_,j6⟩:=w1.flat;have ka:v1=k:=by rw[j6,<- ek,eF];rfl
 have hk:Q4 k:=by rw[<- ka,j6];exact oV
 rw[ka]at jb;obtain⟨ak,eE,lp,gK⟩:=JV tw ar up;refine JH T Qr #[0] rfl rfl hS hm λpg H1 s1 dH aM=>?_
 obtain⟨eG,ja,t,bx,aO,ht⟩:=id aM;obtain⟨mm,t',xs,em,e,aK,rt⟩:=ht.tup;cases e;obtain rfl:mm=6:=by lia
 have cY:=Vn rt;refine Z9 T rfl aO ⟨_,SqT.of (s1 _ _ jb),k,at0 _ _,t,xs,part,k,rfl,aK,rt,ak,eE,hk,by lia,λH2 am s2 hu=>?_⟩
 have bE:=s2 _ _ aO;have au:=s1.trans s2;have im:=TDs.sameT rt s2.t;have bT:=hS.same au;refine JT T rfl bE ⟨rfl,QR (λh0=>?_) λh0=>?_⟩
 .injection h0 with h0
  obtain rfl:l=0:=by lia
  obtain rfl:eG=false:=by rw[bx];rfl
  have ep:part=M:=tw;subst ep;refine Zb (T.ob_ 1 #[1]) #[1] rfl bE rfl ⟨t,rfl,xs,.inr (SqT.of (s2 _ _ aK)),λl1 di=>?_⟩
  have s3:=Qb di (.lst xs);have g3:upd H2 l1 (.lst xs) l1=Vo (.lst xs):=Qa;generalize upd H2 l1 (.lst xs)=H3 at s3 g3 ⊢;have az:=au.trans s3;refine⟨l1,xs,part,am,rb,row,k,rfl,g3,TDs.sameT im s3.t,ar,up,dt.same az,bN,ek,hu,by lia,λr H4 ys aD s4 gM g4 kc bp lys=>?_⟩
  have bU:=az.trans s4;refine YF (l:=0) (b:=false) (hS.same bU) g4 kc (λd hd=>?_) #[0] #[0] (show Tow QF (Qn st) 0 aD aD from rfl) (bU.x _) (λx h=>h) (λr5 H5 bw c5 ke kg h5 l5=>q r5 H5 bw c5 aD ke kg h5 bp (by simp;lia)) λr hr=>none_of bU hr
  rcases(bp.mem ltK.irr d).mp hd with z | z
  .rw[z];exact bN.ent
  .exact ak d z.1
 .have oU:l≠0:=λz=>h0 (by rw[z];rfl)
  obtain⟨l',rfl⟩:∃ l',l=l'+1:=⟨l - 1,by lia⟩
  obtain rfl:eG=true:=by rw[bx];exact decide_eq_true #[0]
  obtain⟨ini,h,bs,A,N,B,n',aw,ep,ew,eM,tA,tB,eh,fe,fS,hN,cB,hA,hB,cA⟩:=Xyc tw hM up hu;subst eh;have hx:part[ini.length]?=Vo (Zt (QM N) n'):=by rw[ep];simp
  have li:ini.length < xs.length:=by have:=(List.getElem?_eq_some_iff.mp hx).1;lia
  have lM:M.length=A.length+(N.length+B.length):=by rw[eM];simp
  have rT:part.length=ini.length+(bs.length+1):=by rw[ep];simp
  have lA:=tA.len0;have lB:=tB.len0;refine⟨am,0,⟨rfl,rfl⟩,?_⟩
  rw[ew];refine Zb (T.ob_ 2 #[1]) #[1] rfl bE rfl ⟨t,rfl,xs,.inr (SqT.of (s2 _ _ aK)),λl1 di=>?_⟩
  have s3:=Qb di (.lst xs);have g3:upd H2 l1 (.lst xs) l1=Vo (.lst xs):=Qa;generalize upd H2 l1 (.lst xs)=H3 at s3 g3 ⊢;have az:=au.trans s3;have fU:=TDs.sameT im s3.t;have tx:=Ql fU hx (IA li)
  obtain⟨bb,u1,u2,eb,hb,x1,x2⟩:=TD.pair_of tx;obtain⟨_,rfl⟩:=x2.flat;have oW:(l'+1) * (N.length+1)<=(l'+1) * (M.length+1):=Dd _ #[0]
  have ki:(l'+1+1) * (M.length+1)=(l'+1) * (M.length+1)+(M.length+1):=L5 _ _;obtain⟨n0,rfl⟩:∃ n0,n=n0+1:=⟨n - 1,by lia⟩
  have fV:∀ d∈N,J3 d:=λd hd=>ar d (by rw[eM];simp[hd])
  have mC:UpR ltK N:=by rw[eM]at up;exact up.right.left
  refine⟨xs,SqL.of g3,.ref bb,by rw[<- eb];exact QQ (IA li),bb,rfl,_,SqT.of hb,_,at1 _ _ _,p,d1,d2,st,c,n',l',aw,N,rb,row,k,rfl,hS.same az,fe,fS,hN,fV,mC,by lia,by lia,dt.same az,bN,ek,by lia,λr7 H7 gN c7 N' iH mD h7 bp l7=>?_⟩
  have cZ:QI [p,d1,d2] H H7:=(az.x _).trans h7.sx;have bc:=hS.same az;have kj:=ZD bc h7.sx;have cI:=h7.sx _ _ (bc.off_pg (s3 _ _ bE)) (s3 _ _ bE);have g7:=bc.lst h7.sx g3;have jc:=TDs.sameT fU kj;refine Zb (T.ob_ 2 #[1]) #[1] rfl cI rfl ?_
  walk_at "rd";have oX:mD.length<=N.length+1:=by
   have h1:=Vn h7.ty;have h2:=h7.tow.len0;have h3:=Y0.len bp
   lia
  refine ZUa (ia:=6) (ic:=6) rfl rfl (λ_ _ q=>q) (λ_ _ q=>⟨_,_,rfl,rfl,q⟩) (λH0 R s0 r=>r _ _ (Qf.refl _) (s0 _ _ h7.at_)) g7 g7 #[0] #[0] #[0] λr8 H8 s8 oY g8=>?_
  rw[show(ini.length:Int)+1=((ini.length+1:Nat):Int) by lia,Jpc,Xbb]at g8
  have gO:=TDs.sameT jc s8.t;have ei:part.take ini.length=ini:=by rw[ep];simp
  have vG:part.drop (ini.length+1)=bs:=by rw[ep];simp
  have ri:=ZE ini.length gO;have gP:=Zn (ini.length+1) gO;rw[ei]at ri;rw[vG]at gP;have du:=QB (QB ri (TDs.sameT h7.ty s8.t)) gP;have lr:=Vn du;simp only[Oh]at lr;have cJ:Tow QF (Qn gN) (l'+1) (A++(N'++B)) (ini++iH++bs):=by
   rw[IV];refine(tA.mono h7.sub).mid h7.tow (tB.mono h7.sub) ?_ cB
   rcases cA with z | ⟨z1,z2⟩
   .exact .inl z
   .refine .inr (.inr ?_)
    rw[bp.fst ltK.irr ltK.tr ek hN z2];exact z1
  refine YF (b:=false) (h7.sA.same s8) g8 du (λd hd=>?_) (by rw[<- Vn du];simp only[Oh];have:=Vn h7.ty;lia) (by rw[<- Vn du];simp only[Oh];have:=Vn h7.ty;lia) cJ (cZ.trans (s8.x _)) h7.sub (λr9 H9 iI c9 iJ iK h9 l9=>?_) λr hr=>?_
  .rcases mem_append.mp hd with z | z
   .rcases mem_append.mp z with z | z
    .exact ak d (by rw[ep];simp[z])
    .exact(h7.hd d z).ent
   .exact ak d (by rw[ep];simp[z])
  .refine q r9 H9 iI c9 (A++(N'++B)) iJ iK h9 (by rw[eM];exact bp.mid hA hB) ?_
   rw[<- Vn du]at l9;simp only[Oh]at l9;have:=Vn h7.ty
   lia
  .exact hS.none_x cZ h7.sA (none_of s8 hr)
theorem Xzc{R:List Dt}{top:Nat}(r:XCa QF tbl R top n):top<=6:=by
 rcases Nat.lt_or_ge 6 top with h | h
 .exfalso
  obtain⟨k,t⟩:=r.one;obtain⟨L,h0,h1,h2⟩:=t.levels;have t7:=Xp h0 h2 7 #[0]
  have l7:=r.two 7 _ #[0] #[0] t7
  rw[t7.many (t.ne' #[2])]at l7
  have:((R.map Qo).tail.filter λk=>decide (6 < QF k))=[]:=filter_eq_nil_iff.mpr λk _ z=>by
   have:=J7d k;have:=of_decide_eq_true z
   lia
  rw[this]at l7;simp at l7
 .lia
theorem QZ.root{p:Vh}(hS:Qs P w ob H p d1 d2 st c)(h:QZ st es (.int n)):∃ top,top<=6/\XCa QF (Qn st) es top n:=by
 rcases h with ⟨_,e⟩ | ⟨aC,top,L,k,n',h6,ch,eL,e⟩
 .cases e
 .cases e;exact⟨top,h6,ch.toRoot hS.fn eL⟩
theorem ZYb{top:Nat}(r:XCa QF (Qn st) es top n):QZ st es (.int n):=by
 obtain⟨L,k,ch,e⟩:=r.chain;obtain⟨part,_,_,_,aC⟩:=r.page;exact .inr ⟨aC,top,L,k,n,Xzc r,ch,e,rfl⟩
theorem Ups.root{R hs:List Dt}{m:Nat}(f:Fn tbl)(t:Tow QF tbl (j+1) R hs)(two:∀ i gs,1<=i->i<=j->Tow QF tbl i R gs->1 < gs.length)(u:Ups QF tbl j hs m [Zt k n]):XCa QF tbl R m n:=by
 have key:∀ {m above},Ups QF tbl j hs m above->Tow QF tbl (m+1) R above/\∀ i gs,1<=i->i<=m->Tow QF tbl i R gs->1 < gs.length:=by
  intro m above u
  induction u with
  | refl=>exact⟨t,two⟩
  | @snoc m' vH dM u h1 h2 ih =>
   refine⟨⟨vH,ih.1,h2⟩,λi gs i1 i2 ti=>?_⟩
   by_cases e:i=m'+1
   .subst e;rw[ti.det f ih.1];exact h1
   .exact ih.2 i gs i1 #[0] ti
 exact⟨⟨k,(key u).1⟩,(key u).2⟩
inductive JQb(P:Vg)(w:Vb)(ob:Nat->Vh)(vs:List V)(H:Hp)(Q:VK)(E:XK):Prop
 | mk:∀ p d1 d2 st c v k cv cd es,vs=[.ref p,v,k,cv]->Qs P w ob H p d1 d2 st c->QZ st es v->Jrc es->es.length<=700->Q4 k->TD H 5 (.t cd) cv->st.length+16 * (es.length+2)<=16000000->(∀ H' ag c' v' aD,QI [p,d1,d2] H H'->Qs P w ob H' p d1 d2 ag c'->(∀ x∈Qn st,x∈Qn ag)->ag.length<=st.length+16 * (es.length+2)->Y0 ltK k (.t [.v k,.t cd]) es aD->QZ ag aD v'->Q v' H')->JQb P w ob vs H Q E
theorem Ycd(T:Tx K mg ob)(vt:Cal P w K mg base 6 "crowned" ["pages","level","heads"] (XO P w ob))(rV:Cal P w K mg base 7 "built" ["pages","rows"] (QUa P w ob))(vI:∀ n,Cal P w K mg base (6+n) "heads_with" ["pages","number","row"] (JI P w ob n))(Yl:MeV P w K mg base 2 (ob 3) "card" (JE P w ob))(F:Fun K "put" "put" Xkc f fd):Qp P w K mg base CX0 15 f fd ["pages","root","key","cells"] (JQb P w ob):=by
 refine F.ok Xlc (λvs H Q E h=>?_) (λah A outer s H vs Q E hr h=>?_)
 .walk_at "n"
 obtain⟨p,d1,d2,st,c,v,k,cv,cd,es,rfl,hS,hT,hR,l7,hk,tc,few,q⟩:=h
 exists Xlc,Qh,Qi,PE1.pe,QT,YZ,vI 8,#[0]
 refine⟨QY,λrb jb=>?_⟩
 have s1:=Qb jb (.tup [k,cv]);have g1:upd H rb (.tup [k,cv]) rb=Vo (.tup [k,cv]):=Qa;generalize upd H rb (.tup [k,cv])=H1 at s1 g1 ⊢;have dt:TD H1 6 (.t [.v k,.t cd]) (.ref rb):=TD.pair g1 (.ofV (Y8b hk)) (tc.same s1);have ar:J3 (.t [.v k,.t cd]):=⟨k,cd,rfl,hk⟩;have bz:=hS.same s1;refine QR (λhv=>?_) λhv=>?_
 .subst hv
  obtain rfl:es=[]:=by
   rcases hT with ⟨e,_⟩ | ⟨_,_,_,_,_,_,_,_,e⟩
   .exact e
   .cases e
  refine⟨YPa _,λl1 di=>?_⟩
  have s2:=Qb di (.lst [.ref rb]);have g2:upd H1 l1 (.lst [.ref rb]) l1=Vo (.lst [.ref rb]):=Qa;generalize upd H1 l1 (.lst [.ref rb])=H2 at s2 g2 ⊢;simp only[OG]at few;refine⟨p,d1,d2,st,c,l1,_,[.t [.v k,.t cd]],rfl,hS.same (s1.trans s2),g2,.cons (dt.same s2) .nil,(λd hd=>by rw[mem_singleton.mp hd];exact ar.ent),by simp,by simp;lia,pairwise_singleton _ _,λH3 bv c3 v3 fP bc be l3 oZ=>?_⟩
  exact q H3 bv c3 v3 [.t [.v k,.t cd]] (((s1.trans s2).x _).trans fP) bc be (by simp at l3 ⊢;lia) ⟨[],[],rfl,.inl rfl,(λa ha=>nomatch ha),λa ha=>nomatch ha⟩ oZ
 .obtain⟨n,rfl⟩:∃ n,v=.int n:=by
   rcases hT with ⟨_,e⟩ | ⟨_,_,_,_,n,_,_,_,e⟩
   .exact absurd e hv
   .exact⟨n,e⟩
  obtain⟨top,h6,rt⟩:=hT.root hS;obtain⟨part,hm,tp,_,aC⟩:=rt.page;obtain⟨dx,ho⟩:=bz.obj;obtain⟨t0,iF⟩:=hS.find hm;refine JP rfl ho rfl (T.ob_ 3 #[1]).cl (Yl.mono #[1]) ⟨p,d1,d2,st,c,n,rfl,bz,λl2 k2 r2 eV t2 eC a H2 s2 ha vJ=>?_,λz=>(z _ iF rfl).elim⟩
  obtain⟨el,_⟩:=JR (hS.fun_ iF eC).1;subst el;obtain⟨a',u1,u2,ea,bF,x1,x2⟩:=TD.pair_of vJ;cases ea;obtain⟨_,rfl⟩:=x1.flat;have au:=s1.trans s2;have b1:(top+1) * (es.length+1)<=7 * (es.length+1):=L4 _ #[0]
  refine⟨a,rfl,_,SqT.of bF,_,at0 _ _,p,d1,d2,st,c,n,top,part,es,rb,_,k,rfl,hS.same au,hm,tp,aC,hR.row,hR.up,by lia,(show top<=7 by lia),dt.same s2,ar,rfl,by lia,λr3 H3 bv c3 aD lX vK h3 bp l3=>?_⟩
  have le':=Y0.len bp;have l0:=h3.tow.len0;have ly:=Vn h3.ty;have o0:aD≠[]:=λz=>by
   have:=(bp.mem ltK.irr (.t [.v k,.t cd])).mpr (.inl rfl);rw[z]at this;cases this
  have o3:=h3.tow.ne o0;refine⟨p,d1,d2,bv,c3,r3,lX,vK,top,rfl,h6,h3.sA,h3.at_,h3.ty,h3.hd,by lia,by lia,λH4 ig c4 m above v4 ms gQ km l4 iC hm7 vL=>?_⟩
  rcases vL with ⟨z,_⟩ | ⟨_,k4,n4,rfl,rfl⟩
  .exact absurd z o3
  refine q H4 ig c4 (.int n4) aD ((au.x _).trans (h3.sx.trans ms)) gQ (λx hx=>km x (h3.sub x hx)) #[0] bp (ZYb (Ups.root gQ.fn (h3.tow.mono km) (λi gs i1 i2 ti=>?_) iC))
  obtain⟨k0,vM⟩:=rt.one;obtain⟨L,q0,q1,q2⟩:=vM.levels;have rW:=Xp q0 q2 i #[0]
  have two:=rt.two i _ i1 i2 rW;obtain⟨i',rfl⟩:∃ i',i=i'+1:=⟨i - 1,by lia⟩
  have:=rW.more ti aC (bp.sub rfl)
  lia
theorem Yfa{α β:Type}{F:α->β->Prop}:∀ {xs:List α} {x:α} {us:List β},Vm F (xs++[x]) us->∃ ys y,us=ys++[y]/\Vm F xs ys/\F x y
 | [],x,_,.cons r .nil=>⟨[],_,rfl,.nil,r⟩
 | z::xs,x,_,.cons r t=>by
  obtain⟨ys,y,e,a,b⟩:=Yfa t;exact⟨_::ys,y,by rw[e];rfl,.cons r a,b⟩
theorem JSb{α β:Type}{F:α->β->Prop}{xs:List α}{x:α}{us:List β}(h:Vm F (x::xs) us):∃ y ys,us=y::ys/\F x y/\Vm F xs ys:=by
 cases h with
 | cons r t=>exact⟨_,_,rfl,r,t⟩
theorem Xjd(xs:List V)(v:V):ZT (xs++[v]) Vp (Vo (-1))=xs:=by
 have e2:HT.sIx (xs++[v]).length 0 Vp=0:=rfl;have e1:HT.sIx (xs++[v]).length (xs++[v]).length (Vo (-1))=xs.length:=by
  show(if (-1:Int) < 0 then ((-1:Int)+((xs++[v]).length:Int)).toNat else min (-1:Int).toNat (xs++[v]).length)=_
  rw[if_pos #[1],Oh,OB];lia
 unfold ZT;rw[e1,e2,Dy,Nat.sub_zero];simp
inductive QOb(P:Vg)(w:Vb)(ob:Nat->Vh)(n:Nat)(vs:List V)(H:Hp)(Q:VK)(E:XK):Prop
 | mk:∀ p d1 d2 st c,∀ m1 m2:Int,∀ l:Nat,∀ pa pb M N,vs=[.ref p,.int m1,.int m2]->Qs P w ob H p d1 d2 st c->(m1,Q8 (l:Int) pa)∈Qn st->(m2,Q8 (l:Int) pb)∈Qn st->Tow QF (Qn st) l M pa->Tow QF (Qn st) l N pb->M≠[]->N≠[]->(∀ d∈M,J3 d)->(∀ d∈N,J3 d)->UpR ltK M->UpR ltK N->M.length+N.length<=800->l<=n->st.length+(l+1) * (M.length+N.length)<=16000000->(∀ r H' ag c' hs ys,Znc P w ob H H' p d1 d2 st ag c' r l (M++N.tail) hs ys->ag.length<=st.length+(l+1) * (M.length+N.length)->Q (.ref r) H')->QOb P w ob n vs H Q E
def Zaa(P:Vg)(w:Vb)(ob:Nat->Vh):Nat->Sp
 | 0=>λ_ _ _ _=>False
 | n+1=>QOb P w ob n
theorem Jsc(T:Tx K mg ob)(XQ:Cal P w K mg base 5 "heads_of" ["pages","level","entries"] (Zm P w ob))(Qr:MeV P w K mg base 5 (ob 3) "page" (QH P w ob)){n:Nat}(IH:Cal P w K mg base (6+n) "joined" ["pages","left","right"] (Zaa P w ob n))(F:Fun K "joined" "joined" QEb f fd):Qp P w K mg base CX0 (6+n+1) f fd ["pages","left","right"] (Zaa P w ob (n+1)):=by
 refine F.ok ZVb (λvs H Q E h=>?_) (λah A outer s H vs Q E hr h=>?_)
 .walk_at "n"
 obtain⟨p,d1,d2,st,c,m1,m2,l,pa,pb,M,N,rfl,hS,jI,eC,tM,tN,hM,hN,rM,rN,uM,uN,lMN,hl,few,q⟩:=h
 exists 1,ZVb,PE1.pe,QT,QK,Zo,QK,Zo,PE1.pe,QT,Qj,Q5,Qu,ZB,QV,Zd,Qh,Qi,Qh,Qx,Qh,Qi,Qh,Qx,Xr,Qu,ZB,Qu,ZB,QV,Zd,QV,Zd
 refine XOa λR3 kn=>?_
 walk_at "rd";obtain⟨ko,upA,lpA,hdA⟩:=JV tM rM uM;obtain⟨kq,upB,lpB,hdB⟩:=JV tN rN uN;refine JH T Qr #[0] rfl rfl hS jI λpg H1 s1 dH aM=>?_
 obtain⟨eG,ja,t,bx,aO,ht⟩:=id aM;obtain⟨mm,t',xs,em,e,aK,rt⟩:=ht.tup;cases e;obtain rfl:mm=6:=by lia
 have cY:=Vn rt;refine Z9 T rfl aO ⟨t,rfl,xs,.inr (SqT.of aK),λla vN=>?_⟩
 have s2:=Qb vN (.lst xs);have g2:upd H1 la (.lst xs) la=Vo (.lst xs):=Qa;generalize upd H1 la (.lst xs)=H2 at s2 g2 ⊢;have au:=s1.trans s2;have bT:=hS.same au;refine JH T Qr #[0] rfl rfl bT eC λvO H3 s3 hpg2 o4=>?_
 obtain⟨o5,dq,t2,bo,bE,o6⟩:=id o4;obtain⟨mm,t2',zs,em,e,o7,rz⟩:=o6.tup;cases e;obtain rfl:mm=6:=by lia
 have lzs:=Vn rz;refine⟨vO,_,dq,_,.ref t2,rfl,bE,(T.ob_ _ Qmc).cl,(T.ob_ _ Qmc).no _ #[1],by cases o5 <;> rfl,t2,rfl,zs,.inr (SqT.of o7),λlb vP=>?_⟩
 have s4:=Qb vP (.lst zs);have g4:upd H3 lb (.lst zs) lb=Vo (.lst zs):=Qa;generalize upd H3 lb (.lst zs)=H4 at s4 g4 ⊢;have fg:=s3.trans s4;have bU:=au.trans fg;have o8:=fg _ _ g2;have fR:=TDs.sameT rt (s2.trans fg).t;have rX:=TDs.sameT rz s4.t;have gQ:=hS.same bU;have cH:=(s2.trans fg) _ _ aO;refine kn _ _ ?_
 clear kn;walk_at "rd";refine JT T rfl cH ⟨rfl,QR (λh0=>?_) λh0=>?_⟩
 .injection h0 with h0
  obtain rfl:l=0:=by lia
  have ep:pa=M:=tM;have vQ:pb=N:=tN;subst ep vQ;refine⟨zs,SqL.of g4,λp3 cV=>⟨xs,Qb cV _ _ _ o8,_,Qa,Qsc (by have:=Y3a zs (Vo 1) Vp;lia),λp4 dX=>?_⟩⟩
  have ec:ZT zs (Vo 1) Vp=zs.drop 1:=Xbb zs 1;rw[ec]at dX ⊢;have s6:=bU.trans ((Qb cV (.lst (zs.drop 1))).trans (Qb dX (.lst (xs++zs.drop 1))));have o9:=(Qb cV (.lst (zs.drop 1))).trans (Qb dX (.lst (xs++zs.drop 1)));have g6:upd (upd H4 p3 (.lst (zs.drop 1))) p4 (.lst (xs++zs.drop 1)) p4=Vo (.lst (xs++zs.drop 1)):=Qa;generalize upd (upd H4 p3 (.lst (zs.drop 1))) p4 (.lst (xs++zs.drop 1))=H6 at s6 o9 g6 ⊢;have mE:=QB (TDs.sameT fR o9.t) (Zn 1 (TDs.sameT rX o9.t));rw[drop_one]at mE;have rY:=Vn mE;rw[drop_one]at rY;simp only[Oh,length_tail]at rY;refine YF (l:=0) (b:=false) (hS.same s6) g6 (by rw[drop_one];rw[drop_one]at mE;exact mE) (λd hd=>?_) (by simp;lia) (by simp;lia) (show Tow QF (Qn st) 0 (pa++pb.tail) (pa++pb.tail) from rfl) (s6.x _) (λx h=>h) (λr5 H5 bw c5 ke kg h5 l5=>q r5 H5 bw c5 ke kg h5 (by simp at l5;lia)) λr hr=>none_of s6 hr
  rcases mem_append.mp hd with z | z
  .exact ko d z
  .exact kq d (mem_of_mem_tail z)
 .have oU:l≠0:=λz=>h0 (by rw[z];rfl)
  obtain⟨l',rfl⟩:∃ l',l=l'+1:=⟨l - 1,by lia⟩
  obtain rfl:eG=true:=by rw[bx];exact decide_eq_true #[0]
  obtain⟨ini,h,rfl⟩:=ZA (tM.ne hM);obtain⟨h',bs,rfl⟩:∃ h' bs,pb=h'::bs:=by
   cases pb with
   | nil=>exact absurd rfl (tN.ne hN)
   | cons x r=>exact⟨x,r,rfl⟩
  obtain⟨A,M1,B0,n1,kt,eM,tA,_,pd,eh,ph,vR,ku,cA,_⟩:=tM.at_;obtain rfl:B0=[]:=pd.fst.1.mpr rfl;rw[UV]at eM;obtain⟨A0,N1,B,n2,kz,eN,vS,_,tB,vT,pi,vU,pq,_,cB⟩:=(show Tow QF (Qn st) (l'+1) N ([]++h'::bs) from tN).at_
  obtain rfl:A0=[]:=vS.fst.1.mpr rfl;rw[LC]at eN;subst eh vT;obtain⟨xi,xl,rfl,ri,rl⟩:=Yfa fR;obtain⟨zl,zr,rfl,vV,rZ⟩:=JSb rX;obtain⟨b1,u1,u2,vW,iz,x1,x2⟩:=TD.pair_of rl;obtain⟨_,rfl⟩:=x2.flat;obtain⟨b2,v1,v2,vX,pA,y1,y2⟩:=TD.pair_of vV;obtain⟨_,rfl⟩:=y2.flat;subst vW vX;have lM:M.length=A.length+M1.length:=by rw[eM,Oh]
  have lN:N.length=N1.length+B.length:=by rw[eN,Oh]
  have oW:(l'+1) * (M1.length+N1.length)<=(l'+1) * (M.length+N.length):=Dd _ #[0]
  have ki:(l'+1+1) * (M.length+N.length)=(l'+1) * (M.length+N.length)+(M.length+N.length):=L5 _ _;obtain⟨n0,rfl⟩:∃ n0,n=n0+1:=⟨n - 1,by lia⟩
  refine⟨_,SqL.of o8,.ref b1,Qha _ _,b1,rfl,_,SqT.of iz,_,at1 _ _ _,_,SqL.of g4,.ref b2,at0 _ _,b2,rfl,_,SqT.of pA,_,at1 _ _ _,p,d1,d2,st,c,n1,n2,l',kt,kz,M1,N1,rfl,gQ,ph,pi,vR,vU,ku,pq,(λd hd=>rM d (by rw[eM];simp[hd])),(λd hd=>rN d (by rw[eN];simp[hd])),by rw[eM]at uM;exact uM.right,by rw[eN]at uN;exact uN.left,by lia,by lia,by lia,λr7 H7 gN c7 iH mD h7 l7=>?_⟩
  have cZ:QI [p,d1,d2] H H7:=(bU.x _).trans h7.sx;have sd:=ZD gQ h7.sx;have cI:=h7.sx _ _ (gQ.off_pg cH) cH;have vY:=gQ.lst h7.sx o8;have vZ:=gQ.lst h7.sx g4;have hne1:M1++N1.tail≠[]:=λz=>ku (append_eq_nil_iff.mp z).1
  have mF:=h7.tow.len0;have oX:=Vn h7.ty;have lri:=Vn ri;have lrz:=Vn rZ;have lA:=tA.len0;have lB:=tB.len0;have hN1p:0 < N1.length:=length_pos_iff.mpr pq;simp only[Oh,length_tail]at mF;refine Zb (T.ob_ 2 #[1]) #[1] rfl cI rfl ?_
  walk_at "rd";refine ZUa (ia:=4) (ic:=5) rfl rfl (λ_ _ q=>⟨_,rfl,q⟩) (λ_ _ q=>q) (λH0 R s0 r=>r _ _ (Qf.refl _) (s0 _ _ h7.at_)) vY vZ (by rw[Oh,OB];lia) (by rw[UC];lia) #[0] λr8 H8 s8 oY g8=>?_
  have ec:ZT (V.ref b2::zr) (Vo 1) Vp=zr:=Xbb (V.ref b2::zr) 1;rw[Xjd,ec]at g8;have du:=QB (QB (TDs.sameT ri (sd.trans s8.t)) (TDs.sameT h7.ty s8.t)) (TDs.sameT rZ (sd.trans s8.t));have eT:M++N.tail=A++((M1++N1.tail)++B):=by
   rw[eM,eN];cases N1 with
   | nil=>exact absurd rfl pq
   | cons x r=>simp
  have cJ:Tow QF (Qn gN) (l'+1) (M++N.tail) (ini++iH++bs):=by
   rw[eT,IV ini];refine(tA.mono h7.sub).mid h7.tow (tB.mono h7.sub) ?_ cB
   rcases cA with z | z
   .exact .inl z
   .refine .inr (.inr ?_)
    cases M1 with
    | nil=>exact absurd rfl ku
    | cons x r=>exact z
  refine YF (b:=false) (h7.sA.same s8) g8 du (λd hd=>?_) (by simp only[Oh];lia) (by simp only[Oh];lia) cJ (cZ.trans (s8.x _)) h7.sub (λr9 H9 iI c9 iJ iK h9 l9=>?_) λr hr=>?_
  .rcases mem_append.mp hd with z | z
   .rcases mem_append.mp z with z | z
    .exact ko d (by simp[z])
    .exact(h7.hd d z).ent
   .exact kq d (by simp[z])
  .refine q r9 H9 iI c9 iJ iK h9 ?_
   simp only[Oh]at l9
   lia
  .exact hS.none_x cZ h7.sA (none_of s8 hr)
inductive YQ(P:Vg)(w:Vb)(ob:Nat->Vh)(n:Nat)(vs:List V)(H:Hp)(Q:VK)(E:XK):Prop
 | mk:∀ p d1 d2 st c,∀ m:Int,∀ l:Nat,∀ part M k,vs=[.ref p,.int m,k]->Qs P w ob H p d1 d2 st c->(m,Q8 (l:Int) part)∈Qn st->Tow QF (Qn st) l M part->(∃ o∈M,Qo o=k)->(∀ d∈M,J3 d)->UpR ltK M->M.length<=700->l<=n->l<=7->Q4 k->st.length+(l+1) * M.length<=16000000->(∀ r H' ag c' M' hs ys,Znc P w ob H H' p d1 d2 st ag c' r l M' hs ys->ZTa k M M'->ag.length<=st.length+(l+1) * M.length->Q (.ref r) H')->YQ P w ob n vs H Q E
def ZK(P:Vg)(w:Vb)(ob:Nat->Vh):Nat->Sp
 | 0=>λ_ _ _ _=>False
 | n+1=>YQ P w ob n
theorem YSa(T:Tx K mg ob)(rS:Cal P w K mg base 4 "last_up_to" ["entries","key"] (ZV K))(XQ:Cal P w K mg base 5 "heads_of" ["pages","level","entries"] (Zm P w ob))(v0:∀ n,Cal P w K mg base (6+n) "joined" ["pages","left","right"] (Zaa P w ob n))(Qr:MeV P w K mg base 5 (ob 3) "page" (QH P w ob)){n:Nat}(IH:Cal P w K mg base (15+n) "heads_without" ["pages","number","key"] (ZK P w ob n))(F:Fun K "heads_without" "heads_without" J2 f fd):Qp P w K mg base CX0 (15+n+1) f fd ["pages","number","key"] (ZK P w ob (n+1)):=by
 refine F.ok Xf (λvs H Q E h=>?_) (λah A outer s H vs Q E hr h=>?_)
 .walk_at "n"
 obtain⟨p,d1,d2,st,c,m,l,part,M,k,rfl,hS,hm,tw,a8,ar,up,lM,hl,hl7,hk,few,q⟩:=h
 exists 1,Xf,PE1.pe,QT,QK,Zo,Qj,Q5,Xr,Qu,ZB,QV,Zd,QV,Zd,Qu,Qz,Qj,Q5,Qh,Qi,Qh,Qx,YZ,v0 8,#[0],Qh,Qi,Qh,Qx,Qh,Qi,Qh,Qx,Xr,Qu,ZB,Qu,ZB,QV,Zd,QV,Zd,Qu,Qz,Qh,Qi,Qh,Qx,Xr,Qu,ZB,Qu,ZB,QV,Zd,QV,Zd,Qu,Qz
 refine XOa λR3 kn=>?_
 walk_at "rd";have hM:M≠[]:=λz=>by obtain⟨o,ho,_⟩:=a8;rw[z]at ho;cases ho
 obtain⟨ak,eE,lp,gK⟩:=JV tw ar up;refine JH T Qr #[0] rfl rfl hS hm λpg H1 s1 dH aM=>?_
 obtain⟨eG,ja,t,bx,aO,ht⟩:=id aM;obtain⟨mm,t',xs,em,e,aK,rt⟩:=ht.tup;cases e;obtain rfl:mm=6:=by lia
 have cY:=Vn rt;refine Z9 T rfl aO ⟨t,xs,part,k,rfl,aK,rt,ak,eE,hk,by lia,λH2 am s2 hu=>?_⟩
 have bE:=s2 _ _ aO;have au:=s1.trans s2;have im:=TDs.sameT rt s2.t;refine Z9 T rfl bE ⟨t,rfl,xs,.inr (SqT.of (s2 _ _ aK)),λl1 di=>?_⟩
 have s3:=Qb di (.lst xs);have g3:upd H2 l1 (.lst xs) l1=Vo (.lst xs):=Qa;generalize upd H2 l1 (.lst xs)=H3 at s3 g3 ⊢;have az:=au.trans s3;have fU:=TDs.sameT im s3.t;have bc:=hS.same az;have eI:=s3 _ _ bE;obtain⟨a,b,ep,ea,h1,h2⟩:=hu;have gL:a≠[]:=λz=>by
  subst z;rw[LC]at ep;subst ep;obtain⟨o,ho,eo⟩:=a8;have kf:ltK k (QM M):=by
   rw[<- tw.fst.2];have aC:=tw.ne hM;cases part with
   | nil=>exact absurd rfl aC
   | cons x r=>exact h2 x #[2]
  have:=UpR.behind (M:=[]) (B:=M) up ltK.tr (.inr kf) o ho;rw[eo]at this;exact ltK.irr _ this
 obtain⟨ini,x,rfl⟩:=ZA gL;rw[Oh,OB]at ea;obtain rfl:am=(ini.length:Int):=by lia
 rw[IV,singleton_append]at ep;have fA:=h1 x (Ur _ (mem_singleton.mpr rfl));have hx:part[ini.length]?=Vo x:=by rw[ep];simp
 have li:ini.length < xs.length:=by have:=(List.getElem?_eq_some_iff.mp hx).1;lia
 have ei:part.take ini.length=ini:=by rw[ep];simp
 have eb:part.drop (ini.length+1)=b:=by rw[ep];simp
 refine kn _ _ (JNa λR hR=>?_)
 clear kn;walk_at "rd";refine JT T rfl eI ⟨rfl,QR (λh0=>?_) λh0=>?_⟩
 .injection h0 with h0
  obtain rfl:l=0:=by lia
  obtain rfl:part=M:=tw;have ex:Qo x=k:=by
   obtain⟨o,ho,eo⟩:=a8;rw[ep]at ho up
   rcases mem_append.mp ho with z | z
   .have u:=up.across z (VL (a:=x) (l:=b))
    rw[eo]at u
    rcases fA with c | c
    .exact absurd (ltK.tr u c) (ltK.irr _)
    .exact c
   .rcases mem_cons.mp z with z | z
    .rw[<- z];exact eo
    .have:=h2 o z
     rw[eo]at this;exact absurd this (ltK.irr _)
  refine J2d (ia:=5) rfl (λ_ _ q=>q) (λ_ _ q=>⟨_,_,rfl,rfl,q⟩) g3 #[0] λr4 H4 s4 gM g4=>?_
  rw[show(ini.length:Int)+1=((ini.length+1:Nat):Int) by lia,Jpc,Xbb]at g4
  have fR:=TDs.sameT fU s4.t;have kc:=QB (ZE ini.length fR) (Zn (ini.length+1) fR);rw[ei,eb]at kc;have rT:part.length=ini.length+(b.length+1):=by rw[ep];simp
  have bU:=az.trans s4;have v6:=Vn kc;simp only[Oh]at v6;refine YF (l:=0) (b:=false) (hS.same bU) g4 kc (λd hd=>?_) (by simp only[Oh];lia) (by simp only[Oh];lia) (show Tow QF (Qn st) 0 (ini++b) (ini++b) from rfl) (bU.x _) (λx h=>h) (λr5 H5 bw c5 ke kg h5 l5=>q r5 H5 bw c5 (ini++b) ke kg h5 ⟨ini,x,b,ep,rfl,ex⟩ (by simp only[Oh]at l5;lia)) λr hr=>none_of bU hr
  refine ak d ?_
  rw[ep]
  rcases mem_append.mp hd with z | z <;> simp[z]
 .have oU:l≠0:=λz=>h0 (by rw[z];rfl)
  obtain⟨l',rfl⟩:∃ l',l=l'+1:=⟨l - 1,by lia⟩
  obtain rfl:eG=true:=by rw[bx];exact decide_eq_true #[0]
  have se:=tw;rw[ep]at se;obtain⟨A,N,B,n',aw,eM,tA,tB,ex,fe,fS,hN,cA,cB,hA,hB⟩:=QNb se up fA h2;subst ex;have tx:=Ql fU hx (IA li)
  obtain⟨bb,u1,u2,v7,hb,x1,x2⟩:=TD.pair_of tx;obtain⟨_,v9⟩:=x1.flat;obtain⟨_,rfl⟩:=x2.flat;subst v9;have kN:Q4 (QM N):=by
   obtain⟨o,ho,eo⟩:=Qra hN;rw[<- eo];exact(ar o (by rw[eM];simp[ho])).ent.key
  have fV:∀ d∈N,J3 d:=λd hd=>ar d (by rw[eM];simp[hd])
  have mC:UpR ltK N:=by rw[eM]at up;exact up.right.left
  have lM':M.length=A.length+(N.length+B.length):=by rw[eM];simp
  have rT:part.length=ini.length+(b.length+1):=by rw[ep];simp
  have lA:=tA.len0;have lB:=tB.len0;have ki:(l'+1+1) * M.length=(l'+1) * M.length+M.length:=L5 _ _;have pB:atI xs (ini.length:Int)=Vo (.ref bb):=by rw[<- v7];exact QQ (IA li)
  have tail:(A=[]\/QM N≠k)->R [Vo (.ref p),Vo (.int m),Vo k,Vo (.ref pg),Vo (.int (ini.length:Int)),Vo (.ref l1),Vp] H3:=λhc=>by
   refine hR _ _ ?_
   clear hR;walk_at "rd";have pC:∃ o∈N,Qo o=k:=by
    obtain⟨o,ho,eo⟩:=a8;rw[eM]at ho
    rcases mem_append.mp ho with z | z
    .have:=hA o z;rw[eo]at this;exact absurd this (ltK.irr _)
    .rcases mem_append.mp z with z | z
     .exact⟨o,z,eo⟩
     .have:=hB o z;rw[eo]at this;exact absurd this (ltK.irr _)
   have oW:(l'+1) * N.length<=(l'+1) * M.length:=Dd _ #[0]
   obtain⟨n0,rfl⟩:∃ n0,n=n0+1:=⟨n - 1,by lia⟩
   refine⟨xs,SqL.of g3,.ref bb,pB,bb,rfl,_,SqT.of hb,_,at1 _ _ _,p,d1,d2,st,c,n',l',aw,N,k,rfl,bc,fe,fS,pC,fV,mC,by lia,by lia,by lia,hk,by lia,λr7 H7 gN c7 N' iH mD h7 bO l7=>?_⟩
   have cZ:QI [p,d1,d2] H H7:=(az.x _).trans h7.sx;have kj:=ZD bc h7.sx;have cI:=h7.sx _ _ (bc.off_pg eI) eI;have g7:=bc.lst h7.sx g3;have jc:=TDs.sameT fU kj;have wa:N'.length<=N.length:=by have:=bO.sub.length_le;simpa using this
   have mF:=h7.tow.len0;have oX:=Vn h7.ty;refine Zb (T.ob_ 2 #[1]) #[1] rfl cI rfl ?_
   walk_at "rd";refine ZUa (ia:=5) (ic:=5) rfl rfl (λ_ _ q=>q) (λ_ _ q=>⟨_,_,rfl,rfl,q⟩) (λH0 R s0 r=>r _ _ (Qf.refl _) (s0 _ _ h7.at_)) g7 g7 #[0] #[0] #[0] λr8 H8 s8 oY g8=>?_
   rw[show(ini.length:Int)+1=((ini.length+1:Nat):Int) by lia,Jpc,Xbb]at g8
   have gO:=TDs.sameT jc s8.t;have ri:=ZE ini.length gO;have gP:=Zn (ini.length+1) gO;rw[ei]at ri;rw[eb]at gP;have du:=QB (QB ri (TDs.sameT h7.ty s8.t)) gP;have lr:=Vn du;have cJ:Tow QF (Qn gN) (l'+1) (A++(N'++B)) (ini++iH++b):=by
    rw[IV ini];refine(tA.mono h7.sub).mid h7.tow (tB.mono h7.sub) ?_ cB
    rcases hc with z | z
    .exact .inl z
    .rcases cA with y | y
     .exact .inl y
     .exact .inr (.inr (by rw[(bO.fst z).1];exact y))
   refine YF (b:=false) (h7.sA.same s8) g8 du (λd hd=>?_) (by rw[<- lr];simp only[Oh];lia) (by rw[<- lr];simp only[Oh];lia) cJ (cZ.trans (s8.x _)) h7.sub (λr9 H9 iI c9 iJ iK h9 l9=>?_) λr hr=>?_
   .rcases mem_append.mp hd with z | z
    .rcases mem_append.mp z with z | z
     .exact ak d (by rw[ep];simp[z])
     .exact(h7.hd d z).ent
    .exact ak d (by rw[ep];simp[z])
   .refine q r9 H9 iI c9 (A++(N'++B)) iJ iK h9 (by rw[eM];exact bO.mid) ?_
    rw[<- lr]at l9;simp only[Oh]at l9
    lia
   .exact hS.none_x cZ h7.sA (none_of s8 hr)
  refine QR (λhi=>?_) λhi=>?_
  .refine⟨xs,SqL.of g3,.ref bb,pB,bb,rfl,_,SqT.of hb,_,at0 _ _,JNb kN hk,QR (λe=>?_) λe=>tail (.inr e)⟩
   have nS:ini≠[]:=λz=>by rw[z]at hi;simp at hi
   obtain⟨aY,y,rfl⟩:=ZA nS;obtain⟨A2,N0,B0,n0,kA,eA,sg,_,pd,ey,fW,wb,si,wc,_⟩:=tA.at_;obtain rfl:B0=[]:=pd.fst.1.mpr rfl;rw[UV]at eA;subst ey;have hy:part[aY.length]?=Vo (Zt (QM N0) n0):=by rw[ep];simp
   have sj:aY.length < xs.length:=by have:=(List.getElem?_eq_some_iff.mp hy).1;lia
   have ty:=Ql fU hy (IA sj)
   obtain⟨b0,z1,z2,we,oT,y1,y2⟩:=TD.pair_of ty;obtain⟨_,rfl⟩:=y2.flat;have eL:((aY++[Zt (QM N0) n0]).length:Int) - 1=(aY.length:Int):=by simp
   have lA2:A.length=A2.length+N0.length:=by rw[eA,Oh]
   have kC:∀ d∈N0,J3 d:=λd hd=>ar d (by rw[eM,eA];simp[hd])
   have pD:UpR ltK N0:=by rw[eM]at up;have:=up.left;rw[eA]at this;exact this.right
   have oW:(l'+1) * (N0.length+N.length)<=(l'+1) * M.length:=Dd _ #[0]
   rw[eL];refine⟨xs,SqL.of g3,.ref b0,by rw[<- we];exact QQ (IA sj),b0,rfl,_,SqT.of oT,_,at1 _ _ _,xs,SqL.of g3,.ref bb,pB,bb,rfl,_,SqT.of hb,_,at1 _ _ _,p,d1,d2,st,c,n0,n',l',kA,aw,N0,N,rfl,bc,fW,fe,wb,fS,si,hN,kC,fV,pD,mC,by lia,(show l'<=7 by lia),by lia,λr7 H7 gN c7 iH mD h7 l7=>?_⟩
   have cZ:QI [p,d1,d2] H H7:=(az.x _).trans h7.sx;have kj:=ZD bc h7.sx;have cI:=h7.sx _ _ (bc.off_pg eI) eI;have g7:=bc.lst h7.sx g3;have jc:=TDs.sameT fU kj;have mF:=h7.tow.len0;have oX:=Vn h7.ty;have hNp:0 < N.length:=length_pos_iff.mpr hN;simp only[Oh,length_tail]at mF;refine Zb (T.ob_ 2 #[1]) #[1] rfl cI rfl ?_
   walk_at "rd";refine ZUa (ia:=5) (ic:=5) rfl rfl (λ_ _ q=>⟨_,_,rfl,rfl,q⟩) (λ_ _ q=>⟨_,_,rfl,rfl,q⟩) (λH0 R s0 r=>r _ _ (Qf.refl _) (s0 _ _ h7.at_)) g7 g7 #[0] #[0] #[0] λr8 H8 s8 oY g8=>?_
   rw[show((aY++[Zt (QM N0) n0]).length:Int) - 1=(aY.length:Int) by rw[Oh,OB];lia,show((aY++[Zt (QM N0) n0]).length:Int)+1=(((aY++[Zt (QM N0) n0]).length+1:Nat):Int) by lia,Jpc,Xbb]at g8
   have gO:=TDs.sameT jc s8.t;have ri:=ZE aY.length gO;have gP:=Zn ((aY++[Zt (QM N0) n0]).length+1) gO;rw[show part.take aY.length=aY by rw[ep];simp]at ri
   rw[eb]at gP;have du:=QB (QB ri (TDs.sameT h7.ty s8.t)) gP;have lr:=Vn du;have lA2':=sg.len0;have cJ:Tow QF (Qn gN) (l'+1) (A2++((N0++N.tail)++B)) (aY++iH++b):=by
    rw[IV aY];refine(sg.mono h7.sub).mid h7.tow (tB.mono h7.sub) ?_ cB
    rcases wc with z | z
    .exact .inl z
    .refine .inr (.inr ?_)
     cases N0 with
     | nil=>exact absurd rfl si
     | cons x r=>exact z
   refine YF (b:=false) (h7.sA.same s8) g8 du (λd hd=>?_) (by rw[<- lr];simp only[Oh];lia) (by rw[<- lr];simp only[Oh];lia) cJ (cZ.trans (s8.x _)) h7.sub (λr9 H9 iI c9 iJ iK h9 l9=>?_) λr hr=>?_
   .rcases mem_append.mp hd with z | z
    .rcases mem_append.mp z with z | z
     .exact ak d (by rw[ep];simp[z])
     .exact(h7.hd d z).ent
    .exact ak d (by rw[ep];simp[z])
   .refine q r9 H9 iI c9 _ iJ iK h9 ?_ ?_
    .cases N with
     | nil=>exact absurd rfl hN
     | cons o r=>exact⟨A2++N0,o,r++B,by rw[eM,eA];simp,by simp,e⟩
    .rw[<- lr]at l9
     simp only[Oh]at l9
     lia
   .exact hS.none_x cZ h7.sA (none_of s8 hr)
  .refine tail (.inl (tA.fst.1.mpr ?_))
   cases ini with
   | nil=>rfl
   | cons y r=>simp at hi
inductive Jda(P:Vg)(w:Vb)(ob:Nat->Vh)(vs:List V)(H:Hp)(Q:VK)(E:XK):Prop
 | mk:∀ p d1 d2 st c hb ys hs,∀ l:Nat,∀ M,vs=[.ref p,.ref hb]->Qs P w ob H p d1 d2 st c->H hb=Vo (.lst ys)->Vm (λd v=>TD H 6 d v) hs ys->Tow QF (Qn st) (l+1) M hs->hs.length<=1->(∀ d∈M,J3 d)->UpR ltK M->M.length<=900->(∀ H' v,Qf H H'->QZ st M v->Q v H')->Jda P w ob vs H Q E
theorem Qtc(T:Tx K mg ob)(rH:MeV P w K mg base 1 (ob 0) "under" (Zx K ob))(XR:MeV P w K mg base 1 (ob 1) "under" (Zx K ob))(Yk:MeV P w K mg base 1 (ob 2) "under" (JF K ob))(Qr:MeV P w K mg base 5 (ob 3) "page" (QH P w ob))(F:Fun K "lowered" "lowered" YHa f fd):Qp P w K mg base CX0 6 f fd ["pages","heads"] (Jda P w ob):=by
 refine F.ok QAb (λvs H Q E h=>?_) (λah A outer s H vs Q E hr h=>?_)
 .walk_at "n"
 obtain⟨p,d1,d2,st,c,hb,ys,hs,l,M,rfl,hS,hH,ty,tw,l1,rM,uM,lM,q⟩:=h
 exists QAb,Qh,Qi,Qh,Qx,PE1.pe,Qkb,QT,Qj,Q5,Qq,Qy,Qh,Qx,PE1.pe,Qkb,QT
 have sk:∀ {n:Int} {j:Nat} {part:List Dt} {pg:Vh} {H2:Hp} {Qc:VK},(n,Q8 (j:Int) part)∈Qn st->Tow QF (Qn st) j M part->PgD ob H2 pg (j:Int) part->(∀ r H3,Qf H2 H3->H2 r=Vp->H3 r=Vo (.lst (if j=0 then [] else (part.map YRb).map V.int))->Qc (.ref r) H3) ->
  ∃ a,V.ref pg=.ref a/\∃ C dx fs,H2 a=Vo (.ins C dx fs)/\fs.lookup ("under":Str)=Vp/\Cls K C/\∃ sp,MeV P w K mg base 5 C "under" sp/\sp [.ref pg] H2 Qc E0:=by
  intro n j part pg H2 Qc hm tp aM qc;obtain⟨_,_,lp,gK⟩:=JV tp rM uM;obtain⟨fb,dq,t0,bo,aO,iF⟩:=id aM;cases j with
  | zero =>
   obtain rfl:fb=false:=by rw[bo];rfl
   exact⟨pg,rfl,_,dq,_,aO,rfl,(T.ob_ 1 #[1]).cl,_,XR.mono #[1],pg,rfl,λr H3 s3 h3 g3=>qc r H3 s3 h3 (by rw[if_pos rfl];exact g3)⟩
  | succ j' =>
   obtain rfl:fb=true:=by rw[bo];exact decide_eq_true #[0]
   exact⟨pg,rfl,_,dq,_,aO,rfl,(T.ob_ 2 #[1]).cl,_,Yk.mono #[1],pg,_,part,rfl,aM,by lia,by lia,(λd hd=>let ⟨k,n,e,_⟩:=gK #[0] d hd;⟨k,n,e⟩),λr H3 s3 h3 g3=>qc r H3 s3 h3 (by rw[if_neg #[0]];exact g3)⟩
 have lty:=Vn ty
 match hs,ys,ty,tw,l1,hH with
 | [],_,.nil,tw,_,hH =>
  refine⟨false,.inl ⟨_,SqL.of hH,rfl⟩,?_⟩
  rw[if_pos rfl];exact q H .non (Qf.refl _) (.inl ⟨tw.fst.1.mpr rfl,rfl⟩)
 | [d],_,.cons (b:=x) tx .nil,tw,_,hH =>
  obtain⟨n,part,ed,hm,tp,_⟩:=tw.one;subst ed;obtain⟨b1,u1,u2,eb,iz,w1,w2⟩:=TD.pair_of tx;obtain⟨_,rfl⟩:=w2.flat;subst eb;refine⟨true,.inl ⟨_,SqL.of hH,rfl⟩,?_⟩
  rw[if_neg #[1]]
  refine⟨_,SqL.of hH,.ref b1,at0 _ _,b1,rfl,_,SqT.of iz,_,at1 _ _ _,?_⟩
  refine JH T Qr #[1] rfl rfl hS hm λpg H1 s1 dH aM=>?_
  refine sk hm tp aM λr H2 s2 ck g2=>?_
  refine⟨λm σ' H'=>∃ n part r k,σ'=[Vo (.ref p),Vo (.ref hb),Vo (.int n),Vo (.ref r)]/\Qf H H'/\Tow QF (Qn st) (m+1) M [Zt k n]/\(n,Q8 (m:Int) part)∈Qn st/\Tow QF (Qn st) m M part/\H' r=Vo (.lst (if m=0 then [] else (part.map YRb).map V.int)),⟨l,n,part,r,_,rfl,s1.trans s2,tw,hm,tp,g2⟩,?_⟩
  clear g2 ck s2 aM dH s1 tx tp hm tw;rintro m σ' H' ⟨n,part,r,k,rfl,s1,tw,hm,tp,g2⟩;walk_at "rd";refine⟨_,.inl (SqL.of g2),QR (λh1=>?_) λh1=>?_⟩
  .have fW:m≠0:=λz=>by rw[if_pos z]at h1;simp at h1
   rw[if_neg fW]at h1 g2;obtain⟨m',rfl⟩:∃ m',m=m'+1:=⟨m - 1,by lia⟩
   have l1:part.length=1:=by simp at h1;lia
   obtain⟨d,rfl⟩:=length_eq_one_iff.mp l1;obtain⟨n',aw,ed,fe,fS,_⟩:=tp.one;subst ed;refine⟨_,λσ' H' h=>h,_,SqL.of g2,.int n',at0 _ _,?_⟩
   refine JH T Qr #[1] rfl rfl (hS.same s1) fe λpg H2 s2 dH aM=>?_
   exact sk fe fS aM λr H3 s3 fX g3=>⟨m',by lia,n',aw,r,rfl,s1.trans (s2.trans s3),_,tp,fe,fS,g3⟩
  .refine q H' (.int n) s1 (ZYb (XCa.of_two hS.fn tw tp ?_))
   by_cases fW:m=0
   .exact .inl fW
   .right
    rw[if_neg fW]at h1;have hM:M≠[]:=tw.ne' #[2]
    have:=length_pos_iff.mpr (tp.ne hM);simp at h1
    lia
 | d::d'::hs,_,_,_,l1,_=>simp at l1
inductive JTb(P:Vg)(w:Vb)(ob:Nat->Vh)(vs:List V)(H:Hp)(Q:VK)(E:XK):Prop
 | mk:∀ p d1 d2 st c v k es,vs=[.ref p,v,k]->Qs P w ob H p d1 d2 st c->QZ st es v->Jrc es->es.length<=700->Q4 k->st.length+8 * es.length<=16000000->((∃ d∈es,Qo d=k)->∀ H' ag c' v' aD,QI [p,d1,d2] H H'->Qs P w ob H' p d1 d2 ag c'->(∀ x∈Qn st,x∈Qn ag)->ag.length<=st.length+8 * es.length->ZTa k es aD->QZ ag aD v'->Q v' H')->((∀ d∈es,Qo d≠k)->False)->JTb P w ob vs H Q E
seal La in
theorem Q5d(T:Tx K mg ob)(Yrd:Cal P w K mg base 6 "lowered" ["pages","heads"] (Jda P w ob))(wg:∀ n,Cal P w K mg base (15+n) "heads_without" ["pages","number","key"] (ZK P w ob n))(sn:Cal P w K mg base 6 "seek" ["pages","root","key"] (Yda P w ob))(F:Fun K "take" "take" Qkc f fd):Qp P w K mg base CX0 24 f fd ["pages","root","key"] (JTb P w ob):=by
 refine F.ok Zkc (λvs H Q E h=>?_) (λah A outer s H vs Q E hr h=>?_)
 .walk_at "n"
 obtain⟨p,d1,d2,st,c,v,k,es,rfl,hS,hT,hR,l7,hk,few,q1,q3⟩:=h
 exists Zkc,Qh,Qi,YZ,wg 8,#[0]
 refine⟨p,d1,d2,st,c,v,k,es,rfl,hS,hT,hR,hk,λr y H1 cv ws s1 i8 g1 gy hy hf _=>⟨r,rfl,_,SqT.of g1,_,at0 _ _,?_⟩⟩
 rcases hf with ⟨c0,hc,tc⟩ | ⟨bA,rfl⟩
 .obtain⟨_,a0,_,_,rfl,_,_⟩:=tc.tup
  rw[if_neg (λz=>nomatch z)]
  have a8:∃ d∈es,Qo d=k:=⟨_,hc,rfl⟩;obtain⟨n,rfl⟩:∃ n,v=.int n:=by
   rcases hT with ⟨e,_⟩ | ⟨_,_,_,_,n,_,_,_,e⟩
   .rw[e]at hc;cases hc
   .exact⟨n,e⟩
  obtain⟨top,h6,rt⟩:=hT.root hS;obtain⟨part,hm,tp,_,aC⟩:=rt.page;have b1:(top+1) * es.length<=8 * es.length:=L4 _ #[0]
  refine⟨p,d1,d2,st,c,n,top,part,es,k,rfl,hS.same s1,hm,tp,a8,hR.row,hR.up,l7,(show top<=7 by lia),by lia,hk,by lia,λr2 H2 bK c2 aD dM oJ h2 bO l2=>?_⟩
  have fA:dM.length<=1:=by
   by_cases e:aD=[]
   .rw[h2.tow.fst.1.mp e];exact Us _
   .obtain⟨k0,t0⟩:=rt.one
    obtain⟨k',n',e'⟩:=t0.single h2.tow rfl e bO.sub;rw[e'];exact Um _
  have wa:aD.length<=es.length:=by have:=bO.sub.length_le;simpa using this
  exact⟨p,d1,d2,bK,c2,r2,oJ,dM,top,aD,rfl,h2.sA,h2.at_,h2.ty,h2.tow,fA,(λd hd=>hR.row d ((bO.mem hR.up ltK.irr d).mp hd).1),bO.up hR.up,by lia,λH3 v3 s3 oZ=>q1 a8 H3 bK c2 v3 aD ((s1.x _).trans (h2.sx.trans (s3.x _))) (h2.sA.same s3) h2.sub #[0] bO oZ⟩
 .exact(q3 bA).elim
end
def beh(hi k:V):Bool:=if hi=.non then false else Pl.ltV hi k
def wi(lo hi k:V):Bool:=!Pl.ltV k lo && !beh hi k
def J4(v:V):Prop:=v=.non\/Q4 v
theorem J4.pl(h:J4 v):Pl.QA v:=by
 rcases h with h | h
 .rw[h];exact trivial
 .exact Zq h
theorem XCc{a b:V}(hh:J4 hi)(ha:Q4 a)(hb:Q4 b)(h:beh hi a=true)(le:a=b\/ltK a b):beh hi b=true:=by
 rcases le with le | le
 .rw[<- le];exact h
 unfold beh at h ⊢
 by_cases e:hi=.non
 .rw[if_pos e]at h;exact absurd h Uc
 .rw[if_neg e]at h ⊢
  exact Pl.tr hh.pl (Zq ha) (Zq hb) h le.2.2
abbrev Pg:=Int×Nat×List Dt
def lk(lo hi:V)(e:Dt)(r:List Dt):Bool:=!beh hi (Qo e) && (r.isEmpty || Pl.ltV lo (QM r))
def Xra(lo hi:V)(Lk:Int->List Pg->Prop):List Dt->List Pg->Prop
 | [],g=>g=[]
 | e::r,g=>∃ p q,g=p++q/\((lk lo hi e r=true/\∃ k n,e=Zt k n/\Lk n p)\/(lk lo hi e r=false/\p=[]))/\Xra lo hi Lk r q
def Q1b(tbl:List (Int×Dt))(lo hi:V):Nat->Int->List Pg->Prop
 | 0,m,g=>∃ es,(m,Q8 ((0:Nat):Int) es)∈tbl/\(∀ d∈es,J3 d)/\g=[(m,0,es)]
 | l+1,m,g=>∃ es q,(m,Q8 ((l+1:Nat):Int) es)∈tbl/\(∀ d∈es,HdD d)/\g=(m,l+1,es)::q/\Xra lo hi (Q1b tbl lo hi l) es q
def ZZb(x:Pg):List Dt:=if x.2.1=0 then x.2.2 else []
def ZP(g:List Pg):List Dt:=g.flatMap ZZb
theorem Xg(g h:List Pg):ZP (g++h)=ZP g++ZP h:=by unfold ZP;rw[flatMap_append]
theorem Quc(x:Pg)(g:List Pg):ZP (x::g)=ZZb x++ZP g:=rfl
theorem Xra.mem{Lk:Int->List Pg->Prop}{F:Pg->Prop}(h:∀ n p,Lk n p->∀ x∈p,F x):∀ {es:List Dt} {g:List Pg},Xra lo hi Lk es g->∀ x∈g,F x
 | [],g,e,x,hx=>by rw[show g=[] from e]at hx;cases hx
 | e::r,g,⟨p,q,eg,hp,hq⟩,x,hx=>by
  rw[eg]at hx
  rcases mem_append.mp hx with z | z
  .rcases hp with ⟨_,k,n,_,hp⟩ | ⟨_,hp⟩
   .exact h n p hp x z
   .rw[hp]at z;cases z
  .exact Xra.mem h hq x z
theorem Q1b.mem:∀ {l:Nat} {m:Int} {g:List Pg},Q1b tbl lo hi l m g->∀ x∈g,(x.1,Q8 ((x.2.1:Nat):Int) x.2.2)∈tbl/\(x.2.1=0->∀ d∈x.2.2,J3 d)
 | 0,m,g,⟨es,hm,hr,e⟩,x,hx=>by
  rw[e]at hx;rw[mem_singleton.mp hx];exact⟨hm,λ_=>hr⟩
 | l+1,m,g,⟨es,q,hm,hr,e,hq⟩,x,hx=>by
  rw[e]at hx
  rcases mem_cons.mp hx with z | z
  .rw[z];exact⟨hm,λz=>absurd z (Nat.succ_ne_zero l)⟩
  .exact Xra.mem (λn p hp=>hp.mem) hq x z
theorem XDc(ar:∀ d∈M,J3 d)(up:UpR ltK M){d:Dt}(hd:d∈M):Q4 (QM M)/\(QM M=Qo d\/ltK (QM M) (Qo d)):=by
 match M,ar,up,hd with
 | x::r,ar,up,hd =>
  have e:QM (x::r)=Qo x:=rfl;rw[e];refine⟨(ar x VL).ent.key,?_⟩
  rcases mem_cons.mp hd with z | z
  .rw[z];exact .inl rfl
  .exact .inr ((pairwise_cons.mp up).1 d z)
theorem Ydd{B r:List Dt}(aT:J4 lo)(aZ:J4 hi)(ar:∀ d∈M++B,J3 d)(up:UpR ltK (M++B))(ek:k=QM M)(er:QM r=QM B)(eB:r=[]↔B=[])(h:lk lo hi (Zt k n) r=false):M.filter (λd=>wi lo hi (Qo d))=[]:=by
 refine filter_eq_nil_iff.mpr λd hd=>?_
 have sq:∀ d∈M,J3 d:=λd hd=>ar d (VO _ hd)
 have kd:=(sq d hd).ent.key;obtain⟨kf,le⟩:=XDc sq up.left hd;unfold lk at h;rw[JMa,ek]at h;unfold wi;cases h1:beh hi (QM M) with
 | true=>rw[XCc aZ kf kd h1 le];simp
 | false =>
  rw[h1]at h;cases r with
  | nil=>simp at h
  | cons x r =>
   have hB:B≠[]:=λz=>nomatch eB.mpr z
   obtain⟨y,hy,ey⟩:=Qra hB;have lt:=up.across hd hy;rw[ey]at lt;have h2:Pl.ltV lo (QM B)=false:=by rw[<- er];simpa using h
   rcases Pl.neg (Zq lt.1) aT.pl (Zq lt.2.1) lt.2.2 with z | z
   .rw[z];simp
   .rw[h2]at z;exact absurd z Uc
theorem Xeb(aT:J4 lo)(aZ:J4 hi):∀ (l:Nat) {M part:List Dt} {m:Int},(m,Q8 (l:Int) part)∈tbl->Tow QF tbl l M part->(∀ d∈M,J3 d)->UpR ltK M->M≠[] ->
 ∃ g,Q1b tbl lo hi l m g/\(ZP g).filter (λd=>wi lo hi (Qo d))=M.filter (λd=>wi lo hi (Qo d))/\(ZP g).Sublist M/\g.length<=(l+1) * M.length
 | 0,M,part,m,hm,t,ar,up,hM=>by
  have e:part=M:=t;subst e;refine⟨[(m,0,part)],⟨part,hm,ar,rfl⟩,?_⟩
  have e:ZP [(m,0,part)]=part:=by simp[ZP,ZZb]
  rw[e];refine⟨rfl,List.Sublist.refl _,?_⟩
  have:=length_pos_iff.mpr hM;simp;lia
 | l+1,M,part,m,hm,t,ar,up,hM=>by
  have go:∀ (part M:List Dt),Tow QF tbl (l+1) M part->(∀ d∈M,J3 d)->UpR ltK M->∃ q,Xra lo hi (Q1b tbl lo hi l) part q/\(ZP q).filter (λd=>wi lo hi (Qo d))=M.filter (λd=>wi lo hi (Qo d))/\(ZP q).Sublist M/\q.length<=(l+1) * M.length:=by
   intro part
   induction part with
   | nil =>
    intro M t _ _;have:=t.fst.1.mpr rfl;subst this;exact⟨[],rfl,rfl,List.Sublist.refl _,Um _⟩
   | cons e r ih =>
    intro M t ar up;obtain⟨A,M1,B,n,p1,eM,tA,_,tB,ee,jI,t1,ku,_,_⟩:=Tow.at_ (a:=[]) t;have eA:=tA.fst.1.mpr rfl;subst eA;rw[LC]at eM;subst eM;have fB:=tB.fst;obtain⟨g1,l1,f1,s1,n1⟩:=Xeb aT aZ l jI t1 (λd hd=>ar d (VO _ hd)) up.left ku
    obtain⟨q2,l2,f2,s2,n2⟩:=ih B tB (λd hd=>ar d (Ur _ hd)) up.right
    have ml:(l+1) * (M1++B).length=(l+1) * M1.length+(l+1) * B.length:=by rw[Oh,Nat.mul_add]
    cases h:lk lo hi e r with
    | true =>
     refine⟨g1++q2,⟨g1,q2,rfl,.inl ⟨h,_,n,ee,l1⟩,l2⟩,?_,?_,?_⟩
     .rw[Xg,IU,IU,f1,f2]
     .rw[Xg];exact s1.append s2
     .rw[Oh];lia
    | false =>
     refine⟨q2,⟨[],q2,rfl,.inr ⟨h,rfl⟩,l2⟩,?_,s2.trans (sublist_append_right _ _),by lia⟩
     rw[ee]at h;rw[IU,Ydd aT aZ ar up rfl fB.2 ⟨λz=>fB.1.mpr z,λz=>fB.1.mp z⟩ h,LC,f2]
  obtain⟨q,l1,f1,s1,n1⟩:=go part M t ar up;have e:ZP ((m,l+1,part)::q)=ZP q:=by rw[Quc];simp[ZZb]
  refine⟨(m,l+1,part)::q,⟨part,q,hm,(JV t ar up).2.2.2 #[0],rfl,l1⟩,by rw[e];exact f1,by rw[e];exact s1,?_⟩
  have:=length_pos_iff.mpr hM;rw[UC,L5 (l+1)]
  lia
inductive Zg(ai:VC)(vs:List V)(H:Hp)(Q:VK)(E:XK):Prop
 | mk:∀ k hi,vs=[k,hi]->Pl.QA k->Pl.QA hi->(∀ H',Qf H H'->Q (.bl (beh hi k)) H')->Zg ai vs H Q E
seal La in
theorem Yga(T:Tx K mg ob)(j3:Cal P w K mg base 2 "before" ["one","other"] (Je K))(F:Fun K "is_behind_high" "is_behind_high" Jw f fd):Qp P w K mg base CX0 3 f fd ["key","high"] (Zg K):=by
 refine F.ok YO (λvs H Q E h=>?_) (λah A outer s H vs Q E hr h=>?_)
 .walk_at "n"
 obtain⟨k,hi,rfl,hk,hh,q⟩:=h
 exists YO
 refine QR (λh=>?_) λh=>?_
 .refine⟨hi,k,rfl,hh,hk,λH' s=>?_⟩
  have:=q H' s;unfold beh at this;rw[if_neg h]at this;exact this
 .have:=q H (Qf.refl _)
  unfold beh at this;rw[if_pos (Classical.not_not.mp h)]at this;exact this
inductive XT(ai:VC)(vs:List V)(H:Hp)(Q:VK)(E:XK):Prop
 | mk:∀ k lo hi,vs=[k,lo,hi]->Pl.QA k->Pl.QA lo->Pl.QA hi->(∀ H',Qf H H'->Q (.bl (wi lo hi k)) H')->XT ai vs H Q E
seal La in
theorem JUb(T:Tx K mg ob)(j3:Cal P w K mg base 2 "before" ["one","other"] (Je K))(Xh:Cal P w K mg base 3 "is_behind_high" ["key","high"] (Zg K))(F:Fun K "is_within" "is_within" QJa f fd):Qp P w K mg base CX0 4 f fd ["key","low","high"] (XT K):=by
 refine F.ok J1a (λvs H Q E h=>?_) (λah A outer s H vs Q E hr h=>?_)
 .walk_at "n"
 obtain⟨k,lo,hi,rfl,hk,hl,hh,q⟩:=h
 exists J1a
 refine⟨k,lo,rfl,hk,hl,λH1 s1=>⟨_,rfl,QR (λh=>?_) λh=>?_⟩⟩
 .refine⟨k,hi,rfl,hk,hh,λH2 s2=>⟨_,rfl,?_⟩⟩
  have:=q H2 (s1.trans s2);unfold wi at this;rw[h]at this;exact this
 .have:=q H1 s1
  unfold wi at this;rw[Bool.not_eq_false]at h;rw[h]at this;exact this
inductive J5(ai:VC)(vs:List V)(H:Hp)(Q:VK)(E:XK):Prop
 | mk:∀ t xs a e r lo hi,vs=[.ref t,.int ((Oa a:Nat):Int),lo,hi]->H t=Vo (.tup xs)->Vm (λd v=>TD H 6 d v) (a++e::r) xs->(∀ d∈a++e::r,Qba d)->J4 lo->J4 hi->xs.length<=900->(∀ H',Qf H H'->Q (.bl (lk lo hi e r)) H')->J5 ai vs H Q E
seal La in
theorem XFa(T:Tx K mg ob)(Xh:Cal P w K mg base 3 "is_behind_high" ["key","high"] (Zg K))(j3:Cal P w K mg base 2 "before" ["one","other"] (Je K))(F:Fun K "is_looked_at" "is_looked_at" YC f fd):Qp P w K mg base CX0 4 f fd ["heads","at","low","high"] (J5 K):=by
 refine F.ok X8 (λvs H Q E h=>?_) (λah A outer s H vs Q E hr h=>?_)
 .walk_at "n"
 obtain⟨t,xs,a,e,r,lo,hi,rfl,ht,rt,ak,aT,aZ,lx,q⟩:=h
 exists X8,Qh,Qi,Qh,Qi,Yd,Q5,Qu,Qz,Qq,Qy,Qh,Qi,Qh,Qi,Qu,Qz
 have ll:=Vn rt;simp only[Oh,UC]at ll;have he:(a++e::r)[a.length]?=Vo e:=by simp
 have hx:xs[a.length]?=Vo (xs[a.length]'#[0]):=IA _
 obtain⟨d,b,w',hd,ex,hb,hk,_⟩:=QXa rt ak hx;rw[he]at hd;cases hd;refine⟨_,SqT.of ht,.ref b,by rw[<- ex];exact QQ hx,b,rfl,_,SqT.of hb,_,at0 _ _,_,hi,rfl,Zq hk,aZ.pl,λH1 s1=>⟨_,rfl,QR (λh=>?_) λh=>?_⟩⟩
 .have:=q H1 s1
  unfold lk at this;rw[h]at this;exact this
 .rw[Bool.not_eq_true]at h
  have q':∀ H',Qf H H'->Q (.bl (r.isEmpty || Pl.ltV lo (QM r))) H':=λH' s=>by
   have:=q H' s;unfold lk at this;rw[h]at this;exact this
  cases r with
  | nil =>
   refine⟨xs,.inr (SqT.of (s1 _ _ ht)),?_⟩
   rw[if_pos (by simp at ll;lia)]
   exact q' H1 s1
  | cons y r =>
   simp only[UC]at ll;refine⟨xs,.inr (SqT.of (s1 _ _ ht)),?_⟩
   rw[if_neg #[0]]
   have hy:(a++e::y::r)[a.length+1]?=Vo y:=by simp
   have gF:xs[a.length+1]?=Vo (xs[a.length+1]'#[0]):=IA _
   obtain⟨d2,b2,w2,cP,wj,pA,fw,_⟩:=QXa rt ak gF;rw[hy]at cP;cases cP;exact⟨_,SqT.of (s1 _ _ ht),.ref b2,by rw[<- wj];exact QQ (j:=a.length+1) gF,b2,rfl,_,SqT.of (s1 _ _ pA),_,at0 _ _,lo,_,rfl,aT.pl,Zq fw,λH2 s2=>q' H2 (s1.trans s2)⟩
inductive ZDa(P:Vg)(w:Vb)(ob:Nat->Vh)(n:Nat)(vs:List V)(H:Hp)(Q:VK)(E:XK):Prop
 | mk:∀ p d1 d2 st c,∀ m:Int,∀ l:Nat,∀ lo hi g,vs=[.ref p,.int m,lo,hi]->Qs P w ob H p d1 d2 st c->Q1b (Qn st) lo hi l m g->l<=n->J4 lo->J4 hi->g.length<=9000->(∀ r H',Qf H H'->H r=Vp->H' r=Vo (.lst (g.map λx=>V.int x.1))->Q (.ref r) H')->ZDa P w ob n vs H Q E
def Ym(P:Vg)(w:Vb)(ob:Nat->Vh):Nat->Sp
 | 0=>λ_ _ _ _=>False
 | n+1=>ZDa P w ob n
theorem JVb(T:Tx K mg ob)(XEc:Cal P w K mg base 4 "is_looked_at" ["heads","at","low","high"] (J5 K))(Qr:MeV P w K mg base 5 (ob 3) "page" (QH P w ob)){n:Nat}(IH:Cal P w K mg base (6+n) "looked_at" ["pages","number","low","high"] (Ym P w ob n))(F:Fun K "looked_at" "looked_at" QOa f fd):Qp P w K mg base CX0 (6+n+1) f fd ["pages","number","low","high"] (Ym P w ob (n+1)):=by
 refine F.ok J5a (λvs H Q E h=>?_) (λah A outer s H vs Q E hr h=>?_)
 .walk_at "n"
 obtain⟨p,d1,d2,st,c,m,l,lo,hi,g,rfl,hS,hL,hl,aT,aZ,lg,q⟩:=h
 exists 1,J5a,PE1.pe,QT,Q6,Qq,Qy,Qh,Qi,Qh,Qi
 refine XOa λR hR=>?_
 walk_at "rd";refine⟨by show 1<=Vs;rw[Ux];decide,λff bZ=>?_⟩
 have s0:=Qb bZ (.lst [V.int m]);have bf:upd H ff (.lst [.int m]) ff=Vo (.lst [.int m]):=Qa;generalize upd H ff (.lst [.int m])=H0 at s0 bf ⊢
 match l,hL,hl with
 | 0,⟨es,hm,ar,eg⟩,hl =>
  refine JH T Qr #[0] rfl rfl (hS.same s0) hm λpg H1 s1 dH aM=>?_
  obtain⟨eG,ja,t,bx,aO,ht⟩:=aM;refine JT T rfl aO ⟨_,rfl,?_⟩
  rw[if_neg #[1]]
  refine⟨Us _,λpe wk=>hR _ _ ?_⟩
  clear hR;walk_at "rd";refine⟨[],.inr (SqT.of Qa),by decide,by decide,?_⟩
  have s2:=Qb wk (.tup []);generalize upd H1 pe (.tup [])=H2 at s2 ⊢;refine ZH (λi σ' H'=>H'=H2/\σ'=[Vo (.ref p),Vo (.int m),Vo lo,Vo hi,Vo (.ref ff),Vo (.ref pg),Vo (.ref pe),Vp]) ⟨rfl,rfl⟩ (λi σ' H' hi _=>absurd hi (Nat.not_lt_zero i)) ?_
  rintro σ' H' ⟨rfl,rfl⟩;walk_at "rd";refine q ff _ (s0.trans (s1.trans s2)) bZ ?_
  rw[eg];exact(s1.trans s2) _ _ bf
 | l'+1,⟨es,q0,hm,gK,eg,kD⟩,hl =>
  obtain⟨n,rfl⟩:∃ n0,n=n0+1:=⟨n - 1,by lia⟩
  refine JH T Qr #[0] rfl rfl (hS.same s0) hm λpg H1 s1 dH aM=>?_
  have few:=PgD.few hS hm;obtain⟨eG,ja,t,bx,aO,ht⟩:=aM;obtain rfl:eG=true:=by rw[bx];exact decide_eq_true #[0]
  obtain⟨mm,t',xs,em,e,aK,rt⟩:=ht.tup;cases e;obtain rfl:mm=6:=by lia
  have cY:=Vn rt;refine JT T rfl aO ⟨_,rfl,?_⟩
  rw[if_pos #[0]]
  refine Zb (T.ob_ 2 #[1]) #[1] rfl aO rfl (hR _ _ ?_)
  clear hR;walk_at "rd";refine⟨xs,.inr (SqT.of aK),by lia,by lia,?_⟩
  rw[Om];refine ZH (λi σ' H'=>∃ a b dn rest x7,σ'=[Vo (.ref p),Vo (.int m),Vo lo,Vo hi,Vo (.ref ff),Vo (.ref pg),Vo (.ref t),x7]/\es=a++b/\a.length=i/\q0=dn++rest/\Xra lo hi (Q1b (Qn st) lo hi l') b rest/\Qf H H'/\H' ff=Vo (.lst (V.int m::dn.map λx=>V.int x.1))/\H' t=Vo (.tup xs)/\Vm (λd v=>TD H' 6 d v) es xs) ⟨[],es,[],q0,_,rfl,rfl,rfl,rfl,kD,s0.trans s1,s1 _ _ bf,aK,rt⟩ ?_ ?_
  .rintro i σ' H' hii ⟨a,b,dn,rest,x7,rfl,dI,ea,eq,kD,s',hf,aK,rt⟩
   refine stN λN hN=>?_
   match b,kD with
   | [],_=>rw[dI]at cY;simp at cY;lia
   | e::r,⟨p1,q1,er,hp,hq⟩ =>
    walk_at "rd";have ak:∀ d∈es,Qba d:=λd hd=>(gK d hd).ent
    have lq:g.length=1+(dn.length+(p1.length+q1.length)):=by rw[eg,eq,er];simp;lia
    refine⟨t,xs,a,e,r,lo,hi,by rw[De,ea],aK,by rw[<- dI];exact rt,by rw[<- dI];exact ak,aT,aZ,by lia,λH2 s2=>⟨_,rfl,QR (λh=>?_) λh=>?_⟩⟩
    .rcases hp with ⟨_,k,n',ee,hp⟩ | ⟨z,_⟩
     .have hx:es[i]?=Vo e:=by rw[dI,<- ea];simp
      have tx:=Ql rt hx (IA hii)
      rw[ee]at tx;obtain⟨bb,u1,u2,eb,hb,x1,x2⟩:=TD.pair_of tx;obtain⟨_,rfl⟩:=x2.flat;refine⟨.inl ⟨rfl,_,SqL.of (s2 _ _ hf)⟩,_,SqT.of (s2 _ _ aK),.ref bb,by rw[De,<- eb];exact QQ (IA hii),bb,rfl,_,SqT.of (s2 _ _ hb),_,at1 _ _ _,p,d1,d2,st,c,n',l',lo,hi,p1,rfl,hS.same (s'.trans s2),hp,by lia,aT,aZ,by lia,λr3 H3 s3 fX g3=>?_⟩
      have kE:=(s2.trans s3) _ _ hf;have t5:QO H3 (upd H3 ff (.lst ((V.int m::dn.map λx=>V.int x.1)++p1.map λx=>V.int x.1))):=Yp kE
      refine⟨r3,rfl,_,kE,_,.inl (SqL.of g3),Qsc (by simp;lia),hN _ _ ⟨a++[e],r,dn++p1,q1,_,rfl,by rw[dI];simp,by simp;lia,by rw[eq,er];simp,hq,QD (s'.trans (s2.trans s3)) bZ,?_,?_,?_⟩⟩
      .rw[Qa];simp
      .exact t5 _ _ ((s2.trans s3) _ _ aK)
      .exact TDs.sameT rt ((s2.trans s3).t.trans t5)
     .rw[h]at z;cases z
    .rcases hp with ⟨z,_⟩ | ⟨_,hp⟩
     .exact absurd z h
     .exact hN _ _ ⟨a++[e],r,dn,q1,_,rfl,by rw[dI];simp,by simp;lia,by rw[eq,er,hp];simp,hq,s'.trans s2,s2 _ _ hf,s2 _ _ aK,TDs.sameT rt s2.t⟩
  .rintro σ' H' ⟨a,b,dn,rest,x7,rfl,dI,ea,eq,kD,s',hf,aK,rt⟩
   walk_at "rd";have eb:b=[]:=by
    rw[dI]at cY;simp at cY;exact Iq #[0]
   subst eb;have kF:rest=[]:=kD;refine q ff _ s' bZ ?_
   rw[hf,eg,eq,kF];simp
theorem ZEa{α β:Type}{F:α->β->Prop}(q:α->Bool)(p:β->Bool):∀ {es:List α} {xs:List β},Vm F es xs->(∀ d x,d∈es->F d x->p x=q d)->Vm F (es.filter q) (xs.filter p)
 | _,_,.nil,_=>.nil
 | _,_,.cons (a:=d) (b:=x) r t,h=>by
  have e:=h _ _ VL r;have ih:=ZEa q p t λd x hd hx=>h d x (VM _ hd) hx
  rw[OL,OL,e];cases q d with
  | true=>exact .cons r ih
  | false=>exact ih
theorem Zhb(re:Vm (λd v=>TD H 6 d v) es xs)(ak:∀ d∈es,Qba d):Vm (λd v=>TD H 6 d v) (es.filter λd=>wi lo hi (Qo d)) (xs.filter λv=>wi lo hi (Xqa H v)):=by
 refine ZEa _ _ re λd x hd tx=>?_
 obtain⟨d',b,r,e1,e2,hb,_⟩:=QXa (es:=[d]) (xs:=[x]) (i:=0) (.cons tx .nil) (λz hz=>by rw[mem_singleton.mp hz];exact ak d hd) rfl
 cases e1;rw[e2,Yca hb]
def Zsd(st:StL)(lo hi v:V)(g:List Pg)(rs:List Dt):Prop:=(v=.non/\g=[]/\rs=[])\/∃ (n:Int) (l:Nat) (d:Dt) (part:List Dt),v=.int n/\(n,Q8 (l:Int) (d::part))∈Qn st/\l<=6/\Qba d/\((beh hi (Qo d)=true/\g=[]/\rs=[])\/(beh hi (Qo d)=false/\Q1b (Qn st) lo hi l n g/\rs=(ZP g).filter (λd=>wi lo hi (Qo d))/\g.length<=9000/\(ZP g).length<=900))
inductive Jea(P:Vg)(w:Vb)(ob:Nat->Vh)(vs:List V)(H:Hp)(Q:VK)(E:XK):Prop
 | mk:∀ p d1 d2 st c v lo hi g rs,vs=[.ref p,v,lo,hi]->Qs P w ob H p d1 d2 st c->Zsd st lo hi v g rs->J4 lo->J4 hi->(∀ r H' y1 y2 xs,Qf H H'->H r=Vp->H y1=Vp->H y2=Vp->y1≠y2->H' r=Vo (.tup [.ref y1,.ref y2])->H' y1=Vo (.lst xs)->Vm (λd v=>TD H' 6 d v) rs xs->H' y2=Vo (.lst (g.map λx=>V.int x.1))->Q (.ref r) H')->Jea P w ob vs H Q E
theorem Qvc(T:Tx K mg ob)(wl:∀ n,Cal P w K mg base (6+n) "looked_at" ["pages","number","low","high"] (Ym P w ob n))(Xh:Cal P w K mg base 3 "is_behind_high" ["key","high"] (Zg K))(Ztd:Cal P w K mg base 4 "is_within" ["key","low","high"] (XT K))(Qr:MeV P w K mg base 5 (ob 3) "page" (QH P w ob))(Yl:MeV P w K mg base 2 (ob 3) "card" (JE P w ob))(F:Fun K "stretch" "stretch" YKa f fd):Qp P w K mg base CX0 15 f fd ["pages","root","low","high"] (Jea P w ob):=by
 refine F.ok QFb (λvs H Q E h=>?_) (λah A outer s H vs Q E hr h=>?_)
 .walk_at "n"
 obtain⟨p,d1,d2,st,c,v,lo,hi,g,rs,rfl,hS,hT,aT,aZ,q⟩:=h
 exists 1,QFb,Qh,Qi,PE1.pe,QT,YZ,wl 8,#[0],Q6,Zk,PE1.pe,QT,Qj,Q5,Q3,XWa,Qh (r:=Q4b K),Qi
 refine ZZ λR hR=>?_
 walk_at "rd";have e8:∀ H1,Qf H H1->g=[]->rs=[]->([]:List V).length<=Vs/\∀ y1,H1 y1=Vp->([]:List V).length<=Vs/\∀ y2,upd H1 y1 (.lst []) y2=Vp->[V.ref y1,V.ref y2].length<=Vs/\∀ r,upd (upd H1 y1 (.lst [])) y2 (.lst []) r=Vp->Q (.ref r) (upd (upd (upd H1 y1 (.lst [])) y2 (.lst [])) r (.tup [.ref y1,.ref y2])):=by
  intro H1 s1 e1 e2;refine⟨Us _,λy1 h1=>⟨Us _,λy2 h2=>⟨QY,λr hr=>?_⟩⟩⟩
  have a1:=Qb h1 (.lst []);have a2:=Qb h2 (.lst []);have a3:=Qb hr (.tup [.ref y1,.ref y2]);refine q r _ y1 y2 [] (s1.trans (a1.trans (a2.trans a3))) (none_of (s1.trans (a1.trans a2)) hr) (none_of s1 h1) (none_of (s1.trans a1) h2) (λz=>?_) Qa ((a2.trans a3) _ _ Qa) ?_ ?_
  .rw[z,Qa]at h2;cases h2
  .rw[e2];exact .nil
  .rw[e1];exact a3 _ _ Qa
 rcases hT with ⟨ev,eg,kG⟩ | ⟨n,l,d,part,ev,hm,hl,hd,hc⟩
 .rw[if_pos ev]
  exact e8 H (Qf.refl _) eg kG
 subst ev;rw[if_neg (λz=>by cases z)]
 obtain⟨k,r',ed,hk⟩:=hd;subst ed;obtain⟨t0,fW⟩:=hS.find hm;obtain⟨dx,ho⟩:=hS.obj;refine JP rfl ho rfl (T.ob_ 3 #[1]).cl (Yl.mono #[1]) ?_
 walk_at "rd";refine⟨p,d1,d2,st,c,n,rfl,hS,λl2 k2 r2 eV t2 eC a H1 s1 ha td=>?_,λz=>(z _ fW rfl).elim⟩
 have e2:=(JR (hS.fun_ fW eC).1).2;injection e2 with e2 _
 injection e2 with e2
 injection e2 with e2 _
 injection e2 with e2
 subst e2;obtain⟨_,v1,v2,ea,wm,w1,w2⟩:=TD.pair_of td;cases ea;obtain⟨_,rfl⟩:=w2.flat;refine⟨a,rfl,_,SqT.of wm,_,at1 _ _ _,_,hi,rfl,Zq hk,aZ.pl,λH2 s2=>⟨_,rfl,QR (λh=>?_) λh=>?_⟩⟩
 .rcases hc with ⟨_,eg,kG⟩ | ⟨z,_⟩
  .exact e8 H2 (s1.trans s2) eg kG
  .rw[show Qo (.t (.v v2::r'))=v2 from rfl,h]at z;cases z
 rcases hc with ⟨z,_⟩ | ⟨_,hL,kG,lg,lr⟩
 .exact absurd z h
 have au:=s1.trans s2;refine hR _ _ ?_
 clear hR e8;walk_at "rd";refine⟨p,d1,d2,st,c,n,l,lo,hi,g,rfl,hS.same au,hL,VI hl #[1],aT,aZ,lg,λy2 H3 s3 kH g3=>⟨Us _,λy1 fc=>⟨y2,rfl,⟨_,SqL.of (Qb fc _ _ _ g3)⟩,?_⟩⟩⟩
 have s4:=Qb fc (.lst []);have kI:upd H3 y1 (.lst []) y1=Vo (.lst []):=Qa;generalize upd H3 y1 (.lst [])=H4 at s4 kI ⊢;have az:=au.trans s3;refine ZU (g.map λx=>V.int x.1) (λi σ' H'=>∃ zs x6 x7,σ'=[Vo (.ref p),Vo (.int n),Vo lo,Vo hi,Vo (.ref y2),Vo (.ref y1),x6,x7]/\Qf H3 H'/\H' y1=Vo (.lst zs)/\Vm (λd v=>TD H' 6 d v) ((ZP (g.take i)).filter λd=>wi lo hi (Qo d)) zs) ⟨[],_,_,rfl,s4,kI,.nil⟩ (λi σ' H' _ h=>by obtain⟨_,_,_,_,h,_⟩:=h;exact SqL.of (h _ _ g3)) ?_ ?_
 .rintro i x σ' H' hx ⟨zs,x6,x7,rfl,s5,hz,rz⟩
  refine stN λN hN=>?_
  rw[Of,Option.map_eq_some_iff]at hx
  obtain⟨⟨m,lm,em⟩,hx,rfl⟩:=hx;obtain⟨d5,sr⟩:=hL.mem _ (Og hx);dsimp only at d5 sr;have et:g.take (i+1)=g.take i++[(m,lm,em)]:=by rw[Im,hx];rfl
  walk_at "rd";refine JH T Qr #[1] rfl rfl (hS.same (az.trans s5)) d5 λpg H6 s6 dH aM=>?_
  obtain⟨eG,ja,t,bx,aO,ht⟩:=aM;refine JT T rfl aO ⟨rfl,QR (λh0=>?_) λh0=>?_⟩
  .injection h0 with h0
   obtain rfl:lm=0:=by lia
   obtain rfl:eG=false:=by rw[bx];rfl
   obtain⟨mm,t',xs,wn,e,aK,rt⟩:=ht.tup;cases e;obtain rfl:mm=6:=by lia
   have ak:∀ d∈em,Qba d:=λd hd=>(sr rfl d hd).ent
   have cY:=Vn rt;have few:=PgD.few hS d5;refine⟨.inl ⟨rfl,_,SqL.of (s6 _ _ hz)⟩,Zb (T.ob_ 1 #[1]) #[1] rfl aO rfl ⟨t,rfl,⟨_,SqT.of aK⟩,QHd xs (λv=>wi lo hi (Xqa H6 v)) (SqT.of aK) (QG #[0]) (λi2 x H7 R gF s7 r=>?_) λD H7 hD s7 hd=>?_⟩⟩
   .obtain⟨d,b,ws,hd,ex,hb,fw,_⟩:=QXa rt ak gF
    subst ex;walk_at "rd";refine⟨_,SqT.of (s7 _ _ hb),_,at0 _ _,_,lo,hi,rfl,Zq fw,aT.pl,aZ.pl,λH8 s8=>⟨_,rfl,?_⟩⟩
    have:=r H8 s8;rw[Yca hb]at this;exact this
   .have i3:=(s6.trans s7) _ _ hz
    have lz:zs.length<=900:=by
     have h1:=Vn rz;have h2:=OM (λd=>wi lo hi (Qo d)) (ZP (g.take i))
     have h3:=congrArg Oa (Xg (g.take i) (g.drop i));rw[L7,Oh]at h3
     lia
    have lf:=OM (λv=>wi lo hi (Xqa H6 v)) xs
    have t8:QO H7 (upd H7 y1 (.lst (zs++xs.filter λv=>wi lo hi (Xqa H6 v)))):=Yp i3
    refine⟨D,rfl,zs,i3,_,.inl (SqL.of hd),Qsc #[0],hN _ _ ⟨_,_,_,rfl,QD (s5.trans (s6.trans s7)) fc,Qa,?_⟩⟩
    rw[et,Xg,IU,show ZP [(m,0,em)]=em by simp[ZP,ZZb]]
    exact QB (TDs.sameT rz ((s6.trans s7).t.trans t8)) (TDs.sameT (Zhb rt ak) (s7.t.trans t8))
  .have aC:lm≠0:=λz=>h0 (by rw[z];rfl)
   refine hN _ _ ⟨zs,_,_,rfl,s5.trans s6,s6 _ _ hz,?_⟩
   rw[et,Xg,show ZP [(m,lm,em)]=[] by simp[ZP,ZZb,aC],UV]
   exact TDs.sameT rz s6.t
 .rintro σ' H' ⟨zs,x6,x7,rfl,s5,hz,rz⟩
  walk_at "rd";refine⟨QY,λr hr=>?_⟩
  have a3:=Qb hr (.tup [.ref y1,.ref y2]);rw[UK,IT]at rz;refine q r _ y1 y2 zs (az.trans (s5.trans a3)) (none_of (az.trans s5) hr) (none_of az fc) (none_of au kH) (λz=>?_) Qa (a3 _ _ hz) ?_ (a3 _ _ (s5 _ _ g3))
  .rw[z,g3]at fc;cases fc
  .rw[kG];exact TDs.sameT rz a3.t
theorem XFc{p:Vh}(hS:Qs P w ob H p d1 d2 st c)(hT:QZ st es v)(ar:∀ d∈es,J3 d)(up:UpR ltK es)(le:es.length<=900)(aT:J4 lo)(aZ:J4 hi):∃ g,Zsd st lo hi v g (es.filter λd=>wi lo hi (Qo d)):=by
 have wo:=hT
 rcases hT with ⟨e,ev⟩ | ⟨_,_,_,_,n,_,_,_,ev⟩
 .rw[e];exact⟨[],.inl ⟨ev,rfl,rfl⟩⟩
 subst ev;obtain⟨top,h6,rt⟩:=wo.root hS;obtain⟨part,hm,tw,_,aC⟩:=rt.page;have fs:=tw.fst;have kp:=(JV tw ar up).1
 match part,tw.ne aC,hm,tw,fs,kp with
 | d::part,_,hm,tw,fs,kp =>
  have hd:=kp d VL;have ef:Qo d=QM es:=fs.2;cases hb:beh hi (Qo d) with
  | true =>
   refine⟨[],.inr ⟨n,top,d,part,rfl,hm,h6,hd,.inl ⟨hb,rfl,?_⟩⟩⟩
   refine filter_eq_nil_iff.mpr λx hx=>?_
   obtain⟨kf,lf⟩:=XDc ar up hx;rw[ef]at hb;unfold wi;rw[XCc aZ kf (ar x hx).ent.key hb lf];simp
  | false =>
   obtain⟨g,hg,f1,sl,ln⟩:=Xeb aT aZ top hm tw ar up aC;have l1:=sl.length_le;have l2:(top+1) * es.length<=7 * es.length:=L4 _ #[0]
   exact⟨g,.inr ⟨n,top,d,part,rfl,hm,h6,hd,.inr ⟨hb,hg,f1.symm,by lia,by lia⟩⟩⟩
theorem QZ.mono{ag:StL}(h:QZ st es v)(s:∀ x∈Qn st,x∈Qn ag):QZ ag es v:=by
 rcases h with h | ⟨a,top,L,k,n,b,c,d⟩
 .exact .inl h
 .exact .inr ⟨a,top,L,k,n,b,c.mono s,d⟩
inductive JW(ai:VC)(vs:List V)(H:Hp)(Q:VK)(E:XK):Prop
 | mk:∀ (a:Vh) (xs:List V),vs=[.ref a]->H a=Vo (.lst xs)->(∀ v∈xs,QA v)->xs.length < 64->(∀ (r:Vh) (H':Hp) (ys:List V),Qf H H'->H r=Vp->H' r=Vo (.lst ys)->ys.length<=xs.length->ZZc xs ys->Q (.ref r) H')->JW ai vs H Q E
theorem XGc{K:VC}(h:∀ v∈xs,QA v):X4b K (YE K) H xs rk ltV :=
 ⟨λv _=>YNd v,λv hv H2 _ R hR=>⟨v,rfl,h v hv,λp hp=>hR p _ (Qb hp _) (SqT.of Qa)⟩,λv hv u hu=>Yyc (h v hv) (h u hu),swo h⟩
seal La in
theorem Xgb(T:Tx K mg ob)(j3:Cal P w K mg base 2 "before" ["one","other"] (Je K))(vj:Cal P w K mg base 1 "rank_of" ["value"] (YE K))(F:Fun K "in_order" "in_order" Z4a f fd):Qp P w K mg base CX0 4 f fd ["values"] (JW K):=by
 refine F.ok Xha (λvs H Q E h=>?_) (λah A outer s H vs Q E hr h=>?_)
 .walk_at "n"
 obtain⟨a,xs,rfl,ha,px,wp,q⟩:=h
 exists Xha,Q6,Zk,YYb,Qh,Qx
 refine⟨by decide,λf hf=>?_⟩
 have pE:a≠f:=QE ha hf;refine⟨xs,SqL.of (by rw[Qe pE];exact ha),wp,_,_,XGc px,λD H1 ys s1 jV hD hp so=>?_⟩
 have py:∀ v∈ys,QA v:=λv hv=>px v (hp.mem_iff.mp hv)
 have wq:f≠D:=λz=>by rw[<- z,Qa]at jV;cases jV
 have sf:Qf H H1:=(Qb hf _).trans s1;have ly:=hp.length_eq;refine⟨⟨_,SqL.of hD⟩,ZU ys (λi σ' H'=>∃ (fs:List V) (x2:Option V),σ'=[Vo (.ref a),Vo (.ref f),x2]/\Qf H H'/\H' D=Vo (.lst ys)/\H' f=Vo (.lst fs)/\Xxa ys i fs) ?_ ?_ ?_ ?_⟩
 .exact⟨[],_,rfl,sf,hD,s1 _ _ Qa,Xxa.start ys⟩
 .rintro i σ' H' _ ⟨fs,x2,rfl,sm,h1,h2,g⟩
  exact SqL.of h1
 .rintro i x σ' H' hx ⟨fs,x2,rfl,sm,h1,h2,g⟩
  refine stN λN hN=>?_
  have hi:i < ys.length:=(List.getElem?_eq_some_iff.mp hx).1
  have pf:∀ v∈fs,QA v:=λv hv=>py v (IQ ((g.mem v).mp hv))
  have pX:=py x (Og hx);have lf:=g.len;have app:∀ H2:Hp,Qf H' H2->(∀ l,fs.getLast?=Vo l->ltV l x=true)->tyV K "list" (.ref f) H2/\∃ eS,H2 f=Vo (.lst eS)/\eS.length < Vs/\N [Vo (.ref a),Vo (.ref f),Vo x] (upd H2 f (.lst (eS++[x]))):=λH2 s2 hl =>
   ⟨.inl ⟨rfl,_,SqL.of (s2 _ _ h2)⟩,fs,s2 _ _ h2,Qm #[0],hN _ _ ⟨fs++[x],_,rfl,(sm.trans s2).updL hf _,by rw[Qe (VN wq)];exact s2 _ _ h1,Qa,g.put py so hx hl⟩⟩
  walk_at "rd";refine⟨_,.inl ⟨fs,SqL.of h2,rfl⟩,?_⟩
  cases hemp:fs.isEmpty with
  | true =>
   rw[if_pos #[1]]
   have e0:fs=[]:=isEmpty_iff.mp hemp;exact app _ (Qf.refl _) λl hl=>by rw[e0]at hl;cases hl
  | false =>
   rw[if_neg #[2]]
   obtain⟨l,hl⟩:∃ l,fs.getLast?=Vo l:=by
    cases q:fs.getLast? with
    | none=>rw[getLast?_eq_none_iff]at q;rw[q]at hemp;cases hemp
    | some l=>exact⟨l,rfl⟩
   obtain⟨gX,ef⟩:=getLast?_eq_some_iff.mp hl
   have pl:QA l:=pf l (IR hl);refine⟨fs,SqL.of h2,l,by rw[ef];exact Qha _ _,l,x,rfl,pl,pX,λH2 s2=>⟨_,rfl,?_⟩⟩
   cases ay:ltV l x with
   | true =>
    rw[if_pos rfl];exact app _ s2 λl' fI=>by rw[hl]at fI;cases fI;exact ay
   | false =>
    rw[if_neg Uc];exact hN _ _ ⟨fs,_,rfl,sm.trans s2,s2 _ _ h1,s2 _ _ h2,g.skip py so hx hl ay⟩
 .rintro σ' H' ⟨fs,x2,rfl,sm,h1,h2,g⟩
  walk_at "rd";have:=g.len;exact q f H' fs sm hf h2 #[0] (g.rise hp)
def GT(n:Nat)(z:Str):Prop:=n<=z.length/\z.length<=40/\∀ c∈z.cps.toList,J8 c=true
def GK:V->Prop
 | .int i => -(10 ^ 30) < i/\i < 10 ^ 30
 | .str z=>GT 1 z
 | _=>False
def GP:V->Prop
 | .non=>True
 | .int i => -(10 ^ 30) < i/\i < 10 ^ 30
 | .str z=>GT 0 z
 | _=>False
def GW(z:Str):Prop:=1<=z.length/\z.length<=12/\∀ c∈z.cps.toList,XLa c=true
theorem GK.key(h:GK v):Q4 v:=by
 cases v with
 | int i=>exact h
 | str z=>exact h.2.1
 | _=>exact h.elim
theorem GP.pl(h:GP v):QA v:=by
 cases v with
 | non=>exact h
 | int i=>exact h
 | str z=>exact h.2.1
 | _=>exact h.elim
theorem GP.hv(h:GP v):hV v=true:=by
 cases v <;> first | rfl | exact h.elim
theorem GK.gp(h:GK v):GP v:=by
 cases v with
 | int i=>exact h
 | str z=>exact⟨Us _,h.2⟩
 | _=>exact h.elim
def Xsa(_:VC):Sp:=λvs H Q _=>(∃ i:Int,vs=[.int i]/\Q (.bl true) H)\/∃ z:Str,vs=[.str z]/\Q (.bl false) H
seal La in
theorem Xhb(T:Tx K mg ob)(F:Fun K "is_whole" "is_whole" ZVa f fd):Qp P w K mg base CX0 1 f fd ["thing"] (Xsa K):=by
 refine F.ok Qsa (λvs H Q E h=>?_) (λah A outer s H vs Q E hr h=>?_)
 .rcases h with ⟨i,rfl,_⟩ | ⟨i,rfl,_⟩ <;> rfl
 rcases h with ⟨i,rfl,q⟩ | ⟨z,rfl,q⟩
 .exists Qsa
  walk_at "rd";exact QJ (.int i) Ywb ⟨_,rfl,show ite _ _ _ from(if_pos rfl).mpr (QJ (.int i) JCa ⟨_,rfl,q⟩)⟩
 .exists Qsa
  walk_at "rd";exact QJ (.str z) Yxb ⟨_,rfl,q⟩
def XU(_:VC):Sp:=λvs H Q _=>(∃ i:Int,vs=[.int i] /\ -(10 ^ 30) < i/\i < 10 ^ 30/\Q (.bl true) H)\/∃ z:Str,vs=[.str z]/\Q (.bl false) H
seal La in
theorem JWb(T:Tx K mg ob)(Yed:Cal P w K mg base 1 "is_whole" ["thing"] (Xsa K))(F:Fun K "is_number" "is_number" QEa f fd):Qp P w K mg base CX0 2 f fd ["thing"] (XU K):=by
 refine F.ok Xy (λvs H Q E h=>?_) (λah A outer s H vs Q E hr h=>?_)
 .rcases h with ⟨i,rfl,_⟩ | ⟨i,rfl,_⟩ <;> rfl
 rcases h with ⟨i,rfl,h1,h2,q⟩ | ⟨z,rfl,q⟩
 .exists Xy,Jqa,YM,YM
  walk_at "rd";refine .inl ⟨i,rfl,_,rfl,(if_pos rfl).mpr ⟨by unfold Q3b;decide,(if_pos h1).mpr ⟨by unfold Q3b;decide,?_⟩⟩⟩
  rw[decide_eq_true h2];exact q
 .exists Xy,Jqa,YM,YM
  walk_at "rd";exact .inr ⟨z,rfl,_,rfl,(if_neg Uc).mpr q⟩
inductive Jfa(ai:VC)(vs:List V)(H:Hp)(Q:VK)(E:XK):Prop
 | mk:∀ c:Nat,vs=[.str ⟨#[c]⟩]->Q (.bl (J8 c)) H->Jfa ai vs H Q E
theorem lt1(a b:Nat):([a] < [b])↔a < b:=by simp[cons_lt_cons_iff]
theorem Qwc(T:Tx K mg ob)(F:Fun K "is_sign" "is_sign" YAa f fd):Qp P w K mg base CX0 1 f fd ["one"] (Jfa K):=by
 refine F.ok Qrb (λvs H Q E h=>?_) (λah A outer s H vs Q E hr h=>?_)
 .walk_at "n"
 obtain⟨c,rfl,q⟩:=h
 exists Qrb,Jqa,Q7a,Q7a,Yd,Qea,Q5a,T.PERCENT
 have e1:(La " ").cps.toList=[32]:=by decide
 have e2:(La "~").cps.toList=[126]:=by decide
 rw[e1,e2]
 by_cases h1:c < 32
 .rw[if_neg (not_not_intro ((lt1 c 32).mpr h1))]
  have e:J8 c=false:=decide_eq_false λh=>by lia
  rw[<- e];exact q
 rw[if_pos (λh=>h1 ((lt1 c 32).mp h))]
 by_cases h2:126 < c
 .rw[if_neg (not_not_intro ((lt1 126 c).mpr h2))]
  have e:J8 c=false:=decide_eq_false λh=>by lia
  rw[<- e];exact q
 rw[if_pos (λh=>h2 ((lt1 126 c).mp h))]
 refine⟨rfl,?_⟩
 have e:(!decide (((#[c].getD 0 0:Nat):Int)=37))=J8 c:=by
  have e0:#[c].getD 0 0=c:=rfl;rw[e0];unfold J8
  by_cases h3:c=37
  .rw[decide_eq_true (show((c:Nat):Int)=37 by lia),decide_eq_false (λh=>h.2.2 h3)];rfl
  .rw[decide_eq_false (show ¬ ((c:Nat):Int)=37 by lia),decide_eq_true (show 32<=c/\c<=126/\c≠37 by lia)];rfl
 rw[e];exact q
theorem YTa(z:Str):z.length=z.cps.toList.length:=by simp[Os]
theorem Z0b{cs:List Nat}{f:Nat->Bool}(h:∀ c∈cs,f c=true)(hl:ys.length=cs.length)(h2:∀ (i:Nat) y,ys[i]?=Vo y->∃ c,cs[i]?=Vo c/\y=.bl (f c)):ys=(U8 cs.length true).map V.bl:=by
 refine ID (by simp[hl]) λi g1 g2=>?_
 obtain⟨c,e1,e2⟩:=h2 i _ (IA g1)
 rw[e2,h c (Og e1)];simp
inductive XV(ai:VC)(vs:List V)(H:Hp)(Q:VK)(E:XK):Prop
 | mk:∀ z,∀ n:Nat,vs=[.str z,.int n]->GT n z->(∀ H',Qf H H'->Q (.bl true) H')->XV ai vs H Q E
theorem Qxc(T:Tx K mg ob)(Ysd:Cal P w K mg base 1 "is_sign" ["one"] (Jfa K))(F:Fun K "is_text" "is_text" YDa f fd):Qp P w K mg base CX0 2 f fd ["thing","least"] (XV K):=by
 refine F.ok Qub (λvs H Q E h=>?_) (λah A outer s H vs Q E hr h=>?_)
 .walk_at "n"
 obtain⟨z,n,rfl,⟨h1,h2,h3⟩,q⟩:=h
 exists Qub,Yob,QNc,QNc,Qq,Yf,Q5a,T.MOST_SIGNS,Qq,ZKb,Q3,X1b
 refine QJ (.str z) QS ⟨_,rfl,(if_neg (λh=>Df h)).mpr ⟨QG #[0],(if_pos #[0]).mpr ((if_neg (not_not_intro #[0])).mpr ?_)⟩⟩
 refine Q0c (λi v=>∃ c,z.cps.toList[i]?=Vo c/\v=.bl (J8 c)) (QG #[0]) (λi c H2 R hc s2 hR=>?_) λD H2 ys hD s2 hy ly py=>?_
 .walk_at "rd"
  exact⟨c,rfl,hR _ _ ⟨c,hc,rfl⟩ (Qf.refl _)⟩
 .refine⟨D,rfl,U8 z.cps.toList.length true,SqL.of (by rw[hy,Z0b h3 (by rw[ly,YTa]) py]),?_⟩
  rw[show(U8 z.cps.toList.length true).all id=true by simp]
  exact q _ s2
inductive YUa(ai:VC)(vs:List V)(H:Hp)(Q:VK)(E:XK):Prop
 | mk:∀ v,vs=[v]->GK v->(∀ H',Qf H H'->Q (.bl true) H')->YUa ai vs H Q E
seal La in
theorem Jtc(T:Tx K mg ob)(wr:Cal P w K mg base 2 "is_number" ["thing"] (XU K))(wt:Cal P w K mg base 2 "is_text" ["thing","least"] (XV K))(F:Fun K "is_key" "is_key" Qwb f fd):Qp P w K mg base CX0 3 f fd ["thing"] (YUa K):=by
 refine F.ok ZTb (λvs H Q E h=>?_) (λah A outer s H vs Q E hr h=>?_)
 .walk_at "n"
 obtain⟨v,rfl,hv,q⟩:=h
 exists ZTb
 cases v with
 | int i=>exact .inl ⟨i,rfl,hv.1,hv.2,_,rfl,(if_pos rfl).mpr (q _ (Qf.refl _))⟩
 | str z=>exact .inr ⟨z,rfl,_,rfl,(if_neg Uc).mpr ⟨z,1,rfl,hv,q⟩⟩
 | _=>exact hv.elim
inductive Q0a(ai:VC)(vs:List V)(H:Hp)(Q:VK)(E:XK):Prop
 | mk:∀ v,vs=[v]->GP v->(∀ H',Qf H H'->Q (.bl true) H')->Q0a ai vs H Q E
seal La in
theorem Xjb(T:Tx K mg ob)(wr:Cal P w K mg base 2 "is_number" ["thing"] (XU K))(wt:Cal P w K mg base 2 "is_text" ["thing","least"] (XV K))(F:Fun K "is_plain" "is_plain" Z0a f fd):Qp P w K mg base CX0 3 f fd ["thing"] (Q0a K):=by
 refine F.ok Xda (λvs H Q E h=>?_) (λah A outer s H vs Q E hr h=>?_)
 .walk_at "n"
 obtain⟨v,rfl,hv,q⟩:=h
 exists Xda
 cases v with
 | non=>exact(if_pos rfl).mpr (q _ (Qf.refl _))
 | int i=>exact(if_neg (λz=>V.noConfusion z)).mpr (.inl ⟨i,rfl,hv.1,hv.2,_,rfl,(if_pos rfl).mpr (q _ (Qf.refl _))⟩)
 | str z=>exact(if_neg (λz=>V.noConfusion z)).mpr (.inr ⟨z,rfl,_,rfl,(if_neg Uc).mpr ⟨z,0,rfl,hv,q⟩⟩)
 | _=>exact hv.elim
inductive Jga(ai:VC)(vs:List V)(H:Hp)(Q:VK)(E:XK):Prop
 | mk:∀ z,vs=[.str z]->GW z->(∀ H',Qf H H'->Q (.bl true) H')->Jga ai vs H Q E
theorem Qyc(T:Tx K mg ob)(F:Fun K "is_word" "is_word" YBa f fd):Qp P w K mg base CX0 1 f fd ["thing"] (Jga K):=by
 refine F.ok Qsb (λvs H Q E h=>?_) (λah A outer s H vs Q E hr h=>?_)
 .walk_at "n"
 obtain⟨z,rfl,⟨h1,h2,h3⟩,q⟩:=h
 exists Qsb,Yob,QNc,QNc,Qq,Yf,Q5a,T.MOST_LETTERS,Qq,ZKb,Q3,X1b,Jqa,Q7a,Q7a
 have e1:(La "a").cps.toList=[97]:=by decide
 have e2:(La "z").cps.toList=[122]:=by decide
 refine QJ (.str z) QS ⟨_,rfl,(if_neg (λh=>Df h)).mpr ⟨QG #[0],(if_pos #[0]).mpr ((if_neg (not_not_intro #[0])).mpr ?_)⟩⟩
 refine Q0c (λi v=>∃ c,z.cps.toList[i]?=Vo c/\v=.bl (XLa c)) (QG #[0]) (λi c H2 R hc s2 hR=>?_) λD H2 ys hD s2 hy ly py=>?_
 .walk_at "rd"
  have lc:=of_decide_eq_true (h3 c (Og hc));rw[e1,e2,if_pos (λh=>absurd ((lt1 c 97).mp h) #[0]),decide_eq_false (λh=>absurd ((lt1 122 c).mp h) #[0])]
  exact hR _ _ ⟨c,hc,by rw[h3 c (Og hc)];rfl⟩ (Qf.refl _)
 .refine⟨D,rfl,U8 z.cps.toList.length true,SqL.of (by rw[hy,Z0b h3 (by rw[ly,YTa]) py]),?_⟩
  rw[show(U8 z.cps.toList.length true).all id=true by simp]
  exact q _ s2
inductive XW(K:VC)(vs:List V)(H:Hp)(Q:VK)(E:XK):Prop
 | mk:∀ (a:Vh) (ns:List Int) (k:Nat),vs=[.ref a,.int k]->SqL K H a (ns.map V.int)->(∀ c,Q (.int c) H)->XW K vs H Q E
seal La in
theorem JXb(T:Tx K mg ob)(F:Fun K "_law_cell" "_law_cell" Qya f fd):Qp P w K mg base CX0 1 f fd ["_law_script","_law_k"] (XW K):=by
 refine F.ok JTa (λvs H Q E h=>?_) (λah A outer s H vs Q E hr h=>?_)
 .walk_at "n"
 obtain⟨a,ns,k,rfl,hS,q⟩:=h
 exists JTa,Qj,YM,Qq,Qy,Qh,Qx
 refine⟨_,.inl hS,QR (λh=>?_) λ_=>q 0⟩
 rw[UK]at h;have hk:k < ns.length:=by lia
 exact⟨_,hS,.int ns[k],QQ (j:=k) (by simp[hk]),q _⟩
def XHc(c k:Int):Int:=((c % 2147483629+7919 * k+12345) % 2147483629 * ((c % 2147483629+7919 * k+12345) % 2147483629) % 2147483629+104729 * k) * 48271 % 2147483647
inductive Za(ai:VC)(vs:List V)(H:Hp)(Q:VK)(E:XK):Prop
 | mk:∀ c k:Int,vs=[.int c,.int k]->(∀ m,(0<=m/\m=XHc c k)->m < 2147483647->Q (.int m) H)->Za ai vs H Q E
seal La in
theorem Xkb(T:Tx K mg ob)(F:Fun K "_law_mix" "_law_mix" ZZa f fd):Qp P w K mg base CX0 1 f fd ["_law_cell_here","_law_k"] (Za K):=by
 refine F.ok Xca (λvs H Q E h=>?_) (λah A outer s H vs Q E hr h=>?_)
 .walk_at "n"
 obtain⟨c,k,rfl,q⟩:=h
 exists Xca,Qu,Qz,Qu,Qz,Qu,Qz
 walk_at "go";exact q _ ⟨Int.emod_nonneg _ #[1],rfl⟩ (Int.emod_lt_of_pos _ #[1])
theorem XIc:(La " !\"#$&'()*+,-./0123456789:;<=>?@ABCDEFGHIJKLMNOPQRSTUVWXYZ[\\]^_`"++La "abcdefghijklmnopqrstuvwxyz{|}~").cps.toList.all J8=true:=by decide +kernel
theorem Jvc:(La " !\"#$&'()*+,-./0123456789:;<=>?@ABCDEFGHIJKLMNOPQRSTUVWXYZ[\\]^_`"++La "abcdefghijklmnopqrstuvwxyz{|}~").cps.toList.length=94:=by decide +kernel
theorem Jn{α:Type}{l:List α}{k:Int}{x:α}(h:atI l k=Vo x):x∈l:=by
 unfold atI at h;obtain⟨j,_,h⟩:=Option.bind_eq_some_iff.mp h;exact Og h
inductive XX(ai:VC)(vs:List V)(H:Hp)(Q:VK)(E:XK):Prop
 | mk:∀ c:Int,vs=[.int c]->(∀ x:Nat,J8 x=true->Q (.str { cps:=#[x] }) H)->XX ai vs H Q E
theorem JYb(T:Tx K mg ob)(F:Fun K "_law_sign" "_law_sign" Qza f fd):Qp P w K mg base CX0 1 f fd ["_law_cell_here"] (XX K):=by
 refine F.ok JUa (λvs H Q E h=>?_) (λah A outer s H vs Q E hr h=>?_)
 .walk_at "n"
 obtain⟨c,rfl,q⟩:=h
 exists JUa,Qu,ZKa,Qh,J0c
 obtain⟨x,hx⟩:=Jj (l:=(La " !\"#$&'()*+,-./0123456789:;<=>?@ABCDEFGHIJKLMNOPQRSTUVWXYZ[\\]^_`"++La "abcdefghijklmnopqrstuvwxyz{|}~").cps.toList) (k:=c % 94) #[0] (by rw[Jvc];lia)
 exact⟨by decide,by decide,x,hx,q _ (all_eq_true.mp XIc x (Jn hx))⟩
theorem Zba(h:∀ z∈zs,z.length=1):(O9 (La "") zs).length=zs.length:=by
 show(O9 (La "") zs).cps.size=_;rw[<- V2,Yqa,length_flatMap];have:zs.map (λz=>z.cps.toList.length)=zs.map λ_=>1:=Io λz hz=>by
  rw[V2];exact h z hz
 rw[this,DB,sum_replicate_nat]
 lia
theorem Z1b{f:Nat->Bool}(h:∀ z∈zs,∀ c∈z.cps.toList,f c=true):∀ c∈(O9 (La "") zs).cps.toList,f c=true:=λc hc=>by
 rw[Yqa]at hc;obtain⟨z,hz,hc⟩:=mem_flatMap.mp hc;exact h z hz c hc
theorem Xlb(h:∀ z∈zs,z.length=1):(zs.map λx=>x.length).sum=zs.length:=by
 have:zs.map (λz=>z.length)=zs.map λ_=>1:=Io λz hz=>h z hz
 rw[this,DB,sum_replicate_nat]
 lia
inductive ZL(ai:VC)(vs:List V)(H:Hp)(Q:VK)(E:XK):Prop
 | mk:∀ (c:Int) (n:Nat),vs=[.int c,.int n]->n<=41->(∀ (z:Str) H',z.length=n->(∀ c∈z.cps.toList,J8 c=true)->Qf H H'->Q (.str z) H')->ZL ai vs H Q E
theorem JZb(T:Tx K mg ob)(Zud:Cal P w K mg base 1 "_law_sign" ["_law_cell_here"] (XX K))(Ja:Cal P w K mg base 1 "_law_mix" ["_law_cell_here","_law_k"] (Za K))(F:Fun K "_law_text" "_law_text" QHa f fd):Qp P w K mg base CX0 2 f fd ["_law_cell_here","_law_size"] (ZL K):=by
 refine F.ok JZa (λvs H Q E h=>?_) (λah A outer s H vs Q E hr h=>?_)
 .walk_at "n"
 obtain⟨c,n,rfl,hn,q⟩:=h
 exists JZa,Qq,Zxb,X5a,lcJ 4,XGb,JJc,Yrb
 refine⟨_,_,rfl,λm _ _=>⟨_,rfl,λx gx=>⟨_,_,rfl,λm2 h0 _=>?_⟩⟩⟩
 have g1:∀ y:Nat,J8 y=true->∀ c∈({ cps:=#[y] }:Str).cps.toList,J8 c=true:=λy gy c hc=>by
  have:c=y:=by simpa using hc
  rw[this];exact gy
 refine⟨_,_,⟨rfl,rfl⟩,_,rfl,by split <;> lia,by lia,by lia,?_⟩
 have bF:0<=m2 % (if (1:Int) > (n:Int) then 1 else (n:Int))/\m2 % (if (1:Int) > (n:Int) then 1 else (n:Int)) < (if (1:Int) > (n:Int) then 1 else (n:Int)):=⟨Int.emod_nonneg _ (by split <;> lia),Int.emod_lt_of_pos _ (by split <;> lia)⟩
 generalize m2 % (if (1:Int) > (n:Int) then 1 else (n:Int))=am at bF ⊢
 refine ZHb (λi v=>v=.str { cps:=#[x] }) (VJ (Qm #[0])) (λi H2 R hi s2 hR=>?_) λD H2 ys hD s2 hy ly py=>?_
 .walk_at "rd"
  exact hR _ _ rfl (Qf.refl _)
 have ly:ys.length=n:=by lia
 have ey:ys=(U8 n ({ cps:=#[x] }:Str)).map V.str:=by
  refine ID (by simp[ly]) λi g1 g2=>?_
  rw[py i _ (IA g1)]
  simp
 have o1:∀ z∈U8 n ({ cps:=#[x] }:Str),z.length=1:=λz hz=>by rw[(mem_replicate.mp hz).2];rfl
 have o2:∀ z∈U8 n ({ cps:=#[x] }:Str),∀ c∈z.cps.toList,J8 c=true:=λz hz=>by rw[(mem_replicate.mp hz).2];exact g1 x gx
 have fin:∀ (H3:Hp) (zs:List Str),zs.length=n->(∀ z∈zs,z.length=1)->(∀ z∈zs,∀ c∈z.cps.toList,J8 c=true)->Qf H H3->H3 D=Vo (.lst (zs.map V.str))->tyV K "str" (V.str (La "")) H3/\∃ x,V.ref D=V.ref x/\∃ x_2,SqL K H3 x (LX V.str x_2)/\(LX (λx=>x.length) x_2).sum+x_2.length * (La "").length<=16777216/\Q (V.str (O9 (La "") x_2)) H3:=λH3 zs lz oz gz s3 h3 =>
  ⟨rfl,D,rfl,zs,SqL.of h3,by rw[Xlb oz,lz];have:(La "").length=0:=rfl;rw[this];lia,q _ _ (by rw[Zba oz,lz]) (Z1b gz) s3⟩
 refine QR (λhp=>?_) λ_=>fin H2 _ #[2] o1 o2 s2 (by rw[hy,ey])
 refine⟨_,_,rfl,λm _ _=>⟨_,rfl,λy gy=>?_⟩⟩
 walk_at "rd";have hj:ixN ys.length am=Vo am.toNat:=by
  unfold ixN;rw[if_pos bF.1,if_pos (by rw[ly];have:=bF.2;rw[if_neg #[0]]at this;exact this)]
 refine⟨D,ys,_,am.toNat,rfl,rfl,hy,hj,?_⟩
 walk_at "rd";have g3:upd H2 D (.lst (ys.set am.toNat (.str { cps:=#[y] }))) D=_:=Qa;have s3:Qf H (upd H2 D (.lst (ys.set am.toNat (.str { cps:=#[y] })))):=λb o hb=>by
  rw[Qe (λz=>by rw[z,hD]at hb;cases hb)];exact s2 b o hb
 have pF:=fin _ ((U8 n ({ cps:=#[x] }:Str)).set am.toNat { cps:=#[y] }) #[2] (λz hz=>by
  rcases Dg hz with hz | rfl
  .exact o1 z hz
  .rfl) (λz hz=>by
  rcases Dg hz with hz | rfl
  .exact o2 z hz
  .exact g1 y gy) s3 (by rw[g3,ey,map_set])
 obtain⟨f1,_,e,f2⟩:=pF;cases e;exact⟨f1,f2⟩
theorem Q6d{k:Int}(h1 : -(2 ^ 128) < k)(h2:k < 2 ^ 128):Ie k<=2 ^ 20:=by
 unfold Ie
 split
 .exact Us _
 .have hn:k.natAbs < 2 ^ 128:=by lia
  have:k.natAbs.log2 < 128:=by
   rcases Nat.eq_zero_or_pos k.natAbs with h0 | hp
   .rw[h0];decide
   .exact(Nat.log2_lt (Ud hp)).mpr hn
  lia
theorem XJc{i j:Int}(h1 : -(2 ^ 64) < i)(h2:i < 2 ^ 64):IntMulOk i j:=.of_left (Uv h1 h2)
theorem Xkd{i j:Int}(h1 : -(2 ^ 64) < j)(h2:j < 2 ^ 64):IntMulOk i j:=.of_right (Uv h1 h2)
inductive JJ(ai:VC)(vs:List V)(H:Hp)(Q:VK)(E:XK):Prop
 | mk:∀ c:Int,vs=[.int c]->(∀ i:Int,-(10 ^ 30) < i->i < 10 ^ 30->Q (.int i) H)->JJ ai vs H Q E
seal La in
theorem Zib(T:Tx K mg ob)(F:Fun K "_law_great" "_law_great" Xx f fd):Qp P w K mg base CX0 1 f fd ["_law_cell_here"] (JJ K):=by
 refine F.ok Zoa (λvs H Q E h=>?_) (λah A outer s H vs Q E hr h=>?_)
 .walk_at "n"
 obtain⟨c,rfl,q⟩:=h
 exists Zoa
 refine⟨by unfold Q3b;decide,by decide,IntMulOk.of_bits (Q6d #[0] #[0]) (by decide +kernel),by unfold Q3b;decide,XJc #[1] #[1],by decide,by unfold Q3b;decide,q _ #[0] #[0]⟩
inductive XY(ai:VC)(vs:List V)(H:Hp)(Q:VK)(E:XK):Prop
 | mk:∀ c:Int,vs=[.int c]->(∀ i H',-(10 ^ 30) < i->i < 10 ^ 30->Qf H H'->Q (.int i) H')->XY ai vs H Q E
seal La in
theorem J0b(T:Tx K mg ob)(Ja:Cal P w K mg base 1 "_law_mix" ["_law_cell_here","_law_k"] (Za K))(F:Fun K "_law_tall" "_law_tall" QIa f fd):Qp P w K mg base CX0 2 f fd ["_law_cell_here"] (XY K):=by
 refine F.ok J0a (λvs H Q E h=>?_) (λah A outer s H vs Q E hr h=>?_)
 .walk_at "n"
 obtain⟨c,rfl,q⟩:=h
 exists J0a,Qh,Qx,Qu,Qz,Qu,Qz
 refine⟨_,_,rfl,λm _ _=>⟨_,rfl,by unfold Qaa;decide,show 6<=Vs from VJ (Qm #[0]),λp hp=>⟨_,SqL.of Qa,?_⟩⟩⟩
 have hx:∃ x,atI [V.int 4,V.int 16,V.int 64,V.int 256,V.int 1024,V.int 4096] (c % 6)=Vo (V.int x):=by
  have h:c % 6=0\/c % 6=1\/c % 6=2\/c % 6=3\/c % 6=4\/c % 6=5:=by lia
  rcases h with h | h | h | h | h | h <;> rw[h] <;> exact⟨_,rfl⟩
 obtain⟨x,hx⟩:=hx;exact⟨_,hx,_,rfl,XJc #[0] #[0],XJc #[0] #[0],Xkd #[1] #[1],by unfold Qaa;decide,XJc #[1] #[1],q _ _ #[0] #[0] (Qb hp _)⟩
inductive Q1a(ai:VC)(vs:List V)(H:Hp)(Q:VK)(E:XK):Prop
 | mk:∀ c:Int,vs=[.int c]->(∀ v H',GK v->Qf H H'->Q v H')->Q1a ai vs H Q E
seal La in
theorem Xmb(T:Tx K mg ob)(wu:Cal P w K mg base 2 "_law_text" ["_law_cell_here","_law_size"] (ZL K))(Zvd:Cal P w K mg base 2 "_law_tall" ["_law_cell_here"] (XY K))(wv:Cal P w K mg base 1 "_law_great" ["_law_cell_here"] (JJ K))(F:Fun K "_law_key" "_law_key" Z3a f fd):Qp P w K mg base CX0 3 f fd ["_law_cell_here"] (Q1a K):=by
 refine F.ok Xga (λvs H Q E h=>?_) (λah A outer s H vs Q E hr h=>?_)
 .walk_at "n"
 obtain⟨c,rfl,q⟩:=h
 exists Xga,Qj,Q5,Qj,Q5,Qj,Q5,Qu,Qz,Qj,Q5,Qu,Qz
 have tx:∀ (a b:Int) (E:XK),1<=b->b<=40->ZL K [.int a,.int b] H Q E:=λa b E h0 h1=>by
  obtain⟨n,rfl⟩:=Dh (show 0<=b by lia)
  exact⟨_,n,rfl,by lia,λz H' hz gz s=>q _ _ (show GT 1 z from⟨by lia,by lia,gz⟩) s⟩
 refine⟨by unfold Qaa;decide,QR (λ_=>q _ _ (show _/\_ by lia) (Qf.refl _)) λ_=>QR (λ_=>⟨_,rfl,λi H' h0 h1 s=>q _ _ (show _/\_ by lia) s⟩) λ_=>QR (λ_=>⟨_,rfl,λi h0 h1=>q _ _ (show _/\_ by lia) (Qf.refl _)⟩) λ_=>⟨by unfold Qaa;decide,QR (λ_=>⟨by unfold Qaa;decide,tx _ _ _ #[0] #[0]⟩) λ_=>tx _ _ _ #[0] #[0]⟩⟩
inductive JK(ai:VC)(vs:List V)(H:Hp)(Q:VK)(E:XK):Prop
 | mk:∀ c:Int,vs=[.int c]->(∀ v H',GP v->v≠.non->Qf H H'->Q v H')->JK ai vs H Q E
seal La in
theorem Zjb(T:Tx K mg ob)(wu:Cal P w K mg base 2 "_law_text" ["_law_cell_here","_law_size"] (ZL K))(wv:Cal P w K mg base 1 "_law_great" ["_law_cell_here"] (JJ K))(F:Fun K "_law_plain" "_law_plain" XC f fd):Qp P w K mg base CX0 3 f fd ["_law_cell_here"] (JK K):=by
 refine F.ok Zsa (λvs H Q E h=>?_) (λah A outer s H vs Q E hr h=>?_)
 .walk_at "n"
 obtain⟨c,rfl,q⟩:=h
 exists Zsa,Qj,Q5,Qj,Q5,Qj,Q5
 have tx:∀ (a b:Int) (E:XK),0<=b->b<=40->ZL K [.int a,.int b] H Q E:=λa b E h0 h1=>by
  obtain⟨n,rfl⟩:=Dh h0;exact⟨_,n,rfl,by lia,λz H' hz gz s=>q _ _ (show GT 0 z from⟨by lia,by lia,gz⟩) (λz=>by cases z) s⟩
 refine⟨by unfold Qaa;decide,QR (λ_=>q _ _ (show _/\_ by lia) (λz=>by cases z) (Qf.refl _)) λ_=>QR (λ_=>⟨_,rfl,λi h0 h1=>q _ _ (show _/\_ by lia) (λz=>by cases z) (Qf.refl _)⟩) λ_=>⟨by unfold Qaa;decide,QR (λ_=>⟨by unfold Qaa;decide,tx _ _ _ #[0] #[0]⟩) λ_=>tx _ _ _ #[0] #[0]⟩⟩
inductive XZ(ai:VC)(vs:List V)(H:Hp)(Q:VK)(E:XK):Prop
 | mk:∀ v,∀ i:Int,vs=[v,.int i]->GK v->(∀ v' H',GK v'->Qf H H'->Q v' H')->XZ ai vs H Q E
theorem J2b(T:Tx K mg ob)(F:Fun K "_law_near" "_law_near" QBa f fd):Qp P w K mg base CX0 1 f fd ["_law_key_here","_law_way"] (XZ K):=by
 refine F.ok JVa (λvs H Q E h=>?_) (λah A outer s H vs Q E hr h=>?_)
 .walk_at "n"
 obtain⟨v,i,rfl,hv,q⟩:=h
 exists JVa,Qj,Q5,Qj,YM,Qq,Yf,Qu,ZKa,Qj,Q5,Qq,Yf,QV,JId,Qj,Q5,Qj,YM,Qu,Qz,Qj,Q5
 cases v with
 | str z =>
  obtain⟨z1,hz,hg⟩:=id hv;have fM:z.length<=Vs:=VJ (Qm #[0])
  have e1:(La " ").length=1:=rfl;have sl:1 < z.length->GK (.str (Ia z Vp (Vo (-1)))):=λh=>⟨by
   rw[ZSc];unfold Ylc;rw[Ob,Op,<- YTa,HT.Jta];have e:HT.sIx z.length z.length (Vo (-1))=(-1+(z.length:Int)).toNat:=by
    show(if (-1:Int) < 0 then (-1+(z.length:Int)).toNat else min (-1:Int).toNat z.length)=_
    rw[if_pos #[1]]
   rw[e]
   lia,VI (Ik z Vp (Vo (-1))) hz,λc hc=>hg c (by
   rw[X8a]at hc;unfold Ylc at hc;exact mem_of_mem_drop (IQ hc))⟩
  have ta:z.length < 40->GK (.str (z++La " ")):=λh=>⟨by rw[strLen_append];lia,by rw[strLen_append,e1];lia,λc hc=>by
   rw[IN]at hc
   rcases mem_append.mp hc with h | h
   .exact hg c h
   .have:c=32:=by simpa using (show c∈[32] from h)
    rw[this];rfl⟩
  have q0:=q _ _ hv (Qf.refl H);refine QJ (.str z) QS ⟨_,rfl,(if_pos rfl).mpr ?_⟩
  have l3:∀ {p:Prop} [Decidable p],if p then ∃ z_1,V.str z=V.str z_1/\z_1.length<=Vs/\if (1:Int) < z_1.length then ∃ z_2,V.str z=V.str z_2/\z_2.length<=Vs/\Q (V.str (Ia z_2 Vp (Vo (-1)))) H else Q (V.str z) H else Q (V.str z) H:=λ{p} _=>QR (λ_=>⟨z,rfl,fM,QR (λh=>⟨z,rfl,fM,q _ _ (sl #[0]) (Qf.refl _)⟩) λ_=>q0⟩) λ_=>q0
  exact QR (λ_=>⟨z,rfl,fM,QR (λh=>⟨z,rfl,VJ (Qm #[0]),q _ _ (ta #[0]) (Qf.refl _)⟩) λ_=>l3⟩) λ_=>l3
 | int n =>
  have b1:=hv.1;have b2:=hv.2;have q0:=q _ _ hv (Qf.refl H);refine QJ (.int n) Zf ⟨_,rfl,(if_neg Uc).mpr ?_⟩
  have l3:∀ {p:Prop} [Decidable p],if p then Q3b 10 30/\∃ i,V.int n=V.int i/\if 1 - 10 ^ 30 < i then ∃ i,V.int n=V.int i/\Q (V.int (i - 1)) H else Q (V.int n) H else Q (V.int n) H:=λ{p} _=>QR (λ_=>⟨by unfold Q3b;decide,n,rfl,QR (λh=>⟨n,rfl,q _ _ (show _/\_ by lia) (Qf.refl _)⟩) λ_=>q0⟩) λ_=>q0
  exact QR (λ_=>⟨by unfold Q3b;decide,n,rfl,QR (λh=>⟨n,rfl,q _ _ (show _/\_ by lia) (Qf.refl _)⟩) λ_=>l3⟩) λ_=>l3
 | _=>exact hv.elim
inductive X0(ai:VC)(vs:List V)(H:Hp)(Q:VK)(E:XK):Prop
 | mk:∀ c:Int,vs=[.int c]->(∀ r H' xs,Qf H H'->H r=Vp->H' r=Vo (.lst xs)->xs.length=24->(∀ v∈xs,GK v)->Q (.ref r) H')->X0 ai vs H Q E
seal La in
theorem J3b(T:Tx K mg ob)(Yfd:Cal P w K mg base 3 "_law_key" ["_law_cell_here"] (Q1a K))(Ja:Cal P w K mg base 1 "_law_mix" ["_law_cell_here","_law_k"] (Za K))(Zwd:Cal P w K mg base 1 "_law_near" ["_law_key_here","_law_way"] (XZ K))(F:Fun K "_law_pool" "_law_pool" QKa f fd):Qp P w K mg base CX0 4 f fd ["_law_cell_here"] (X0 K):=by
 refine F.ok J2a (λvs H Q E h=>?_) (λah A outer s H vs Q E hr h=>?_)
 .walk_at "n"
 obtain⟨c,rfl,q⟩:=h
 exists J2a,Q6,Qu,Qz,Qu,Qz
 refine⟨Us _,λff bZ=>⟨by decide,by decide,?_⟩⟩
 have s0:=Qb bZ (.lst []);have bf:upd H ff (.lst []) ff=Vo (.lst []):=Qa;generalize upd H ff (.lst [])=H0 at s0 bf ⊢;refine ZH (λi σ' H'=>∃ zs x2 x3,σ'=[Vo (.int c),Vo (.ref ff),x2,x3]/\Qf H H'/\H' ff=Vo (.lst zs)/\zs.length=2 * i/\i<=12/\∀ v∈zs,GK v) ⟨[],_,_,rfl,s0,bf,rfl,by lia,λv h=>nomatch h⟩ ?_ ?_
 .rintro i σ' H' hi ⟨zs,x2,x3,rfl,s',hf,lz,li,hz⟩
  refine stN λN hN=>?_
  walk_at "rd";refine⟨_,_,rfl,λm _ _=>⟨_,rfl,λv H2 hv s2=>?_⟩⟩
  walk_at "rd";refine⟨.inl ⟨rfl,_,SqL.of (s2 _ _ hf)⟩,zs,s2 _ _ hf,Qm #[0],.inl ⟨rfl,_,SqL.of Qa⟩,v,_,rfl,hv,λv' H3 g9 s3=>?_⟩
  have g3:=s3 _ _ (Qa (H:=H2) (o:=.lst (zs++[v])));refine⟨_,g3,by rw[Oh];exact Qm (by simp;lia),hN _ _ ⟨zs++[v]++[v'],_,_,rfl,QD ?_ bZ,Qa,by simp;lia,by lia,λu hu=>?_⟩⟩
  .exact λb o hb=>s3 _ _ (by rw[Qe (λz=>by rw[z,bZ]at hb;cases hb)];exact s2 _ _ (s' _ _ hb))
  .simp only[IS,Lp,Lq,or_false]at hu
   rcases hu with (hu | rfl) | rfl
   .exact hz u hu
   .exact hv
   .exact g9
 .rintro σ' H' ⟨zs,x2,x3,rfl,s',hf,lz,li,hz⟩
  walk_at "rd";exact q ff H' zs s' bZ hf (by simpa using lz) hz
def ZFa:V->Str
 | .int x=>{ cps:=#[(atI (La "abcdefghijklmnopqrstuvwxyz").cps.toList x).getD 97] }
 | _=>{ cps:=#[97] }
theorem Xob(x:Int):ZFa (.int x)={ cps:=#[(atI (La "abcdefghijklmnopqrstuvwxyz").cps.toList x).getD 97] }:=rfl
inductive Y8(ai:VC)(vs:List V)(H:Hp)(Q:VK)(E:XK):Prop
 | mk:∀ c:Int,∀ n:Nat,vs=[.int c,.int n]->n<=8->(∀ r H' zs,Qf H H'->H r=Vp->H' r=Vo (.lst (LX V.str zs))->zs.length=n->(∀ z∈zs,GW z)->zs.Nodup->Q (.ref r) H')->Y8 ai vs H Q E
theorem Jha:(La "abcdefghijklmnopqrstuvwxyz").cps.toList.all XLa=true/\(La "abcdefghijklmnopqrstuvwxyz").cps.toList.length=26:=by decide +kernel
def Qzc:V->Nat
 | .int x=>(atI (La "abcdefghijklmnopqrstuvwxyz").cps.toList x).getD 97
 | _=>97
theorem XKc(v:V):(ZFa v).cps.toList=[Qzc v]:=by cases v <;> rfl
theorem XLc:∀ x y:Fin 26,Qzc (.int (x.val:Int))=Qzc (.int (y.val:Int))->x=y:=by decide +kernel
theorem XMc(us:List V):(O9 (La "") (us.map ZFa)).cps.toList=us.map Qzc:=by
 rw[Yqa]
 induction us with
 | nil=>rfl
 | cons v us ih=>rw[UI,Dw,ih,XKc];rfl
def Sg(c am b:Int)(i:Nat)(z:Str):Prop:=(c % 3 < 2->z.cps.toList[am.toNat]?=Vo (Qzc (.int ((b+(0+(i:Int))) % 26))))/\(¬ c % 3 < 2->(z.length:Int)=1+(am+(0+(i:Int))) % 12)
theorem Sg.ne{b:Int}{y:Str}(hi:i < 8)(hj:j < 8)(n:i≠j)(h1:Sg c am b i z)(h2:Sg c am b j y):z≠y:=λe=>by
 subst e
 by_cases h:c % 3 < 2
 .have a:=h1.1 h
  rw[h2.1 h]at a;have a:=XLc ⟨((b+(0+(j:Int))) % 26).toNat,by lia⟩ ⟨((b+(0+(i:Int))) % 26).toNat,by lia⟩ (by
   have e1:((((b+(0+(j:Int))) % 26).toNat:Nat):Int)=(b+(0+(j:Int))) % 26:=by lia
   have e2:((((b+(0+(i:Int))) % 26).toNat:Nat):Int)=(b+(0+(i:Int))) % 26:=by lia
   show Qzc (.int ((((b+(0+(j:Int))) % 26).toNat:Nat):Int))=Qzc (.int ((((b+(0+(i:Int))) % 26).toNat:Nat):Int));rw[e1,e2];exact Vr a)
  have a:((b+(0+(j:Int))) % 26).toNat=((b+(0+(i:Int))) % 26).toNat:=congrArg Fin.val a
  lia
 .have a:=h1.2 h
  have b:=h2.2 h
  lia
inductive NmI(H:Hp)(ff:Vh)(c n am:Int)(i:Nat)(σ':St)(H':Hp):Prop
 | mk:∀ (zs:List Str) (x5 x6 x7:Option V),σ'=[Vo (.int c),Vo (.int n),Vo (.str (La "abcdefghijklmnopqrstuvwxyz")),Vo (.int am),Vo (.ref ff),x5,x6,x7]->Qf H H'->H' ff=Vo (.lst (LX V.str zs))->zs.length=i->i<=n->(∀ z∈zs,GW z)->(∀ (j:Nat) z,zs[j]?=Vo z->Sg c am (XHc c (10+(0+(am.toNat:Int))) % 26) j z)->NmI H ff c n am i σ' H'
theorem Zkb(T:Tx K mg ob)(Ja:Cal P w K mg base 1 "_law_mix" ["_law_cell_here","_law_k"] (Za K))(F:Fun K "_law_names" "_law_names" XB f fd):Qp P w K mg base CX0 2 f fd ["_law_cell_here","_law_many"] (Y8 K):=by
 refine F.ok Zra (λvs H Q E h=>?_) (λah A outer s H vs Q E hr h=>?_)
 .walk_at "n"
 obtain⟨c,n,rfl,hn,q⟩:=h
 exists 1,Zra,Q6,X5a,lcJ 6,Qu,Qz,Qu,Qz,Qu,Qz,Qj,Q5,Qu,Qz,Qu,Qz,Qu,Qz,Qj,YM,XGb,Qu,Qz,Qh,Qx,JJc,Yrb,Qu,Qz,Qu,Qz,Q3,Zk,QV,Zd,Qh,J0c
 refine XOa λR0 kJ=>?_
 walk_at "rd";refine⟨_,_,rfl,λm0 _ _=>⟨_,rfl,Us _,λff bZ=>?_⟩⟩
 have bF:0<=m0 % 12/\m0 % 12 < 12:=by lia
 generalize m0 % 12=am at bF ⊢;have s0:=Qb bZ (.lst []);have bf:upd H ff (.lst []) ff=Vo (.lst []):=Qa;generalize upd H ff (.lst [])=H0 at s0 bf ⊢;refine kJ _ _ (ZZ λR1 iL=>?_)
 clear kJ;walk_at "rd";refine⟨by lia,by lia,ZH (λi σ' H'=>NmI H ff c n am i σ' H') ⟨[],_,_,_,rfl,s0,bf,rfl,by lia,(λv h=>nomatch h),λj z h=>by simp at h⟩ ?_ ?_⟩
 .rintro i σ' H' hi ⟨zs,x5,x6,x7,rfl,s',hf,lz,li,hz,hg⟩
  have hi8:i < n:=by lia
  refine QQd λR hR=>?_
  have rest:∀ (D:Vh) (ys:List V) (k:Int) H3,Qf H H3->H3 ff=Vo (.lst (LX V.str zs))->H3 D=Vo (.lst ys)->ys.length=12->(∀ y∈ys,∃ x:Int,y=.int x/\0<=x/\x < 26)->1<=k->k<=12->(c % 3 < 2->ys[am.toNat]?=Vo (.int ((XHc c (10+(0+(am.toNat:Int))) % 26+(0+(i:Int))) % 26))/\am < k)->(¬ c % 3 < 2->k=1+(am+(0+(i:Int))) % 12)->R [Vo (.int c),Vo (.int n),Vo (.str (La "abcdefghijklmnopqrstuvwxyz")),Vo (.int am),Vo (.ref ff),Vo (.int (0+(i:Int))),Vo (.ref D),Vo (.int k)] H3:=λD ys k H3 s3 kE hD ly hy k1 k2 g1 g2=>by
   refine hR _ _ ?_
   clear hR;walk_at "rd";refine⟨.inl ⟨rfl,_,SqL.of kE⟩,rfl,ys,SqL.of hD,λp hp=>?_⟩
   have ec:(ZT ys Vp (Vo k)).length=k.toNat:=by
    obtain⟨k,rfl⟩:=Dh (show 0<=k by lia)
    unfold ZT;rw[Ob,Op,HT.Jta,HT.Jua]
    lia
   have eu:∀ {v:V},am < k->ys[am.toNat]?=Vo v->(ZT ys Vp (Vo k))[am.toNat]?=Vo v:=λ{v} h e=>by
    obtain⟨k,rfl⟩:=Dh (show 0<=k by lia)
    unfold ZT;rw[HT.Jta,HT.Jua,getElem?_take_of_lt #[0]]
    exact e
   have hc:∀ y∈ZT ys Vp (Vo k),∃ x:Int,y=.int x/\0<=x/\x < 26:=λy h=>hy y (mem_of_mem_drop (IQ h))
   generalize ZT ys Vp (Vo k)=us at ec hc eu ⊢;have s4:=Qb hp (.lst us);have g4:upd H3 p (.lst us) p=Vo (.lst us):=Qa;generalize upd H3 p (.lst us)=H4 at s4 g4 ⊢;refine⟨⟨_,SqL.of g4⟩,YIb us (λ_=>true) (λv=>V.str (ZFa v)) (SqL.of g4) (QG #[0]) (λi x H2 R _ _ r=>r) (λi x H2 R hi _ s r=>?_) λD2 H5 cE s5 hd=>?_⟩
   .obtain⟨x,rfl,x0,x1⟩:=hc x (Og hi)
    walk_at "rd";obtain⟨y,hy⟩:=Jj (l:=(La "abcdefghijklmnopqrstuvwxyz").cps.toList) (k:=x) x0 (by rw[Jha.2];lia)
    refine⟨by decide,y,hy,?_⟩
    have:ZFa (.int x)={ cps:=#[y] }:=by rw[Xob,hy];rfl
    rw[this]at r;exact r
   .have o1:∀ z∈us.map ZFa,z.length=1:=λz hz=>by obtain⟨v,_,rfl⟩:=mem_map.mp hz;cases v <;> rfl
    have o2:∀ z∈us.map ZFa,∀ c∈z.cps.toList,XLa c=true:=λz hz c ss=>by
     obtain⟨v,hv,rfl⟩:=mem_map.mp hz;obtain⟨x,rfl,x0,x1⟩:=hc v hv;obtain⟨y,hy⟩:=Jj (l:=(La "abcdefghijklmnopqrstuvwxyz").cps.toList) (k:=x) x0 (by rw[Jha.2];lia)
     rw[Xob,hy]at ss;have:c=y:=by simpa using ss
     rw[this];exact all_eq_true.mp Jha.1 y (Jn hy)
    have gw:GW (O9 (La "") (us.map ZFa)):=⟨by rw[Zba o1,UK];lia,by rw[Zba o1,UK];lia,Z1b o2⟩
    refine⟨D2,rfl,us.map ZFa,SqL.of (by rw[hd,filter_eq_self.mpr (λ_ _=>rfl),Di];rfl),by rw[Xlb o1,UK];have:(La "").length=0:=rfl;rw[this];lia,_,s5 _ _ (s4 _ _ kE),by rw[UK];exact Qm #[0],zs++[_],_,_,_,rfl,QD (s3.trans (s4.trans s5)) bZ,by rw[Qa,Il];rfl,by simp;lia,by lia,(λz io=>?_),λj z hj=>?_⟩
    .rcases mem_append.mp io with h | h
     .exact hz z h
     .rw[mem_singleton.mp h];exact gw
    .by_cases hjl:j < zs.length
     .rw[Oe hjl]at hj
      exact hg j z hj
     .have dB:j=i:=by have:=(List.getElem?_eq_some_iff.mp hj).1;simp at this;lia
      subst dB;rw[Od #[0],show j - zs.length=0 by lia]at hj
      have hj:O9 (La "") (us.map ZFa)=z:=by simpa using hj
      subst hj;refine⟨λh3=>?_,λh3=>?_⟩
      .obtain⟨a1,a2⟩:=g1 h3
       rw[XMc,Of,eu a2 a1]
       rfl
      .rw[Zba o1,UK,ec,<- g2 h3]
       lia
  clear hR;walk_at "rd";refine⟨by decide,by decide,ZHb (λj v=>v=.int (XHc c (10+(0+(j:Int))) % 26)) (VJ (Qm #[0])) (λj H2 R hj s2 hR=>?_) λD H2 ys hD s2 hy ly py=>?_⟩
  .walk_at "rd"
   exact⟨_,_,rfl,λm hm _=>⟨m,rfl,hR _ _ (by rw[hm.2]) (Qf.refl _)⟩⟩
  have mG:=Jjc (P:=λy=>∃ x:Int,y=.int x/\0<=x/\x < 26) (ys:=ys) λj y hy=>⟨_,py j y hy,by lia,by lia⟩
  have su:=s'.trans s2;have sv:=s2 _ _ hf;have nD:ff≠D:=λz=>by rw[<- z,hf]at hD;cases hD
  have put:∀ (k:Int),c % 3 < 2->am < k->k<=12->∃ x,SqL K H2 D x/\∃ x_1,atI x am=Vo x_1/\∃ i_1,x_1=V.int i_1/\YCd (Ju 6) (Ju 3) Zgd (V.int ((i_1+(0+(i:Int))) % 26)) [Vo (.int c),Vo (.int n),Vo (.str (La "abcdefghijklmnopqrstuvwxyz")),Vo (.int am),Vo (.ref ff),Vo (.int (0+(i:Int))),Vo (.ref D),Vo (.int k)] H2 R:=λk h3 k1 k2=>by
   have ha:ys[am.toNat]?=Vo (ys[am.toNat]'#[0]):=IA _
   have ex:=py _ _ ha;generalize hx:XHc c (10+(0+(am.toNat:Int))) % 26=x at ex;refine⟨ys,SqL.of hy,V.int x,?_,x,rfl,?_⟩
   .have:=QQ ha
    rw[show((am.toNat:Nat):Int)=am by lia]at this
    rw[this,ex]
   walk_at "rd";have hj:ixN ys.length am=Vo am.toNat:=by
    unfold ixN;rw[if_pos bF.1,if_pos #[0]]
   refine⟨D,ys,_,am.toNat,rfl,rfl,hy,hj,?_⟩
   refine rest D _ k _ (QD su (none_of s' hD)) (by rw[Qe nD];exact sv) Qa (by simp;lia) (λy h=>?_) #[0] k2 (λ_=>⟨by rw[hx];exact getElem?_set_self #[0],k1⟩) λh=>absurd h3 h
   rcases Dg h with h | rfl
   .exact mG y h
   .exact⟨_,rfl,by lia,by lia⟩
  have mH:∀ a:Int,0<=a % (12 - am)/\a % (12 - am) < 12 - am:=λa=>⟨Int.emod_nonneg _ #[0],Int.emod_lt_of_pos _ #[0]⟩
  refine⟨by unfold Qaa;decide,by lia,QR (λh1=>⟨_,_,rfl,λm _ _=>⟨_,rfl,by lia,QR (λ_=>⟨D,rfl,put _ #[0] (by have:=mH m;lia) (by have:=mH m;lia)⟩) λh=>?_⟩⟩) λ_=>QR (λh3=>⟨D,rfl,put _ h3 (by have:=mH (c / 3);lia) (by have:=mH (c / 3);lia)⟩) λh3=>?_⟩
  .lia
  .exact rest D ys _ H2 su sv hy #[0] mG #[0] #[0] (λh=>absurd h h3) λ_=>rfl
 .rintro σ' H' ⟨zs,x5,x6,x7,rfl,s',hf,lz,li,hz,hg⟩
  refine iL _ _ ?_
  walk_at "rd";have lz:zs.length=n:=by simpa using lz
  refine q ff H' zs s' bZ hf lz hz ?_
  unfold List.Nodup;rw[pairwise_iff_getElem];exact λi j hi hj cR=>Sg.ne #[0] #[0] #[0] (hg i _ (IA hi)) (hg j _ (IA hj))
abbrev Cl:=List (Str×Dt)
def Yn:Dt:=.v .non
def ltS(a b:Str):Prop:=Pl.ltV (.str a) (.str b)=true
theorem ltS.irr(a:Str):¬ ltS a a:=λh=>by
 have h:Pl.ltV (.str a) (.str a)=true:=h;rw[Pl.Qbb]at h;exact IP _ (of_decide_eq_true h)
def cD(cs:Cl):List Dt:=cs.map λp=>.t [.v (.str p.1),p.2]
def rD(r:V×Cl):Dt:=.t [.v r.1,.t (cD r.2)]
theorem Zqc(r:V×Cl):Qo (rD r)=r.1:=rfl
def NdC(ds:Cl):Prop:=(ds.map LW).Nodup
def QX(cs:Cl)(c:Str):Dt:=((cs.find? λp=>decide (p.1=c)).map Prod.snd).getD Yn
abbrev DkV(H:Hp)(ds:Cl)(kvs:List (Key×V)):Prop:=Vm (λ(p:Str×Dt) (kv:Key×V)=>kv.1=Ve p.1/\TD H 3 p.2 kv.2) ds kvs
theorem Zh(nd:NdC ds){c:Str}{v:Dt}(h:(c,v)∈ds):QX ds c=v:=by
 unfold QX;rw[JQ LW nd h]
 rfl
theorem Zca{c:Str}(h:∀ v,(c,v)∉ds):QX ds c=Yn:=by
 unfold QX;rw[JLa LW λx hx e=>h x.2 (by rw[<- e];exact hx)]
 rfl
theorem DkV.len(h:DkV H ds kvs):kvs.length=ds.length:=(Vn h).symm
theorem DkV.sameT(h:DkV H ds kvs)(s:QO H H'):DkV H' ds kvs:=Paired.mapP h λ_ _ z=>⟨z.1,TD.sameT s 3 z.2⟩
theorem DkV.keys(h:DkV H ds kvs):kvs.map (λp=>kV p.1)=LX V.str (ds.map LW):=by
 induction h with
 | nil=>rfl
 | cons a _ ih=>rw[UI,ih,a.1];rfl
theorem DkV.nd(h:DkV H ds kvs)(nd:NdC ds):(kvs.map LW).Nodup:=by
 have e:kvs.map LW=(ds.map LW).map Ve:=by
  clear nd
  induction h with
  | nil=>rfl
  | cons a _ ih=>rw[UI,ih,a.1];rfl
 rw[e];exact Dj (S:=(·≠·)) (Ve:Str->Key) (λa b h e=>h (Sum.inr.inj e)) nd
theorem XNc{n:Nat}{d:Dt}(h:TD H n d v):v=.non↔d=Yn:=by
 cases d with
 | v x =>
  obtain⟨_,rfl⟩:=h.flat;exact⟨λe=>by rw[e];rfl,λe=>by injection e⟩
 | t xs =>
  obtain⟨m,a,ys,_,rfl,_⟩:=h.tup;exact⟨λe=>(nomatch e),λe=>(nomatch e)⟩
 | l xs=>cases h.h
theorem DkV.get(h:DkV H ds kvs)(c:Str):((∀ v,(c,v)∉ds)/\Q7 kvs (.inr c)=Vp)\/∃ w,Q7 kvs (.inr c)=Vo w/\TD H 3 (QX ds c) w:=by
 induction h with
 | nil=>exact .inl ⟨(λv h=>nomatch h),rfl⟩
 | @cons p kv ds kvs a _ ih =>
  obtain⟨a1,a2⟩:=a
  by_cases e:p.1=c
  .refine .inr ⟨kv.2,by rw[Qia (by rw[a1,e])],?_⟩
   unfold QX;rw[find?_cons_of_pos (by simpa using e)]
   exact a2
  .have e2:Q7 (kv::kvs) (.inr c)=Q7 kvs (.inr c):=Qja (by rw[a1];simpa using e)
   have e3:QX (p::ds) c=QX ds c:=by unfold QX;rw[find?_cons_of_neg (by simpa using e)]
   rw[e2,e3]
   rcases ih with ⟨h1,h2⟩ | h
   .refine .inl ⟨λv hv=>?_,h2⟩
    rcases mem_cons.mp hv with z | z
    .exact e (by rw[<- z])
    .exact h1 v z
   .exact .inr h
theorem DkV.getD(h:DkV H ds kvs)(c:Str):TD H 3 (QX ds c) ((Q7 kvs (.inr c)).getD .non):=by
 rcases h.get c with ⟨h1,h2⟩ | ⟨w,h1,h2⟩
 .rw[h2,Zca h1];exact TD.ofV rfl
 .rw[h1];exact h2
structure Jb(ds cs:Cl):Prop where
 up:(cs.map LW).Pairwise ltS
 mem:∀ c v,(c,v)∈cs↔(c,v)∈ds/\v≠Yn
theorem Jb.nd(h:Jb ds cs):NdC cs:=by
 refine Db (λ{a b} hab=>?_) h.up
 rintro rfl;exact ltS.irr _ hab
theorem Jb.get(nd:NdC ds)(h:Jb ds cs)(c:Str):QX cs c=QX ds c:=by
 by_cases e:∃ v,(c,v)∈ds
 .obtain⟨v,hv⟩:=e
  rw[Zh nd hv]
  by_cases n:v=Yn
  .subst n
   refine Zca λv' h'=>?_
   obtain⟨h1,h2⟩:=(h.mem c v').mp h';exact h2 ((Zh nd h1).symm.trans (Zh nd hv))
  .exact Zh h.nd ((h.mem c v).mpr ⟨hv,n⟩)
 .have e:∀ v,(c,v)∉ds:=λv hv=>e ⟨v,hv⟩
  rw[Zca e];exact Zca λv hv=>e v ((h.mem c v).mp hv).1
def ZW(ds:Cl)(c:Str)(v:Dt):Cl:=if ds.any (λp=>decide (p.1=c)) then ds.map (λp=>if p.1=c then (p.1,v) else p) else ds++[(c,v)]
theorem DkV.put(h:DkV H ds kvs){c:Str}{d:Dt}{v:V}(t:TD H 3 d v):DkV H (ZW ds c d) (ZC kvs (.inr c) v):=by
 have e:(kvs.any λkv=>decide (kv.1=Ve c))=ds.any λp=>decide (p.1=c):=by
  induction h with
  | nil=>rfl
  | cons a _ ih=>rw[Ow,Ow,ih,a.1];simp
 unfold ZW ZC;rw[e]
 split
 .clear e
  rename_i e;clear e
  induction h with
  | nil=>exact .nil
  | @cons p kv ds kvs a _ ih =>
   rw[UI,UI];refine .cons ?_ ih
   by_cases e:p.1=c
   .rw[if_pos e,if_pos (by rw[a.1,e])];exact⟨a.1,t⟩
   .rw[if_neg e,if_neg (by rw[a.1];simpa using e)];exact a
 .exact Jv h (.cons ⟨rfl,t⟩ .nil)
theorem JX{c c':Str}{v v':Dt}:(c',v')∈ZW ds c v↔(c'=c/\v'=v)\/(c'≠c/\(c',v')∈ds):=by
 unfold ZW
 split
 .rename_i h
  obtain⟨q,hq,eq⟩:=any_eq_true.mp h;have eq:=of_decide_eq_true eq;rw[mem_map]
  constructor
  .rintro⟨p,hp,e⟩
   split at e
   .rename_i ec
    cases e;exact .inl ⟨ec,rfl⟩
   .rename_i ec
    subst e;exact .inr ⟨ec,hp⟩
  .rintro(⟨rfl,rfl⟩ | ⟨n,hm⟩)
   .exact⟨q,hq,by rw[if_pos eq,eq]⟩
   .exact⟨_,hm,by rw[if_neg n]⟩
 .rename_i h
  have no:∀ p∈ds,p.1≠c:=λp hp e=>h (any_eq_true.mpr ⟨p,hp,decide_eq_true e⟩)
  rw[IS,Dp]
  constructor
  .rintro(hm | e)
   .exact .inr ⟨no _ hm,hm⟩
   .cases e;exact .inl ⟨rfl,rfl⟩
  .rintro(⟨rfl,rfl⟩ | ⟨n,hm⟩)
   .exact .inr rfl
   .exact .inl hm
theorem XRa(nd:NdC ds)(c:Str)(v:Dt):NdC (ZW ds c v):=by
 unfold NdC ZW
 split
 .rw[Di]
  have:(LW ∘ λp:Str×Dt=>if p.1=c then (p.1,v) else p)=LW:=by
   funext p
   show(if p.1=c then (p.1,v) else p).1=p.1
   split <;> rfl
  rw[this];exact nd
 .rename_i h
  rw[Il,L3];refine⟨nd,by simp,λa ha b hb=>?_⟩
  have hb:b=c:=by simpa using hb
  subst hb;intro z;subst z;obtain⟨q,hq,e⟩:=mem_map.mp ha;exact h (any_eq_true.mpr ⟨q,hq,decide_eq_true e⟩)
theorem XOc(ds:Cl)(c:Str)(v:Dt):(ZW ds c v).length<=ds.length+1:=by
 unfold ZW
 split
 .simp
 .simp
abbrev Bk:=List (Key×Cl×Vh)
def kvB(B:Bk):List (Key×V):=B.map λx=>(x.1,V.ref x.2.2)
structure Fit(B:Bk)(R:List (V×Cl)):Prop where
 up:R.Pairwise λa b=>ltK a.1 b.1
 pm:(R.map LW).Perm (B.map λx=>kV x.1)
 cs:∀ r∈R,∀ x∈B,r.1=kV x.1->Jb x.2.1 r.2
theorem Fit.nil:Fit [] []:=⟨.nil,.nil,λr h=>nomatch h⟩
theorem Fit.len(h:Fit B R):R.length=B.length:=by
 have:=h.pm.length_eq
 simpa using this
def Jo(B:Bk)(k:Key)(ds:Cl)(a:Vh):Bk:=if B.any (λx=>decide (x.1=k)) then B.map (λx=>if x.1=k then (x.1,ds,a) else x) else B++[(k,ds,a)]
theorem J4b(B:Bk)(k:Key)(ds:Cl)(a:Vh):ZC (kvB B) k (.ref a)=kvB (Jo B k ds a):=by
 unfold ZC Jo kvB;rw[any_map];have:((λkv:Key×V=>decide (kv.1=k)) ∘ λx:Key×Cl×Vh=>((x.1,V.ref x.2.2):Key×V))=λx=>decide (x.1=k):=by funext x;rfl
 rw[this]
 split
 .rw[Di,Di]
  refine Io λp _=>?_
  by_cases e:p.1=k
  .simp[e]
  .simp[e]
 .rw[Il];rfl
theorem JY{k:Key}{x:Key×Cl×Vh}(h:x∈Jo B k ds a):x=(k,ds,a)\/(x.1≠k/\x∈B):=by
 unfold Jo at h
 split at h
 .obtain⟨q,hq,e⟩:=mem_map.mp h
  split at e
  .rename_i ek;subst e;exact .inl (by rw[ek])
  .rename_i ek;subst e;exact .inr ⟨ek,hq⟩
 .rename_i hn
  rcases mem_append.mp h with h | h
  .exact .inr ⟨λe=>hn (any_eq_true.mpr ⟨x,h,decide_eq_true e⟩),h⟩
  .exact .inl (by simpa using h)
theorem Z2b(B:Bk)(k:Key)(ds:Cl)(a:Vh):(Jo B k ds a).map (·.1)=if B.any (λx=>decide (x.1=k)) then B.map (·.1) else B.map (·.1)++[k]:=by
 unfold Jo
 split
 .rw[Di]
  refine Io λx _=>?_
  show(if x.1=k then (x.1,ds,a) else x).1=x.1
  split <;> rfl
 .rw[Il];rfl
theorem Zrc{k:Key}(nd:(B.map (·.1)).Nodup):((Jo B k ds a).map (·.1)).Nodup:=by
 rw[Z2b]
 split
 .exact nd
 .rename_i hn
  rw[L3];refine⟨nd,by simp,λx hx y hy=>?_⟩
  have hy:y=k:=by simpa using hy
  subst hy;intro z;subst z;obtain⟨q,hq,e⟩:=mem_map.mp hx;exact hn (any_eq_true.mpr ⟨q,hq,decide_eq_true e⟩)
theorem YVa(B:Bk):B.map (λx=>kV x.1)=(B.map (·.1)).map kV:=by rw[Di];rfl
theorem Z3b{k k':Key}(h:kV k=kV k'):k=k':=by
 cases k <;> cases k' <;> cases h <;> rfl
theorem Fit.put(h:Fit B R){k:Key}{ds cs:Cl}{a:Vh}(hc:Jb ds cs){aD:List Dt}(p:Y0 ltK (kV k) (rD (kV k,cs)) (R.map rD) aD):∃ R',aD=R'.map rD/\Fit (Jo B k ds a) R':=by
 obtain⟨X,Y,e,e2,h1,h2⟩:=p;have fin:∀ R1 R2:List (V×Cl),X=R1.map rD->Y=R2.map rD->(∀ r∈R1++R2,r∈R)->(R1++R2).Pairwise (λa b=>ltK a.1 b.1)->((R1++(kV k,cs)::R2).map LW).Perm ((Jo B k ds a).map λx=>kV x.1)->∃ R',aD=R'.map rD/\Fit (Jo B k ds a) R':=λR1 R2 eX eY sub up pm=>by
  have g1:∀ r∈R1,ltK r.1 (kV k):=λr hr=>h1 (rD r) (by rw[eX];exact mem_map.mpr ⟨r,hr,rfl⟩)
  have g2:∀ r∈R2,ltK (kV k) r.1:=λr hr=>h2 (rD r) (by rw[eY];exact mem_map.mpr ⟨r,hr,rfl⟩)
  refine⟨R1++(kV k,cs)::R2,by rw[e,eX,eY,Il];rfl,?_,pm,λr hr x hx ex=>?_⟩
  .rw[pairwise_append]at up ⊢
   refine⟨up.1,pairwise_cons.mpr ⟨g2,up.2.1⟩,λa ha b hb=>?_⟩
   rcases mem_cons.mp hb with rfl | hb
   .exact g1 a ha
   .exact up.2.2 a ha b hb
  .have mi:r∈R1++R2->Jb x.2.1 r.2:=λhr=>by
    rcases JY hx with e | ⟨_,hB⟩
    .subst e
     exfalso
     have ex:r.1=kV k:=ex
     rcases mem_append.mp hr with hr | hr
     .have:=g1 r hr;rw[ex]at this;exact ltK.irr _ this
     .have:=g2 r hr;rw[ex]at this;exact ltK.irr _ this
    .exact h.cs r (sub r hr) x hB ex
   rcases mem_append.mp hr with hr | hr
   .exact mi (mem_append.mpr (.inl hr))
   .rcases mem_cons.mp hr with rfl | hr
    .rcases JY hx with e | ⟨n,_⟩
     .subst e;exact hc
     .exact absurd (Z3b ex).symm n
    .exact mi (mem_append.mpr (.inr hr))
 have gR:(∃ x∈B,x.1=k)↔∃ r∈R,r.1=kV k:=by
  constructor
  .rintro⟨x,hx,rfl⟩
   have:kV x.1∈R.map LW:=h.pm.mem_iff.mpr (mem_map.mpr ⟨x,hx,rfl⟩);obtain⟨r,hr,e⟩:=mem_map.mp this;exact⟨r,hr,e⟩
  .rintro⟨r,hr,er⟩
   have:r.1∈B.map (λx=>kV x.1):=h.pm.mem_iff.mp (mem_map.mpr ⟨r,hr,rfl⟩)
   obtain⟨x,hx,e⟩:=mem_map.mp this;exact⟨x,hx,Z3b (e.trans er)⟩
 have pk:((Jo B k ds a).map λx=>kV x.1)=if B.any (λx=>decide (x.1=k)) then B.map (λx=>kV x.1) else B.map (λx=>kV x.1)++[kV k]:=by
  rw[YVa,Z2b]
  split
  .rw[YVa]
  .rw[Il,YVa];rfl
 rcases e2 with e2 | ⟨o,e2,ho⟩
 .obtain⟨R1,R2,eR,eX,eY⟩:=map_eq_append_iff.mp e2
  subst eR;refine fin R1 R2 eX.symm eY.symm (λr hr=>hr) h.up ?_
  rw[pk,if_neg (λz=>by
   obtain⟨x,hx,ex⟩:=any_eq_true.mp z;obtain⟨r,hr,er⟩:=gR.mp ⟨x,hx,of_decide_eq_true ex⟩
   rcases mem_append.mp hr with hr | hr
   .have:=h1 (rD r) (by rw[<- eX];exact mem_map.mpr ⟨r,hr,rfl⟩);rw[Zqc,er]at this;exact ltK.irr _ this
   .have:=h2 (rD r) (by rw[<- eY];exact mem_map.mpr ⟨r,hr,rfl⟩);rw[Zqc,er]at this;exact ltK.irr _ this)]
  rw[Il,UI];have pm:=h.pm;rw[Il]at pm;exact perm_middle.trans ((List.Perm.cons _ pm).trans (perm_append_singleton _ _).symm)
 .obtain⟨R1,ww,eR,eX,eY⟩:=map_eq_append_iff.mp e2
  obtain⟨r0,R2,pG,pH,pI⟩:=map_eq_cons_iff.mp eY;subst eR pG;have k0:r0.1=kV k:=by rw[<- pH]at ho;exact ho
  have up:=h.up;refine fin R1 R2 eX.symm pI.symm (λr hr=>?_) (up.sublist (LS (LU _ _) _)) ?_
  .rcases mem_append.mp hr with hr | hr
   .exact mem_append.mpr (.inl hr)
   .exact mem_append.mpr (.inr (VM _ hr))
  .rw[pk,if_pos (any_eq_true.mpr (by
    obtain⟨x,hx,ex⟩:=gR.mpr ⟨r0,by simp,k0⟩
    exact⟨x,hx,decide_eq_true ex⟩))]
   have pm:=h.pm;rw[Il,UI,k0]at pm;rw[Il,UI];exact pm
def J9(c:Str)(B:Bk):Bk:=B.map λx=>(x.1,x.2.1.filter (λp=>decide (p.1≠c)),x.2.2)
theorem Fit.drop{R':List (V×Cl)}(h:Fit B R){c:Str}(p:Vm (λr r'=>r'.1=r.1/\Jb (ZW r.2 c Yn) r'.2) R R'):Fit (J9 c B) R':=by
 have keys:∀ {R R':List (V×Cl)},Vm (λr r'=>r'.1=r.1/\Jb (ZW r.2 c Yn) r'.2) R R'->R'.map LW=R.map LW:=λ{R R'} p=>by
  induction p with
  | nil=>rfl
  | cons a _ ih=>rw[UI,UI,ih,a.1]
 have bk:(J9 c B).map (λx=>kV x.1)=B.map λx=>kV x.1:=by unfold J9;rw[Di];rfl
 refine⟨?_,by rw[keys p,bk];exact h.pm,λr' aX x' aF ex=>?_⟩
 .have u:=h.up
  have:(R'.map LW).Pairwise ltK:=by rw[keys p,Da];exact u
  rwa [Da]at this
 .obtain⟨i,hi,ei⟩:=mem_iff_getElem.mp aX
  have l:=Vn p;obtain⟨e1,e2⟩:=Ql p (IA (show i < R.length by lia)) (List.getElem?_eq_some_iff.mpr ⟨hi,ei⟩)
  obtain⟨x,hx,rfl⟩:=mem_map.mp aF;have hc:=h.cs _ (IC (show i < R.length by lia)) x hx (e1.symm.trans ex)
  refine⟨e2.up,λc' v=>?_⟩
  show _↔(c',v)∈x.2.1.filter (λp=>decide (p.1≠c))/\v≠Yn
  rw[e2.mem,JX,Dq,hc.mem]
  constructor
  .rintro⟨⟨rfl,rfl⟩ | ⟨n,a,b⟩,d⟩
   .exact absurd rfl d
   .exact⟨⟨a,decide_eq_true n⟩,b⟩
  .rintro⟨⟨a,n⟩,b⟩
   exact⟨.inr ⟨of_decide_eq_true n,a,b⟩,b⟩
theorem QPb{α:Type}[DecidableEq α]:∀ {l m:List α},l.Nodup->(∀ a∈l,a∈m)->l.length<=m.length
 | [],_,_,_=>Us _
 | x::l,m,nd,h=>by
  obtain⟨n1,n2⟩:=nodup_cons.mp nd;have hx:=h x VL;have:=QPb (m:=m.erase x) n2 λa ha=>(mem_erase_of_ne (λe=>n1 (by rw[<- e];exact ha))).mpr (h a (VM _ ha))
  rw[length_erase_of_mem hx]at this;have:=length_pos_of_mem hx;rw[UC]
  lia
structure J5b(cs:Cl):Prop where
 nd:NdC cs
 len:cs.length<=60
 ok:∀ p∈cs,p.1.length<=40
theorem Jb.ok(h:Jb ds cs)(o:J5b ds):J5b cs:=⟨h.nd,by
 have:=QPb h.nd λa ha=>show a∈ds.map LW from by
  obtain⟨p,hp,rfl⟩:=mem_map.mp ha;exact mem_map.mpr ⟨p,((h.mem p.1 p.2).mp hp).1,rfl⟩
 rw[UK,UK]at this;have:=o.len
 lia,λp hp=>o.ok p ((h.mem p.1 p.2).mp hp).1⟩
theorem XSa:∀ {ys:List V},(∀ v∈ys,∃ z,v=.str z)->∃ zs:List Str,ys=LX V.str zs
 | [],_=>⟨[],rfl⟩
 | y::ys,h=>by
  obtain⟨z,rfl⟩:=h y VL;obtain⟨zs,rfl⟩:=XSa λv hv=>h v (VM _ hv)
  exact⟨z::zs,rfl⟩
def Yha:V->Str
 | .str z=>z
 | _=>default
theorem Xpb{cv:V}(t:TD H 5 (.t (cD cs)) cv):∃ p ys kvs,cv=.ref p/\H p=Vo (.tup ys)/\Vm (λ(kv:Key×V) y=>∃ t,y=V.ref t/\H t=Vo (.tup [kV kv.1,kv.2])) kvs ys/\DkV H cs kvs:=by
 obtain⟨m,p,ys,em,rfl,hp,pr⟩:=t.tup;obtain rfl:m=4:=by lia
 have go:∀ (cs:Cl) (ys:List V),Vm (λd v=>TD H 4 d v) (cD cs) ys->∃ kvs,Vm (λ(kv:Key×V) y=>∃ t,y=V.ref t/\H t=Vo (.tup [kV kv.1,kv.2])) kvs ys/\DkV H cs kvs:=λcs=>by
  induction cs with
  | nil=>intro ys pr;cases pr;exact⟨[],.nil,.nil⟩
  | cons c cs ih =>
   intro ys pr;cases pr with
   | cons a b =>
    obtain⟨kvs,h1,h2⟩:=ih _ b;obtain⟨b',x1,x2,eb,hb,w1,w2⟩:=TD.pair_of a;obtain⟨_,rfl⟩:=w1.flat;exact⟨(Ve c.1,x2)::kvs,.cons ⟨b',eb,hb⟩ h1,.cons ⟨rfl,w2⟩ h2⟩
 obtain⟨kvs,h1,h2⟩:=go cs ys pr;exact⟨p,ys,kvs,rfl,hp,h1,h2⟩
theorem Xi:∀ {more kvs:List (Key×V)},((kvs++more).map LW).Nodup->JZ kvs more=kvs++more
 | [],kvs,_=>by rw[UV];rfl
 | x::more,kvs,nd=>by
  show JZ (ZC kvs x.1 x.2) more=_;have n:Q7 kvs x.1=Vp:=by
   have:=JLa LW (xs:=kvs) (b:=x.1) λy hy e=>by
    rw[Il,L3]at nd;exact nd.2.2 _ (mem_map.mpr ⟨y,hy,rfl⟩) x.1 #[2] e
   unfold Q7;rw[this];rfl
  rw[Yua n,Xi (by rw[IV];exact nd),IV]
  rfl
def Xta(_:VC):Sp:=λvs H Q _=>vs=[]/\∀ r tc H',Qf H H'->H' r=Vo (.tup [.ref tc,.non])->H' tc=Vo (.tup [])->Q (.ref r) H'
seal La in
theorem Xqb(T:Tx K mg ob)(F:Fun K "no_table" "no_table" ZXa f fd):Qp P w K mg base CX0 1 f fd [] (Xta K):=by
 refine F.ok Xaa (λvs H Q E h=>?_) (λah A outer s H vs Q E hr h=>?_)
 .obtain⟨rfl,_⟩:=h;rfl
 obtain⟨rfl,q⟩:=h
 exists Xaa
 refine⟨Us _,λp hp=>⟨QY,λp2 aP=>?_⟩⟩
 have s2:=Qb aP (.tup [.ref p,.non]);exact q p2 p _ ((Qb hp _).trans s2) Qa (s2 _ _ Qa)
inductive ZX(ai:VC)(vs:List V)(H:Hp)(Q:VK)(E:XK):Prop
 | mk:∀ tt tc rt c ac,vs=[.ref tt,.str c]->H tt=Vo (.tup [.ref tc,rt])->H tc=Vo (.tup (LX V.str ac))->Q (.bl (decide (c∈ac))) H->ZX ai vs H Q E
seal La in
theorem Zlb(T:Tx K mg ob)(F:Fun K "has_column" "has_column" Xw f fd):Qp P w K mg base CX0 1 f fd ["table","column"] (ZX K):=by
 refine F.ok Zna (λvs H Q E h=>?_) (λah A outer s H vs Q E hr h=>?_)
 .walk_at "n"
 obtain⟨tt,tc,rt,c,ac,rfl,h1,h2,q⟩:=h
 exists Zna,Yd,JXd,Qh,Qi
 exact QJ (.str c) QS ⟨_,rfl,(if_pos rfl).mpr ⟨_,SqT.of h1,_,at0 _ _,c,tc,ac,rfl,rfl,SqT.of h2,q⟩⟩
inductive YG(ai:VC)(vs:List V)(H:Hp)(Q:VK)(E:XK):Prop
 | mk:∀ k,vs=[k]->GK k->(∀ H',Qf H H'->Q .non H')->YG ai vs H Q E
seal La in
theorem QAc(T:Tx K mg ob)(YZd:Cal P w K mg base 3 "is_key" ["thing"] (YUa K))(F:Fun K "ask_key" "ask_key" YFa f fd):Qp P w K mg base CX0 4 f fd ["key"] (YG K):=by
 refine F.ok Qyb (λvs H Q E h=>?_) (λah A outer s H vs Q E hr h=>?_)
 .walk_at "n"
 obtain⟨k,rfl,hk,q⟩:=h
 exists Qyb
 exact⟨k,rfl,hk,λH1 s1=>⟨_,rfl,(if_neg (λz=>Df z)).mpr (q H1 s1)⟩⟩
inductive YR(ai:VC)(vs:List V)(H:Hp)(Q:VK)(E:XK):Prop
 | mk:∀ tt tc rt c ac v,vs=[.ref tt,.str c,v]->H tt=Vo (.tup [.ref tc,rt])->H tc=Vo (.tup (LX V.str ac))->c∈ac->GP v->(∀ H',Qf H H'->Q .non H')->YR ai vs H Q E
seal La in
theorem Xrb(T:Tx K mg ob)(sw:Cal P w K mg base 1 "has_column" ["table","column"] (ZX K))(Ygd:Cal P w K mg base 3 "is_plain" ["thing"] (Q0a K))(F:Fun K "ask_cell" "ask_cell" Z5a f fd):Qp P w K mg base CX0 4 f fd ["table","column","value"] (YR K):=by
 refine F.ok Xia (λvs H Q E h=>?_) (λah A outer s H vs Q E hr h=>?_)
 .walk_at "n"
 obtain⟨tt,tc,rt,c,ac,v,rfl,h1,h2,hc,hv,q⟩:=h
 exists Xia
 refine⟨tt,tc,rt,c,ac,rfl,h1,h2,_,rfl,?_⟩
 rw[decide_eq_true hc,if_neg (λz=>Df z)]
 exact⟨v,rfl,hv,λH1 s1=>⟨_,rfl,(if_neg (λz=>Df z)).mpr (q H1 s1)⟩⟩
inductive JL(ai:VC)(vs:List V)(H:Hp)(Q:VK)(E:XK):Prop
 | mk:∀ tt tc rt c ac,vs=[.ref tt,.str c]->H tt=Vo (.tup [.ref tc,rt])->H tc=Vo (.tup (LX V.str ac))->c∉ac->GW c->(∀ z∈ac,z.length<=40)->ac.length<=60->(∀ r bq H' ax,Qf H H'->H' r=Vo (.tup [.ref bq,rt])->H' bq=Vo (.tup (LX V.str ax))->ax.Pairwise ltS->(∀ z,z∈ax↔z∈ac\/z=c)->Q (.ref r) H')->JL ai vs H Q E
seal La in
theorem Zmb(T:Tx K mg ob)(sw:Cal P w K mg base 1 "has_column" ["table","column"] (ZX K))(Ytd:Cal P w K mg base 1 "is_word" ["thing"] (Jga K))(sy:Cal P w K mg base 4 "in_order" ["values"] (JW K))(F:Fun K "put_column" "put_column" XF f fd):Qp P w K mg base CX0 5 f fd ["table","column"] (JL K):=by
 refine F.ok Zva (λvs H Q E h=>?_) (λah A outer s H vs Q E hr h=>?_)
 .walk_at "n"
 obtain⟨tt,tc,rt,c,ac,rfl,h1,h2,hc,hw,hz,hl,q⟩:=h
 exists Zva,Qu,ZB,QK,Zo,Qh,Qi,Qh,Qi
 refine⟨c,rfl,hw,λH1 s1=>⟨_,rfl,(if_neg (λz=>Df z)).mpr ⟨tt,tc,rt,c,ac,rfl,s1 _ _ h1,s1 _ _ h2,_,rfl,?_⟩⟩⟩
 rw[decide_eq_false hc,if_neg Uc];refine⟨_,SqT.of (s1 _ _ h1),_,at0 _ _,tc,rfl,_,.inr (SqT.of (s1 _ _ h2)),λl fI=>⟨YPa _,λl2 gu=>?_⟩⟩
 have s2:=Qb fI (.lst (LX V.str ac));have g2:upd H1 l (.lst (LX V.str ac)) l=_:=Qa;generalize upd H1 l (.lst (LX V.str ac))=H2 at s2 g2 gu ⊢;have s3:=Qb gu (.lst [V.str c]);have g3:upd H2 l2 (.lst [V.str c]) l2=_:=Qa;generalize upd H2 l2 (.lst [V.str c])=H3 at s3 g3 ⊢;refine⟨_,s3 _ _ g2,_,g3,QG (by simp;lia),λl4 wx=>?_⟩
 have s4:=Qb wx (.lst (LX V.str ac++[V.str c]));have g4:upd H3 l4 (.lst (LX V.str ac++[V.str c])) l4=_:=Qa;generalize upd H3 l4 (.lst (LX V.str ac++[V.str c]))=H4 at s4 g4 ⊢;have e:LX V.str ac++[V.str c]=LX V.str (ac++[c]):=by rw[Il];rfl
 rw[e]at g4;refine⟨l4,_,rfl,g4,λv hv=>?_,by simp;lia,λr H5 ys s5 hr g5 ly ri=>?_⟩
 .obtain⟨z,io,rfl⟩:=mem_map.mp hv
  rcases mem_append.mp io with h | h
  .exact hz z h
  .rw[mem_singleton.mp h];have:=hw.2.1;show c.length<=40;lia
 obtain⟨ax,rfl⟩:=XSa λv hv=>by
  obtain⟨z,_,rfl⟩:=mem_map.mp ((ri.mem v).mp hv);exact⟨z,rfl⟩
 refine⟨r,rfl,_,.inl ⟨SqL.of g5,λt ht=>?_⟩⟩
 have s6:=Qb ht (.tup (LX V.str ax));have g6:upd H5 t (.tup (LX V.str ax)) t=_:=Qa;generalize upd H5 t (.tup (LX V.str ax))=H6 at s6 g6 ⊢;have sa:=s1.trans (s2.trans (s3.trans (s4.trans (s5.trans s6))));refine⟨_,SqT.of (sa _ _ h1),_,at1 _ _ _,QY,λt2 o6=>?_⟩
 have s7:=Qb o6 (.tup [.ref t,rt]);refine q t2 t _ ax (sa.trans s7) Qa (s7 _ _ g6) ?_ λz=>?_
 .have:=ri.up
  rwa [Da]at this
 .have:=ri.mem (.str z)
  simpa using this
inductive YS(ai:VC)(vs:List V)(H:Hp)(Q:VK)(E:XK):Prop
 | mk:∀ d kvs ds,vs=[.ref d]->H d=Vo (.dK kvs)->DkV H ds kvs->J5b ds->(∀ r H' cs,Qf H H'->H r=Vp->TD H' 5 (.t (cD cs)) (.ref r)->Jb ds cs->Q (.ref r) H')->YS ai vs H Q E
seal La in
theorem Xsb(T:Tx K mg ob)(sy:Cal P w K mg base 4 "in_order" ["values"] (JW K))(F:Fun K "cells_of" "cells_of" Z8a f fd):Qp P w K mg base CX0 5 f fd ["values"] (YS K):=by
 refine F.ok Xla (λvs H Q E h=>?_) (λah A outer s H vs Q E hr h=>?_)
 .walk_at "n"
 obtain⟨d,kvs,ds,rfl,hd,dv,ok,q⟩:=h
 exists Xla,Q3,Zk,QK,Qob,Ze,Ze
 have lk:=dv.len;refine⟨d,_,rfl,hd,by have:=ok.len;lia,λl hl=>?_⟩
 rw[dv.keys];have s1:=Qb hl (.lst (LX V.str (ds.map LW)));have g1:upd H l (.lst (LX V.str (ds.map LW))) l=_:=Qa;generalize upd H l (.lst (LX V.str (ds.map LW)))=H1 at s1 g1 ⊢;refine⟨l,_,rfl,g1,λv hv=>?_,by simp;have:=ok.len;lia,λr H2 ys s2 hr g2 ly ri=>⟨r,rfl,⟨_,SqL.of g2⟩,?_⟩⟩
 .obtain⟨z,hz,rfl⟩:=mem_map.mp hv
  obtain⟨p,hp,rfl⟩:=mem_map.mp hz;exact ok.ok p hp
 obtain⟨zs,rfl⟩:=XSa λv hv=>by
  obtain⟨z,_,rfl⟩:=mem_map.mp ((ri.mem v).mp hv);exact⟨z,rfl⟩
 have mz:∀ z,z∈zs↔∃ v,(z,v)∈ds:=λz=>by
  have:=ri.mem (.str z)
  simpa using this
 have lz:zs.length<=60:=by simp only[UK]at ly;have:=ok.len;lia
 have vz:∀ z∈zs,∃ w,Q7 kvs (.inr z)=Vo w/\TD H 3 (QX ds z) w:=λz hz=>by
  rcases dv.get z with ⟨h,_⟩ | h
  .obtain⟨v,hv⟩:=(mz z).mp hz
   exact absurd hv (h v)
  .exact h
 have cP:=(s1.trans s2) _ _ hd;have up:zs.Pairwise ltS:=by have:=ri.up;rwa [Da]at this
 refine Xec (LX V.str zs) (λv=>!decide ((Q7 kvs (.inr (Yha v))).getD .non=.non)) (λH x v=>∃ a w,v=.ref a/\H a=Vo (.tup [x,w])/\TD H 3 (QX ds (Yha x)) w) (λH H' x v s ⟨a,w,e,h,t⟩=>⟨a,w,e,s.tup h,TD.sameT (λb xs e=>s.tup e) 3 t⟩) (SqL.of g2) (QG (by simp;lia)) (λi x H3 R hx s3 r=>?_) (λi x H3 R hx hp s3 r=>?_) λD H3 ys hD s3 g3 py=>?_
 .obtain⟨z,hz,rfl⟩:=mem_map.mp (Og hx)
  obtain⟨w,hw,_⟩:=vz z hz;walk_at "rd";refine⟨w,hw ▸ Zr.k (k:=.inr z) (s3 _ _ cP),?_⟩
  have e:(Q7 kvs (.inr (Yha (V.str z)))).getD .non=w:=by show(Q7 kvs (.inr z)).getD .non=w;rw[hw];rfl
  rw[e]at r;exact r
 .obtain⟨z,hz,rfl⟩:=mem_map.mp (Og hx)
  obtain⟨w,hw,tw⟩:=vz z hz;walk_at "rd";exact⟨w,hw ▸ Zr.k (k:=.inr z) (s3 _ _ cP),QY,λp hp=>r _ _ ⟨p,w,rfl,Qa,tw.same ((s1.trans (s2.trans s3)).trans (Qb hp _))⟩ (Qb hp _)⟩
 .refine⟨D,rfl,ys,.inl ⟨SqL.of g3,λt ht=>?_⟩⟩
  have s4:=Qb ht (.tup ys);have ef:(LX V.str zs).filter (λv=>!decide ((Q7 kvs (.inr (Yha v))).getD .non=.non))=LX V.str (zs.filter λz=>!decide ((Q7 kvs (.inr z)).getD .non=.non)):=by rw[LI];rfl
  rw[ef]at py;have nn:∀ z,(Q7 kvs (.inr z)).getD .non=.non↔QX ds z=Yn:=λz=>XNc (dv.getD z)
  refine q t _ ((zs.filter λz=>!decide ((Q7 kvs (.inr z)).getD .non=.non)).map λz=>(z,QX ds z)) (s1.trans (s2.trans (s3.trans s4))) (none_of (s1.trans (s2.trans s3)) ht) (TD.ofT Qa ?_) ⟨?_,λc v=>?_⟩
  .unfold cD
   rw[Di];generalize upd H3 t (.tup ys)=H4 at s4 ⊢;have go:∀ (us:List Str) (ys:List V),Vm (λx v=>∃ a w,v=V.ref a/\H3 a=Vo (.tup [x,w])/\TD H3 3 (QX ds (Yha x)) w) (LX V.str us) ys->Vm (λd v=>TD H4 4 d v) (us.map ((λp:Str×Dt=>Dt.t [.v (.str p.1),p.2]) ∘ λz=>(z,QX ds z))) ys:=λus=>by
    induction us with
    | nil=>intro ys py;cases py;exact .nil
    | cons z us ih =>
     intro ys py;cases py with
     | cons a b =>
      obtain⟨a,w,rfl,ha,tw⟩:=a;exact .cons (TD.pair (s4 _ _ ha) (TD.ofV rfl) (tw.same s4)) (ih _ b)
   exact go _ _ py
  .rw[Di]
   have:(LW ∘ λz=>(z,QX ds z))=id:=rfl
   rw[this,map_id];exact up.filter _
  .rw[mem_map]
   constructor
   .rintro⟨z,hz,e⟩
    cases e;obtain⟨h1,h2⟩:=mem_filter.mp hz;obtain⟨v,hv⟩:=(mz c).mp h1;have:=Zh ok.nd hv;exact⟨by rw[this];exact hv,λe=>by simp[(nn c).mpr e]at h2⟩
   .rintro⟨hv,n⟩
    have e:=Zh ok.nd hv;exact⟨c,mem_filter.mpr ⟨(mz c).mpr ⟨v,hv⟩,by simpa using λh=>n (e.symm.trans ((nn c).mp h))⟩,by rw[e]⟩
inductive JM(ai:VC)(vs:List V)(H:Hp)(Q:VK)(E:XK):Prop
 | mk:∀ cv c v dv cs,vs=[cv,.str c,v]->TD H 5 (.t (cD cs)) cv->J5b cs->cs.length < 60->c.length<=40->TD H 3 dv v->(∀ r H' dJ,Qf H H'->H r=Vp->TD H' 5 (.t (cD dJ)) (.ref r)->Jb (ZW cs c dv) dJ->Q (.ref r) H')->JM ai vs H Q E
seal La in
theorem Znb(T:Tx K mg ob)(wy:Cal P w K mg base 5 "cells_of" ["values"] (YS K))(F:Fun K "cells_with" "cells_with" XG f fd):Qp P w K mg base CX0 6 f fd ["cells","column","value"] (JM K):=by
 refine F.ok Zwa (λvs H Q E h=>?_) (λah A outer s H vs Q E hr h=>?_)
 .walk_at "n"
 obtain⟨cv,c,v,dv,cs,rfl,t,ok,len,lc,hv,q⟩:=h
 exists Zwa,QK,Qpb,ZY
 obtain⟨p,ys,kvs,rfl,hp,pr,dk⟩:=Xpb t;have ly:=Vn pr;have lk:=dk.len;have kK:=ok.len;refine⟨p,ys,kvs,rfl,hp,by lia,pr,λD hD=>?_⟩
 rw[Xi (kvs:=[]) (dk.nd ok.nd),LC];refine⟨D,rfl,_,Xb.k (k:=.inr c) Qa (Qm #[0]),?_⟩
 rw[YL];have s2:=Qb hD (.dK (ZC kvs (.inr c) v));have l2:=XOc cs c dv;refine⟨D,_,_,rfl,Qa,(dk.put hv).sameT s2.t,⟨XRa ok.nd c dv,by lia,λx hx=>?_⟩,λr H' dJ s' hr t' h'=>q r H' dJ (s2.trans s') (none_of s2 hr) t' h'⟩
 obtain⟨c',v'⟩:=x
 rcases JX.mp hx with ⟨e1,e2⟩ | ⟨_,hm⟩
 .subst e1 e2;exact lc
 .exact ok.ok _ hm
inductive YT(ai:VC)(vs:List V)(H:Hp)(Q:VK)(E:XK):Prop
 | mk:∀ tt tc rt ac cv cs,vs=[.ref tt,cv]->H tt=Vo (.tup [.ref tc,rt])->H tc=Vo (.tup (LX V.str ac))->ac.Nodup->ac.length<=60->TD H 5 (.t (cD cs)) cv->J5b cs->(∀ r kvs H',Qf H H'->H r=Vp->H' r=Vo (.dK kvs)->DkV H' (ac.map λc=>(c,QX cs c)) kvs->Q (.ref r) H')->YT ai vs H Q E
seal La in
theorem Xtb(T:Tx K mg ob)(F:Fun K "row_told" "row_told" ZYa f fd):Qp P w K mg base CX0 1 f fd ["table","cells"] (YT K):=by
 refine F.ok Xba (λvs H Q E h=>?_) (λah A outer s H vs Q E hr h=>?_)
 .walk_at "n"
 obtain⟨tt,tc,rt,ac,cv,cs,rfl,h1,h2,nd,lc,t,ok,q⟩:=h
 exists Xba,QK,Qpb,JN,Q6,XWa,Qh,Qi,ZY,Jza
 obtain⟨p,ys,kvs,rfl,hp,pr,dk⟩:=Xpb t;have ly:=Vn pr;have lk:=dk.len;have kK:=ok.len;refine⟨p,ys,kvs,rfl,hp,by lia,pr,λD hD p2 aP=>?_⟩
 rw[Xi (kvs:=[]) (dk.nd ok.nd),LC]at aP ⊢;have s1:=Qb hD (.dK kvs);have g1:upd H D (.dK kvs) D=_:=Qa;generalize upd H D (.dK kvs)=H1 at s1 g1 aP ⊢;have s2:=Qb aP (.dK []);have g2:upd H1 p2 (.dK []) p2=_:=Qa;generalize upd H1 p2 (.dK [])=H2 at s2 g2 ⊢;have au:=s1.trans s2;have nD:D≠p2:=λz=>by rw[<- z,g1]at aP;cases aP
 have bD:H2 tc=_:=au _ _ h2;refine⟨_,SqT.of (au _ _ h1),_,at0 _ _,tc,rfl,⟨_,SqT.of bD⟩,QZc (K:=K) (LX V.str ac) (λi σ' H'=>∃ fh x4,σ'=[Vo (.ref tt),Vo (.ref p),Vo (.ref D),Vo (.ref p2),x4]/\Qf H H'/\H' tc=Vo (.tup (LX V.str ac))/\H' D=Vo (.dK kvs)/\H' p2=Vo (.dK fh)/\DkV H' ((ac.take i).map λc=>(c,QX cs c)) fh) ⟨[],_,rfl,au,bD,s2 _ _ g1,g2,.nil⟩ (λi σ' H' _ h=>by obtain⟨_,_,_,_,h,_⟩:=h;exact SqT.of h) ?_ ?_⟩
 .rintro i x σ' H' hx ⟨fh,x4,rfl,s',aK,cj,cy,fY⟩
  refine stN λN hN=>?_
  rw[Of]at hx
  cases hc:ac[i]? with
  | none=>rw[hc]at hx;cases hx
  | some c =>
  rw[hc]at hx;cases hx;walk_at "rd";have li:i < ac.length:=(List.getElem?_eq_some_iff.mp hc).1
  have l2:=fY.len;rw[UK,Ob]at l2;have tp:QO H' (upd H' p2 (.dK (ZC fh (.inr c) ((Q7 kvs (.inr c)).getD .non)))):=λb xs e=>by rw[Qe (Zj e cy (by intro z;cases z))];exact e
  have tv:TD H' 3 (QX cs c) ((Q7 kvs (.inr c)).getD .non):=(dk.sameT s'.t).getD c;have new:ZW ((ac.take i).map λc=>(c,QX cs c)) c (QX cs c)=((ac.take (i+1)).map λc=>(c,QX cs c)):=by
   unfold ZW;rw[if_neg ?_,Im,hc,Il]
   .rfl
   .intro z
    obtain⟨y,hy,e⟩:=any_eq_true.mp z;obtain⟨c',bB,rfl⟩:=mem_map.mp hy;have e:c'=c:=of_decide_eq_true e;subst e;obtain⟨j,hj,ej⟩:=mem_iff_getElem.mp bB;rw[Ob]at hj;rw[L9]at ej;obtain⟨hi,ei⟩:=List.getElem?_eq_some_iff.mp hc
    exact(pairwise_iff_getElem.mp nd) j i #[0] hi #[0] (ej.trans ei.symm)
  refine⟨.inl ⟨_,.inl cj⟩,_,Zr.k (k:=.inr c) cj,_,Xb.k (k:=.inr c) cy (Qm #[0]),hN _ _ ⟨_,_,rfl,QD s' (none_of s1 aP),?_,?_,Qa,?_⟩⟩
  .rw[Qe (Zj aK cy (by intro z;cases z))];exact aK
  .rw[Qe nD];exact cj
  .rw[<- new]
   exact(fY.put tv).sameT tp
 .rintro σ' H' ⟨fh,x4,rfl,s',aK,cj,cy,fY⟩
  walk_at "rd";rw[UK,IT]at fY;exact q p2 fh H' s' (none_of s1 aP) cy fY
theorem ZM{α β:Type}{F:α->β->Prop}:∀ {xs:List α} {ys:List β},ys.length=xs.length->(∀ (i:Nat) y,ys[i]?=Vo y->∃ x,xs[i]?=Vo x/\F x y)->Vm F xs ys
 | [],[],_,_=>.nil
 | x::xs,[],h,_=>by simp at h
 | [],y::ys,h,_=>by simp at h
 | x::xs,y::ys,h,f=>by
  obtain⟨x',e,h0⟩:=f 0 y rfl;cases e;exact .cons h0 (ZM (by simpa using h) λi y hy=>f (i+1) y hy)
theorem Xua{α:Type}{F:Nat->α->Prop}:∀ (n:Nat),(∀ i,i < n->∃ a,F i a)->∃ l:List α,l.length=n/\∀ (i:Nat) a,l[i]?=Vo a->F i a
 | 0,_=>⟨[],rfl,λi a h=>by simp at h⟩
 | n+1,h=>by
  obtain⟨l,e,g⟩:=Xua n λi hi=>h i #[0]
  obtain⟨a,ha⟩:=h n #[0]
  refine⟨l++[a],by simp[e],λi b hb=>?_⟩
  by_cases hi:i < l.length
  .rw[Oe hi]at hb;exact g i b hb
  .have hj:i=n:=by have:=(List.getElem?_eq_some_iff.mp hb).1;simp at this;lia
   subst hj;rw[<- e]at hb;simp at hb;subst hb;exact ha
structure ROk(R:List (V×Cl)):Prop where
 up:R.Pairwise λa b=>ltK a.1 b.1
 len:R.length<=100
 ok:∀ r∈R,Q4 r.1/\J5b r.2/\r.2.length < 60
theorem ROk.rows(h:ROk R):Jrc (R.map rD):=⟨λd hd=>by
 obtain⟨r,hr,rfl⟩:=mem_map.mp hd;exact⟨r.1,_,rfl,(h.ok r hr).1⟩,by unfold UpR;rw[Da];exact h.up,by rw[UK];have:=h.len;lia⟩
def Y0d(H:Hp)(ac:List Str)(x:V×Cl)(v:V):Prop:=∃ a b kvs,v=.ref a/\H a=Vo (.tup [x.1,.ref b])/\H b=Vo (.dK kvs)/\DkV H (ac.map λc=>(c,QX x.2 c)) kvs
def Z4b(H0 H:Hp)(ac:List Str)(x:V×Cl)(v:V):Prop:=∃ a b kvs,v=.ref a/\H a=Vo (.tup [x.1,.ref b])/\H b=Vo (.dK kvs)/\DkV H (ac.map λc=>(c,QX x.2 c)) kvs/\H0 b=Vp
theorem Z4b.at{x:V×Cl}:Z4b H0 H ac x v->Y0d H ac x v
 | ⟨a,b,kvs,e,h1,h2,h3,_⟩=>⟨a,b,kvs,e,h1,h2,h3⟩
inductive Q0(P:Vg)(w:Vb)(ob:Nat->Vh)(vs:List V)(H:Hp)(Q:VK)(E:XK):Prop
 | mk:∀ p d1 d2 st c tt tc rt ac R lo hi,vs=[.ref p,.ref tt,lo,hi]->Qs P w ob H p d1 d2 st c->H tt=Vo (.tup [.ref tc,rt])->H tc=Vo (.tup (LX V.str ac))->ac.Nodup->ac.length<=60->QZ st (LX rD R) rt->ROk R->J4 lo->J4 hi->(∀ r H' xs,Qf H H'->H r=Vp->H' r=Vo (.lst xs)->Vm (Z4b H H' ac) (R.filter λx=>wi lo hi x.1) xs->Q (.ref r) H')->Q0 P w ob vs H Q E
seal La in
theorem Jia(T:Tx K mg ob)(Yud:Cal P w K mg base 15 "stretch" ["pages","root","low","high"] (Jea P w ob))(wz:Cal P w K mg base 1 "row_told" ["table","cells"] (YT K))(F:Qgc K "rows_in" "rows_in" YMa [.none,.none] f fd):Qp P w K mg base CX0 16 f fd ["pages","table","low","high"] (Q0 P w ob):=by
 refine F.ok QHb (λvs H Q E h=>?_) (λah A outer s H vs Q E hr h=>?_)
 .walk_at "n"
 obtain⟨p,d1,d2,st,c,tt,tc,rt,ac,R,lo,hi,rfl,hS,h1,h2,nd,lc,ht,ok,aT,aZ,q⟩:=h
 exists QHb,Qh,Qi,Qh,Qi,Q3,Zk,Qh (r:=Q4b K),Qi,Qh (r:=Q4b K),Qi
 have eW:=ok.rows;obtain⟨g,hg⟩:=XFc hS ht eW.row eW.up eW.len aT aZ;refine⟨_,SqT.of h1,_,at1 _ _ _,p,d1,d2,st,c,rt,lo,hi,g,_,rfl,hS,hg,aT,aZ,λr H1 y1 y2 xs s1 i8 _ _ _ g1 gy re _=>?_⟩
 walk_at "rd";refine⟨_,SqT.of g1,_,at0 _ _,y1,rfl,⟨_,SqL.of gy⟩,?_⟩
 have ef:(LX rD R).filter (λd=>wi lo hi (Qo d))=LX rD (R.filter λx=>wi lo hi x.1):=by rw[LI];rfl
 rw[ef]at re;have sD:∀ x∈R.filter (λx=>wi lo hi x.1),Q4 x.1/\J5b x.2/\x.2.length < 60:=λx hx=>ok.ok x (mem_filter.mp hx).1
 have lf:(R.filter λx=>wi lo hi x.1).length<=100:=VI (OM _ _) ok.len
 generalize R.filter (λx=>wi lo hi x.1)=Rf at re sD lf q ⊢
 have le:=Vn re;rw[UK]at le;refine Yya xs (λH2 i v=>∃ x,Rf[i]?=Vo x/\Z4b H H2 ac x v) (λH H' i v s ⟨x,e,a,b,kvs,ev,ha,hb,dk,n⟩=>⟨x,e,a,b,kvs,ev,s.tup ha,s.dK hb,dk.sameT (λb xs e=>s.tup e),n⟩) (SqL.of gy) (QG #[0]) (λi x H2 R' hx s2 hR=>?_) λD H2 ys hD s2 g2 ly py=>?_
 .have hi:=(List.getElem?_eq_some_iff.mp hx).1
  have aX:Rf[i]?=Vo (Rf[i]'#[0]):=IA _
  have td:=Ql re (show(LX rD Rf)[i]?=Vo (rD (Rf[i]'#[0])) by rw[Of,aX];rfl) hx
  obtain⟨b,k1,cv,eb,hb,w1,w2⟩:=TD.pair_of td;obtain⟨_,rfl⟩:=w1.flat;subst eb;walk_at "rd";refine⟨_,SqT.of (s2 _ _ hb),_,at0 _ _,_,SqT.of (s2 _ _ hb),_,at1 _ _ _,tt,tc,rt,ac,cv,_,rfl,(s1.trans s2) _ _ h1,(s1.trans s2) _ _ h2,nd,lc,w2.same s2,(sD _ (IC _)).2.1,λr wA H3 s3 fX g3 pJ=>⟨QY,λp2 aP=>?_⟩⟩
  have s4:=Qb aP (.tup [(Rf[i]'#[0]).1,.ref r])
  exact hR _ _ ⟨_,aX,p2,r,wA,rfl,Qa,s4 _ _ g3,pJ.sameT s4.t,none_of (s1.trans s2) fX⟩ (s3.trans s4)
 .exact q D H2 ys (s1.trans s2) (none_of s1 hD) g2 (ZM #[0] λi y hy=>py i y hy)
inductive YH(P:Vg)(w:Vb)(ob:Nat->Vh)(vs:List V)(H:Hp)(Q:VK)(E:XK):Prop
 | mk:∀ p d1 d2 st c tt tc rt br ac R,vs=[.ref p,.ref tt,.str br]->Qs P w ob H p d1 d2 st c->H tt=Vo (.tup [.ref tc,rt])->H tc=Vo (.tup (LX V.str ac))->br∈ac->br.length<=40->ac.length<=60->QZ st (LX rD R) rt->ROk R->st.length+8 * R.length<=16000000->(∀ r bq H' ag c' bP R',QI [p,d1,d2] H H'->Qs P w ob H' p d1 d2 ag c'->(∀ x∈Qn st,x∈Qn ag)->ag.length<=st.length+8 * R.length->H' r=Vo (.tup [.ref bq,bP])->H' bq=Vo (.tup (LX V.str (ac.filter λz=>decide (z≠br))))->Vm (λr r'=>r'.1=r.1/\Jb (ZW r.2 br Yn) r'.2) R R'->QZ ag (LX rD R') bP->Q (.ref r) H')->YH P w ob vs H Q E
seal La in
theorem QRb(T:Tx K mg ob)(sw:Cal P w K mg base 1 "has_column" ["table","column"] (ZX K))(rV:Cal P w K mg base 7 "built" ["pages","rows"] (QUa P w ob))(wB:Cal P w K mg base 6 "cells_with" ["cells","column","value"] (JM K))(Yvd:Cal P w K mg base 14 "rows_of" ["pages","root"] (Jca P w ob))(F:Fun K "drop_column" "drop_column" Y6 f fd):Qp P w K mg base CX0 15 f fd ["pages","table","column"] (YH P w ob):=by
 refine F.ok QPa (λvs H Q E h=>?_) (λah A outer s H vs Q E hr h=>?_)
 .walk_at "n"
 obtain⟨p,d1,d2,st,c,tt,tc,rt,br,ac,R,rfl,hS,h1,h2,hc,pK,lc,ht,ok,few,q⟩:=h
 exists QPa,Q3,XWa,Qh,Qi,Qj,Qea,X5a,lcJ 4,Zk,Qh,Qi,Qh (r:=Q4b K),Qi,Qh (r:=Q4b K),Qi
 refine⟨tt,tc,rt,br,ac,rfl,h1,h2,_,rfl,?_⟩
 rw[decide_eq_true hc,if_neg (λz=>Df z)]
 walk_at "rd";refine⟨_,SqT.of h1,_,at0 _ _,tc,rfl,⟨_,SqT.of h2⟩,Jvb (LX V.str ac) (λv=>decide (v≠.str br)) id (SqT.of h2) (QG (by simp;lia)) (λi x H2 R' hx s2 r=>?_) (λi x H2 R' hx _ s2 r=>by walk_at "rd";exact r) λD H1 hD s1 g1=>?_⟩
 .obtain⟨z,_,rfl⟩:=mem_map.mp (Og hx)
  walk_at "rd";have e:(!decide (z=br))=decide (V.str z≠V.str br):=by
   by_cases e:z=br
   .simp[e]
   .simp[e]
  rw[e];exact r
 have e1:LX id ((LX V.str ac).filter λv=>decide (v≠.str br))=LX V.str (ac.filter λz=>decide (z≠br)):=by
  rw[map_id,LI];have:((λv=>decide (v≠V.str br)) ∘ V.str)=λz=>decide (z≠br):=by funext z;simp
  rw[this]
 rw[e1]at g1;refine⟨D,rfl,_,.inl ⟨SqL.of g1,λbq pL=>?_⟩⟩
 have s2:=Qb pL (.tup (LX V.str (ac.filter λz=>decide (z≠br))))
 have g2:upd H1 bq (.tup (LX V.str (ac.filter λz=>decide (z≠br)))) bq=_:=Qa
 generalize upd H1 bq (.tup (LX V.str (ac.filter λz=>decide (z≠br))))=H2 at s2 g2 ⊢
 have au:=s1.trans s2;have eW:=ok.rows;have lR:=ok.len;refine⟨_,SqT.of (au _ _ h1),_,at1 _ _ _,?_⟩
 refine⟨p,d1,d2,st,c,rt,_,rfl,hS.same au,ht,by simp;lia,λr H3 xs s3 fX g3 re=>⟨r,rfl,⟨_,SqL.of g3⟩,?_⟩⟩
 have le:=Vn re;rw[UK]at le;have pM:=au.trans s3;refine Yya xs (λH i v=>∃ (x x':V×Cl),R[i]?=Vo x/\(x'.1=x.1/\Jb (ZW x.2 br Yn) x'.2)/\TD H 6 (rD x') v) (λH H' i v s ⟨x,x',e,h,t⟩=>⟨x,x',e,h,TD.sameT (λb xs e=>s.tup e) 6 t⟩) (SqL.of g3) (QG #[0]) (λi x H4 R' hx s4 hR=>?_) λD4 H4 ys hD4 s4 g4 ly py=>?_
 .have hi:=(List.getElem?_eq_some_iff.mp hx).1
  have aX:R[i]?=Vo (R[i]'#[0]):=IA _
  have td:=Ql re (show(LX rD R)[i]?=Vo (rD (R[i]'#[0])) by rw[Of,aX];rfl) hx
  obtain⟨b,k1,cv,eb,hb,w1,w2⟩:=TD.pair_of td;obtain⟨_,rfl⟩:=w1.flat;subst eb;walk_at "rd";have jd:=ok.ok _ (IC (show i < R.length by lia))
  refine⟨_,SqT.of (s4 _ _ hb),_,at0 _ _,_,SqT.of (s4 _ _ hb),_,at1 _ _ _,cv,br,.non,Yn,_,rfl,w2.same s4,jd.2.1,jd.2.2,pK,TD.ofV rfl,λr5 H5 dJ s5 hr5 t5 c5=>⟨QY,λp2 aP=>?_⟩⟩
  have s6:=Qb aP (.tup [(R[i]'#[0]).1,.ref r5])
  exact hR _ _ ⟨_,((R[i]'#[0]).1,dJ),aX,⟨rfl,c5⟩,TD.pair Qa (TD.ofV (Y8b jd.1)) (t5.same s6)⟩ (s5.trans s6)
 .obtain⟨R2,l2,p2⟩:∃ R2:List (V×Cl),R2.length=R.length/\∀ (i:Nat) x',R2[i]?=Vo x'->∃ x y,R[i]?=Vo x/\ys[i]?=Vo y/\(x'.1=x.1/\Jb (ZW x.2 br Yn) x'.2)/\TD H4 6 (rD x') y:=by
   have mG:∀ i,i < R.length->∃ x' x y,R[i]?=Vo x/\ys[i]?=Vo y/\(x'.1=x.1/\Jb (ZW x.2 br Yn) x'.2)/\TD H4 6 (rD x') y:=λi hi=>by
    obtain⟨x,x',e,h,t⟩:=py i _ (IA (show i < ys.length by lia))
    exact⟨x',x,_,e,IA (show i < ys.length by lia),h,t⟩
   exact Xua R.length mG
  have pr:Vm (λr r'=>r'.1=r.1/\Jb (ZW r.2 br Yn) r'.2) R R2:=ZM #[0] λi y hy=>by
   obtain⟨x,_,e,_,h,_⟩:=p2 i y hy;exact⟨x,e,h⟩
  have pt:Vm (λd v=>TD H4 6 d v) (LX rD R2) ys:=ZM (by simp;lia) λi y hy=>by
   have hi:=(List.getElem?_eq_some_iff.mp hy).1
   have bD:R2[i]?=Vo (R2[i]'#[0]):=IA _
   obtain⟨x,y',e,e',h,t⟩:=p2 i _ bD;rw[hy]at e';cases e';exact⟨_,by rw[Of,bD];rfl,t⟩
  have keys:R2.map LW=R.map LW:=ID (by simp;lia) λi a b=>by
   simp only[UK]at a b;obtain⟨x,_,e,_,h,_⟩:=p2 i _ (IA a)
   rw[IA b]at e
   cases e;simp only[L6];exact h.1
  have wC:((LX rD R2).map Qo).Pairwise λa b=>Pl.ltV a b=true:=by
   have:(LX rD R2).map Qo=R.map LW:=by rw[Di];exact keys
   rw[this,Da];exact Db (λ{a b} h=>h.2.2) ok.up
  have bU:=pM.trans s4;refine⟨p,d1,d2,st,c,D4,ys,_,rfl,hS.same bU,g4,pt,λd hd=>?_,by lia,by lia,wC,λH5 bw c5 v5 cm fZ b6 l5 t5=>⟨QY,λp6 iM=>?_⟩⟩
  .obtain⟨x',aF,rfl⟩:=mem_map.mp hd
   have:x'.1∈R.map LW:=by rw[<- keys];exact mem_map.mpr ⟨x',aF,rfl⟩
   obtain⟨x,hx,e⟩:=mem_map.mp this;exact⟨x'.1,_,rfl,by rw[<- e];exact(ok.ok x hx).1⟩
  .have s6:=Qb iM (.tup [.ref bq,v5])
   exact q p6 bq _ bw c5 v5 R2 ((bU.x _).trans (cm.trans (s6.x _))) (fZ.same s6) b6 #[0] Qa (s6 _ _ (ZD (hS.same bU) cm _ _ ((s3.trans s4) _ _ g2))) pr t5
inductive Jja(P:Vg)(w:Vb)(ob:Nat->Vh)(vs:List V)(H:Hp)(Q:VK)(E:XK):Prop
 | mk:∀ p d1 d2 st c tt tc rt k d kvs ac ds R,vs=[.ref p,.ref tt,k,.ref d]->Qs P w ob H p d1 d2 st c->H tt=Vo (.tup [.ref tc,rt])->H tc=Vo (.tup (LX V.str ac))->GK k->H d=Vo (.dK kvs)->DkV H ds kvs->J5b ds->(∀ q∈ds,q.1∈ac/\∃ v,q.2=.v v/\GP v)->QZ st (LX rD R) rt->ROk R->st.length+16 * (R.length+2)<=16000000->(∀ r H' ag c' bP aD cs,QI [p,d1,d2] H H'->Qs P w ob H' p d1 d2 ag c'->(∀ x∈Qn st,x∈Qn ag)->ag.length<=st.length+16 * (R.length+2)->H' r=Vo (.tup [.ref tc,bP])->Jb ds cs->Y0 ltK k (rD (k,cs)) (LX rD R) aD->QZ ag aD bP->Q (.ref r) H')->Jja P w ob vs H Q E
seal La in
theorem QDc(T:Tx K mg ob)(sE:Cal P w K mg base 4 "ask_key" ["key"] (YG K))(sy:Cal P w K mg base 4 "in_order" ["values"] (JW K))(wD:Cal P w K mg base 4 "ask_cell" ["table","column","value"] (YR K))(wE:Cal P w K mg base 15 "put" ["pages","root","key","cells"] (JQb P w ob))(wy:Cal P w K mg base 5 "cells_of" ["values"] (YS K))(F:Fun K "put_row" "put_row" YLa f fd):Qp P w K mg base CX0 16 f fd ["pages","table","key","cells"] (Jja P w ob):=by
 refine F.ok QGb (λvs H Q E h=>?_) (λah A outer s H vs Q E hr h=>?_)
 .walk_at "n"
 obtain⟨p,d1,d2,st,c,tt,tc,rt,k,d,kvs,ac,ds,R,rfl,hS,h1,h2,hk,hd,dk,mI,hds,ht,ok,few,q⟩:=h
 exists QGb,Q6,Zk,QK,Qob,Ze,Qh,Qi,Qh,Qi
 refine⟨k,rfl,hk,λH1 s1=>?_⟩
 have ld:=mI.len;have lk:=dk.len;refine⟨d,_,rfl,s1 _ _ hd,by lia,λl hl=>?_⟩
 rw[dk.keys];have s2:=Qb hl (.lst (LX V.str (ds.map LW)));have g2:upd H1 l (.lst (LX V.str (ds.map LW))) l=_:=Qa;generalize upd H1 l (.lst (LX V.str (ds.map LW)))=H2 at s2 g2 ⊢;refine⟨l,_,rfl,g2,λv hv=>?_,by simp;lia,λr H3 ys s3 fX g3 ly ri=>⟨r,rfl,⟨_,SqL.of g3⟩,?_⟩⟩
 .obtain⟨z,hz,rfl⟩:=mem_map.mp hv
  obtain⟨x,hx,rfl⟩:=mem_map.mp hz;exact mI.ok x hx
 have az:=s1.trans (s2.trans s3);refine ZU ys (λi σ' H'=>∃ x4,σ'=[Vo (.ref p),Vo (.ref tt),Vo k,Vo (.ref d),x4]/\Qf H H'/\H' r=Vo (.lst ys)) ⟨_,rfl,az,g3⟩ (λi σ' H' _ h=>by obtain⟨_,_,_,h⟩:=h;exact SqL.of h) ?_ ?_
 .rintro i x σ' H' hx ⟨x4,rfl,s',aX⟩
  refine stN λN hN=>?_
  obtain⟨z,hz,ez⟩:=mem_map.mp ((ri.mem x).mp (Og hx));obtain⟨⟨c',v'⟩,hm,rfl⟩:=mem_map.mp hz;subst ez;obtain⟨bB,v,ev,gv⟩:=hds _ hm;have ev:v'=.v v:=ev;subst ev;obtain⟨w,hw,tw⟩:=(dk.get c').resolve_left λh=>h.1 _ hm
  rw[Zh mI.nd hm]at tw;obtain⟨_,rfl⟩:=tw.flat;walk_at "rd";exact⟨w,hw ▸ Zr.k (k:=.inr c') (s' _ _ hd),tt,tc,rt,c',ac,w,rfl,s' _ _ h1,s' _ _ h2,bB,gv,λgH cN=>hN _ _ ⟨_,rfl,s'.trans cN,cN _ _ aX⟩⟩
 .rintro σ' H' ⟨x4,rfl,s',aX⟩
  walk_at "rd";refine⟨_,SqT.of (s' _ _ h1),_,at0 _ _,_,SqT.of (s' _ _ h1),_,at1 _ _ _,d,kvs,ds,rfl,s' _ _ hd,dk.sameT s'.t,mI,λr4 H4 iN s4 gM t4 c4=>?_⟩
  have gS:=s'.trans s4;have lR:=ok.len;refine⟨p,d1,d2,st,c,rt,k,.ref r4,cD iN,_,rfl,hS.same gS,ht,ok.rows,by simp;lia,hk.key,t4,by simp;lia,λH5 bw c5 v5 mJ cm fZ b6 l5 kL t5=>⟨QY,λp6 iM=>?_⟩⟩
  have s6:=Qb iM (.tup [.ref tc,v5]);exact q p6 _ bw c5 v5 mJ iN ((gS.x _).trans (cm.trans (s6.x _))) (fZ.same s6) b6 (by simpa using l5) Qa c4 kL t5
inductive Q2a(P:Vg)(w:Vb)(ob:Nat->Vh)(vs:List V)(H:Hp)(Q:VK)(E:XK):Prop
 | mk:∀ p d1 d2 st c tt tc rt k R,vs=[.ref p,.ref tt,k]->Qs P w ob H p d1 d2 st c->H tt=Vo (.tup [.ref tc,rt])->GK k->QZ st (LX rD R) rt->ROk R->(∃ r∈R,r.1=k)->st.length+16 * (R.length+2)<=16000000->(∀ r H' ag c' bP aD,QI [p,d1,d2] H H'->Qs P w ob H' p d1 d2 ag c'->(∀ x∈Qn st,x∈Qn ag)->ag.length<=st.length+16 * (R.length+2)->H' r=Vo (.tup [.ref tc,bP])->ZTa k (LX rD R) aD->QZ ag aD bP->Q (.ref r) H')->Q2a P w ob vs H Q E
seal La in
theorem Xub(T:Tx K mg ob)(sE:Cal P w K mg base 4 "ask_key" ["key"] (YG K))(Xld:Cal P w K mg base 24 "take" ["pages","root","key"] (JTb P w ob))(F:Fun K "take_row" "take_row" Jaa f fd):Qp P w K mg base CX0 25 f fd ["pages","table","key"] (Q2a P w ob):=by
 refine F.ok Xna (λvs H Q E h=>?_) (λah A outer s H vs Q E hr h=>?_)
 .walk_at "n"
 obtain⟨p,d1,d2,st,c,tt,tc,rt,k,R,rfl,hS,h1,hk,ht,ok,a8,few,q⟩:=h
 exists Xna,Qh,Qi,Qh,Qi
 refine⟨k,rfl,hk,λH1 s1=>⟨_,SqT.of (s1 _ _ h1),_,at0 _ _,_,SqT.of (s1 _ _ h1),_,at1 _ _ _,?_⟩⟩
 have lR:=ok.len;refine⟨p,d1,d2,st,c,rt,k,_,rfl,hS.same s1,ht,ok.rows,by simp;lia,hk.key,by simp;lia,λ_ H2 bK c2 v2 eV fO bT cG l2 pN t2=>⟨QY,λp3 cV=>?_⟩,λbA=>?_⟩
 .have s3:=Qb cV (.tup [.ref tc,v2])
  exact q p3 _ bK c2 v2 eV ((s1.x _).trans (fO.trans (s3.x _))) (bT.same s3) cG (by simp at l2;lia) Qa pN t2
 .obtain⟨r,hr,er⟩:=a8
  exact absurd er (bA (rD r) (mem_map.mpr ⟨r,hr,rfl⟩))
theorem Z6b{cv:V}(up:R.Pairwise λa b=>ltK a.1 b.1)(h:Xvc H (LX rD R) k cv):(∃ cs,(k,cs)∈R/\TD H 5 (.t (cD cs)) cv)\/((∀ r∈R,r.1≠k)/\cv=.non):=by
 rcases h with ⟨c,hc,t⟩ | ⟨h,e⟩
 .obtain⟨r,hr,er⟩:=mem_map.mp hc
  injection er with er
  injection er with e1 e2
  injection e1 with e1
  injection e2 with e2 _
  injection e2 with e2
  subst e1 e2;exact .inl ⟨r.2,hr,t⟩
 .exact .inr ⟨λr hr er=>h (rD r) (mem_map.mpr ⟨r,hr,rfl⟩) er,e⟩
inductive Zda(P:Vg)(w:Vb)(ob:Nat->Vh)(vs:List V)(H:Hp)(Q:VK)(E:XK):Prop
 | mk:∀ p d1 d2 st c tt tc rt ac k R,vs=[.ref p,.ref tt,k]->Qs P w ob H p d1 d2 st c->H tt=Vo (.tup [.ref tc,rt])->H tc=Vo (.tup (LX V.str ac))->ac.Nodup->ac.length<=60->Q4 k->QZ st (LX rD R) rt->ROk R->((∀ r∈R,r.1≠k)->∀ H',Qf H H'->Q .non H')->(∀ cs,(k,cs)∈R->∀ r kvs H',Qf H H'->H r=Vp->H' r=Vo (.dK kvs)->DkV H' (ac.map λc=>(c,QX cs c)) kvs->Q (.ref r) H')->Zda P w ob vs H Q E
seal La in
theorem Jwc(T:Tx K mg ob)(sn:Cal P w K mg base 6 "seek" ["pages","root","key"] (Yda P w ob))(wz:Cal P w K mg base 1 "row_told" ["table","cells"] (YT K))(F:Fun K "row_at" "row_at" QBb f fd):Qp P w K mg base CX0 7 f fd ["pages","table","key"] (Zda P w ob):=by
 refine F.ok ZUb (λvs H Q E h=>?_) (λah A outer s H vs Q E hr h=>?_)
 .walk_at "n"
 obtain⟨p,d1,d2,st,c,tt,tc,rt,ac,k,R,rfl,hS,h1,h2,nd,lc,hk,ht,ok,q0,q⟩:=h
 exists ZUb,Qh,Qi,Qh,Qi
 refine⟨_,SqT.of h1,_,at1 _ _ _,p,d1,d2,st,c,rt,k,_,rfl,hS,ht,ok.rows,hk,λr y H1 cv ws s1 i8 g1 _ _ fd _=>⟨r,rfl,_,SqT.of g1,_,at0 _ _,?_⟩⟩
 rcases Z6b ok.up fd with ⟨bQ,a8,t⟩ | ⟨bA,e⟩
 .obtain⟨_,a,_,_,pO,_⟩:=t.tup
  rw[if_neg (λz=>by rw[pO]at z;cases z)]
  exact⟨tt,tc,rt,ac,cv,bQ,rfl,s1 _ _ h1,s1 _ _ h2,nd,lc,t,(ok.ok _ a8).2.1,λr2 kvs H2 s2 ck g2 fY=>q bQ a8 r2 kvs H2 (s1.trans s2) (none_of s1 ck) g2 fY⟩
 .rw[if_pos e]
  exact q0 bA H1 s1
inductive Jka(P:Vg)(w:Vb)(ob:Nat->Vh)(vs:List V)(H:Hp)(Q:VK)(E:XK):Prop
 | mk:∀ p d1 d2 st c tt tc rt ac k z R,vs=[.ref p,.ref tt,k,.str z]->Qs P w ob H p d1 d2 st c->H tt=Vo (.tup [.ref tc,rt])->H tc=Vo (.tup (LX V.str ac))->ac.Nodup->ac.length<=60->Q4 k->QZ st (LX rD R) rt->ROk R->((∀ r∈R,r.1≠k)->∀ H',Qf H H'->Q .non H')->(∀ cs,(k,cs)∈R->∀ v H',Qf H H'->TD H' 3 (if z∈ac then QX cs z else Yn) v->Q v H')->Jka P w ob vs H Q E
seal La in
theorem QFc(T:Tx K mg ob)(wF:Cal P w K mg base 7 "row_at" ["pages","table","key"] (Zda P w ob))(F:Fun K "cell_at" "cell_at" YIa f fd):Qp P w K mg base CX0 8 f fd ["pages","table","key","column"] (Jka P w ob):=by
 refine F.ok QCb (λvs H Q E h=>?_) (λah A outer s H vs Q E hr h=>?_)
 .walk_at "n"
 obtain⟨p,d1,d2,st,c,tt,tc,rt,ac,k,z,R,rfl,hS,h1,h2,nd,lc,hk,ht,ok,q0,q⟩:=h
 exists QCb,Jza
 refine⟨p,d1,d2,st,c,tt,tc,rt,ac,k,R,rfl,hS,h1,h2,nd,lc,hk,ht,ok,λbA H1 s1=>(if_pos rfl).mpr (q0 bA H1 s1),λbQ a8 r kvs H1 s1 i8 g1 wG=>?_⟩
 rw[if_neg (λz=>by cases z)]
 refine⟨r,rfl,.inl ⟨_,.inl g1⟩,_,Zr.k (k:=.inr z) g1,q bQ a8 _ H1 s1 ?_⟩
 have e:QX (ac.map λc=>(c,QX bQ c)) z=if z∈ac then QX bQ z else Yn:=by
  split
  .rename_i hz
   refine Zh ?_ (mem_map.mpr ⟨z,hz,rfl⟩)
   unfold NdC;rw[Di];have:(LW ∘ λc=>(c,QX bQ c))=id:=rfl
   rw[this,map_id];exact nd
  .rename_i hz
   refine Zca λv hv=>?_
   obtain⟨c',bB,e⟩:=mem_map.mp hv;injection e with e1 _
   exact hz (by rw[<- e1];exact bB)
 rw[<- e];exact wG.getD z
inductive YU(P:Vg)(w:Vb)(ob:Nat->Vh)(vs:List V)(H:Hp)(Q:VK)(E:XK):Prop
 | mk:∀ p d1 d2 st c tt tc rt k z v ac R cs,vs=[.ref p,.ref tt,k,.str z,v]->Qs P w ob H p d1 d2 st c->H tt=Vo (.tup [.ref tc,rt])->H tc=Vo (.tup (LX V.str ac))->GK k->z∈ac->z.length<=40->GP v->QZ st (LX rD R) rt->ROk R->(k,cs)∈R->st.length+16 * (R.length+2)<=16000000->(∀ r H' ag c' bP aD dJ,QI [p,d1,d2] H H'->Qs P w ob H' p d1 d2 ag c'->(∀ x∈Qn st,x∈Qn ag)->ag.length<=st.length+16 * (R.length+2)->H' r=Vo (.tup [.ref tc,bP])->Jb (ZW cs z (.v v)) dJ->Y0 ltK k (rD (k,dJ)) (LX rD R) aD->QZ ag aD bP->Q (.ref r) H')->YU P w ob vs H Q E
seal La in
theorem Xvb(T:Tx K mg ob)(sE:Cal P w K mg base 4 "ask_key" ["key"] (YG K))(wD:Cal P w K mg base 4 "ask_cell" ["table","column","value"] (YR K))(sn:Cal P w K mg base 6 "seek" ["pages","root","key"] (Yda P w ob))(wE:Cal P w K mg base 15 "put" ["pages","root","key","cells"] (JQb P w ob))(wB:Cal P w K mg base 6 "cells_with" ["cells","column","value"] (JM K))(F:Fun K "put_cell" "put_cell" Z9a f fd):Qp P w K mg base CX0 16 f fd ["pages","table","key","column","value"] (YU P w ob):=by
 refine F.ok Xma (λvs H Q E h=>?_) (λah A outer s H vs Q E hr h=>?_)
 .walk_at "n"
 obtain⟨p,d1,d2,st,c,tt,tc,rt,k,z,v,ac,R,bQ,rfl,hS,h1,h2,hk,hz,lz,hv,ht,ok,a8,few,q⟩:=h
 exists Xma,Qh,Qi,Qh,Qi,Qh,Qi,Qh,Qi
 refine⟨k,rfl,hk,λH1 s1=>⟨tt,tc,rt,z,ac,v,rfl,s1 _ _ h1,s1 _ _ h2,hz,hv,λH2 s2=>?_⟩⟩
 have au:=s1.trans s2;have lR:=ok.len;refine⟨_,SqT.of (au _ _ h1),_,at1 _ _ _,p,d1,d2,st,c,rt,k,_,rfl,hS.same au,ht,ok.rows,hk.key,λr y H3 cv ws s3 fX g3 _ _ fd _=>⟨r,rfl,_,SqT.of g3,_,at0 _ _,?_⟩⟩
 have az:=au.trans s3
 rcases Z6b ok.up fd with ⟨pP,pQ,t⟩ | ⟨bA,e⟩
 .have ec:pP=bQ:=by
   have pw:=ok.up;obtain⟨i,hi,ei⟩:=mem_iff_getElem.mp a8;obtain⟨j,hj,ej⟩:=mem_iff_getElem.mp pQ
   rcases Nat.lt_trichotomy i j with h | h | h
   .have:=pairwise_iff_getElem.mp pw i j hi hj h
    rw[ei,ej]at this;exact absurd this (ltK.irr _)
   .subst h;rw[ei]at ej;injection ej with _ e;exact e.symm
   .have:=pairwise_iff_getElem.mp pw j i hj hi h
    rw[ei,ej]at this;exact absurd this (ltK.irr _)
  subst ec;obtain⟨_,a,_,_,pO,_⟩:=t.tup;rw[if_neg (λz=>by rw[pO]at z;cases z)]
  have jd:=ok.ok _ a8;refine⟨_,SqT.of (az _ _ h1),_,at0 _ _,_,SqT.of (az _ _ h1),_,at1 _ _ _,cv,z,v,.v v,pP,rfl,t,jd.2.1,jd.2.2,lz,TD.ofV hv.hv,λr4 H4 iN s4 gM t4 c4=>?_⟩
  have bU:=az.trans s4;refine⟨p,d1,d2,st,c,rt,k,.ref r4,cD iN,_,rfl,hS.same bU,ht,ok.rows,by simp;lia,hk.key,t4,by simp;lia,λH5 bw c5 v5 mJ cm fZ b6 l5 kL t5=>⟨QY,λp6 iM=>?_⟩⟩
  have s6:=Qb iM (.tup [.ref tc,v5]);exact q p6 _ bw c5 v5 mJ iN ((bU.x _).trans (cm.trans (s6.x _))) (fZ.same s6) b6 (by simpa using l5) Qa c4 kL t5
 .exact absurd rfl (bA _ a8)
theorem Yt(h:Q4 v):∃ k:Key,v=kV k:=by
 cases v with
 | int n=>exact⟨.inl n,rfl⟩
 | str z=>exact⟨.inr z,rfl⟩
 | _=>exact h.elim
theorem Z7b(h:Q4 v):Pl.QA v:=by
 cases v with
 | int n=>exact h
 | str z=>exact h
 | _=>exact h.elim
theorem Yhd{a b:Key}(h:kV a=kV b):a=b:=by
 cases a <;> cases b <;> cases h <;> rfl
def YWa:V->Bool | .int _=>true | _=>false
def Jla:V->Bool | .str _=>true | _=>false
theorem QGc{l:List V}(h:∀ v∈l,Q4 v):(l.filter YWa++l.filter Jla).Perm l:=by
 have e:l.filter Jla=l.filter (λv=>!YWa v):=LV λv hv=>by
  have:=h v hv;cases v <;> first | rfl | exact this.elim
 rw[e];exact filter_append_perm _ _
theorem Z8b{K:VC}{k:Key}(q:Q (.bl (Jla (kV k))) H):X0b K [kV k,.ty "str"] H Q:=by
 cases k with
 | inl n=>exact QJ (.int n) Zf q
 | inr z=>exact QJ (.str z) QS q
theorem Jx{x y:HO}(n:H1 d=Vo y)(s2:Qf (upd H1 d x) H2):Qf H1 (upd H2 d y):=λb o hb=>by
 by_cases z:b=d
 .subst z;rw[n]at hb;rw[Qa,hb]
 .rw[Qe z];exact s2 b o (by rw[Qe z];exact hb)
theorem Zsc(hk:∀ v∈ys,Q4 v)(ho:(∀ v∈ys,∃ n,v=.int n)\/∀ v∈ys,∃ z,v=.str z)(nd:ys.Nodup)(h:ys.Pairwise λa b=>ltP b a=false):ys.Pairwise λa b=>Pl.ltV a b=true:=by
 refine List.Pairwise.imp_of_mem (λ{a b} ha hb hab=>?_) (h.and nd)
 obtain⟨h1,h2⟩:=hab;have e:Pl.ltV b a=false:=by
  rcases ho with ho | ho
  .obtain⟨x,rfl⟩:=ho a ha
   obtain⟨y,rfl⟩:=ho b hb;rw[Pl.YBb];exact h1
  .obtain⟨x,rfl⟩:=ho a ha
   obtain⟨y,rfl⟩:=ho b hb;rw[Pl.Qbb];exact h1
 cases e2:Pl.ltV a b with
 | true=>rfl
 | false=>exact(h2 (Pl.tri (Z7b (hk a ha)) (Z7b (hk b hb)) e2 e)).elim
structure Yid(H:Hp)(kvs:List (Key×V))(ks xs:List V):Prop where
 len:xs.length=ks.length
 at_:∀ (i:Nat) x,xs[i]?=Vo x->∃ a k v,x=.ref a/\ks[i]?=Vo (kV k)/\H a=Vo (.tup [kV k,v])/\(k,v)∈kvs
 up:ks.Pairwise λa b=>Pl.ltV a b=true
 perm:ks.Perm (kvs.map λp=>kV p.1)
theorem XQc{k:Key}{w':V}(h:(k,w')∈kvs):∃ w,Q7 kvs k=Vo w/\(k,w)∈kvs:=by
 unfold Q7;cases e:kvs.find? λkv=>decide (kv.1=k) with
 | none =>
  have:=find?_eq_none.mp e _ h
  simp at this
 | some p =>
  have h1:=find?_some e
  have h2:=mem_of_find?_eq_some e
  have h1:p.1=k:=by simpa using h1
  exact⟨p.2,rfl,by rw[<- h1];exact h2⟩
inductive Jp(K:VC)(vs:List V)(H:Hp)(Q:VK)(E:XK):Prop
 | mk:∀ d kvs,vs=[.ref d]->H d=Vo (.dK kvs)->kvs.length<=60->(∀ p∈kvs,Q4 (kV p.1))->(kvs.map LW).Nodup->(∀ r H' xs ks,Qf H H'->H r=Vp->H' r=Vo (.lst xs)->Yid H' kvs ks xs->Q (.ref r) H')->Jp K vs H Q E
theorem QSb(T:Tx K mg ob)(F:Fun K "_law_rising" "_law_rising" Zv f fd):Qp P w K mg base CX0 1 f fd ["_law_some"] (Jp K):=by
 refine F.ok Yy (λvs H Q E h=>?_) (λah A outer s H vs Q E hr h=>?_)
 .walk_at "n"
 obtain⟨d,kvs,rfl,g1,l1,k1,wH,q⟩:=h;refine⟨_,(ZR (XPa 1 Yy.nd (Qq Zi rfl (T.sorted) Q6a (Q2 (JKa (Q3 ["_law_some","_law_keys"] rfl (QYc (N:=["_law_some","_law_keys"]) (dsc:=Qd Zv) rfl rfl (by decide +kernel)) (Xo (pv 0)) (λ_ _ _ _ _=>(Jnb (Yla (ZIa (Qq (r:=X0b K) Qna rfl (T.isinstance) Jz (Q2 (pv 0) (Q2 (Jdb rfl (T.str) X2b (v:=.ty "str") rfl) Zc))) (λ_=>rfl))))) (λ_ _ _ _ _=>(pv 0)))) Zc)))
  (ZR (XPa 1 Yy.nd (Qu ZB (pv 1) (Qq Zi rfl (T.sorted) Q6a (Q2 (JKa (Q3 ["_law_some","_law_keys"] rfl (QYc (N:=["_law_some","_law_keys"]) (dsc:=Qd Zv) rfl rfl (by decide +kernel)) (Xo (pv 0)) (λ_ _ _ _ _=>(Jnb (ZIa (Qq (r:=X0b K) Qna rfl (T.isinstance) Jz (Q2 (pv 0) (Q2 (Jdb rfl (T.str) X2b (v:=.ty "str") rfl) Zc))) (λ_=>rfl)))) (λ_ _ _ _ _=>(pv 0)))) Zc))))
  (Yb (Qca (Q3 ["_law_some","_law_keys"] rfl (QYc (N:=["_law_some","_law_keys"]) (dsc:=Qd Zv) rfl rfl (by decide +kernel)) (Zk (pv 1)) (λ_ _ _ _ _=>QWc) (λ_ _ _ _ _=>(JVc (Q2 (pv 0) (Q2 (Ze hr.u1 (pv 1) (pv 0) (λ_ _=>rfl)) Zc))))))))),?_⟩
 refine JDa (σ:=[Vo (.ref d),Vp]) rfl ?_
 walk_at "rd";have kl:∀ v∈kvs.map λq=>kV q.1,Q4 v:=λv hv=>by
  obtain⟨r,hr,rfl⟩:=mem_map.mp hv;exact k1 r hr
 have sF:(kvs.map λq=>kV q.1).Nodup:=by
  have:=Dj (S:=(·≠·)) kV (λa b h e=>h (Yhd e)) wH
  rw[Di]at this;exact this
 refine⟨kvs,g1,λob nf=>YGb YWa (QG #[0]) Qa (λk v H3 R hm s3 hR=>?_) λD H2 hD s2 hy=>?_⟩
 .walk_at "rd"
  refine Z8b ?_
  have e:(!Jla (kV k))=YWa (kV k):=by cases k <;> rfl
  exact⟨_,rfl,by rw[e];exact hR _ (Qf.refl _)⟩
 have dD:D≠d:=λz=>by rw[z,Qa]at hD;cases hD
 have lf:∀ p:V->Bool,((kvs.map λq=>kV q.1).filter p).length<=60:=λp=>VI (OM _ _) (by rw[UK];lia)
 have kf:∀ p:V->Bool,∀ v∈(kvs.map λq=>kV q.1).filter p,Q4 v/\p v=true:=λp v hv=>by
  obtain⟨h1,h2⟩:=mem_filter.mp hv;exact⟨kl v h1,h2⟩
 have i1:∀ v∈(kvs.map λq=>kV q.1).filter YWa,∃ n,v=.int n:=λv hv=>by
  have:=(kf _ v hv).2;cases v <;> first | exact⟨_,rfl⟩ | cases this
 have i2:∀ v∈(kvs.map λq=>kV q.1).filter Jla,∃ n,v=.str n:=λv hv=>by
  have:=(kf _ v hv).2;cases v <;> first | exact⟨_,rfl⟩ | cases this
 have t2:Qf H (upd H2 d (.dK kvs)):=Jx g1 s2;refine⟨d,nf,ob,kvs,s2 _ _ Qa,D,_,ltP,rfl,SqL.of (by rw[Qe dD];exact hy),by have:=lf YWa;lia,YMc i1,λD2 H3 ys s3 cE kH pm so=>?_⟩
 have g3:H3 d=Vo (.dK kvs):=s3 _ _ Qa;have sG:D2≠d:=λz=>by rw[z,g3]at kH;cases kH
 refine⟨kvs,g3,λjJ pR=>YGb Jla (QG #[0]) Qa (λk v H3 R hm s3 hR=>?_) λE1 H4 hE s4 wI=>?_⟩
 .walk_at "rd"
  exact Z8b ⟨_,rfl,hR _ (Qf.refl _)⟩
 have dE:E1≠d:=λz=>by rw[z,Qa]at hE;cases hE
 have t4:Qf H (upd H4 d (.dK kvs)):=(t2.trans s3).trans (Jx g3 s4);refine⟨d,pR,jJ,kvs,s4 _ _ Qa,E1,_,ltP,rfl,SqL.of (by rw[Qe dE];exact wI),by have:=lf Jla;lia,JJa i2,λD3 H5 zs s5 jS wJ je wK=>?_⟩
 have l2:ys.length<=kvs.length:=by rw[pm.length_eq];exact VI (OM _ _) (by rw[UK];exact Um _)
 have l3:zs.length<=kvs.length:=by rw[je.length_eq];exact VI (OM _ _) (by rw[UK];exact Um _)
 have g5:H5 d=Vo (.dK kvs):=s5 _ _ Qa;have t5:=t4.trans s5;refine⟨D2,rfl,D3,rfl,ys,s5 _ _ (by rw[Qe sG];exact s4 _ _ (by rw[Qe sG];exact kH)),zs,wJ,QG #[0],λp hp=>?_⟩
 have bh:(ys++zs).Perm (kvs.map λp=>kV p.1):=(pm.append je).trans (QGc kl)
 have up:(ys++zs).Pairwise λa b=>Pl.ltV a b=true:=by
  rw[pairwise_append];refine⟨Zsc (λv hv=>(kf _ v (pm.mem_iff.mp hv)).1) (.inl λv hv=>i1 v (pm.mem_iff.mp hv)) (pm.nodup_iff.mpr (sF.filter _)) so,Zsc (λv hv=>(kf _ v (je.mem_iff.mp hv)).1) (.inr λv hv=>i2 v (je.mem_iff.mp hv)) (je.nodup_iff.mpr (sF.filter _)) wK,λa ha b hb=>?_⟩
  obtain⟨x,rfl⟩:=i1 a (pm.mem_iff.mp ha);obtain⟨y,rfl⟩:=i2 b (je.mem_iff.mp hb);exact Pl.YBc _ _
 have lk:(ys++zs).length<=60:=by rw[bh.length_eq,UK];exact l1
 generalize ys++zs=ks at bh up lk ⊢;have s6:Qf H5 (upd H5 p (.lst ks)):=Qb hp _;have g6:upd H5 p (.lst ks) p=Vo (.lst ks):=Qa;have np:H p=Vp:=by
  cases e:H p with
  | none=>rfl
  | some o=>rw[t5 _ _ e]at hp;cases hp
 generalize upd H5 p (.lst ks)=H6 at s6 g6 ⊢;refine⟨⟨_,SqL.of g6⟩,Z0c ks (λH' i v=>∃ a k w,v=.ref a/\ks[i]?=Vo (kV k)/\H' a=Vo (.tup [kV k,w])/\(k,w)∈kvs) (λH H' i v st ⟨a,k,w,e1,e2,e3,e4⟩=>⟨a,k,w,e1,e2,st _ _ e3,e4⟩) (SqL.of g6) (QG #[0]) (λi x H7 R hx s7 hR=>?_) λr H7 xs bN s7 kM le pe=>?_⟩
 .obtain⟨⟨k,w'⟩,hm,ek⟩:=mem_map.mp (bh.mem_iff.mp (Og hx))
  obtain⟨w,hw,wL⟩:=XQc hm;subst ek;walk_at "rd";exact⟨w,hw ▸ Zr.k (k:=k) ((s6.trans s7) _ _ g5),QY,λq1 dF=>hR _ _ ⟨q1,k,w,rfl,hx,Qa,wL⟩ (Qb dF _)⟩
 .refine q r H7 xs ks (t5.trans (s6.trans s7)) ?_ kM ⟨le,pe,up,bh⟩
  cases e:H r with
  | none=>rfl
  | some o=>rw[(t5.trans s6) _ _ e]at bN;cases bN
theorem Q7d{K:VC}(p:hV v=true)(q:Q (.bl false) H):X0b K [v,.ty "tuple"] H Q:=by
 cases v with
 | int n=>exact QJ (.int n) Y1b q
 | str z=>exact QJ (.str z) Y2b q
 | non=>exact QJ .non Y3b q
 | _=>cases p
theorem Xwb{K:VC}(p:hV v=true)(q:Q (.bl false) H):X0b K [v,.ty "bool"] H Q:=by
 cases v with
 | int n=>exact QJ (.int n) JCa q
 | str z=>exact QJ (.str z) JHb q
 | non=>exact QJ .non JGb q
 | _=>cases p
inductive ZGa(ai:VC)(n:Nat)(vs:List V)(H:Hp)(Q:VK)(E:XK):Prop
 | mk:∀ x y d,vs=[x,y]->n<=60->TD H n d x->TD H n d y->(∀ H',Qf H H'->Q (.bl true) H')->ZGa ai n vs H Q E
def ZN(ai:VC):Nat->Sp
 | 0=>λ_ _ _ _=>False
 | n+1=>ZGa ai n
seal La in
theorem J7b(T:Tx K mg ob){n:Nat}(IH:Cal P w K mg base (1+n) "_law_same" ["_law_found","_law_due"] (ZN K n))(F:Fun K "_law_same" "_law_same" QLa f fd):Qp P w K mg base CX0 (1+n+1) f fd ["_law_found","_law_due"] (ZN K (n+1)):=by
 refine F.ok J3a (λvs H Q E h=>?_) (λah A outer s H vs Q E hr h=>?_)
 .walk_at "n"
 obtain⟨x,y,d,rfl,hn,hx,hy,q⟩:=h
 exists J3a,Qj,Qea,Qq,Qy,Qq,Qy,Q6,YFc true true,Yd,Q5,Yd,JPd
 cases d with
 | v z =>
  obtain⟨hz,rfl⟩:=hx.flat;obtain⟨_,e⟩:=hy.flat;rw[e];refine Q7d hz ⟨_,rfl,?_⟩
  rw[if_neg Uc];refine Xwb hz (Xwb hz ⟨rfl,?_⟩)
  rw[if_pos rfl];exact YUd hn hx hx (by rw[decide_eq_true rfl];exact q _ (Qf.refl _))
 | l ds =>
  cases hx.h
 | t ds =>
  obtain⟨m,a,xs,em,rfl,ha,rx⟩:=hx.tup;obtain⟨m',b,ys,wn,rfl,hb,ry⟩:=hy.tup;obtain rfl:m'=m:=by lia
  subst em;have lx:=Vn rx;have ly:=Vn ry;refine QJ (.tup hb) QRa ⟨_,rfl,?_⟩
  rw[if_pos rfl];refine QJ (.tup ha) QRa ⟨_,rfl,?_⟩
  rw[if_neg (λz=>Df z)]
  refine⟨a,rfl,xs,.inr (SqT.of ha),b,rfl,ys,.inr (SqT.of hb),?_⟩
  rw[if_neg (λz=>z #[0])]
  refine⟨a,rfl,b,rfl,xs,ha,ys,hb,Q5c (K:=K) xs ys #[0] (λi σ' H'=>Qf H H'/\∃ x2 x3,σ'=[Vo (.ref a),Vo (.ref b),x2,x3]) ⟨Qf.refl _,_,_,rfl⟩ (λi σ' H' h=>⟨h.1 _ _ ha,h.1 _ _ hb⟩) ?_ ?_⟩
  .rintro i x y T σ' H' aF jf ⟨sm,x2,x3,rfl⟩ hT
   have st:=sm.trans (Qb hT (.tup [x,y]));walk_at "rd";refine⟨[x,y],SqT.of Qa,rfl,x,[y],rfl,y,[],rfl,rfl,?_⟩
   have hi:=(List.getElem?_eq_some_iff.mp aF).1
   have hd:ds[i]?=Vo (ds[i]'#[0]):=IA _
   exact⟨x,y,_,rfl,by lia,(Ql rx hd aF).same st,(Ql ry hd jf).same st,λH2 s2=>⟨_,rfl,by rw[if_neg (λz=>Df z)];exact⟨st.trans s2,_,rfl⟩⟩⟩
  .rintro σ' H' ⟨sm,x2,x3,rfl⟩
   walk_at "rd";exact q _ sm
theorem Xxb{K:VC}:UP K (.type "dict") (.type "dict")=Vo true:=by rfl
theorem ltS.tr{a b c:Str}(h1:ltS a b)(h2:ltS b c):ltS a c:=by
 unfold ltS at *;rw[Pl.Qbb]at *;exact decide_eq_true (List.lt_trans (of_decide_eq_true h1) (of_decide_eq_true h2))
theorem Xyb(up:ac.Pairwise ltS)(pm:ac.Perm L)(hl:∀ z∈ac,z.length<=40){ys:List V}(sI:ys.Perm (LX V.str L))(so:ys.Pairwise λa b=>ltP b a=false):ys=LX V.str ac:=by
 have mem:∀ v,v∈ys↔v∈LX V.str ac:=λv=>by rw[sI.mem_iff];exact((pm.map V.str).mem_iff).symm
 have hs:∀ v∈ys,∃ z,v=.str z/\z.length<=40:=λv hv=>by
  obtain⟨z,hz,rfl⟩:=mem_map.mp ((mem v).mp hv);exact⟨z,rfl,hl z hz⟩
 have wM:ac.Nodup:=Db (λ{a b} h e=>by subst e;exact ltS.irr _ h) up
 have nd:ys.Nodup:=by
  refine(sI.trans (pm.map V.str).symm).nodup_iff.mpr ?_
  exact Dj (S:=(·≠·)) V.str (λa b h e=>h (V.str.inj e)) wM
 refine Pl.ZZc.uniq (λv hv=>?_) (Zsc (λv hv=>?_) (.inr λv hv=>?_) nd so) (by rw[Da];exact up) mem
 .obtain⟨z,rfl,h⟩:=hs v hv;exact h
 .obtain⟨z,rfl,h⟩:=hs v hv;exact h
 .obtain⟨z,rfl,h⟩:=hs v hv;exact⟨z,rfl⟩
structure Dc(H:Hp)(S:List Vh)(d:Vh)(B:Bk):Prop where
 at_:H d=Vo (.dK (kvB B))
 bs:∀ x∈B,∃ kvs,H x.2.2=Vo (.dK kvs)/\DkV H x.2.1 kvs
 off:∀ z∈d::B.map (·.2.2),z∉S
theorem Dc.same(h:Dc H S d B)(s:Qf H H'):Dc H' S d B:=⟨s _ _ h.at_,λx hx=>let ⟨kvs,a,b⟩:=h.bs x hx;⟨kvs,s _ _ a,b.sameT s.t⟩,h.off⟩
theorem Dc.x(h:Dc H S d B)(s:QI S H H')(t:QO H H'):Dc H' S d B:=⟨s _ _ (h.off _ #[2]) h.at_,λx hx=>let ⟨kvs,a,b⟩:=h.bs x hx;⟨kvs,s _ _ (h.off _ (VM _ (mem_map.mpr ⟨x,hx,rfl⟩))) a,b.sameT t⟩,h.off⟩
inductive Zu(ai:VC)(vs:List V)(H:Hp)(Q:VK)(E:XK):Prop
 | mk:∀ l d ac ds kvs,vs=[.ref l,.ref d]->H l=Vo (.lst (LX V.str ac))->H d=Vo (.dK kvs)->DkV H ds kvs->ac.length<=60->(∀ r H' xs,Qf H H'->H r=Vp->H' r=Vo (.lst xs)->Vm (λc v=>∃ a w,v=V.ref a/\H' a=Vo (.tup [.str c,w])/\TD H' 3 (QX ds c) w) ac xs->Q (.ref r) H')->Zu ai vs H Q E
seal La in
theorem XGa(T:Tx K mg ob)(F:Fun K "_law_spelled" "_law_spelled" Yz f fd):Qp P w K mg base CX0 1 f fd ["_law_columns","_law_row_here"] (Zu K):=by
 refine F.ok X5 (λvs H Q E h=>?_) (λah A outer s H vs Q E hr h=>?_)
 .walk_at "n"
 obtain⟨l,d,ac,ds,kvs,rfl,hl,hd,dk,lc,q⟩:=h
 exists X5,Q6,Zk,Jza
 refine⟨Us _,λff bZ=>?_⟩
 have s0:=Qb bZ (.lst []);have bf:upd H ff (.lst []) ff=Vo (.lst []):=Qa;generalize upd H ff (.lst [])=H0 at s0 bf ⊢;refine⟨⟨_,SqL.of (s0 _ _ hl)⟩,ZU (LX V.str ac) (λi σ' H'=>∃ xs x3,σ'=[Vo (.ref l),Vo (.ref d),Vo (.ref ff),x3]/\Qf H H'/\H' ff=Vo (.lst xs)/\Vm (λc v=>∃ a w,v=V.ref a/\H' a=Vo (.tup [.str c,w])/\TD H' 3 (QX ds c) w) (ac.take i) xs) ⟨[],_,rfl,s0,bf,.nil⟩ (λi σ' H' _ h=>by obtain⟨_,_,_,h,_⟩:=h;exact SqL.of (h _ _ hl)) ?_ ?_⟩
 .rintro i x σ' H' hx ⟨xs,x3,rfl,s',hf,pr⟩
  refine stN λN hN=>?_
  rw[Of]at hx
  cases hc:ac[i]? with
  | none=>rw[hc]at hx;cases hx
  | some c =>
  rw[hc]at hx;cases hx;walk_at "rd";have li:=(List.getElem?_eq_some_iff.mp hc).1
  have lp:=Vn pr;rw[Ob]at lp;refine⟨.inl ⟨rfl,_,SqL.of hf⟩,.inl ⟨_,.inl (s' _ _ hd)⟩,_,Zr.k (k:=.inr c) (s' _ _ hd),QY,λp hp=>?_⟩
  have tv:=(dk.sameT s'.t).getD c;generalize (Q7 kvs (.inr c)).getD .non=w at tv ⊢;have s2:=Qb hp (.tup [.str c,w]);have g2:upd H' p (.tup [.str c,w]) p=_:=Qa;generalize upd H' p (.tup [.str c,w])=H2 at s2 g2 ⊢;have sl:=Xd (zs:=xs++[.ref p]) (s2 _ _ hf);have tl:QO H2 (upd H2 ff (.lst (xs++[.ref p]))):=λb ys e=>sl.tup e
  refine⟨xs,s2 _ _ hf,Qm #[0],hN _ _ ⟨xs++[.ref p],_,rfl,QD (s'.trans s2) bZ,Qa,?_⟩⟩
  rw[Im,hc];exact Jv (Paired.mapP pr λc v ⟨a,w,e,h,t⟩=>⟨a,w,e,sl.tup (s2 _ _ h),TD.sameT (s2.t.trans tl) 3 t⟩) (.cons ⟨p,w,rfl,sl.tup g2,TD.sameT (s2.t.trans tl) 3 tv⟩ .nil)
 .rintro σ' H' ⟨xs,x3,rfl,s',hf,pr⟩
  walk_at "rd";rw[UK,IT]at pr;exact q ff H' xs s' bZ hf pr
inductive Jq(ai:VC)(vs:List V)(H:Hp)(Q:VK)(E:XK):Prop
 | mk:∀ f u xs kvs,∀ ps:Cl,vs=[.ref f,.ref u]->H f=Vo (.dK kvs)->DkV H ps kvs->H u=Vo (.lst xs)->Vm (λ(p:Str×Dt) v=>∃ a w,v=V.ref a/\H a=Vo (.tup [.str p.1,w])/\TD H 3 p.2 w) ps xs->ps.length<=60->(∀ H',Qf H H'->Q (.bl true) H')->Jq ai vs H Q E
seal La in
theorem J8b(T:Tx K mg ob)(Jf:∀ n,Cal P w K mg base (1+n) "_law_same" ["_law_found","_law_due"] (ZN K n))(F:Fun K "_law_dict" "_law_dict" QMa f fd):Qp P w K mg base CX0 10 f fd ["_law_found","_law_due"] (Jq K):=by
 refine F.ok J4a (λvs H Q E h=>?_) (λah A outer s H vs Q E hr h=>?_)
 .walk_at "n"
 obtain⟨f,u,xs,kvs,ps,rfl,hf,dk,hu,pr,lp,q⟩:=h
 exists J4a,Qj,Qea,Qq,ZOc,Qq,Qy,Jub,Q6,Qj,Qea,Qh,Qi,Qh,Qx,YZ,Jf 8,#[0],Qh,Qi,Qh,Qx,Qu,Qz
 have lx:=Vn pr;have ld:=dk.len;refine QJ (.dK hf) Xxb ⟨_,rfl,(if_neg (λz=>Df z)).mpr ⟨_,hf,_,.inl (SqL.of hu),?_⟩⟩
 rw[if_neg (λz=>z #[0])]
 refine⟨_,hf,λob nf=>?_⟩
 have fu:f≠u:=Zj hf hu (by intro z;cases z)
 have tf:QO H (upd H f (.frz ob (.dK kvs))):=λb ys e=>by rw[Qe (Zj e hf (by intro z;cases z))];exact e
 refine Jfc (λi σ' H'=>∃ x3 x4,σ'=[Vo (.ref f),Vo (.ref u),Vo (.int i),x3,x4]/\Qf (upd H f (.frz ob (.dK kvs))) H') ⟨_,_,rfl,Qf.refl _⟩ (λi σ' H' _ h=>by obtain⟨_,_,_,h⟩:=h;exact h _ _ Qa) ?_ ?_
 .rintro i k v σ' H' p aG ⟨x3,x4,rfl,s'⟩ hp
  refine stN λN hN=>?_
  have li:=(List.getElem?_eq_some_iff.mp aG).1
  have hc:ps[i]?=Vo (ps[i]'#[0]):=IA _
  have hx:xs[i]?=Vo (xs[i]'#[0]):=IA _
  obtain⟨ek,tv⟩:=Ql dk hc aG;have ek:k=Ve (ps[i]'#[0]).1:=ek
  subst ek;obtain⟨a,w,ea,ha,tw⟩:=Ql pr hc hx;generalize ps[i]'#[0]=pc at tv ha tw aG hp ⊢
  have s2:=Qb hp (.tup [kV (.inr pc.1),v]);have g2:upd H' p (.tup [kV (.inr pc.1),v]) p=_:=Qa;generalize upd H' p (.tup [kV (.inr pc.1),v])=H2 at s2 g2 ⊢;have au:=s'.trans s2;have sK:H2 u=Vo (.lst xs):=au _ _ (by rw[Qe (VN fu)];exact hu)
  have kO:H2 a=Vo (.tup [.str pc.1,w]):=au.t _ _ (tf _ _ ha);have sL:=tf.trans au.t;have bF:atI xs (i:Int)=Vo (.ref a):=by rw[<- ea];exact QQ hx
  walk_at "rd";refine⟨_,SqT.of g2,rfl,_,_,rfl,_,_,rfl,rfl,?_⟩
  walk_at "rd";refine QJ (.str pc.1) QS ⟨_,rfl,(if_neg (λz=>Df z)).mpr ⟨_,SqL.of sK,_,bF,a,rfl,_,SqT.of kO,_,at0 _ _,?_⟩⟩
  exact⟨rfl,(if_neg (not_not_intro rfl)).mpr ⟨_,SqL.of sK,_,bF,a,rfl,_,SqT.of kO,_,at1 _ _ _,v,w,pc.2,rfl,by decide,TD.mono 3 #[1] (TD.sameT sL 3 tv),TD.mono 3 #[1] (TD.sameT sL 3 tw),λH3 s3=>⟨_,rfl,(if_neg (λz=>Df z)).mpr (hN _ _ ⟨_,_,rfl,au.trans s3⟩)⟩⟩⟩
 .rintro σ' H' ⟨x3,x4,rfl,s'⟩
  walk_at "rd";refine⟨f,nf,ob,_,s' _ _ Qa,q _ (Jx hf s')⟩
inductive Zy(ai:VC)(vs:List V)(H:Hp)(Q:VK)(E:XK):Prop
 | mk:∀ f xs l d S ac R B,vs=[.ref f,.ref l,.ref d]->H f=Vo (.lst xs)->Vm (Y0d H ac) R xs->H l=Vo (.lst (LX V.str ac))->ac.length<=60->Dc H S d B->(∀ x∈B,NdC x.2.1/\GK (kV x.1))->(B.map (·.1)).Nodup->B.length<=60->Fit B R->(∀ H',Qf H H'->Q (.bl true) H')->Zy ai vs H Q E
seal La in
theorem Zob(T:Tx K mg ob)(wN:Cal P w K mg base 1 "_law_rising" ["_law_some"] (Jp K))(wO:Cal P w K mg base 10 "_law_dict" ["_law_found","_law_due"] (Jq K))(Jf:∀ n,Cal P w K mg base (1+n) "_law_same" ["_law_found","_law_due"] (ZN K n))(wP:Cal P w K mg base 1 "_law_spelled" ["_law_columns","_law_row_here"] (Zu K))(F:Fun K "_law_reads" "_law_reads" XI f fd):Qp P w K mg base CX0 11 f fd ["_law_found","_law_columns","_law_some"] (Zy K):=by
 refine F.ok Zya (λvs H Q E h=>?_) (λah A outer s H vs Q E hr h=>?_)
 .walk_at "n"
 obtain⟨f,xs,l,d,S,ac,R,B,rfl,hf,px,hl,lc,dc,hB,nd,lB,fit,q⟩:=h
 exists 1,Zya,Qj,Qea,Qq,Qy,Qq,Qy,Q6,YFc false false,Qj,Qea,Qq,Qy,YZ,Jf 8,#[0],Qh,Qi,Qh,Qi,Qh,Qi,Qh,Qi
 refine ZZ λR1 iL=>?_
 walk_at "rd";have lk:(kvB B).length=B.length:=by unfold kvB;rw[UK]
 refine⟨d,kvB B,rfl,dc.at_,by lia,λx hx=>?_,by unfold kvB;rw[Di];exact nd,λp H1 ys ks s1 hp g1 ra=>?_⟩
 .obtain⟨y,hy,rfl⟩:=mem_map.mp hx
  exact(hB y hy).2.key
 have lx:=Vn px;have lR:=fit.len;have kp:(kvB B).map (λx=>kV x.1)=B.map λx=>kV x.1:=by unfold kvB;rw[Di];rfl
 have pm:=ra.perm;rw[kp]at pm;have ek:ks=R.map LW:=by
  refine Pl.ZZc.uniq (λv hv=>?_) ra.up (by rw[Da];exact Db (λ{a b} h=>h.2.2) fit.up) λv=>(pm.mem_iff).trans (fit.pm.mem_iff).symm
  obtain⟨x,hx,rfl⟩:=mem_map.mp (pm.mem_iff.mp hv);exact(hB x hx).2.gp.pl
 have ly:ys.length=xs.length:=by rw[ra.len,ek,UK];exact lx
 refine iL _ _ (ZZ λR2 sM=>?_)
 clear iL;walk_at "rd";refine QJ (.lst (s1 _ _ hf)) Y4b ⟨_,rfl,(if_neg (λz=>Df z)).mpr ⟨xs,.inl (SqL.of (s1 _ _ hf)),ys,.inl (SqL.of g1),(if_neg (λz=>z #[0])).mpr (sM _ _ ?_)⟩⟩
 clear sM;walk_at "rd";refine⟨xs,s1 _ _ hf,ys,g1,?_⟩
 refine Q5c (K:=K) xs ys #[0] (λi σ' H'=>Qf H1 H'/\∃ x4 x5,σ'=[Vo (.ref f),Vo (.ref l),Vo (.ref d),Vo (.ref p),x4,x5]) ⟨Qf.refl _,_,_,rfl⟩ (λi σ' H' h=>⟨h.1 _ _ (s1 _ _ hf),h.1 _ _ g1⟩) ?_ ?_
 .rintro i x y T σ' H' hx hy ⟨sm,x4,x5,rfl⟩ hT
  have st:=sm.trans (Qb hT (.tup [x,y]));have gT:upd H' T (.tup [x,y]) T=_:=Qa;generalize upd H' T (.tup [x,y])=H2 at st gT ⊢;have hi:=(List.getElem?_eq_some_iff.mp hx).1
  have aX:R[i]?=Vo (R[i]'#[0]):=IA _
  obtain⟨a,b,kvs,ex,ha,hb,dk⟩:=Ql px aX hx;obtain⟨a2,k,v,ey,hk,kO,hm⟩:=ra.at_ i y hy;obtain⟨z,hz,ez⟩:=mem_map.mp hm;cases ez;subst ex ey;rw[ek,Of,aX]at hk
  have hk:(R[i]'#[0]).1=kV z.1:=Vr hk
  rw[hk]at ha;have mK:=hB z hz;obtain⟨wQ,fM,wR⟩:=dc.bs z hz;have hc:=fit.cs _ (IC (show i < R.length by lia)) z hz hk
  have au:=s1.trans st;have kh:hV (kV z.1)=true:=mK.2.gp.hv;walk_at "rd";refine⟨_,SqT.of gT,rfl,_,_,rfl,_,_,rfl,rfl,?_⟩
  walk_at "rd";refine QJ (.tup (au _ _ ha)) QRa ⟨_,rfl,(if_neg (λz=>Df z)).mpr ⟨_,.inr (SqT.of (au _ _ ha)),(if_neg (λz=>z rfl)).mpr ⟨_,SqT.of (au _ _ ha),_,at0 _ _,_,SqT.of (st _ _ kO),_,at0 _ _,kV z.1,kV z.1,.v (kV z.1),rfl,by decide,TD.ofV kh,TD.ofV kh,λH3 s3=>⟨_,rfl,(if_neg (λz=>Df z)).mpr ?_⟩⟩⟩⟩
  have az:=au.trans s3;refine⟨_,SqT.of (az _ _ ha),_,at1 _ _ _,_,SqT.of ((st.trans s3) _ _ kO),_,at1 _ _ _,l,z.2.2,ac,z.2.1,wQ,rfl,az _ _ hl,az _ _ fM,wR.sameT az.t,lc,λr4 H4 zs s4 gM g4 pz=>?_⟩
  have wS:=(az.trans s4) _ _ hb;have iO:=dk.sameT (az.trans s4).t;have eb:ac.map (λc=>(c,QX (R[i]'#[0]).2 c))=ac.map λc=>(c,QX z.2.1 c):=Io λc _=>by rw[hc.get mK.1]
  rw[eb]at iO;refine⟨b,r4,zs,kvs,_,rfl,wS,iO,g4,?_,by rw[UK];exact lc,λH5 s5=>⟨_,rfl,(if_neg (λz=>Df z)).mpr ⟨st.trans (s3.trans (s4.trans s5)),_,rfl⟩⟩⟩
  refine ZM (by rw[UK];exact(Vn pz).symm) λj u hu=>?_
  have hj:=(List.getElem?_eq_some_iff.mp hu).1
  have kP:ac[j]?=Vo (ac[j]'(by rw[Vn pz];exact hj)):=IA _
  obtain⟨c4,w4,e4,h4,t4⟩:=Ql pz kP hu;exact⟨_,by rw[Of,kP];rfl,c4,w4,e4,h4,t4⟩
 .rintro σ' H' ⟨sm,x4,x5,rfl⟩
  walk_at "rd";exact q _ (s1.trans sm)
inductive XRc(H:Hp)(L:List Str)(p:Vh)(i:Nat)(H':Hp):Prop
 | mk (ds:Cl) (kvs:List (Key×V)) (s:Qf H H') (at_:H' p=Vo (.dK kvs)) (dk:DkV H' ds kvs) (nd:NdC ds) (ok:∀ p∈ds,p.1∈L.take i/\∃ v,p.2=.v v/\GP v)
theorem Jma(nd:NdC ds)(h:∀ p∈ds,p.1∈L):ds.length<=L.length:=by
 have:=QPb nd λa ha=>show a∈L from by
  obtain⟨p,hp,rfl⟩:=mem_map.mp ha;exact h p hp
 rwa [UK]at this
theorem XRc.put{p:Vh}(h:XRc H L p j H')(s1:Qf H' H1)(hp:H p=Vp){z:Str}(hz:z∈L.take j){v:V}(gv:GP v)(lL:L.length<=60):∃ H2,Xb H1 p (.str z) v H2/\XRc H L p j H2:=by
 obtain⟨ds,kvs,s,at_,dk,nd,ok⟩:=h;have ll:=Jma nd λq hq=>IQ (ok q hq).1
 have lk:=dk.len;have at1:=s1 _ _ at_;have dk:=(dk.sameT s1.t).put (c:=z) (TD.ofV (n:=3) gv.hv);have tp:QO H1 (upd H1 p (.dK (ZC kvs (.inr z) v))):=λb xs e=>by rw[Qe (Zj e at1 (by intro z;cases z))];exact e
 refine⟨_,Xb.k (k:=.inr z) at1 (Qm #[0]),ZW ds z (.v v),_,QD (s.trans s1) hp,Qa,dk.sameT tp,XRa nd _ _,λq hq=>?_⟩
 obtain⟨c',v'⟩:=q
 rcases JX.mp hq with ⟨rfl,rfl⟩ | ⟨_,hm⟩
 .exact⟨hz,v,rfl,gv⟩
 .exact ok _ hm
inductive YV(ai:VC)(vs:List V)(H:Hp)(Q:VK)(E:XK):Prop
 | mk:∀ c l L,vs=[.int c,.ref l]->H l=Vo (.lst (LX V.str L))->L.Nodup->L.length<=60->(∀ r H' ds kvs,Qf H H'->H r=Vp->H' r=Vo (.dK kvs)->DkV H' ds kvs->NdC ds->ds.length<=L.length->(∀ p∈ds,p.1∈L/\∃ v,p.2=.v v/\GP v)->Q (.ref r) H')->YV ai vs H Q E
seal La in
theorem XAb(T:Tx K mg ob)(wT:Cal P w K mg base 3 "_law_plain" ["_law_cell_here"] (JK K))(Ja:Cal P w K mg base 1 "_law_mix" ["_law_cell_here","_law_k"] (Za K))(F:Fun K "_law_row" "_law_row" Z6a f fd):Qp P w K mg base CX0 4 f fd ["_law_cell_here","_law_columns"] (YV K):=by
 refine F.ok Xja (λvs H Q E h=>?_) (λah A outer s H vs Q E hr h=>?_)
 .walk_at "n"
 obtain⟨c,l,L,rfl,hl,nd,lL,q⟩:=h
 exists Xja,JN,Q6,Qq,Qy,Qj,Q5,Qu,Qz,ZY,Qh,Qx,Qu,Qz,Qj,Q5,Qj,Q5,Qu,Qz,ZY,Qh,Qx
 intro p hp;have s0:=Qb hp (.dK []);have g0:upd H p (.dK []) p=_:=Qa;generalize upd H p (.dK [])=H0 at s0 g0 ⊢;refine⟨_,.inl (SqL.of (s0 _ _ hl)),by rw[UK];lia,by rw[UK];lia,?_⟩
 refine ZH (λi σ' H'=>∃ x3,σ'=[Vo (.int c),Vo (.ref l),Vo (.ref p),x3]/\XRc H L p i H') ⟨_,rfl,[],[],s0,g0,.nil,LH,λp h=>nomatch h⟩ ?_ ?_
 .rintro i σ' H' hi ⟨x3,rfl,ds,kvs,s',cy,dk,mL,hds⟩
  refine stN λN hN=>?_
  rw[UK]at hi;have hi:i < L.length:=by lia
  have I1:XRc H L p (i+1) H':=⟨ds,kvs,s',cy,dk,mL,λq hq=>⟨(take_subset_take_left L (U1 i)) (hds q hq).1,(hds q hq).2⟩⟩
  have hz:L[i]?=Vo L[i]:=IA hi
  have hm:L[i]∈L.take (i+1):=by rw[Im,hz];exact Ur _ (mem_singleton.mpr rfl)
  have bF:atI (LX V.str L) (0+(i:Int))=Vo (.str L[i]):=by rw[De];exact QQ (by rw[Of,hz];rfl)
  walk_at "rd";refine(λput=>QR (λ_=>put) λ_=>⟨_,_,rfl,λm _ _=>⟨_,rfl,QR (λ_=>put) λ_=>hN _ _ ⟨_,rfl,I1⟩⟩⟩) ?_
  refine⟨_,_,rfl,λm _ _=>⟨_,rfl,λv H2 gv nv s2=>⟨_,SqL.of ((s'.trans s2) _ _ hl),_,bF,?_⟩⟩⟩
  obtain⟨H3,d3,I3⟩:=I1.put s2 hp hm gv lL;refine⟨H3,d3,by unfold Qaa;decide,QR (λ_=>⟨_,_,rfl,λm _ _=>⟨_,rfl,QR (λ_=>?_) λ_=>hN _ _ ⟨_,rfl,I3⟩⟩⟩) λ_=>hN _ _ ⟨_,rfl,I3⟩⟩
  obtain⟨H4,d4,I4⟩:=I3.put (Qf.refl _) hp hm (v:=.non) trivial lL;have wU:Qf H H3:=by obtain⟨_,_,s,_⟩:=I3;exact s
  exact⟨_,SqL.of (wU _ _ hl),_,bF,H4,d4,hN _ _ ⟨_,rfl,I4⟩⟩
 .rintro σ' H' ⟨x3,rfl,ds,kvs,s',cy,dk,mL,hds⟩
  walk_at "rd";rw[UK]at hds;have e:((L.length:Nat):Int).toNat=L.length:=by lia
  rw[e,IT]at hds;exact q p H' ds kvs s' hp cy dk mL (Jma mL λq hq=>(hds q hq).1) hds
def isN:Dt->Bool
 | .v .non=>true
 | _=>false
theorem Yab{d:Dt}:isN d=true↔d=Yn:=by
 constructor
 .intro h
  unfold isN at h
  split at h
  .rfl
  .cases h
 .rintro rfl;rfl
def Q3a(ds:Cl):Cl:=ds.filter λp=>!isN p.2
def Zqb(ds:Cl)(H:Hp)(x v:V):Prop:=∃ a w,v=.ref a/\H a=Vo (.tup [x,w])/\TD H 3 (QX ds (Yha x)) w
theorem Zqb.mono(H H':Hp)(x v:V)(s:Yu H H'):Zqb ds H x v->Zqb ds H' x v
 | ⟨a,w,e,h,t⟩=>⟨a,w,e,s.tup h,TD.sameT (λb xs e=>s.tup e) 3 t⟩
theorem QUb:∀ {cs:Cl},(∀ q∈cs,QX ds q.1=q.2)->∀ {ys:List V},Vm (Zqb ds H) (LX V.str (cs.map LW)) ys->∃ kvs,Vm (λ(kv:Key×V) y=>∃ t,y=V.ref t/\H t=Vo (.tup [kV kv.1,kv.2])) kvs ys/\DkV H cs kvs
 | [],_,ys,pr=>by cases pr;exact⟨[],.nil,.nil⟩
 | c::cs,h,ys,pr=>by
  cases pr with
  | cons a b =>
   obtain⟨t,w,e,ht,tw⟩:=a;obtain⟨kvs,h1,h2⟩:=QUb (λq hq=>h q (VM _ hq)) b
   have e2:QX ds (Yha (.str c.1))=c.2:=h c VL;rw[e2]at tw;exact⟨(Ve c.1,w)::kvs,.cons ⟨t,e,ht⟩ h1,.cons ⟨rfl,tw⟩ h2⟩
theorem Ztc{p:V->Bool}{g:Str×Dt->Bool}(dk:DkV H ds kvs)(e:∀ q∈ds,p (.str q.1)=g q):(kvs.map λq=>kV q.1).filter p=LX V.str ((ds.filter g).map LW):=by
 have:(kvs.map λq=>kV q.1)=LX V.str (ds.map LW):=dk.keys
 rw[this,Di,LI,Di]
 congr 1
 exact LV e
theorem XBb(dk:DkV H ds kvs)(nd:NdC ds){k:Key}{v:V}(h:(k,v)∈kvs):∃ q∈ds,k=Ve q.1/\QX ds q.1=q.2/\Q7 kvs (.inr q.1)=Vo v/\TD H 3 q.2 v:=by
 obtain⟨i,hi,ei⟩:=mem_iff_getElem.mp h;have l:=dk.len;have hq:ds[i]?=Vo (ds[i]'#[0]):=IA _
 obtain⟨e,t⟩:=Ql dk hq (List.getElem?_eq_some_iff.mpr ⟨hi,ei⟩)
 have e:k=Ve (ds[i]'#[0]).1:=e
 refine⟨_,IC _,e,Zh nd (IC _),?_,t⟩
 rw[<- e];have:=JQ LW (dk.nd nd) h;unfold Q7;rw[this];rfl
theorem YXa{ob:Obj}(hd:H d=Vo (.dK kvs)):QO H (upd H d (.frz ob (.dK kvs))):=λb ys e=>by rw[Qe (Zj e hd (by intro z;cases z))];exact e
theorem XTa(nd:NdC ds)(g:Str×Dt->Bool):NdC (ds.filter g):=nd.sublist (filter_sublist.map _)
theorem Z9b{H3:Hp}{D:Vh}(g:H3 D=Vo (.lst ys))(t:QO H2 H3)(pr:∃ kvs,Vm (λ(kv:Key×V) y=>∃ t,y=V.ref t/\H2 t=Vo (.tup [kV kv.1,kv.2])) kvs ys/\DkV H2 cs kvs)(nd:NdC cs)(len:cs.length<=60)
 (q:∀ r H' cK,Qf H3 H'->H3 r=Vp->H' r=Vo (.dK cK)->DkV H' cs cK->Q (.ref r) H'):Y8c [.ref D] H3 Q:=by
 obtain⟨kvs,h1,h2⟩:=pr;have l:=h2.len;refine⟨D,ys,kvs,rfl,g,by rw[<- Vn h1];lia,Paired.mapP h1 λkv y ⟨a,e,h⟩=>⟨a,e,t _ _ h⟩,λD2 cE=>?_⟩
 rw[Xi (kvs:=[]) (h2.nd nd),LC];have s:=Qb cE (.dK kvs);exact q D2 _ kvs s cE Qa ((h2.sameT t).sameT s.t)
theorem X1{ob:Obj}(hd:H d=Vo (.frz ob (.dK kvs))):QO H (upd H d (.dK kvs)):=λb ys e=>by rw[Qe (Zj e hd (by intro z;cases z))];exact e
inductive Jr(ai:VC)(vs:List V)(H:Hp)(Q:VK)(E:XK):Prop
 | mk:∀ d ds kvs,vs=[.ref d]->H d=Vo (.dK kvs)->DkV H ds kvs->NdC ds->ds.length<=60->(∀ r H' cK,Qf H H'->H r=Vp->H' r=Vo (.dK cK)->DkV H' (Q3a ds) cK->Q (.ref r) H')->Jr ai vs H Q E
seal La in
theorem QVb(T:Tx K mg ob)(F:Fun K "_law_filled" "_law_filled" Y4 f fd):Qp P w K mg base CX0 1 f fd ["_law_row_here"] (Jr K):=by
 refine F.ok QCa (λvs H Q E h=>?_) (λah A outer s H vs Q E hr h=>?_)
 .walk_at "n"
 obtain⟨d,ds,kvs,rfl,hd,dk,nd,ld,q⟩:=h
 exists QCa,QK,ZSa,JKa,Q3,Xo,Ze,Ze
 have lk:=dk.len;refine⟨_,hd,λob nf=>YVb (λv=>!decide ((Q7 kvs (.inr (Yha v))).getD .non=.non)) (Zqb ds) Zqb.mono (QG #[0]) Qa (λk v H2 R hm s2 r=>?_) (λk v H2 R hm hp s2 r=>?_) λD H2 ys hD s2 g2 py=>?_⟩
 .obtain⟨q,hq,rfl,_,vv,tv⟩:=XBb dk nd hm
  walk_at "rd";refine⟨v,.inl ⟨_,.inr q.1,.inr ⟨ob,s2 _ _ Qa⟩,rfl,vv.symm⟩,?_⟩
  have e:(Q7 kvs (.inr (Yha (kV (.inr q.1))))).getD .non=v:=by show(Q7 kvs (.inr q.1)).getD .non=v;rw[vv];rfl
  rw[e]at r;exact r
 .obtain⟨q,hq,rfl,gq,vv,tv⟩:=XBb dk nd hm
  walk_at "rd";refine⟨v,.inl ⟨_,.inr q.1,.inr ⟨ob,s2 _ _ Qa⟩,rfl,vv.symm⟩,QY,λp hp=>r _ _ ⟨p,v,rfl,Qa,?_⟩ (Qb hp _)⟩
  show TD _ 3 (QX ds q.1) v;rw[gq];exact TD.sameT (((YXa hd).trans s2.t).trans (Qb hp _).t) 3 tv
 .rw[Ztc dk (g:=λp=>!isN p.2) λq hq=>?_]at py
  .have sub:∀ q∈ds.filter (λp=>!isN p.2),QX ds q.1=q.2:=λq hq=>Zh nd (mem_filter.mp hq).1
   have nD:D≠d:=λz=>by rw[z,Qa]at hD;cases hD
   have s3:=Jx hd s2;exact⟨d,nf,ob,_,s2 _ _ Qa,Z9b (by rw[Qe nD];exact g2) (X1 (s2 _ _ Qa)) (QUb sub py) (XTa nd _) (VI (OM _ _) ld) λr H' cK s' aX g' iP=>q r H' cK (s3.trans s') (none_of s3 aX) g' iP⟩
  .rcases dk.get q.1 with ⟨h,_⟩ | ⟨w,hw,tw⟩
   .exact absurd hq (h q.2)
   .rw[Zh nd hq]at tw
    show(!decide ((Q7 kvs (.inr q.1)).getD .non=.non))=!isN q.2;rw[hw]
    congr 1
    rw[Uw,Yab,decide_eq_true_iff];exact XNc tw
inductive YI(ai:VC)(vs:List V)(H:Hp)(Q:VK)(E:XK):Prop
 | mk:∀ a b,vs=[a,b]->Q4 a->Q4 b->Q (.bl (Pl.ltV a b)) H->YI ai vs H Q E
seal La in
theorem QWb(T:Tx K mg ob)(F:Fun K "_law_before" "_law_before" Y3 f fd):Qp P w K mg base CX0 1 f fd ["_law_one","_law_other"] (YI K):=by
 refine F.ok QAa (λvs H Q E h=>?_) (λah A outer s H vs Q E hr h=>?_)
 .walk_at "n"
 obtain⟨a,b,rfl,ha,hb,q⟩:=h
 exists QAa,Qj,Qea,Yd,JYd,YM,ZEc
 cases a with
 | int i=>cases b with
  | int j =>
   refine QJ (.int i) Zf (QJ (.int j) Zf ⟨rfl,?_⟩)
   rw[if_neg (λz=>z rfl)]
   rw[Pl.YBb]at q;exact .inl ⟨i,rfl,j,rfl,q⟩
  | str z =>
   refine QJ (.int i) Zf (QJ (.str z) QS ⟨rfl,?_⟩)
   rw[if_pos (λz=>by cases z)]
   exact QJ (.str z) QS q
  | _=>exact hb.elim
 | str y=>cases b with
  | int j =>
   refine QJ (.str y) QS (QJ (.int j) Zf ⟨rfl,?_⟩)
   rw[if_pos (λz=>by cases z)]
   exact QJ (.int j) Zf q
  | str z =>
   refine QJ (.str y) QS (QJ (.str z) QS ⟨rfl,?_⟩)
   rw[if_neg (λz=>z rfl)]
   rw[Pl.Qbb]at q;exact .inr ⟨y,rfl,z,rfl,q⟩
  | _=>exact hb.elim
 | _=>exact ha.elim
theorem QXb{k:Key}(h:∀ y∈B,y.1≠k):Q7 (kvB B) k=Vp:=by
 have e:=JLa (λy:Key×Cl×Vh=>y.1) (xs:=B) (b:=k) h
 unfold kvB;rw[Q8a];show Option.map _ (B.find? λx=>decide (x.1=k))=Vp
 rw[e];rfl
theorem Jna(nd:(B.map (·.1)).Nodup){x:Key×Cl×Vh}(h:x∈B):Q7 (kvB B) x.1=Vo (.ref x.2.2):=by
 unfold kvB;rw[Q8a,JQ (·.1) nd h]
 rfl
theorem Jab(nd:(B.map (·.1)).Nodup){i:Nat}{x:Key×Cl×Vh}(hb:B[i]?=Vo x):∀ y∈B.take i,y.1≠x.1:=λy hy=>by
 obtain⟨li,ei⟩:=List.getElem?_eq_some_iff.mp hb
 obtain⟨j,hj,ej⟩:=mem_iff_getElem.mp hy;rw[Ob]at hj;rw[L9]at ej;have aC:=(pairwise_iff_getElem.mp (pairwise_map.mp nd)) j i #[0] li #[0]
 rwa [ej,ei]at aC
structure BwI(H:Hp)(d p:Vh)(ob:Obj)(B:Bk)(lo hi:V)(i:Nat)(H':Hp):Prop where
 s:∀ b o,b≠d->H b=Vo o->H' b=Vo o
 fz:H' d=Vo (.frz ob (.dK (kvB B)))
 at_:H' p=Vo (.dK (kvB ((B.take i).filter λx=>wi lo hi (kV x.1))))
def YW(B' B:Bk):Prop:=B'.map (λx=>(x.1,x.2.1))=B.map λx=>(x.1,x.2.1)
structure XSc(H H':Hp)(r:Vh)(B':Bk):Prop where
 at_:H' r=Vo (.dK (kvB B'))
 bs:∀ x∈B',H x.2.2=Vp/\∃ kvs,H' x.2.2=Vo (.dK kvs)/\DkV H' x.2.1 kvs
inductive Z7(ai:VC)(vs:List V)(H:Hp)(Q:VK)(E:XK):Prop
 | mk:∀ d B lo hi,vs=[.ref d,lo,hi]->H d=Vo (.dK (kvB B))->(∀ x∈B,Q4 (kV x.1))->(B.map (·.1)).Nodup->B.length<=60->J4 lo->J4 hi->(∀ r H',Qf H H'->H r=Vp->H' r=Vo (.dK (kvB (B.filter λx=>wi lo hi (kV x.1))))->Q (.ref r) H')->Z7 ai vs H Q E
seal La in
theorem XHa(T:Tx K mg ob)(XXc:Cal P w K mg base 1 "_law_before" ["_law_one","_law_other"] (YI K))(F:Fun K "_law_between" "_law_between" YB f fd):Qp P w K mg base CX0 2 f fd ["_law_some","_law_low","_law_high"] (Z7 K):=by
 refine F.ok X7 (λvs H Q E h=>?_) (λah A outer s H vs Q E hr h=>?_)
 .walk_at "n"
 obtain⟨d,B,lo,hi,rfl,hd,hk,nd,lB,aT,aZ,q⟩:=h
 exists X7,JN,Jub,Q6,Xo,Ylb,ZY,Ze
 intro p hp;have s0:=Qb hp (.dK []);have g0:upd H p (.dK []) p=_:=Qa;generalize upd H p (.dK [])=H0 at s0 g0 ⊢;have wV:=s0 _ _ hd;have lk:(kvB B).length=B.length:=by unfold kvB;rw[UK]
 have iQ:p≠d:=λz=>by rw[z,hd]at hp;cases hp
 refine⟨_,wV,λob nf=>?_⟩
 refine YFb (λi σ' H'=>∃ x4,σ'=[Vo (.ref d),Vo lo,Vo hi,Vo (.ref p),x4]/\BwI H d p ob B lo hi i H') ⟨_,rfl,⟨λb o hb e=>by rw[Qe hb];exact s0 _ _ e,Qa,by rw[Qe iQ];exact g0⟩⟩ (λi σ' H' _ h=>by obtain⟨_,_,h⟩:=h;exact h.fz) ?_ ?_
 .rintro i k v σ' H' aG ⟨x4,rfl,I⟩
  unfold kvB at aG;rw[Of]at aG
  cases hb:B[i]? with
  | none=>rw[hb]at aG;cases aG
  | some x =>
  rw[hb]at aG;cases aG;refine stN λN hN=>?_
  have li:=(List.getElem?_eq_some_iff.mp hb).1
  have mB:=hk x (Og hb);have tk:B.take (i+1)=B.take i++[x]:=by rw[Im,hb];rfl
  have keep:wi lo hi (kV x.1)=false->N [Vo (.ref d),Vo lo,Vo hi,Vo (.ref p),Vo (kV x.1)] H':=λz=>hN _ _ ⟨_,rfl,I.s,I.fz,by rw[tk,IU,filter_cons_of_neg (by rw[z];exact Uc),DC,UV];exact I.at_⟩
  have put:wi lo hi (kV x.1)=true->∃ y,Zr H' d (kV x.1) (Vo y)/\∃ H2,Xb H' p (kV x.1) y H2/\N [Vo (.ref d),Vo lo,Vo hi,Vo (.ref p),Vo (kV x.1)] H2:=λz=>by
   have vv:=Jna nd (Og hb);have no:Q7 (kvB ((B.take i).filter λx=>wi lo hi (kV x.1))) x.1=Vp:=QXb λy hy=>Jab nd hb y (mem_filter.mp hy).1
   have ll:(kvB ((B.take i).filter λx=>wi lo hi (kV x.1))).length<=60:=by
    unfold kvB;rw[UK];refine VI (OM _ _) ?_
    rw[Ob]
    lia
   refine⟨_,.inl ⟨_,x.1,.inr ⟨ob,I.fz⟩,rfl,vv.symm⟩,_,Xb.k (k:=x.1) I.at_ (Qm #[0]),hN _ _ ⟨_,rfl,λb o hb e=>?_,?_,?_⟩⟩
   .rw[Qe (λz=>by rw[z,hp]at e;cases e)];exact I.s b o hb e
   .rw[Qe (VN iQ)];exact I.fz
   .rw[Qa,Yua no,tk,IU,filter_cons_of_pos (p:=λx:Key×Cl×Vh=>wi lo hi (kV x.1)) z,DC]
    unfold kvB;rw[Il]
    rfl
  have wW:Pl.ltV (kV x.1) .non=false:=by cases x.1 <;> rfl
  walk_at "rd";refine(λ(rest:Pl.ltV (kV x.1) lo=false->_)=>QR (λn=>⟨_,_,rfl,mB,aT.resolve_left n,_,rfl,QR (λz=>keep (by unfold wi;rw[z];rfl)) λz=>rest (Bool.eq_false_iff.mpr z)⟩) λn=>rest (by rw[Classical.not_not.mp n];exact wW)) λz=>?_
  exact QR (λe=>put (by unfold wi beh;rw[z,if_pos e];rfl)) λn=>⟨_,_,rfl,aZ.resolve_left n,mB,_,rfl,QR (λc=>put (by unfold wi beh;rw[z,if_neg n,c];rfl)) λc=>keep (by unfold wi beh;rw[z,if_neg n,(Bool.not_eq_false _).mp c];rfl)⟩
 .rintro σ' H' ⟨x4,rfl,I⟩
  walk_at "rd";have at_:=I.at_;rw[lk,IT]at at_;refine⟨d,nf,ob,_,I.fz,q p _ (λb o e=>?_) hp (by rw[Qe iQ];exact at_)⟩
  by_cases z:b=d
  .subst z;rw[Qa,<- hd];exact e
  .rw[Qe z];exact I.s b o z e
theorem Yjd{n:Nat}{d:Dt}(h:TD H n d (.ref a)):∃ ys,H a=Vo (.tup ys):=by
 cases d with
 | v x =>
  obtain⟨hx,e⟩:=h.flat;rw[<- e]at hx;cases hx
 | t xs =>
  obtain⟨m,b,ys,_,e,hb,_⟩:=h.tup;cases e;exact⟨ys,hb⟩
 | l xs=>cases h.h
theorem Dc.ne(h:Dc H S d B){x:Key×Cl×Vh}(hx:x∈B):x.2.2≠d:=λz=>by
 obtain⟨kvs,h1,dk⟩:=h.bs x hx;rw[z,h.at_]at h1;cases h1;have hm:((x.1,V.ref x.2.2):Key×V)∈kvB B:=mem_map.mpr ⟨x,hx,rfl⟩;obtain⟨i,hi,ei⟩:=mem_iff_getElem.mp hm;have l:=dk.len;obtain⟨_,t⟩:=Ql dk (IA (show i < x.2.1.length by lia)) (List.getElem?_eq_some_iff.mpr ⟨hi,ei⟩)
 obtain⟨ys,e⟩:=Yjd t;rw[z,h.at_]at e;cases e
theorem YW.keys(h:YW B' B):B'.map (·.1)=B.map (·.1):=by
 have:=congrArg (LX LW) h;rw[Di,Di]at this;exact this
theorem YW.len(h:YW B' B):B'.length=B.length:=by
 have:=congrArg Oa h.keys
 simpa using this
theorem QYb(c:Str)(B:Bk):(J9 c B).map (·.1)=B.map (·.1):=by unfold J9;rw[Di];rfl
theorem QHc(c:Str)(B:Bk)(i:Nat):(J9 c B).take i=J9 c (B.take i):=by unfold J9;rw[map_take]
inductive WoI(H:Hp)(d p:Vh)(ob:Obj)(B C:Bk)(i:Nat)(H':Hp):Prop
 | mk (B':Bk) (s:∀ b o,b≠d->H b=Vo o->H' b=Vo o) (fz:H' d=Vo (.frz ob (.dK (kvB B)))) (at_:H' p=Vo (.dK (kvB B'))) (e:YW B' (C.take i)) (bs:∀ x∈B',H x.2.2=Vp/\x.2.2≠p/\∃ kvs,H' x.2.2=Vo (.dK kvs)/\DkV H' x.2.1 kvs)
theorem WoI.fz{p:Vh}{ob:Obj}{C:Bk}:WoI H d p ob B C i H'->H' d=Vo (.frz ob (.dK (kvB B)))
 | ⟨_,_,h,_,_,_⟩=>h
inductive J6(ai:VC)(vs:List V)(H:Hp)(Q:VK)(E:XK):Prop
 | mk:∀ d S B c,vs=[.ref d,.str c]->Dc H S d B->(∀ x∈B,NdC x.2.1/\x.2.1.length<=60)->(B.map (·.1)).Nodup->B.length<=60->(∀ r H' B',Qf H H'->H r=Vp->XSc H H' r B'->YW B' (J9 c B)->Q (.ref r) H')->J6 ai vs H Q E
seal La in
theorem XIa(T:Tx K mg ob)(F:Fun K "_law_without" "_law_without" YA f fd):Qp P w K mg base CX0 1 f fd ["_law_some","_law_name"] (J6 K):=by
 refine F.ok X6 (λvs H Q E h=>?_) (λah A outer s H vs Q E hr h=>?_)
 .walk_at "n"
 obtain⟨d,S,B,c,rfl,dc,hB,nd,lB,q⟩:=h
 exists X6,JN,Jub,Q6,Xo,ZY,QK,ZSa,JKa,Q3,Xo,Ze,Qj,Qea,Ze,Ze
 intro p hp;have s0:=Qb hp (.dK []);have g0:upd H p (.dK []) p=_:=Qa;generalize upd H p (.dK [])=H0 at s0 g0 ⊢;have hd:=dc.at_;have lk:(kvB B).length=B.length:=by unfold kvB;rw[UK]
 have iQ:p≠d:=λz=>by rw[z,hd]at hp;cases hp
 refine⟨_,s0 _ _ hd,λob nf=>?_⟩
 refine YFb (λi σ' H'=>∃ x4,σ'=[Vo (.ref d),Vo (.str c),Vo (.ref p),x4]/\WoI H d p ob B (J9 c B) i H') ⟨_,rfl,[],λb o hb e=>by rw[Qe hb];exact s0 _ _ e,Qa,by rw[Qe iQ];exact g0,rfl,λx h=>nomatch h⟩ (λi σ' H' _ h=>by obtain⟨_,_,h⟩:=h;exact h.fz) ?_ ?_
 .rintro i k v σ' H' aG ⟨x4,rfl,I⟩
  unfold kvB at aG;rw[Of]at aG
  cases hb:B[i]? with
  | none=>rw[hb]at aG;cases aG
  | some x =>
  rw[hb]at aG;cases aG;refine stN λN hN=>?_
  obtain⟨B',s',fz,at_,eB,bs⟩:=I;have hm:=Og hb;obtain⟨kvs,hx,dk⟩:=dc.bs x hm;have nx:=dc.ne hm;have aF:=s' _ _ nx hx;have t':QO H H':=λb ys e=>s' b _ (Zj e hd (by intro z;cases z)) e
  have iP:=dk.sameT t';have nB:=hB x hm;have mM:=dk.len;walk_at "rd";refine⟨_,.inl ⟨_,x.1,.inr ⟨ob,fz⟩,rfl,(Jna nd hm).symm⟩,x.2.2,rfl,kvs,aF,λjJ pR=>YVb (λv=>!decide (v=.str c)) (Zqb x.2.1) Zqb.mono (QG #[0]) Qa (λk v H2 R pS s2 r=>?_) (λk v H2 R pS _ s2 r=>?_) λD H2 ys hD s2 g2 py=>?_⟩
  .obtain⟨q,hq,rfl,_,_,_⟩:=XBb iP nB.1 pS
   walk_at "rd";exact⟨rfl,r⟩
  .obtain⟨q,hq,rfl,gq,vv,tv⟩:=XBb iP nB.1 pS
   walk_at "rd";refine⟨_,.inl ⟨_,x.1,.inr ⟨ob,s2 _ _ (by rw[Qe (VN nx)];exact fz)⟩,rfl,(Jna nd hm).symm⟩,x.2.2,rfl,v,.inl ⟨_,.inr q.1,.inr ⟨jJ,s2 _ _ Qa⟩,rfl,vv.symm⟩,QY,λp hp=>r _ _ ⟨p,v,rfl,Qa,?_⟩ (Qb hp _)⟩
   show TD _ 3 (QX x.2.1 q.1) v;rw[gq];exact TD.sameT (((YXa aF).trans s2.t).trans (Qb hp _).t) 3 tv
  .rw[Ztc iP (g:=λp=>decide (p.1≠c)) λq hq=>by simp]at py
   have sub:∀ q∈x.2.1.filter (λp=>decide (p.1≠c)),QX x.2.1 q.1=q.2:=λq hq=>Zh nB.1 (mem_filter.mp hq).1
   have nD:D≠x.2.2:=λz=>by rw[z,Qa]at hD;cases hD
   have s3:=Jx aF s2;refine⟨x.2.2,pR,jJ,_,s2 _ _ Qa,Z9b (by rw[Qe nD];exact g2) (X1 (s2 _ _ Qa)) (QUb sub py) (XTa nB.1 _) (VI (OM _ _) nB.2) λr H4 pU s4 gM g4 iO=>?_⟩
   have fg:=s3.trans s4;have bN:H' r=Vp:=none_of s3 gM;have kk:B'.map (·.1)=(B.take i).map (·.1):=by rw[eB.keys,QHc,QYb]
   have no:Q7 (kvB B') x.1=Vp:=QXb λy hy e=>by
    have:y.1∈(B.take i).map (·.1):=by rw[<- kk];exact mem_map.mpr ⟨y,hy,rfl⟩
    obtain⟨z,hz,ez⟩:=mem_map.mp this;exact Jab nd hb z hz (ez.trans e)
   have ll:(kvB B').length<=60:=by
    unfold kvB;rw[UK,eB.len,Ob];have:(J9 c B).length=B.length:=by unfold J9;rw[UK]
    lia
   have p4:=fg _ _ at_;have tp:QO H4 (upd H4 p (.dK (ZC (kvB B') x.1 (.ref r)))):=λb xs e=>by rw[Qe (Zj e p4 (by intro z;cases z))];exact e
   have sN:r≠p:=λz=>by rw[z,at_]at bN;cases bN
   have mN:r≠d:=λz=>by rw[z,fz]at bN;cases bN
   refine⟨_,Xb.k (k:=x.1) p4 (Qm #[0]),hN _ _ ⟨_,rfl,B'++[(x.1,x.2.1.filter (λp=>decide (p.1≠c)),r)],λb o hb e=>?_,?_,?_,?_,λy hy=>?_⟩⟩
   .rw[Qe (λz=>by rw[z,hp]at e;cases e)];exact fg _ _ (s' b o hb e)
   .rw[Qe (VN iQ)];exact fg _ _ fz
   .rw[Qa,Yua no]
    unfold kvB;rw[Il]
    rfl
   .unfold YW
    rw[Il,show B'.map (λx=>(x.1,x.2.1))=_ from eB,Im,Il]
    congr 1
    unfold J9;rw[Of,hb]
    rfl
   .rcases mem_append.mp hy with h | h
    .obtain⟨b1,b2,kv,b3,b4⟩:=bs y h
     exact⟨b1,b2,kv,by rw[Qe b2];exact fg _ _ b3,(b4.sameT fg.t).sameT tp⟩
    .rw[mem_singleton.mp h]
     refine⟨?_,sN,pU,by rw[Qe sN];exact g4,iO.sameT tp⟩
     cases e:H r with
     | none=>rfl
     | some o=>rw[s' r o mN e]at bN;cases bN
 .rintro σ' H' ⟨x4,rfl,I⟩
  walk_at "rd";obtain⟨B',s',fz,at_,eB,bs⟩:=I;have lD:(J9 c B).length=B.length:=by unfold J9;rw[UK]
  rw[lk,<- lD,IT]at eB;have td:QO H' (upd H' d (.dK (kvB B))):=X1 fz;refine⟨d,nf,ob,_,fz,q p _ B' (λb o e=>?_) hp ⟨by rw[Qe iQ];exact at_,λy hy=>?_⟩ eB⟩
  .by_cases z:b=d
   .subst z;rw[Qa,<- hd];exact e
   .rw[Qe z];exact s' b o z e
  .obtain⟨b1,b2,kv,b3,b4⟩:=bs y hy
   exact⟨b1,kv,by rw[Qe (λz=>by rw[z,hd]at b1;cases b1)];exact b3,b4.sameT td⟩
inductive CpI(H:Hp)(d:Vh)(ob:Obj)(B:Bk)(i:Nat)(H':Hp)(ys:List V):Prop
 | mk (B':Bk) (s:Qf (upd H d (.frz ob (.dK (kvB B)))) H') (ly:ys.length=i) (e:YW B' (B.take i)) (pr:Vm (λ(x:Key×Cl×Vh) v=>∃ a,v=V.ref a/\H' a=Vo (.tup [kV x.1,.ref x.2.2])) B' ys) (bs:∀ x∈B',H x.2.2=Vp/\∃ kvs,H' x.2.2=Vo (.dK kvs)/\DkV H' x.2.1 kvs)
inductive X2(ai:VC)(vs:List V)(H:Hp)(Q:VK)(E:XK):Prop
 | mk:∀ d S B,vs=[.ref d]->Dc H S d B->(∀ x∈B,x.2.1.length<=60)->(B.map (·.1)).Nodup->B.length<=60->(∀ r H' B',Qf H H'->H r=Vp->XSc H H' r B'->YW B' B->Q (.ref r) H')->X2 ai vs H Q E
seal La in
theorem Ybb(T:Tx K mg ob)(F:Fun K "_law_copy" "_law_copy" QDa f fd):Qp P w K mg base CX0 1 f fd ["_law_some"] (X2 K):=by
 refine F.ok JWa (λvs H Q E h=>?_) (λah A outer s H vs Q E hr h=>?_)
 .walk_at "n"
 obtain⟨d,S,B,rfl,dc,hB,nd,lB,q⟩:=h
 exists JWa,QK,ZSa,JKa,Q3,Xo,QK,Xq,Ze
 have hd:=dc.at_;have lk:(kvB B).length=B.length:=by unfold kvB;rw[UK]
 refine⟨_,hd,λob nf=>Jgc (λi H' ys=>CpI H d ob B i H' ys) (QG #[0]) (λD hD=>⟨[],Qb hD _,rfl,rfl,.nil,λx h=>nomatch h⟩) (λi H' ys h=>by obtain⟨_,h,l,_⟩:=h;exact⟨h _ _ Qa,l⟩) (λD i k v H' ys hD aG hy hP=>?_) λD H' ys hD hy hP=>?_⟩
 .obtain⟨B',s',ly,eB,pr,pV⟩:=hP
  unfold kvB at aG;rw[Of]at aG
  cases hb:B[i]? with
  | none=>rw[hb]at aG;cases aG
  | some x =>
  rw[hb]at aG;cases aG;have hm:=Og hb;obtain⟨kvs,hx,dk⟩:=dc.bs x hm;have wX:=dc.ne hm;have aF:H' x.2.2=Vo (.dK kvs):=s' _ _ (by rw[Qe wX];exact hx)
  have iP:=dk.sameT ((YXa hd).trans s'.t);have mM:=dk.len;walk_at "rd";refine⟨_,.inl ⟨_,x.1,.inr ⟨ob,s' _ _ Qa⟩,rfl,(Jna nd hm).symm⟩,x.2.2,_,rfl,aF,by have:=hB x hm;lia,λb fq=>⟨QY,λt ht=>?_⟩⟩
  have s2:=Qb fq (.dK kvs);have g2:upd H' b (.dK kvs) b=_:=Qa;generalize upd H' b (.dK kvs)=H2 at s2 g2 ht ⊢;have s3:=Qb ht (.tup [kV x.1,.ref b]);have g3:upd H2 t (.tup [kV x.1,.ref b]) t=_:=Qa;generalize upd H2 t (.tup [kV x.1,.ref b])=H3 at s3 g3 ⊢;have bR:=s2.trans s3;have sl:=Xd (zs:=ys++[.ref t]) (bR _ _ hy);have tl:QO H3 (upd H3 D (.lst (ys++[.ref t]))):=λb ys e=>sl.tup e
  refine⟨bR _ _ hy,B'++[(x.1,x.2.1,b)],QD (s'.trans bR) hD,by simp[ly],?_,?_,?_⟩
  .unfold YW
   rw[Il,show B'.map (λx=>(x.1,x.2.1))=_ from eB,Im,hb,Il];rfl
  .exact Jv (Paired.mapP pr λy v ⟨a,e,h⟩=>⟨a,e,sl.tup (bR _ _ h)⟩) (.cons ⟨t,rfl,sl.tup g3⟩ .nil)
  .intro y jf
   rcases mem_append.mp jf with h | h
   .obtain⟨b1,kv,b2,b3⟩:=pV y h
    exact⟨b1,kv,sl.dK (bR _ _ b2),b3.sameT (bR.t.trans tl)⟩
   .rw[mem_singleton.mp h]
    refine⟨?_,kvs,sl.dK (s3 _ _ g2),iP.sameT (bR.t.trans tl)⟩
    cases e:H b with
    | none=>rfl
    | some o =>
     by_cases z:b=d
     .subst z;rw[s' _ _ Qa]at fq;cases fq
     .rw[s' _ _ (by rw[Qe z];exact e)]at fq;cases fq
 .obtain⟨B',s',ly,eB,pr,pV⟩:=hP
  rw[lk,IT]at eB;have nD:D≠d:=λz=>by rw[z,Qa]at hD;cases hD
  have t':Qf H (upd H' d (.dK (kvB B))):=Jx hd s';have fz:=s' _ _ (Qa (H:=H) (a:=d));have mk:JZ [] (kvB B')=kvB B':=Xi (by unfold kvB;rw[LC,Di];show(B'.map (·.1)).Nodup;rw[eB.keys];exact nd)
  have lB':=eB.len;refine⟨d,nf,ob,_,fz,D,ys,kvB B',rfl,by rw[Qe nD];exact hy,by rw[<- Vn pr];lia,?_,λD2 cE=>?_⟩
  .unfold kvB
   refine ZM (by rw[UK];exact(Vn pr).symm) λi y jf=>?_
   have hi:=(List.getElem?_eq_some_iff.mp jf).1
   have hb:B'[i]?=Vo (B'[i]'(by rw[Vn pr];exact hi)):=IA _
   obtain⟨a,e,h⟩:=Ql pr hb jf;exact⟨_,by rw[Of,hb];rfl,a,e,by rw[Qe (Zj h fz (by intro z;cases z))];exact h⟩
  .rw[mk]
   have s5:=Qb cE (.dK (kvB B'));refine q D2 _ B' (t'.trans s5) (none_of t' cE) ⟨Qa,λx hx=>?_⟩ eB
   obtain⟨b1,kv,b2,b3⟩:=pV x hx;have nx:x.2.2≠d:=λz=>by rw[z,hd]at b1;cases b1
   exact⟨b1,kv,s5 _ _ (by rw[Qe nx];exact b2),(b3.sameT (X1 fz)).sameT s5.t⟩
structure Kp(S:List Vh)(H H':Hp):Prop where
 x:QI S H H'
 t:QO H H'
 l:∀ a xs,H a=Vo (.lst xs)->H' a=Vo (.lst xs)
theorem Ycb(s:Qf H H'):Kp S H H':=⟨s.x _,s.t,λa xs h=>s _ _ h⟩
theorem Kp.trans(a:Kp S H H1)(b:Kp S H1 H2):Kp S H H2:=⟨a.x.trans b.x,a.t.trans b.t,λz xs h=>b.l z xs (a.l z xs h)⟩
theorem Qs.kp{p:Vh}(h:Qs P w ob H p d1 d2 st c)(s:QI [p,d1,d2] H H'):Kp [p,d1,d2] H H':=⟨s,ZD h s,λa xs e=>h.lst s e⟩
theorem Qs.al{p:Vh}(h:Qs P w ob H p d1 d2 st c){r:Vh}(hr:H r=Vp):r∉[p,d1,d2]:=λz=>by
 obtain⟨dx,eo⟩:=h.obj;simp only[Lp,Lq,or_false]at z
 rcases z with z | z | z
 .rw[z,eo]at hr;cases hr
 .rw[z,h.num]at hr;cases hr
 .rw[z,h.tol]at hr;cases hr
theorem XSc.dc{p r:Vh}(sa:Qs P w ob H p d1 d2 st c)(hr:H r=Vp)(h:XSc H H' r B):Dc H' [p,d1,d2] r B :=
 ⟨h.at_,λx hx=>(h.bs x hx).2,λz hz=>by
  rcases mem_cons.mp hz with e | hz
  .rw[e];exact sa.al hr
  .obtain⟨x,hx,e⟩:=mem_map.mp hz
   rw[<- e];exact sa.al (h.bs x hx).1⟩
def OkC(L:List Str)(ds:Cl):Prop:=NdC ds/\∀ q∈ds,q.1∈L
def FlC(ds:Cl):Prop:=∀ q∈ds,q.2≠Yn
theorem XCb(h:OkC L ds):OkC L (Q3a ds)/\FlC (Q3a ds):=⟨⟨XTa h.1 _,λq hq=>h.2 q (mem_filter.mp hq).1⟩,λq hq e=>by
 have:=(mem_filter.mp hq).2;rw[Yab.mpr e]at this;cases this⟩
inductive CwJ(H:Hp)(L:List Str)(r:Vh)(H':Hp):Prop
 | mk (ds:Cl) (kvs:List (Key×V)) (s:Qf H H') (at_:H' r=Vo (.dK kvs)) (dk:DkV H' ds kvs) (ok:OkC L ds) (fl:FlC ds)
theorem CwJ.put{r:Vh}(h:CwJ H L r H')(s1:Qf H' H1)(hp:H r=Vp){z:Str}(hz:z∈L){d:Dt}{v:V}(tv:TD H1 3 d v)(nn:d≠Yn)(lL:L.length<=60):∃ H2,Xb H1 r (.str z) v H2/\CwJ H L r H2:=by
 obtain⟨ds,kvs,s,at_,dk,ok,fl⟩:=h;have ll:=Jma ok.1 ok.2;have lk:=dk.len;have at1:=s1 _ _ at_;have dk:=(dk.sameT s1.t).put (c:=z) tv;have tp:QO H1 (upd H1 r (.dK (ZC kvs (.inr z) v))):=λb xs e=>by rw[Qe (Zj e at1 (by intro z;cases z))];exact e
 refine⟨_,Xb.k (k:=.inr z) at1 (Qm #[0]),ZW ds z d,_,QD (s.trans s1) hp,Qa,dk.sameT tp,⟨XRa ok.1 _ _,λq hq=>?_⟩,λq hq=>?_⟩
 .obtain⟨c',v'⟩:=q
  rcases JX.mp hq with ⟨rfl,rfl⟩ | ⟨_,hm⟩
  .exact hz
  .exact ok.2 _ hm
 .obtain⟨c',v'⟩:=q
  rcases JX.mp hq with ⟨rfl,rfl⟩ | ⟨_,hm⟩
  .exact nn
  .exact fl _ hm
structure BOk(L:List Str)(ky:List V)(B:Bk):Prop where
 nd:(B.map (·.1)).Nodup
 key:∀ x∈B,kV x.1∈ky
 ok:∀ x∈B,OkC L x.2.1
inductive CwI(H:Hp)(L:List Str)(ky:List V)(d:Vh)(H':Hp):Prop
 | mk (B:Bk) (s:Qf H H') (at_:H' d=Vo (.dK (kvB B))) (bs:∀ x∈B,H x.2.2=Vp/\x.2.2≠d/\∃ kvs,H' x.2.2=Vo (.dK kvs)/\DkV H' x.2.1 kvs) (ok:BOk L ky B) (fl:∀ x∈B,FlC x.2.1)
theorem BOk.len(h:BOk L ky B):B.length<=ky.length:=by
 have:=QPb (m:=ky) (l:=B.map λx=>kV x.1) (by rw[YVa];exact Dj (S:=(·≠·)) kV (λa b h e=>h (Z3b e)) h.nd) λa ha=>by
  obtain⟨x,hx,rfl⟩:=mem_map.mp ha;exact h.key x hx
 rwa [UK]at this
theorem BOk.put(h:BOk L ky B){k:Key}{ds:Cl}{a:Vh}(hk:kV k∈ky)(ok:OkC L ds):BOk L ky (Jo B k ds a):=⟨Zrc h.nd,λx hx=>by
 rcases JY hx with e | ⟨_,hB⟩
 .rw[e];exact hk
 .exact h.key x hB,λx hx=>by
 rcases JY hx with e | ⟨_,hB⟩
 .rw[e];exact ok
 .exact h.ok x hB⟩
inductive ZF(ai:VC)(vs:List V)(H:Hp)(Q:VK)(E:XK):Prop
 | mk:∀ c l kl L ky,vs=[.int c,.ref l,.ref kl]->H l=Vo (.lst (LX V.str L))->L.Nodup->L.length<=8->H kl=Vo (.lst ky)->ky.length=24->(∀ v∈ky,Q4 v)->(∀ r H' B,Qf H H'->H r=Vp->XSc H H' r B->BOk L ky B->(∀ x∈B,FlC x.2.1)->Q (.ref r) H')->ZF ai vs H Q E
theorem Q4a(T:Tx K mg ob)(wY:Cal P w K mg base 1 "_law_filled" ["_law_row_here"] (Jr K))(wZ:Cal P w K mg base 4 "_law_row" ["_law_cell_here","_law_columns"] (YV K))(Ja:Cal P w K mg base 1 "_law_mix" ["_law_cell_here","_law_k"] (Za K))(F:Fun K "_law_with_clashes" "_law_with_clashes" ZQ f fd):Qp P w K mg base CX0 5 f fd ["_law_cell_here","_law_columns","_law_keys"] (ZF K):=by
 refine F.ok JS (λvs H Q E h=>?_) (λah A outer s H vs Q E hr h=>?_)
 .walk_at "n"
 obtain⟨c,l,kl,L,ky,rfl,hl,nd,lL,hk,lk,gk,q⟩:=h
 exists JS,JN,Q6,Qu,Qz,Q6,Qq,Qy,Qu,Qz,Qu,Qz,Qj,Q5,ZY,Qh,Qx,Qh,Qx,ZY,Qh,Qx
 intro d hd;have s0:=Qb hd (.dK []);have g0:upd H d (.dK []) d=_:=Qa;generalize upd H d (.dK [])=H0 at s0 g0 ⊢;refine⟨by lia,by lia,?_⟩
 refine ZH (λi σ' H'=>∃ x4 x5 x6 x7,σ'=[Vo (.int c),Vo (.ref l),Vo (.ref kl),Vo (.ref d),x4,x5,x6,x7]/\CwI H L ky d H') ⟨_,_,_,_,rfl,[],s0,g0,(λx h=>nomatch h),⟨LH,(λx h=>nomatch h),λx h=>nomatch h⟩,λx h=>nomatch h⟩ ?_ ?_
 .rintro i σ' H' hi ⟨x4,x5,x6,x7,rfl,B,s',at_,bs,dw,kQ⟩
  refine stN λN hN=>?_
  have hi:i < 7:=by lia
  walk_at "rd";refine⟨_,_,rfl,λm _ _=>⟨m,l,L,rfl,s' _ _ hl,nd,by lia,λr0 H1 w5 w6 s1 bN w9 xa sO ld0 xb=>⟨r0,w5,w6,rfl,w9,xa,sO,by lia,λr H2 fh s2 ck g2 fY=>?_⟩⟩⟩
  have au:=s1.trans s2;have mO:=s'.trans au;obtain⟨ok2,xc⟩:=XCb (L:=L) ⟨sO,λq hq=>(xb q hq).1⟩
  walk_at "rd";have gu:=mO _ _ hl;refine⟨_,.inl (SqL.of gu),by rw[UK];lia,by rw[UK];lia,?_⟩
  refine ZH (λj σ' H3=>∃ x6 x7,σ'=[Vo (.int c),Vo (.ref l),Vo (.ref kl),Vo (.ref d),Vo (.int (0+(i:Int))),Vo (.ref r),x6,x7]/\CwJ H' L r H3) ⟨_,_,rfl,_,fh,au,g2,fY,ok2,xc⟩ ?_ ?_
  .rintro j σ' H3 hj ⟨x6,x7,rfl,J⟩
   refine stN λN2 sP=>?_
   rw[UK]at hj;have hj:j < L.length:=by lia
   have hz:L[j]?=Vo L[j]:=IA hj
   have bF:atI (LX V.str L) (0+(j:Int))=Vo (.str L[j]):=by rw[De];exact QQ (by rw[Of,hz];rfl)
   have sJ:Qf H' H3:=by obtain⟨_,_,h,_⟩:=J;exact h
   walk_at "rd";refine⟨XJc #[1] #[1],_,_,rfl,λm _ _=>⟨m,rfl,QR (λ_=>⟨by show 3<=Vs;decide,λp1 aU=>⟨m,rfl,by unfold Qaa;decide,?_⟩⟩) λ_=>sP _ _ ⟨_,_,rfl,J⟩⟩⟩
   have s4:=Qb aU (.lst [V.non,V.int 7,V.str (La "b")]);have g4:upd H3 p1 (.lst [V.non,V.int 7,V.str (La "b")]) p1=_:=Qa;generalize upd H3 p1 (.lst [V.non,V.int 7,V.str (La "b")])=H4 at s4 g4 ⊢;obtain⟨v,hv⟩:=Jj (l:=[V.non,V.int 7,V.str (La "b")]) (k:=m / 3 % 3) #[0] (by show _ < ((3:Nat):Int);lia)
   have xf:hV v=true:=by
    have:=Jn hv;simp only[Lp,Lq,or_false]at this
    rcases this with e | e | e <;> rw[e] <;> rfl
   refine⟨_,SqL.of g4,v,hv,m,rfl,by unfold Qaa;decide,QY,λp2 aP=>⟨QY,λp3 cV=>?_⟩⟩
   have s5:=Qb aP (.tup [V.int (m / 9 % 90),V.str (La "a")]);have g5:upd H4 p2 (.tup [V.int (m / 9 % 90),V.str (La "a")]) p2=_:=Qa;generalize upd H4 p2 (.tup [V.int (m / 9 % 90),V.str (La "a")])=H5 at s5 g5 cV ⊢;have s6:=Qb cV (.tup [v,.ref p2]);have g6:upd H5 p3 (.tup [v,.ref p2]) p3=_:=Qa;generalize upd H5 p3 (.tup [v,.ref p2])=H6 at s6 g6 ⊢;have sQ:=s4.trans (s5.trans s6);have td:TD H6 3 (.t [.v v,.t [.v (.int (m / 9 % 90)),.v (.str (La "a"))]]) (.ref p3):=TD.pair g6 (TD.ofV xf) (TD.pair (s6 _ _ g5) (TD.ofV rfl) (TD.ofV rfl));obtain⟨H7,d7,J7⟩:=J.put sQ (none_of s1 ck) (IC hj) td (by intro z;cases z) #[0]
   exact⟨_,SqL.of ((s'.trans (sJ.trans sQ)) _ _ hl),_,bF,H7,d7,sP _ _ ⟨_,_,rfl,J7⟩⟩
  .rintro σ' H3 ⟨x6,x7,rfl,ds,kvs,s3,xg,pJ,ok3,xh⟩
   obtain⟨v,hv⟩:=Jj (l:=ky) (k:=0+(i:Int)) #[0] #[0]
   obtain⟨kk,rfl⟩:=Yt (gk v (Jn hv));have d3:=s3 _ _ at_;have lB:=dw.len;have mM:(kvB B).length=B.length:=by unfold kvB;rw[UK]
   have pW:H' r=Vp:=none_of s1 ck;have mN:r≠d:=λz=>by rw[z,at_]at pW;cases pW
   have tp:QO H3 (upd H3 d (.dK (kvB (Jo B kk ds r)))):=λb xs e=>by rw[Qe (Zj e d3 (by intro z;cases z))];exact e
   walk_at "rd";refine⟨_,SqL.of ((s'.trans s3) _ _ hk),_,hv,_,Xb.k (k:=kk) d3 (by rw[mM];exact Qm #[0]),hN _ _ ⟨_,_,_,_,rfl,?_⟩⟩
   rw[J4b B kk ds r];refine⟨Jo B kk ds r,QD (s'.trans s3) hd,Qa,λx hx=>?_,dw.put (Jn hv) ok3,λx hx=>?_⟩
   .rcases JY hx with e | ⟨_,hB⟩
    .subst e
     exact⟨none_of s' pW,mN,kvs,by rw[Qe mN];exact xg,pJ.sameT tp⟩
    .obtain⟨b1,b2,kv,b3,b4⟩:=bs x hB
     exact⟨b1,b2,kv,by rw[Qe b2];exact s3 _ _ b3,(b4.sameT s3.t).sameT tp⟩
   .rcases JY hx with e | ⟨_,hB⟩
    .subst e;exact xh
    .exact kQ x hB
 .rintro σ' H' ⟨x4,x5,x6,x7,rfl,B,s',at_,bs,dw,kQ⟩
  walk_at "rd";exact q d H' B s' hd ⟨at_,λx hx=>let ⟨a,_,b⟩:=bs x hx;⟨a,b⟩⟩ dw kQ
theorem Zxd(pm:ys.Perm (LX V.str L))(so:ys.Pairwise λa b=>ltP b a=false)(nd:L.Nodup)(hl:∀ z∈L,z.length<=40):∃ ac,ys=LX V.str ac/\ac.Pairwise ltS/\ac.Perm L:=by
 have hs:∀ v∈ys,∃ z∈L,v=.str z:=λv hv=>by
  obtain⟨z,hz,rfl⟩:=mem_map.mp (pm.mem_iff.mp hv);exact⟨z,hz,rfl⟩
 obtain⟨ac,rfl⟩:=XSa λv hv=>let ⟨z,_,e⟩:=hs v hv;⟨z,e⟩
 have xk:(LX V.str ac).Nodup:=pm.nodup_iff.mpr (Dj (S:=(·≠·)) V.str (λa b h e=>h (V.str.inj e)) nd)
 have up:ac.Pairwise ltS:=by
  have:=Zsc (λv hv=>by obtain⟨z,hz,rfl⟩:=hs v hv;exact hl z hz) (.inr λv hv=>by obtain⟨z,_,rfl⟩:=hs v hv;exact⟨z,rfl⟩) xk so
  rwa [Da]at this
 refine⟨ac,rfl,up,(Dk (Db (λ{a b} h e=>by subst e;exact ltS.irr _ h) up) nd).mpr λz=>?_⟩
 have:=pm.mem_iff (a:=.str z)
 simpa using this
inductive BgI(H H1:Hp)(a p1:Vh)(xs ks:List V)(B:Bk)(i:Nat)(H':Hp):Prop
 | mk (R:List (V×Cl)) (zs:List V) (s:Qf H H') (t:QO H1 H') (ha:H' a=Vo (.lst xs)) (hp:H' p1=Vo (.lst zs)) (pr:Vm (λr v=>TD H' 6 (rD r) v) R zs) (ek:R.map LW=ks.take i) (cs:∀ r∈R,∃ x∈B,r.1=kV x.1/\Jb x.2.1 r.2)
inductive Y9(P:Vg)(w:Vb)(ob:Nat->Vh)(vs:List V)(H:Hp)(Q:VK)(E:XK):Prop
 | mk:∀ p d1 d2 st c l d L ky B,vs=[.ref p,.ref l,.ref d]->Qs P w ob H p d1 d2 st c->H l=Vo (.lst (LX V.str L))->L.Nodup->L.length<=8->(∀ z∈L,z.length<=40)->Dc H [p,d1,d2] d B->BOk L ky B->(∀ x∈B,FlC x.2.1)->(∀ v∈ky,Q4 v)->ky.length=24->st.length=0->(∀ r tc rt H' ag c' R ac,QI [p,d1,d2] H H'->Qs P w ob H' p d1 d2 ag c'->ag.length<=200->H' r=Vo (.tup [.ref tc,rt])->H' tc=Vo (.tup (LX V.str ac))->ac.Pairwise ltS->ac.Perm L->QZ ag (LX rD R) rt->Fit B R->Q (.ref r) H')->Y9 P w ob vs H Q E
seal La in
theorem Zsb(T:Tx K mg ob)(wN:Cal P w K mg base 1 "_law_rising" ["_law_some"] (Jp K))(rV:Cal P w K mg base 7 "built" ["pages","rows"] (QUa P w ob))(F:Fun K "_law_begun" "_law_begun" XH f fd):Qp P w K mg base CX0 8 f fd ["_law_pages","_law_columns","_law_some"] (Y9 P w ob):=by
 refine F.ok Zxa (λvs H Q E h=>?_) (λah A outer s H vs Q E hr h=>?_)
 .walk_at "n"
 obtain⟨p,d1,d2,st,c,l,d,L,ky,B,rfl,hS,hl,nd,lL,zL,dc,dw,kQ,gk,lky,st0,q⟩:=h
 exists Zxa,Q6,Zk,Q3,Zk,Qq,Q9b,Ze,Qq,Zi
 refine⟨Us _,λp1 aU=>?_⟩
 have s0:=Qb aU (.lst []);have g0:upd H p1 (.lst []) p1=_:=Qa;generalize upd H p1 (.lst [])=H0 at s0 g0 ⊢;have lk:(kvB B).length=B.length:=by unfold kvB;rw[UK]
 have lB:=dw.len;refine⟨d,kvB B,rfl,s0 _ _ dc.at_,by lia,λx hx=>?_,by unfold kvB;rw[Di];exact dw.nd,λa H1 xs ks s1 ha g1 ra=>⟨a,rfl,⟨_,SqL.of g1⟩,?_⟩⟩
 .obtain⟨y,hy,rfl⟩:=mem_map.mp hx
  exact gk _ (dw.key y hy)
 have cY:=ra.len;have lks:ks.length=B.length:=by rw[ra.perm.length_eq,UK,lk]
 have xm:a≠p1:=λz=>by rw[z,g0]at ha;cases ha
 have iB:=s0.trans s1;refine ZU xs (λi σ' H'=>∃ x4 x5,σ'=[Vo (.ref p),Vo (.ref l),Vo (.ref d),Vo (.ref p1),x4,x5]/\BgI H H1 a p1 xs ks B i H') ⟨_,_,rfl,[],[],iB,QO.refl _,g1,s1 _ _ g0,.nil,rfl,λr h=>nomatch h⟩ (λi σ' H' _ h=>by obtain⟨_,_,_,_,_,_,_,h,_⟩:=h;exact SqL.of h) ?_ ?_
 .rintro i y σ' H' hy ⟨x4,x5,rfl,R,zs,s',t',sR,cy,pr,ek,mP⟩
  refine stN λN hN=>?_
  obtain⟨b,k,v,ey,hk,hb,hm⟩:=ra.at_ i y hy;obtain⟨x,hx,ex⟩:=mem_map.mp hm;cases ex;subst ey;have hi:=(List.getElem?_eq_some_iff.mp hy).1
  have lz:zs.length<=60:=by
   have e1:=Vn pr;have e2:=congrArg Oa ek;rw[UK,Ob]at e2
   lia
  obtain⟨kvs,f6,dk⟩:=dc.bs x hx;have eJ:=dw.ok x hx;have xn:=Jma eJ.1 eJ.2;have mM:=dk.len;have keys:=dk.keys;walk_at "rd";refine⟨_,SqT.of (t' _ _ hb),rfl,_,_,rfl,_,_,rfl,rfl,?_⟩
  walk_at "rd";refine⟨.inl ⟨rfl,_,SqL.of cy⟩,x.2.2,kvs,ltP,rfl,s' _ _ f6,by lia,by rw[keys];exact JJa λv hv=>by obtain⟨z,_,rfl⟩:=mem_map.mp hv;exact⟨z,rfl⟩,λD H2 ys s2 hD g2 pm so=>?_⟩
  rw[keys]at pm;obtain⟨zc,rfl,up,sS⟩:=Zxd pm so eJ.1 λz hz=>by obtain⟨q,hq,rfl⟩:=mem_map.mp hz;exact zL _ (eJ.2 q hq)
  have mz:∀ z,z∈zc↔∃ v,(z,v)∈x.2.1:=λz=>by
   rw[sS.mem_iff,mem_map];exact⟨λ⟨q,hq,e⟩=>⟨q.2,by rw[<- e];exact hq⟩,λ⟨v,hv⟩=>⟨_,hv,rfl⟩⟩
  have lzc:zc.length<=60:=by rw[sS.length_eq,UK];lia
  have xo:=s'.trans s2;refine⟨D,rfl,⟨_,SqL.of g2⟩,Yya (LX V.str zc) (λH j v=>∃ z,zc[j]?=Vo z/\Zqb x.2.1 H (.str z) v) (λH H' j v s ⟨z,e,h⟩=>⟨z,e,Zqb.mono _ _ _ _ s h⟩) (SqL.of g2) (QG (by rw[UK];lia)) (λj u H3 Rk hu s3 r=>?_) λD3 H3 us jS s3 g3 lu pu=>?_⟩
  .rw[Of]at hu
   cases hz:zc[j]? with
   | none=>rw[hz]at hu;cases hu
   | some z =>
   rw[hz]at hu;cases hu;have sT:=xo.trans s3
   rcases dk.get z with ⟨h,_⟩ | ⟨w',hw,tw⟩
   .obtain⟨v,hv⟩:=(mz z).mp (Og hz)
    exact absurd hv (h v)
   walk_at "rd";exact⟨w',hw ▸ Zr.k (k:=.inr z) (sT _ _ f6),QY,λq hq=>r _ _ ⟨z,hz,q,w',rfl,Qa,TD.sameT (sT.t.trans (Qb hq _).t) 3 tw⟩ (Qb hq _)⟩
  .refine⟨D3,rfl,us,.inl ⟨SqL.of g3,λt ht=>⟨QY,λq hq=>?_⟩⟩⟩
   have s4:=Qb ht (.tup us);have g4:upd H3 t (.tup us) t=_:=Qa;generalize upd H3 t (.tup us)=H4 at s4 g4 hq ⊢;have s5:=Qb hq (.tup [kV x.1,.ref t]);have g5:upd H4 q (.tup [kV x.1,.ref t]) q=_:=Qa;generalize upd H4 q (.tup [kV x.1,.ref t])=H5 at s5 g5 ⊢;have gc:=s2.trans (s3.trans (s4.trans s5));have sU:=gc _ _ cy;have sl:=Xd (zs:=zs++[.ref q]) sU;have tl:QO H5 (upd H5 p1 (.lst (zs++[.ref q]))):=λb ys e=>sl.tup e
   have lu:us.length=zc.length:=by rw[lu,UK]
   have xp:TD H5 5 (.t (cD (zc.map λz=>(z,QX x.2.1 z)))) (.ref t):=TD.ofT (s5 _ _ g4) (ZM (by unfold cD;simp[lu]) λj u hu=>by
    obtain⟨z,hz,b',w',e',h',t'⟩:=pu j u hu;subst e';exact⟨.t [.v (.str z),QX x.2.1 z],by unfold cD;simp[hz],TD.pair ((s4.trans s5) _ _ h') (TD.ofV rfl) (TD.sameT (s4.trans s5).t 3 t')⟩)
   have kh:hV (kV x.1)=true:=Y8b (gk _ (dw.key x hx));have xq:TD H5 6 (rD (kV x.1,zc.map λz=>(z,QX x.2.1 z))) (.ref q):=TD.pair g5 (TD.ofV kh) xp
   refine⟨zs,sU,Qm #[0],hN _ _ ⟨_,_,rfl,R++[(kV x.1,zc.map λz=>(z,QX x.2.1 z))],zs++[.ref q],QD (s'.trans gc) aU,(t'.trans gc.t).trans tl,by rw[Qe xm];exact gc _ _ sR,Qa,Jv (Paired.mapP pr λr v h=>TD.sameT (gc.t.trans tl) 6 h) (.cons (TD.sameT tl 6 xq) .nil),?_,λr hr=>?_⟩⟩
   .rw[Il,ek,Im,hk];rfl
   .rcases mem_append.mp hr with h | h
    .exact mP r h
    .rw[mem_singleton.mp h]
     refine⟨x,hx,rfl,?_,λc v=>?_⟩
     .rw[Di]
      have:(LW ∘ λz=>(z,QX x.2.1 z))=id:=rfl
      rw[this,map_id];exact up
     .rw[mem_map]
      constructor
      .rintro⟨z,hz,e⟩
       cases e;obtain⟨v,hv⟩:=(mz c).mp hz;have:=Zh eJ.1 hv;rw[this];exact⟨hv,kQ x hx _ hv⟩
      .rintro⟨hv,_⟩
       exact⟨c,(mz c).mpr ⟨v,hv⟩,by rw[Zh eJ.1 hv]⟩
 .rintro σ' H' ⟨x4,x5,rfl,R,zs,s',t',sR,cy,pr,ek,mP⟩
  rw[cY,IT]at ek;have lz:=Vn pr;have lR:R.length=B.length:=by have:=congrArg Oa ek;rw[UK]at this;lia
  walk_at "rd";refine⟨l,_,ltP,rfl,SqL.of (s' _ _ hl),by rw[UK];lia,JJa λv hv=>by obtain⟨z,_,rfl⟩:=mem_map.mp hv;exact⟨z,rfl⟩,λD H2 ys s2 hD g2 pm so=>?_⟩
  obtain⟨ac,rfl,up,xr⟩:=Zxd pm so nd zL;refine⟨D,rfl,_,.inl ⟨SqL.of g2,λtc pL=>?_⟩⟩
  have s3:=Qb pL (.tup (LX V.str ac));have g3:upd H2 tc (.tup (LX V.str ac)) tc=_:=Qa;generalize upd H2 tc (.tup (LX V.str ac))=H3 at s3 g3 ⊢;have bR:=s2.trans s3;have cL:=s'.trans bR;have fit:Fit B R:=by
   refine⟨?_,?_,λr hr x hx e=>?_⟩
   .have:(R.map LW).Pairwise ltK:=by
     rw[ek];refine List.Pairwise.imp_of_mem (λ{a b} ha hb h=>?_) ra.up
     have kv:∀ v∈ks,Q4 v:=λv hv=>by
      obtain⟨y,hy,rfl⟩:=mem_map.mp (ra.perm.mem_iff.mp hv);obtain⟨z,hz,rfl⟩:=mem_map.mp hy;exact gk _ (dw.key z hz)
     exact⟨kv a ha,kv b hb,h⟩
    rwa [Da]at this
   .rw[ek]
    have kp:(kvB B).map (λx=>kV x.1)=B.map λx=>kV x.1:=by unfold kvB;rw[Di];rfl
    rw[<- kp];exact ra.perm
   .obtain⟨y,hy,ey,hc⟩:=mP r hr
    have:y=x:=by
     obtain⟨i,hi,ei⟩:=mem_iff_getElem.mp hx;obtain⟨j,hj,ej⟩:=mem_iff_getElem.mp hy;have nB:=pairwise_iff_getElem.mp (pairwise_map.mp dw.nd);have e2:y.1=x.1:=Z3b (ey.symm.trans e)
     rcases Nat.lt_trichotomy i j with h | h | h
     .exact absurd (by rw[ei,ej];exact e2.symm) (nB i j hi hj h)
     .subst h;rw[<- ei,<- ej]
     .exact absurd (by rw[ei,ej];exact e2) (nB j i hj hi h)
    rw[<- this];exact hc
  refine⟨p,d1,d2,st,c,p1,zs,LX rD R,rfl,hS.same cL,bR _ _ cy,?_,λy hy=>?_,by lia,by lia,?_,λH5 bw c5 v5 cm fZ b6 l5 t5=>⟨QY,λp6 iM=>?_⟩⟩
  .exact ZM (by rw[UK];lia) λi y hy=>by
    have hi:=(List.getElem?_eq_some_iff.mp hy).1
    have aX:R[i]?=Vo (R[i]'#[0]):=IA _
    have h6:=Ql (F:=λr v=>TD H' 6 (rD r) v) pr aX hy
    exact⟨_,by rw[Of,aX];rfl,TD.sameT bR.t 6 h6⟩
  .obtain⟨r,hr,rfl⟩:=mem_map.mp hy
   obtain⟨x,hx,e,_⟩:=mP r hr;exact⟨r.1,_,rfl,by rw[e];exact gk _ (dw.key x hx)⟩
  .have:(LX rD R).map Qo=ks:=by rw[Di];exact ek
   rw[this];exact ra.up
  .have s6:=Qb iM (.tup [.ref tc,v5])
   exact q p6 tc v5 _ bw c5 R ac ((cL.x _).trans (cm.trans (s6.x _))) (fZ.same s6) #[0] Qa (s6 _ _ (ZD (hS.same cL) cm _ _ g3)) up xr t5 fit
structure Tb(H:Hp)(S:List Vh)(st:StL)(tt tc lc d:Vh)(rt:V)(ac L:List Str)(R:List (V×Cl))(B:Bk):Prop where
 tt:H tt=Vo (.tup [.ref tc,rt])
 tc:H tc=Vo (.tup (LX V.str ac))
 cl:H lc=Vo (.lst (LX V.str L))
 dc:Dc H S d B
 tr:QZ st (LX rD R) rt
structure Gd(nm:List Str)(ky:List V):Prop where
 ln:nm.length=8
 gw:∀ z∈nm,GW z
 lk:ky.length=24
 gk:∀ v∈ky,GK v
structure Pu(nm:List Str)(ky:List V)(ac L:List Str)(R:List (V×Cl))(B:Bk):Prop where
 up:ac.Pairwise ltS
 pm:ac.Perm L
 wd:∀ z∈L,z∈nm
 ok:BOk L ky B
 fit:Fit B R
section
variable{H H':Hp}{S:List Vh}{st ag:StL}{tt tc lc d:Vh}{rt:V}{nm ac L:List Str}{ky:List V}{R:List (V×Cl)}{B B':Bk}
theorem Tb.kp(h:Tb H S st tt tc lc d rt ac L R B)(k:Kp S H H')(sub:∀ x∈Qn st,x∈Qn ag):Tb H' S ag tt tc lc d rt ac L R B:=⟨k.t _ _ h.tt,k.t _ _ h.tc,k.l _ _ h.cl,h.dc.x k.x k.t,h.tr.mono sub⟩
theorem Tb.same(h:Tb H S st tt tc lc d rt ac L R B)(s:Qf H H'):Tb H' S st tt tc lc d rt ac L R B:=h.kp (Ycb s) λ_ h=>h
theorem Pu.cn(h:Pu nm ky ac L R B):ac.Nodup:=Db (λ{a b} h e=>by subst e;exact ltS.irr _ h) h.up
theorem Pu.Ln(h:Pu nm ky ac L R B):L.Nodup:=h.pm.nodup_iff.mp h.cn
theorem Pu.ll(h:Pu nm ky ac L R B)(g:Gd nm ky):L.length<=8:=by have:=QPb h.Ln h.wd;have:=g.ln;lia
theorem Pu.lcl(h:Pu nm ky ac L R B)(g:Gd nm ky):ac.length<=8:=by rw[h.pm.length_eq];exact h.ll g
theorem Pu.bl(h:Pu nm ky ac L R B)(g:Gd nm ky):B.length<=24:=by have:=h.ok.len;have:=g.lk;lia
theorem Pu.zl(h:Pu nm ky ac L R B)(g:Gd nm ky):∀ z∈L,z.length<=40:=λz hz=>by have:=(g.gw z (h.wd z hz)).2.1;lia
theorem Pu.clk(h:Pu nm ky ac L R B)(g:Gd nm ky){x:Key×Cl×Vh}(hx:x∈B):J5b x.2.1:=by
 obtain⟨a,b⟩:=h.ok.ok x hx;have:=Jma a b;have:=h.ll g;exact⟨a,by lia,λq hq=>h.zl g _ (b q hq)⟩
theorem Pu.bok(h:Pu nm ky ac L R B)(g:Gd nm ky):∀ x∈B,NdC x.2.1/\GK (kV x.1):=λx hx=>⟨(h.ok.ok x hx).1,g.gk _ (h.ok.key x hx)⟩
theorem Pu.at_(h:Pu nm ky ac L R B){r:V×Cl}(hr:r∈R):∃ x∈B,kV x.1=r.1/\Jb x.2.1 r.2:=by
 have:r.1∈B.map (λx=>kV x.1):=h.fit.pm.mem_iff.mp (mem_map.mpr ⟨r,hr,rfl⟩)
 obtain⟨x,hx,e⟩:=mem_map.mp this;exact⟨x,hx,e,h.fit.cs r hr x hx e.symm⟩
theorem Pu.rok(h:Pu nm ky ac L R B)(g:Gd nm ky):ROk R:=⟨h.fit.up,by rw[h.fit.len];have:=h.bl g;lia,λr hr=>by
 obtain⟨x,hx,e,cs⟩:=h.at_ hr;refine⟨by rw[<- e];exact(h.bok g x hx).2.key,cs.ok (h.clk g hx),?_⟩
 have:=Jma cs.nd λq hq=>(h.ok.ok x hx).2 q ((cs.mem q.1 q.2).mp hq).1
 have:=h.ll g
 lia⟩
end
theorem Zuc{K:VC}{b D:Vh}{cp:List (Key×V)}(hb:H b=Vo (.dK kvs))(dk:DkV H (ac.map λc=>(c,QX cs c)) kvs)(hD:H D=Vo (.lst (LX V.str ac)))(ha:H a=Vo (.dK cp))(dd:DkV H ds cp)(nd:NdC ds)(hc:Jb ds cs)(lc:ac.length<=60)(q:∀ H',Qf H H'->Q (.bl true) H'):Zu K [.ref D,.ref a] H (λu H1=>Jq K [.ref b,u] H1 Q E0) E0:=by
 refine⟨D,a,ac,ds,cp,rfl,hD,ha,dd,lc,λr4 H4 zs s4 _ g4 pz=>?_⟩
 have iO:=dk.sameT s4.t;have eb:ac.map (λc=>(c,QX cs c))=ac.map λc=>(c,QX ds c):=Io λc _=>by rw[hc.get nd]
 rw[eb]at iO;refine⟨b,r4,zs,kvs,_,rfl,s4 _ _ hb,iO,g4,?_,by rw[UK];exact lc,λH5 s5=>q H5 (s4.trans s5)⟩
 refine ZM (by rw[UK];exact(Vn pz).symm) λj u hu=>?_
 have hj:=(List.getElem?_eq_some_iff.mp hu).1
 have kP:ac[j]?=Vo (ac[j]'(by rw[Vn pz];exact hj)):=IA _
 obtain⟨c4,w4,e4,h4,t4⟩:=Ql pz kP hu;exact⟨_,by rw[Of,kP];rfl,c4,w4,e4,h4,t4⟩
theorem Q8d{nm:List Str}(pu:Pu nm ky ac L R B)(g:Gd nm ky)(z:Str):z++La " A"∉ac:=λh=>by
 have h:=(g.gw _ (pu.wd _ (pu.pm.mem_iff.mp h))).2.2 32 ?_
 .cases h
 .have e:(z++La " A").cps=z.cps++(La " A").cps:=rfl
  rw[e,Array.toList_append];exact Ur _ #[1]
theorem Yja{K:VC}{lc:Vh}{nm:List Str}(pu:Pu nm ky ac L R B)(g:Gd nm ky)(h:H lc=Vo (.lst (LX V.str L)))(q:∀ D H',Qf H H'->H' D=Vo (.lst (LX V.str ac))->Q (.ref D) H'):Zgc K [.ref lc] H Q :=
 ⟨lc,_,ltP,rfl,SqL.of h,by rw[UK];have:=pu.ll g;lia,JJa (λv hv=>by obtain⟨z,_,rfl⟩:=mem_map.mp hv;exact⟨z,rfl⟩),λD H' ys s hD g' pm so=>by
  obtain rfl:=Xyb pu.up pu.pm (λz hz=>pu.zl g z (pu.pm.mem_iff.mp hz)) pm so
  exact q D H' s g'⟩
inductive Xa(P:Vg)(w:Vb)(ob:Nat->Vh)(vs:List V)(H:Hp)(Q:VK)(E:XK):Prop
 | mk:∀ p d1 d2 st c tt tc lc d rt ac L R B nm ky k z,vs=[.ref p,.ref tt,.ref lc,.ref d,k,.str z]->Qs P w ob H p d1 d2 st c->Tb H [p,d1,d2] st tt tc lc d rt ac L R B->Pu nm ky ac L R B->Gd nm ky->k∈ky->z∈nm->(∀ H',Qf H H'->Q (.bl true) H')->Xa P w ob vs H Q E
theorem Ztb(T:Tx K mg ob)(wF:Cal P w K mg base 7 "row_at" ["pages","table","key"] (Zda P w ob))(wO:Cal P w K mg base 10 "_law_dict" ["_law_found","_law_due"] (Jq K))(Jf:∀ n,Cal P w K mg base (1+n) "_law_same" ["_law_found","_law_due"] (ZN K n))(wP:Cal P w K mg base 1 "_law_spelled" ["_law_columns","_law_row_here"] (Zu K))(Ywd:Cal P w K mg base 8 "cell_at" ["pages","table","key","column"] (Jka P w ob))(F:Fun K "_law_asked" "_law_asked" XJ f fd):Qp P w K mg base CX0 11 f fd ["_law_pages","_law_table","_law_columns","_law_some","_law_key_here","_law_name"] (Xa P w ob):=by
 refine F.ok Zza (λvs H Q E h=>?_) (λah A outer s H vs Q E hr h=>?_)
 .walk_at "n"
 obtain⟨p,d1,d2,st,c,tt,tc,lc,d,rt,ac,L,R,B,nm,ky,k,z,rfl,hS,tb,pu,gd,hk,hz,q⟩:=h
 exists Zza,YZ,Jf 8,#[0],Jza,Yfc,JN,YZ,Jf 8,#[0],Qu,ZKa,XUa,ZGb,Qq,Zi,Ze,Yza,Qq,Zi,Ze
 have dy:=gd.gk k hk;obtain⟨kk,rfl⟩:=Yt dy.key;have lcl:=pu.lcl gd;have lz:z.length<=12:=(gd.gw z hz).2.1;have l2:(La " A").length=2:=by decide
 have rok:=pu.rok gd
 by_cases a8:∃ x∈B,x.1=kk
 .obtain⟨x,hx,rfl⟩:=a8
  obtain⟨r,aX,er⟩:∃ r∈R,r.1=kV x.1:=by
   have:kV x.1∈R.map LW:=pu.fit.pm.mem_iff.mpr (mem_map.mpr ⟨x,hx,rfl⟩);obtain⟨r,hr,e⟩:=mem_map.mp this;exact⟨r,hr,e⟩
  have mQ:=pu.fit.cs r aX x hx er;have bA:(∀ r∈R,r.1≠kV x.1)->False:=λh=>h r aX er
  have one:∀ bQ,(kV x.1,bQ)∈R->Jb x.2.1 bQ:=λbQ h=>pu.fit.cs _ h x hx rfl
  have pY:=(pu.ok.ok x hx).1;have vv:=Jna pu.ok.nd hx;obtain⟨cp,f6,dd⟩:=tb.dc.bs x hx;refine⟨p,d1,d2,st,c,tt,tc,rt,ac,kV x.1,z,R,rfl,hS,tb.tt,tb.tc,pu.cn,by lia,dy.key,tb.tr,rok,λh=>(bA h).elim,λbQ iR v H1 s1 tv=>⟨.inl ⟨_,.inl (s1 _ _ tb.dc.at_)⟩,λp1 aU=>?_⟩⟩
  have s2:=Qb aU (.dK []);generalize upd H1 p1 (.dK [])=H2 at s2 ⊢;have au:=s1.trans s2;have tw:=(dd.sameT au.t).getD z;have ez:(if z∈ac then QX bQ z else Yn)=QX x.2.1 z:=by
   split
   .exact(one bQ iR).get pY z
   .rename_i h
    exact(Zca λv hv=>h (pu.pm.mem_iff.mpr ((pu.ok.ok x hx).2 _ hv))).symm
  rw[ez]at tv;refine⟨_,vv ▸ Zr.k (k:=x.1) (au _ _ tb.dc.at_),x.2.2,rfl,.inl ⟨_,.inl (au _ _ f6)⟩,_,Zr.k (k:=.inr z) (au _ _ f6),v,_,QX x.2.1 z,rfl,by decide,TD.mono 3 #[1] (TD.sameT s2.t 3 tv),TD.mono 3 #[1] tw,λH3 s3=>⟨_,rfl,(if_neg (λz=>Df z)).mpr ⟨QG #[0],?_⟩⟩⟩
  have az:=au.trans s3;have t3:=tb.same az;refine⟨p,d1,d2,st,c,tt,tc,rt,ac,kV x.1,_,R,rfl,hS.same az,t3.tt,t3.tc,pu.cn,by lia,dy.key,t3.tr,rok,λh=>(bA h).elim,λpP _ v2 H4 s4 sV=>?_⟩
  rw[if_neg (Q8d pu gd z)]at sV;refine⟨v2,.non,Yn,rfl,by decide,TD.mono 3 #[1] sV,TD.ofV rfl,λH5 s5=>⟨_,rfl,(if_neg (λz=>Df z)).mpr ?_⟩⟩
  have cq:=az.trans (s4.trans s5);have t5:=tb.same cq;refine⟨p,d1,d2,st,c,tt,tc,rt,ac,kV x.1,R,rfl,hS.same cq,t5.tt,t5.tc,pu.cn,by lia,dy.key,t5.tr,rok,λh=>(bA h).elim,λxt xu r6 xw H6 s6 xx g6 pZ=>?_⟩
  have sW:=cq.trans s6;have t6:=tb.same sW;refine⟨_,vv ▸ Zr.k (k:=x.1) t6.dc.at_,(if_neg (λz=>Df z)).mpr (Yja pu gd t6.cl λD H7 s7 g7=>?_)⟩
  have p5:=sW.trans s7;have t7:=tb.same p5;refine⟨_,vv ▸ Zr.k (k:=x.1) t7.dc.at_,Zuc (s7 _ _ g6) (pZ.sameT s7.t) g7 (p5 _ _ f6) (dd.sameT p5.t) pY (one xt xu) #[0] λH8 s8=>⟨_,rfl,(if_neg (λz=>Df z)).mpr ⟨r6,rfl,xw,(s7.trans s8) _ _ g6,?_⟩⟩⟩
  have xy:=s6.trans (s7.trans s8);have s9:Qf H (upd H8 r6 (.dK [])):=QD (cq.trans xy) (none_of cq xx);have t9:=tb.same s9;generalize upd H8 r6 (.dK [])=H9 at s9 t9 ⊢;refine⟨p,d1,d2,st,c,tt,tc,rt,ac,kV x.1,R,rfl,hS.same s9,t9.tt,t9.tc,pu.cn,by lia,dy.key,t9.tr,rok,λh=>(bA h).elim,λiN xz rA kvA HA sA hrA gA xA=>?_⟩
  have sX:=s9.trans sA;have tA:=tb.same sX;refine Yja pu gd tA.cl λD2 HB sB gB=>?_
  have mR:=sX.trans sB;have tB:=tb.same mR;exact⟨_,vv ▸ Zr.k (k:=x.1) tB.dc.at_,Zuc (sB _ _ gA) (xA.sameT sB.t) gB (mR _ _ f6) (dd.sameT mR.t) pY (one iN xz) #[0] λHC sC=>q HC (mR.trans sC)⟩
 .have bA:∀ r∈R,r.1≠kV kk:=λr hr e=>by
   obtain⟨x,hx,ex,_⟩:=pu.at_ hr;exact a8 ⟨x,hx,Z3b (ex.trans e)⟩
  have vv:Q7 (kvB B) kk=Vp:=QXb λy hy e=>a8 ⟨y,hy,e⟩
  refine⟨p,d1,d2,st,c,tt,tc,rt,ac,kV kk,z,R,rfl,hS,tb.tt,tb.tc,pu.cn,by lia,dy.key,tb.tr,rok,λ_ H1 s1=>⟨.inl ⟨_,.inl (s1 _ _ tb.dc.at_)⟩,λp1 aU=>?_⟩,λbQ iR=>absurd rfl (bA _ iR)⟩
  have s2:=Qb aU (.dK []);have g2:upd H1 p1 (.dK []) p1=_:=Qa;generalize upd H1 p1 (.dK [])=H2 at s2 g2 ⊢;have au:=s1.trans s2;refine⟨_,vv ▸ Zr.k (k:=kk) (au _ _ tb.dc.at_),p1,rfl,.inl ⟨_,.inl g2⟩,_,Zr.k (k:=.inr z) g2,.non,_,Yn,rfl,by decide,TD.ofV rfl,TD.ofV rfl,λH3 s3=>⟨_,rfl,(if_neg (λz=>Df z)).mpr ⟨QG #[0],?_⟩⟩⟩
  have az:=au.trans s3;have t3:=tb.same az;refine⟨p,d1,d2,st,c,tt,tc,rt,ac,kV kk,_,R,rfl,hS.same az,t3.tt,t3.tc,pu.cn,by lia,dy.key,t3.tr,rok,λ_ H4 s4=>?_,λbQ iR=>absurd rfl (bA _ iR)⟩
  refine⟨.non,.non,Yn,rfl,by decide,TD.ofV rfl,TD.ofV rfl,λH5 s5=>⟨_,rfl,(if_neg (λz=>Df z)).mpr ?_⟩⟩
  have cq:=az.trans (s4.trans s5);have t5:=tb.same cq;refine⟨p,d1,d2,st,c,tt,tc,rt,ac,kV kk,R,rfl,hS.same cq,t5.tt,t5.tc,pu.cn,by lia,dy.key,t5.tr,rok,λ_ H6 s6=>?_,λbQ iR=>absurd rfl (bA _ iR)⟩
  exact⟨_,vv ▸ Zr.k (k:=kk) ((cq.trans s6) _ _ tb.dc.at_),(if_pos rfl).mpr (q H6 (cq.trans s6))⟩
theorem Jb.putO{dJ:Cl}{d:Dt}(h:Jb ds cs)(h':Jb (ZW cs z d) dJ):Jb (ZW ds z d) dJ:=⟨h'.up,λc v=>by
 rw[h'.mem,JX,JX,h.mem]
 constructor
 .rintro⟨a | ⟨n,a,b⟩,e⟩
  .exact⟨.inl a,e⟩
  .exact⟨.inr ⟨n,a⟩,e⟩
 .rintro⟨a | ⟨n,a⟩,e⟩
  .exact⟨.inl a,e⟩
  .exact⟨.inr ⟨n,a,e⟩,e⟩⟩
theorem Jb.full(h:Jb ds cs):Jb (Q3a ds) cs:=⟨h.up,λc v=>by
 rw[h.mem];unfold Q3a;rw[Dq]
 constructor
 .rintro⟨a,e⟩
  refine⟨⟨a,?_⟩,e⟩
  cases q:isN v with
  | true=>exact absurd (Yab.mp q) e
  | false=>rfl
 .rintro⟨⟨a,_⟩,e⟩
  exact⟨a,e⟩⟩
theorem Fit.del(h:Fit B R)(nd:(B.map (·.1)).Nodup){k:Key}{aD:List Dt}(p:ZTa (kV k) (R.map rD) aD):∃ R',aD=R'.map rD/\Fit (B.filter λx=>decide (x.1≠k)) R':=by
 obtain⟨X,o,Y,e1,e2,ho⟩:=p;obtain⟨R1,ww,eR,eX,eY⟩:=map_eq_append_iff.mp e1;obtain⟨r0,R2,pG,pH,pI⟩:=map_eq_cons_iff.mp eY;subst eR pG;have k0:r0.1=kV k:=by rw[<- pH]at ho;exact ho
 have sub:List.Sublist (R1++R2) (R1++r0::R2):=LS (LU _ _) _;refine⟨R1++R2,by rw[e2,<- eX,<- pI,Il],h.up.sublist sub,?_,λr hr x hx e=>h.cs r (sub.subset hr) x (mem_filter.mp hx).1 e⟩
 have p7:((R1++r0::R2).map LW).Nodup:=by
  unfold List.Nodup;rw[Da];exact Db (λ{a b} h e=>by rw[e]at h;exact ltK.irr _ h) h.up
 have p1:=h.pm.filter λv=>decide (v≠kV k)
 have f1:((R1++r0::R2).map LW).filter (λv=>decide (v≠kV k))=(R1++R2).map LW:=by
  rw[Il,UI,L3,nodup_cons]at p7;rw[Il,UI,IU,filter_cons_of_neg (by simp[k0]),Il]
  congr 1
  .exact filter_eq_self.mpr λv hv=>decide_eq_true λe=>p7.2.2 v hv _ VL (e.trans k0.symm)
  .exact filter_eq_self.mpr λv hv=>decide_eq_true λe=>p7.2.1.1 (by rw[k0,<- e];exact hv)
 have f2:(B.map λx=>kV x.1).filter (λv=>decide (v≠kV k))=(B.filter λx=>decide (x.1≠k)).map λx=>kV x.1:=by
  rw[LI]
  congr 1
  refine LV λx _=>?_
  show decide (kV x.1≠kV k)=decide (x.1≠k)
  by_cases e:x.1=k
  .rw[e];simp
  .rw[decide_eq_true e];exact decide_eq_true λe2=>e (Z3b e2)
 rw[f1,f2]at p1;exact p1
theorem YW.mem(h:YW B' B){x':Key×Cl×Vh}(hx:x'∈B'):∃ x∈B,x.1=x'.1/\x.2.1=x'.2.1:=by
 have:(x'.1,x'.2.1)∈B.map (λx=>(x.1,x.2.1)):=by rw[<- show _=_ from h];exact mem_map.mpr ⟨x',hx,rfl⟩
 obtain⟨x,hx,e⟩:=mem_map.mp this;injection e with e1 e2
 exact⟨x,hx,e1,e2⟩
theorem Fit.sameD(f:Fit B R)(h:YW B' B):Fit B' R:=⟨f.up,by rw[YVa,h.keys,<- YVa];exact f.pm,λr hr x' aF e=>by
 obtain⟨x,hx,e1,e2⟩:=h.mem aF;rw[<- e2];exact f.cs r hr x hx (by rw[e1];exact e)⟩
theorem BOk.sameD(f:BOk L ky B)(h:YW B' B):BOk L ky B':=⟨by rw[h.keys];exact f.nd,λx' aF=>by
 obtain⟨x,hx,e1,e2⟩:=h.mem aF;rw[<- e1];exact f.key x hx,λx' aF=>by
 obtain⟨x,hx,e1,e2⟩:=h.mem aF;rw[<- e2];exact f.ok x hx⟩
theorem BOk.drop(f:BOk L ky B)(z:Str):BOk (L.filter λy=>decide (y≠z)) ky (J9 z B):=⟨by rw[QYb];exact f.nd,λx' aF=>by
 obtain⟨x,hx,rfl⟩:=mem_map.mp aF;exact f.key x hx,λx' aF=>by
 obtain⟨x,hx,rfl⟩:=mem_map.mp aF;obtain⟨a,b⟩:=f.ok x hx;exact⟨XTa a _,λq hq=>mem_filter.mpr ⟨b q (mem_filter.mp hq).1,(mem_filter.mp hq).2⟩⟩⟩
theorem BOk.more(f:BOk L ky B)(z:Str):BOk (L++[z]) ky B:=⟨f.nd,f.key,λx hx=>⟨(f.ok x hx).1,λq hq=>VO _ ((f.ok x hx).2 q hq)⟩⟩
theorem Zvc(z:Str)(L:List Str):inV (.str z) (LX V.str L)=decide (z∈L):=by
 unfold inV;rw[any_map];rw[Uw,Dr,decide_eq_true_eq]
 constructor
 .rintro⟨y,hy,e⟩
  have e:(y == z)=true:=e;rw[<- beq_iff_eq.mp e];exact hy
 .exact λh=>⟨z,h,beq_self_eq_true z⟩
theorem Dc.sub{dn:Vh}(h:Dc H S d B)(at_:H dn=Vo (.dK (kvB B')))(n:dn∉S)(sub:∀ x∈B',x∈B):Dc H S dn B':=⟨at_,λx hx=>h.bs x (sub x hx),λz hz=>by
 rcases mem_cons.mp hz with e | hz
 .rw[e];exact n
 .obtain⟨x,hx,e⟩:=mem_map.mp hz
  exact h.off z (VM _ (mem_map.mpr ⟨x,sub x hx,e⟩))⟩
theorem XTc(B:Bk)(k:Key):Y4a (kvB B) k=kvB (B.filter λx=>decide (x.1≠k)):=by
 unfold kvB;rw[Qbc]
theorem Kp.upd(k:Kp S H H')(ha:H a=Vp):Kp S H (upd H' a o):=by
 have n:∀ {b:Vh} {o':HO},H b=Vo o'->b≠a:=λ{b o'} h z=>by rw[z,ha]at h;cases h
 exact⟨λb o' hb e=>by rw[Qe (n e)];exact k.x b o' hb e,λb xs e=>by rw[Qe (n e)];exact k.t b xs e,λb xs e=>by rw[Qe (n e)];exact k.l b xs e⟩
theorem Xj(h:H a=Vo (.dK kvs)):QO H (upd H a o):=λb xs e=>by rw[Qe (Zj e h (by intro z;cases z))];exact e
theorem Qs.mu{p z:Vh}{o':HO}(h:Qs P w ob H p d1 d2 st c)(hz:H z=Vo (.dK kvs))(n:z∉[p,d1,d2]):Qs P w ob (upd H z o') p d1 d2 st c:=by
 have go:∀ {a},a∈[p,d1,d2]->upd H z o' a=H a:=λ{a} ha=>Qe (λe=>n (by rw[<- e];exact ha))
 exact h.keep (Xj hz) (go #[2]) (go #[2]) (go #[2])
theorem Dc.put{dn:Vh}{k:Key}{kv:List (Key×V)}(h:Dc H S d B)(at_:H dn=Vo (.dK (kvB (Jo B k ds a))))(n:dn∉S)(ha:H a=Vo (.dK kv))(dk:DkV H ds kv)(na:a∉S):Dc H S dn (Jo B k ds a):=⟨at_,λx hx=>by
 rcases JY hx with e | ⟨_,hB⟩
 .rw[e];exact⟨kv,ha,dk⟩
 .exact h.bs x hB,λz hz=>by
 rcases mem_cons.mp hz with e | hz
 .rw[e];exact n
 .obtain⟨x,hx,e⟩:=mem_map.mp hz
  rcases JY hx with e2 | ⟨_,hB⟩
  .rw[<- e,e2];exact na
  .exact h.off z (VM _ (mem_map.mpr ⟨x,hB,e⟩))⟩
theorem Q9d(h:GP v):Jd v=true:=by
 cases v with
 | non=>rfl
 | int i=>rfl
 | str z=>rfl
 | _=>exact h.elim
theorem Jxc{k:Key}:(k,ds,a)∈Jo B k ds a:=by
 unfold Jo
 split
 .rename_i h
  obtain⟨x,hx,e⟩:=any_eq_true.mp h;have e:=of_decide_eq_true e;exact mem_map.mpr ⟨x,hx,by rw[if_pos e,e]⟩
 .simp
inductive X3(P:Vg)(w:Vb)(ob:Nat->Vh)(vs:List V)(H:Hp)(Q:VK)(E:XK):Prop
 | mk:∀ p d1 d2 st c tt tc lc d rt ac L R B nm ky k z n,vs=[.ref p,.ref tt,.ref lc,.ref d,.int n,k,.str z]->Qs P w ob H p d1 d2 st c->Tb H [p,d1,d2] st tt tc lc d rt ac L R B->Pu nm ky ac L R B->Gd nm ky->k∈ky->z∈nm->st.length+500<=16000000->(∀ r H' ag c' gU bq gW d' bP ax L' R' B',QI [p,d1,d2] H H'->Qs P w ob H' p d1 d2 ag c'->(∀ x∈Qn st,x∈Qn ag)->ag.length<=st.length+500->H' r=Vo (.tup [.ref gU,.ref gW,.ref d'])->Tb H' [p,d1,d2] ag gU bq gW d' bP ax L' R' B'->Pu nm ky ax L' R' B'->Q (.ref r) H')->X3 P w ob vs H Q E
seal La in
theorem Ydb(T:Tx K mg ob)(wZ:Cal P w K mg base 4 "_law_row" ["_law_cell_here","_law_columns"] (YV K))(Yxd:Cal P w K mg base 16 "put_row" ["pages","table","key","cells"] (Jja P w ob))(wY:Cal P w K mg base 1 "_law_filled" ["_law_row_here"] (Jr K))(Ja:Cal P w K mg base 1 "_law_mix" ["_law_cell_here","_law_k"] (Za K))(XYc:Cal P w K mg base 15 "drop_column" ["pages","table","column"] (YH P w ob))(XUc:Cal P w K mg base 1 "_law_without" ["_law_some","_law_name"] (J6 K))(xB:Cal P w K mg base 5 "put_column" ["table","column"] (JL K))(Ykd:Cal P w K mg base 25 "take_row" ["pages","table","key"] (Q2a P w ob))(wT:Cal P w K mg base 3 "_law_plain" ["_law_cell_here"] (JK K))(Yld:Cal P w K mg base 16 "put_cell" ["pages","table","key","column","value"] (YU P w ob))(F:Fun K "_law_deed" "_law_deed" QQa f fd):Qp P w K mg base CX0 26 f fd ["_law_pages","_law_table","_law_columns","_law_some","_law_cell_here","_law_key_here","_law_name"] (X3 P w ob):=by
 refine F.ok J6a (λvs H Q E h=>?_) (λah A outer s H vs Q E hr h=>?_)
 .walk_at "n"
 obtain⟨p,d1,d2,st,c,tt,tc,lc,d,rt,ac,L,R,B,nm,ky,k,z,n,rfl,hS,tb,pu,gd,hk,hz,few,q⟩:=h
 exists 1,J6a,Qj,Q5,Qj,Yoa,Q3,Zk,Qj,Qea,Qj,Q5,Qu,ZB,QK,Xq,Qj,Q5,XUa,Ydc,Ygc,Qj,Yoa,XUa,Ydc,Qj,Yoa,Qj,YM,ZY,QK,Xq,Ze,ZY,Ze,QK,Xq,Qj,QVd,Yza,ZY
 have dy:=gd.gk k hk;obtain⟨kk,rfl⟩:=Yt dy.key;have lcl:=pu.lcl gd;have lL:=pu.ll gd;have gz:=gd.gw z hz;have lz:z.length<=12:=gz.2.1;have rok:=pu.rok gd;have lB:=pu.bl gd;have lR:=pu.fit.len;have lk:(kvB B).length=B.length:=by unfold kvB;rw[UK]
 have sY:=pu.Ln;have fin:∀ {H':Hp} {ag:StL} {c':Int} {gU bq gW d':Vh} {bP:V} {ax L':List Str} {R':List (V×Cl)} {B':Bk},QI [p,d1,d2] H H'->Qs P w ob H' p d1 d2 ag c'->(∀ x∈Qn st,x∈Qn ag)->ag.length<=st.length+500->Tb H' [p,d1,d2] ag gU bq gW d' bP ax L' R' B'->Pu nm ky ax L' R' B'->3<=Vs/\∀ r,H' r=Vp->Q (.ref r) (upd H' r (.tup [.ref gU,.ref gW,.ref d'])):=λ{H' ag c' gU bq gW d' bP ax L' R' B'} sx sa sub len tb' pu'=>⟨by decide,λr hr=>by
  have s1:=Qb hr (.tup [.ref gU,.ref gW,.ref d']);exact q r _ ag c' gU bq gW d' bP ax L' R' B' (sx.trans (s1.x _)) (sa.same s1) sub len Qa (tb'.same s1) pu'⟩
 have fl:∀ v∈LX V.str L,Jd v=true:=λv hv=>by obtain⟨y,_,rfl⟩:=mem_map.mp hv;rfl
 refine JNa λRc iS=>?_
 have r1:(n % 8=5->z∉L)->Rc [Vo (.ref p),Vo (.ref tt),Vo (.ref lc),Vo (.ref d),Vo (.int n),Vo (kV kk),Vo (.str z),Vo (.int (n % 8)),Vp,Vp,Vp,Vp,Vp] H:=λh5=>by
  refine iS _ _ (JNa λRd kR=>?_)
  clear iS;have r2:∀ dn H1,Qf H H1->H dn=Vp->H1 dn=Vo (.dK (kvB B))->Rd [Vo (.ref p),Vo (.ref tt),Vo (.ref lc),Vo (.ref d),Vo (.int n),Vo (kV kk),Vo (.str z),Vo (.int (n % 8)),Vo (.ref dn),Vp,Vp,Vp,Vp] H1:=λdn H1 s1 fi g1=>by
   have jg:dn∉[p,d1,d2]:=hS.al fi;have t1:=tb.same s1;have ndd:dn≠d:=λe=>by rw[e,tb.dc.at_]at fi;cases fi
   have nbn:∀ x∈B,x.2.2≠dn:=λx hx e=>by
    obtain⟨kv,h,_⟩:=tb.dc.bs x hx;rw[e,fi]at h;cases h
   have xC:∀ {H2:Hp} {o:HO},Qf H1 H2->Qf H (upd H2 dn o):=λ{H2 o} s=>QD (s1.trans s) fi
   refine kR _ _ (ZZ λRe jh=>?_)
   clear kR;have r3:Re [Vo (.ref p),Vo (.ref tt),Vo (.ref lc),Vo (.ref d),Vo (.int n),Vo (kV kk),Vo (.str z),Vo (.int (n % 8)),Vo (.ref dn),Vp,Vp,Vp,Vp] H1:=by
    refine jh _ _ (ZZ λRf ji=>?_)
    clear jh;have r4:∀ H2,Qf H1 H2->Rf [Vo (.ref p),Vo (.ref tt),Vo (.ref lc),Vo (.ref d),Vo (.int n),Vo (kV kk),Vo (.str z),Vo (.int (n % 8)),Vo (.ref dn),Vp,Vp,Vp,Vp] H2:=λH2 s2=>by
     refine ji _ _ ?_
     clear ji;walk_at "rd";have au:=s1.trans s2;refine⟨_,_,rfl,λm _ _=>⟨m,lc,L,rfl,au _ _ tb.cl,sY,by lia,λr0 H3 ds kvs s3 bN g3 dk eK ld hds=>⟨r0,kvs,rfl,g3,by have:=dk.len;lia,λhn iT=>?_⟩⟩⟩
     have az:=au.trans s3;have sZ:r0∉[p,d1,d2]:=(hS.same au).al bN;have tj:hn∉[p,d1,d2]:=(hS.same az).al iT;have xD:H hn=Vp:=none_of az iT;have tm:hn≠r0:=λe=>by rw[e,g3]at iT;cases iT
     have xE:hn≠dn:=λe=>by rw[e,(s2.trans s3) _ _ g1]at iT;cases iT
     have s4:=Qb iT (.dK kvs);have g4:upd H3 hn (.dK kvs) hn=_:=Qa;generalize upd H3 hn (.dK kvs)=H4 at s4 g4 ⊢;have gS:=az.trans s4;have t4:=tb.same gS;have p8:=hS.same gS;refine⟨p,d1,d2,st,c,tt,tc,rt,kV kk,hn,kvs,ac,ds,R,rfl,p8,t4.tt,t4.tc,dy,g4,dk.sameT s4.t,⟨eK,by lia,λq hq=>pu.zl gd _ (hds q hq).1⟩,(λq hq=>⟨pu.pm.mem_iff.mpr (hds q hq).1,(hds q hq).2⟩),t4.tr,rok,by lia,λr5 H5 bw c5 rt5 mJ cs5 cm fZ b6 l5 g5 mQ kL xF=>?_⟩
     obtain⟨mS,_⟩:=XCb (L:=L) ⟨eK,λq hq=>(hds q hq).1⟩
     have k5:Kp [p,d1,d2] H H5:=(Ycb gS).trans (p8.kp cm);have mT:=ZD p8 cm;have h5:=cm _ _ tj g4;refine⟨hn,r0,kvs,rfl,rfl,tm,.inl h5,.inl (cm _ _ sZ (s4 _ _ g3)),λy hy=>?_,dk.nd eK,_,rfl,(if_neg (λz=>Df z)).mpr ⟨hn,rfl,kvs,h5,?_⟩⟩
     .obtain⟨q,hq,_,_,_,tv⟩:=XBb dk eK hy
      obtain⟨_,v,ev,gv⟩:=hds q hq;rw[ev]at tv;rw[tv.flat.2];exact Q9d gv
     have k6:=k5.upd xD (o:=.dK []);have fj:=fZ.mu (o':=.dK []) h5 tj;have jj:=Xj h5 (o:=.dK []);have r6:upd H5 hn (.dK []) r0=Vo (.dK kvs):=by rw[Qe (VN tm)];exact cm _ _ sZ (s4 _ _ g3)
     have d6:upd H5 hn (.dK []) dn=Vo (.dK (kvB B)):=by rw[Qe (VN xE)];exact cm _ _ jg ((s2.trans (s3.trans s4)) _ _ g1)
     have tq:=(s4.t.trans mT).trans jj;generalize upd H5 hn (.dK [])=H6 at k6 fj jj r6 d6 tq ⊢;refine⟨r0,ds,kvs,rfl,r6,dk.sameT tq,eK,by lia,λr7 H7 xG s7 kM g7 xH=>⟨_,Xb.k (k:=kk) (s7 _ _ d6) (by rw[lk];exact Qm #[0]),?_⟩⟩
     rw[J4b B kk (Q3a ds) r7];obtain⟨R',rfl,eO⟩:=pu.fit.put (a:=r7) mQ.full kL;have d7:=s7 _ _ d6;have xI:r7≠dn:=λe=>by rw[e,d6]at kM;cases kM
     have k8:=(k6.trans (Ycb s7)).upd fi (o:=.dK (kvB (Jo B kk (Q3a ds) r7)));have tD:=Xj d7 (o:=.dK (kvB (Jo B kk (Q3a ds) r7)));have p9:=(fj.same s7).mu (o':=.dK (kvB (Jo B kk (Q3a ds) r7))) d7 jg;have g8:upd H7 dn (.dK (kvB (Jo B kk (Q3a ds) r7))) dn=_:=Qa;have r8:upd H7 dn (.dK (kvB (Jo B kk (Q3a ds) r7))) r7=Vo (.dK xG):=by rw[Qe xI];exact g7
     exact fin k8.x p9 b6 #[0] ⟨tD _ _ (s7 _ _ (jj _ _ g5)),k8.t _ _ tb.tc,k8.l _ _ tb.cl,(tb.dc.x k8.x k8.t).put g8 jg r8 (xH.sameT tD) (fj.al kM),xF⟩ ⟨pu.up,pu.pm,pu.wd,pu.ok.put hk mS,eO⟩
    clear ji;walk_at "rd";refine⟨by show 3<=Vs;decide,λp1 aU=>?_⟩
    have s2:=Qb aU (.lst [V.int 2,V.int 3,V.int 6]);have g2:upd H1 p1 (.lst [V.int 2,V.int 3,V.int 6]) p1=_:=Qa;generalize upd H1 p1 (.lst [V.int 2,V.int 3,V.int 6])=H2 at s2 g2 ⊢;have t2:=tb.same (s1.trans s2);refine⟨_,.inl (SqL.of g2),rfl,rfl,QR (λ_=>⟨_,Zr.k (k:=kk) t2.dc.at_,QR (λhs=>?_) λ_=>r4 H2 s2⟩) λ_=>r4 H2 s2⟩
    refine⟨_,.inl (SqL.of t2.cl),rfl,all_eq_true.mpr fl,?_⟩
    rw[Zvc];refine QR (λmU=>?_) λ_=>r4 H2 s2
    have mU:z∈L:=of_decide_eq_true mU;obtain⟨vx,jk⟩:=Option.isSome_iff_exists.mp hs;obtain⟨x,hx,rfl⟩:∃ x∈B,x.1=kk:=by
     by_cases h:∃ x∈B,x.1=kk
     .exact h
     .rw[QXb λy hy e=>h ⟨y,hy,e⟩]at jk;cases jk
    have pc:∀ (v:V) (H3:Hp),GP v->Qf H2 H3->∃ y,Zr H3 d (kV x.1) (Vo y)/\Xac [y] H3 λu H1=>∃ H4,Xb H1 dn (kV x.1) u H4/\∃ y2,Zr H4 dn (kV x.1) (Vo y2)/\∃ a,y2=V.ref a/\∃ H5,Xb H4 a (V.str z) v H5/\YU P w ob [V.ref p,V.ref tt,kV x.1,V.str z,v] H5 (λt H1=>[t,V.ref lc,V.ref dn].length<=Vs/\∀ r,H1 r=Vp->Q (V.ref r) (upd H1 r (.tup [t,V.ref lc,V.ref dn]))) E0:=λv H3 gv s3=>by
     have cL:=s1.trans (s2.trans s3);have t3:=tb.same cL;obtain⟨cp,f6,dd⟩:=t3.dc.bs x hx;have vv:=Jna pu.ok.nd hx;have eJ:=pu.ok.ok x hx;have xn:=Jma eJ.1 eJ.2;have lkd:=dd.len;refine⟨_,vv ▸ Zr.k (k:=x.1) t3.dc.at_,x.2.2,cp,rfl,f6,by lia,λa ha=>?_⟩
     have tE:H a=Vp:=none_of cL ha;have na:a∉[p,d1,d2]:=hS.al tE;have tF:a≠dn:=λe=>by rw[e,(s2.trans s3) _ _ g1]at ha;cases ha
     have s4:=Qb ha (.dK cp);have g4:upd H3 a (.dK cp) a=_:=Qa;generalize upd H3 a (.dK cp)=H4 at s4 g4 ⊢;have gS:=cL.trans s4;have d4:=(s2.trans (s3.trans s4)) _ _ g1;refine⟨_,Xb.k (k:=x.1) d4 (by rw[lk];exact Qm #[0]),?_⟩
     rw[J4b B x.1 (ZW x.2.1 z (.v v)) a];have tG:Qf H (upd H4 dn (.dK (kvB (Jo B x.1 (ZW x.2.1 z (.v v)) a)))):=QD gS fi;have mT:=Xj d4 (o:=.dK (kvB (Jo B x.1 (ZW x.2.1 z (.v v)) a)));have g5:upd H4 dn (.dK (kvB (Jo B x.1 (ZW x.2.1 z (.v v)) a))) dn=_:=Qa;have a5:upd H4 dn (.dK (kvB (Jo B x.1 (ZW x.2.1 z (.v v)) a))) a=Vo (.dK cp):=by rw[Qe tF];exact g4
     generalize upd H4 dn (.dK (kvB (Jo B x.1 (ZW x.2.1 z (.v v)) a)))=H5 at tG mT g5 a5 ⊢;refine⟨_,Jna (Zrc pu.ok.nd) Jxc ▸ Zr.k (k:=x.1) g5,a,rfl,_,Xb.k (k:=.inr z) a5 (Qm #[0]),?_⟩
     have mV:Qf H (upd H5 a (.dK (ZC cp (.inr z) v))):=QD tG tE;have jj:=Xj a5 (o:=.dK (ZC cp (.inr z) v));have g6:upd H5 a (.dK (ZC cp (.inr z) v)) a=_:=Qa;have d6:upd H5 a (.dK (ZC cp (.inr z) v)) dn=Vo (.dK (kvB (Jo B x.1 (ZW x.2.1 z (.v v)) a))):=by rw[Qe (VN tF)];exact g5
     generalize upd H5 a (.dK (ZC cp (.inr z) v))=H6 at mV jj g6 d6 ⊢;have t6:=tb.same mV;have fj:=hS.same mV;have pZ:DkV H6 (ZW x.2.1 z (.v v)) (ZC cp (.inr z) v):=(dd.sameT ((s4.t.trans mT).trans jj)).put (TD.ofV gv.hv);have xJ:=t6.dc.put d6 jg g6 pZ na;obtain⟨r,aX,er⟩:∃ r∈R,r.1=kV x.1:=by
      have:kV x.1∈R.map LW:=pu.fit.pm.mem_iff.mpr (mem_map.mpr ⟨x,hx,rfl⟩);obtain⟨r,hr,e⟩:=mem_map.mp this;exact⟨r,hr,e⟩
     have mQ:=pu.fit.cs r aX x hx er;refine⟨p,d1,d2,st,c,tt,tc,rt,kV x.1,z,v,ac,R,r.2,rfl,fj,t6.tt,t6.tc,dy,pu.pm.mem_iff.mpr mU,by lia,gv,t6.tr,rok,by rw[<- er];exact aX,by lia,λr7 H7 gN c7 jc es7 cs7 cZ xK kT l7 g7 xL xM xN=>?_⟩
     obtain⟨R',rfl,eO⟩:=pu.fit.put (a:=a) (mQ.putO xL) xM;have k7:=fj.kp cZ;have t7:=t6.kp k7 kT;have xO:OkC L (ZW x.2.1 z (.v v)):=⟨XRa eJ.1 _ _,λq hq=>by
      obtain⟨c',v'⟩:=q
      rcases JX.mp hq with ⟨e1,_⟩ | ⟨_,hm⟩
      .rw[e1];exact mU
      .exact eJ.2 _ hm⟩
     exact fin ((mV.x _).trans cZ) xK kT #[0] ⟨g7,t7.tc,t7.cl,xJ.x k7.x k7.t,xN⟩ ⟨pu.up,pu.pm,pu.wd,pu.ok.put hk xO,eO⟩
    exact QR (λ_=>⟨_,_,rfl,λm _ _=>⟨_,rfl,λv H3 gv _ s3=>pc v H3 gv s3⟩⟩) λ_=>pc .non H2 trivial (Qf.refl _)
   clear jh;walk_at "rd";refine QR (λe4=>⟨_,Zr.k (k:=kk) t1.dc.at_,QR (λhs=>?_) λ_=>r3⟩) λ_=>r3
   obtain⟨vx,jk⟩:=Option.isSome_iff_exists.mp hs;refine⟨.inl ⟨_,.inl g1⟩,_,g1,kk,rfl,vx,jk,?_⟩
   rw[XTc];have s2:=xC (Qf.refl H1) (o:=.dK (kvB (B.filter λx=>decide (x.1≠kk))))
   have g2:upd H1 dn (.dK (kvB (B.filter λx=>decide (x.1≠kk)))) dn=_:=Qa
   generalize upd H1 dn (.dK (kvB (B.filter λx=>decide (x.1≠kk))))=H2 at s2 g2 ⊢
   have t2:=tb.same s2;have a8:∃ r∈R,r.1=kV kk:=by
    by_cases h:∃ x∈B,x.1=kk
    .obtain⟨x,hx,rfl⟩:=h
     have:kV x.1∈R.map LW:=pu.fit.pm.mem_iff.mpr (mem_map.mpr ⟨x,hx,rfl⟩);obtain⟨r,hr,e⟩:=mem_map.mp this;exact⟨r,hr,e⟩
    .rw[QXb λy hy e=>h ⟨y,hy,e⟩]at jk;cases jk
   refine⟨p,d1,d2,st,c,tt,tc,rt,kV kk,R,rfl,hS.same s2,t2.tt,dy,t2.tr,rok,a8,by lia,λr3 H3 bv c3 fU oQ fP bc be l3 g3 qb xP=>?_⟩
   obtain⟨R',rfl,eO⟩:=pu.fit.del pu.ok.nd qb;have k3:=(hS.same s2).kp fP;have t3:=t2.kp k3 be;exact fin ((s2.x _).trans fP) bc be #[0] ⟨g3,t3.tc,t3.cl,t3.dc.sub (fP _ _ jg g2) jg λx hx=>(mem_filter.mp hx).1,xP⟩ ⟨pu.up,pu.pm,pu.wd,⟨pu.ok.nd.sublist (filter_sublist.map _),λx hx=>pu.ok.key x (mem_filter.mp hx).1,λx hx=>pu.ok.ok x (mem_filter.mp hx).1⟩,eO⟩
  walk_at "rd";refine QR (λe5=>?_) λ_=>⟨d,kvB B,rfl,tb.dc.at_,by lia,λdn fi=>r2 dn _ (Qb fi _) fi Qa⟩
  have bd:=h5 e5;refine⟨tt,tc,rt,z,ac,rfl,tb.tt,tb.tc,λh=>bd (pu.pm.mem_iff.mp h),gz,λy hy=>pu.zl gd y (pu.pm.mem_iff.mp hy),by lia,λr bq H1 ax s1 g1 qd eE iU=>⟨YPa _,λl1 di=>?_⟩⟩
  have s2:=Qb di (.lst [V.str z]);have g2:upd H1 l1 (.lst [V.str z]) l1=_:=Qa;generalize upd H1 l1 (.lst [V.str z])=H2 at s2 g2 ⊢;have au:=s1.trans s2;refine⟨_,au _ _ tb.cl,_,g2,QG (by rw[UK];show L.length+1<=_;lia),λl3 xQ=>?_⟩
  have e3:LX V.str L++[V.str z]=LX V.str (L++[z]):=by rw[Il];rfl
  rw[e3];have s3:=Qb xQ (.lst (LX V.str (L++[z])));have g3:upd H2 l3 (.lst (LX V.str (L++[z]))) l3=_:=Qa;generalize upd H2 l3 (.lst (LX V.str (L++[z])))=H3 at s3 g3 ⊢;have bR:=s2.trans s3;have cL:=au.trans s3;have t3:=tb.same cL;refine fin (cL.x _) (hS.same cL) (λ_ h=>h) #[0] ⟨bR _ _ g1,bR _ _ qd,g3,t3.dc,t3.tr⟩ ⟨eE,?_,λy hy=>?_,pu.ok.more z,pu.fit⟩
  .have n1:ax.Nodup:=Db (λ{a b} h e=>by subst e;exact ltS.irr _ h) eE
   have n2:(L++[z]).Nodup:=by
    rw[L3];refine⟨sY,by simp,λx hx y hy=>?_⟩
    have hy:y=z:=by simpa using hy
    subst hy;exact λe=>bd (by rw[<- e];exact hx)
   refine(Dk n1 n2).mpr λy=>?_
   rw[iU,IS,Dp,pu.pm.mem_iff]
  .rcases mem_append.mp hy with h | h
   .exact pu.wd y h
   .rw[mem_singleton.mp h];exact hz
 clear iS;walk_at "rd";refine QR (λe5=>⟨_,.inl (SqL.of tb.cl),rfl,all_eq_true.mpr fl,?_⟩) λe5=>r1 λz=>absurd z e5
 rw[Zvc];refine QR (λa8=>?_) λbd=>r1 λ_ h=>bd (decide_eq_true h)
 have a8:z∈L:=of_decide_eq_true a8;refine⟨p,d1,d2,st,c,tt,tc,rt,z,ac,R,rfl,hS,tb.tt,tb.tc,pu.pm.mem_iff.mpr a8,by lia,by lia,tb.tr,rok,by lia,λr bq H1 ci c1 jl R1 kU bz ge l1 g1 qd pr t1=>?_⟩
 have k1:=hS.kp kU;have qe:=tb.kp k1 ge;refine⟨⟨_,SqL.of qe.cl⟩,YIb (LX V.str L) (λv=>decide (v≠.str z)) id (SqL.of qe.cl) (QG (by rw[UK];lia)) (λi x H2 R' hx s2 r=>?_) (λi x H2 R' hx _ s2 r=>by walk_at "rd";exact r) λD H2 hD s2 g2=>?_⟩
 .obtain⟨y,_,rfl⟩:=mem_map.mp (Og hx)
  walk_at "rd";have e:(!decide (y=z))=decide (V.str y≠V.str z):=by
   by_cases e:y=z
   .simp[e]
   .simp[e]
  rw[e];exact r
 .have e1:LX id ((LX V.str L).filter λv=>decide (v≠.str z))=LX V.str (L.filter λy=>decide (y≠z)):=by
   rw[map_id,LI];have:((λv=>decide (v≠V.str z)) ∘ V.str)=λy=>decide (y≠z):=by funext y;simp
   rw[this]
  rw[e1]at g2;have t2:=qe.same s2;refine⟨d,[p,d1,d2],B,z,rfl,t2.dc,λx hx=>⟨(pu.ok.ok x hx).1,(pu.clk gd hx).len⟩,pu.ok.nd,by lia,λr3 H3 B3 s3 fX nw e3=>?_⟩
  have bR:=s2.trans s3;exact fin (kU.trans (bR.x _)) (bz.same bR) ge #[0] ⟨bR _ _ g1,bR _ _ qd,s3 _ _ g2,nw.dc (bz.same s2) fX,t1⟩ ⟨pu.up.filter _,pu.pm.filter _,λy hy=>pu.wd y (mem_filter.mp hy).1,(pu.ok.drop z).sameD e3,(pu.fit.drop pr).sameD e3⟩
theorem Fit.filter(h:Fit B R)(g:V->Bool):Fit (B.filter λx=>g (kV x.1)) (R.filter λr=>g r.1):=⟨h.up.filter _,by
 have p1:=h.pm.filter g;rw[LI,LI]at p1;exact p1,λr hr x hx e=>h.cs r (mem_filter.mp hr).1 x (mem_filter.mp hx).1 e⟩
theorem Ymd(h:Q4 k):wi .non .non k=true:=by
 unfold wi beh;rw[if_pos rfl];have e2:Pl.ltV k .non=false:=by
  cases k with
  | int i=>exact Pl.Yzc i
  | str z=>exact Pl.YAc z
  | _=>exact h.elim
 rw[e2];rfl
section
variable{K:VC}{P:Vg}{w:Vb}{ob:Nat->Vh}{H:Hp}{p d1 d2:Vh}{st:StL}{c:Int}{tt tc l d:Vh}{rt:V}{nm ac L:List Str}{ky:List V}{R:List (V×Cl)}{B:Bk}{Q:VK}
theorem Yfb(pu:Pu nm ky ac L R B)(gd:Gd nm ky)(sa:Qs P w ob H p d1 d2 st c)(tb:Tb H [p,d1,d2] st tt tc l d rt ac ac R B){lo hi:V}(aT:J4 lo)(aZ:J4 hi)
 (q:∀ r H' xs,Qf H H'->H r=Vp->H' r=Vo (.lst xs)->Vm (Z4b H H' ac) (R.filter λx=>wi lo hi x.1) xs->Q (.ref r) H'):Q0 P w ob [.ref p,.ref tt,lo,hi] H Q E0 :=
 ⟨p,d1,d2,st,c,tt,tc,rt,ac,R,lo,hi,rfl,sa,tb.tt,tb.tc,pu.cn,by have:=pu.lcl gd;lia,tb.tr,pu.rok gd,aT,aZ,q⟩
theorem QZb(pu:Pu nm ky ac L R B)(gd:Gd nm ky){H0:Hp}{S:List Vh}{f e:Vh}{xs:List V}{lo hi:V}(hl:H l=Vo (.lst (LX V.str ac)))(dc:Dc H S e (B.filter λx=>wi lo hi (kV x.1)))(hf:H f=Vo (.lst xs))(px:Vm (Z4b H0 H ac) (R.filter λx=>wi lo hi x.1) xs)(q:∀ H',Qf H H'->Q (.bl true) H'):Zy K [.ref f,.ref l,.ref e] H Q E0:=by
 refine⟨f,xs,l,e,S,ac,_,_,rfl,hf,Paired.mapP px λx v h=>h.at,hl,by have:=pu.lcl gd;lia,dc,λx hx=>pu.bok gd x (mem_filter.mp hx).1,pu.ok.nd.sublist (filter_sublist.map _),?_,pu.fit.filter _,q⟩
 have:=OM (λx:Key×Cl×Vh=>wi lo hi (kV x.1)) B
 have:=pu.bl gd
 lia
end
inductive RtI(H H2:Hp)(r:Vh)(xs:List V)(H':Hp):Prop
 | mk (s:Qf H H') (t:QO H2 H') (g:H' r=Vo (.lst xs)) (h:∀ v∈xs,∃ a k b kvs,v=V.ref a/\H2 a=Vo (.tup [k,.ref b])/\H' b=Vo (.dK kvs)/\H b=Vp)
inductive Jc(P:Vg)(w:Vb)(ob:Nat->Vh)(vs:List V)(H:Hp)(Q:VK)(E:XK):Prop
 | mk:∀ p d1 d2 st c tt tc l d rt ac L R B nm ky,vs=[.ref p,.ref tt,.ref l,.ref d]->Qs P w ob H p d1 d2 st c->Tb H [p,d1,d2] st tt tc l d rt ac ac R B->Pu nm ky ac L R B->Gd nm ky->(∀ H',Qf H H'->Q (.bl true) H')->Jc P w ob vs H Q E
theorem Joa(T:Tx K mg ob)(qf:Cal P w K mg base 16 "rows_in" ["pages","table","low","high"] (Q0 P w ob))(bt:Qhc P w K mg base 16 "rows_in" ["pages","table","low","high"] [.none] (Q0 P w ob))(aR:Qhc P w K mg base 16 "rows_in" ["pages","table","low","high"] [.none,.none] (Q0 P w ob))(ZO:Cal P w K mg base 11 "_law_reads" ["_law_found","_law_columns","_law_some"] (Zy K))(F:Fun K "_law_read_twice" "_law_read_twice" Ji f fd):Qp P w K mg base CX0 17 f fd ["_law_pages","_law_table","_law_columns","_law_some"] (Jc P w ob):=by
 refine F.ok Z8 (λvs H Q E h=>?_) (λah A outer s H vs Q E hr h=>?_)
 .walk_at "n"
 obtain⟨p,d1,d2,st,c,tt,tc,l,d,rt,ac,L,R,B,nm,ky,rfl,hS,tb,pu,gd,q⟩:=h;refine⟨_,(ZR (XPa 4 Z8.nd (JCb aR Zic hr (Q2 (pv 0) (Q2 (pv 1) Zc))))
  (ZR (Ymb (Yla (ZIa (Jh ZO hr (Q2 (pv 4) (Q2 (pv 2) (Q2 (pv 3) Zc)))) (λ_=>rfl))) (Yb (Qca Ykb)) Jpa)
  (ZR (Q6 PassesOwn.never rfl (Zk (pv 4)) (Jfb (i:=5) Z8.nd rfl (Or.inl rfl)) (Yb (Jeb (Yza (Qh Qi (pv 5) JBc (λ_ _=>rfl))))))
  (ZR (Jeb (Jod PySem.F.plainAttrs_list PySem.F.slot_list_clear PySem.F.type_list_clear J5c (pv 4)))
  (Yb (Qca (Jh ZO hr (Q2 (JCb aR Zic hr (Q2 (pv 0) (Q2 (pv 1) Zc))) (Q2 (pv 2) (Q2 (pv 3) Zc)))))))))),?_⟩
 refine JDa (σ:=[Vo (.ref p),Vo (.ref tt),Vo (.ref l),Vo (.ref d),Vp,Vp]) rfl ?_
 walk_at "rd";have DE:B.filter (λx=>wi .non .non (kV x.1))=B:=filter_eq_self.mpr λx hx=>Ymd (pu.bok gd x hx).2.key
 refine Yfb pu gd hS tb (.inl rfl) (.inl rfl) λr H1 xs s1 i8 g1 qg=>?_
 have t1:=tb.same s1;refine QZb pu gd t1.cl (by rw[DE];exact t1.dc) g1 qg λH2 s2=>⟨_,rfl,(if_neg (λz=>Df z)).mpr ?_⟩
 have au:=s1.trans s2;refine⟨r,rfl,⟨_,SqL.of (s2 _ _ g1)⟩,ZU xs (λi σ' H'=>∃ x5,σ'=[Vo (.ref p),Vo (.ref tt),Vo (.ref l),Vo (.ref d),Vo (.ref r),x5]/\RtI H H2 r xs H') ⟨_,rfl,au,QO.refl _,s2 _ _ g1,λv hv=>?_⟩ (λi σ' H' _ h=>by obtain⟨_,_,_,_,h,_⟩:=h;exact SqL.of h) ?_ ?_⟩
 .obtain⟨i,hi,ei⟩:=mem_iff_getElem.mp hv
  have l1:=Vn qg;obtain⟨a,b,kvs,e,h1,h2,_,n⟩:=Ql qg (IA (show i < (R.filter λx=>wi .non .non x.1).length by lia)) (List.getElem?_eq_some_iff.mpr ⟨hi,ei⟩)
  exact⟨a,_,b,kvs,e,s2 _ _ h1,s2 _ _ h2,n⟩
 .rintro i x σ' H' hx ⟨x5,rfl,s',t',g',aF⟩
  refine stN λN hN=>?_
  obtain⟨a,k,b,kvs,rfl,ha,hb,n⟩:=aF x (Og hx);walk_at "rd";have xR:b≠r:=λe=>by rw[e,g']at hb;cases hb
  refine⟨_,SqT.of (t' _ _ ha),_,at1 _ _ _,b,rfl,kvs,hb,hN _ _ ⟨_,rfl,QD s' n,t'.trans (Xj hb),by rw[Qe (VN xR)];exact g',λv hv=>?_⟩⟩
  obtain⟨a2,k2,b2,fh,e2,h2,bD,n2⟩:=aF v hv
  by_cases z:b2=b
  .subst z;exact⟨a2,k2,b2,_,e2,h2,Qa,n2⟩
  .exact⟨a2,k2,b2,fh,e2,h2,by rw[Qe z];exact bD,n2⟩
 .rintro σ' H' ⟨x5,rfl,s',t',g',aF⟩
  walk_at "rd";have s9:Qf H (upd H' r (.lst [])):=QD s' i8;refine⟨.inl ⟨rfl,_,SqL.of g'⟩,r,xs,rfl,rfl,g',Yfb pu gd (hS.same s9) (tb.same s9) (.inl rfl) (.inl rfl) λr3 H3 ys s3 fX g3 xS=>?_⟩
  have t3:=tb.same (s9.trans s3);exact QZb pu gd t3.cl (by rw[DE];exact t3.dc) g3 xS λH4 s4=>q H4 ((s9.trans s3).trans s4)
inductive Jy(P:Vg)(w:Vb)(ob:Nat->Vh)(vs:List V)(H:Hp)(Q:VK)(E:XK):Prop
 | mk:∀ p d1 d2 st c tt tc l d rt ac L R B nm ky lo hi,vs=[.ref p,.ref tt,.ref l,.ref d,lo,hi]->Qs P w ob H p d1 d2 st c->Tb H [p,d1,d2] st tt tc l d rt ac ac R B->Pu nm ky ac L R B->Gd nm ky->lo∈ky->hi∈ky->(∀ H',Qf H H'->Q (.bl true) H')->Jy P w ob vs H Q E
theorem YZa(T:Tx K mg ob)(ZO:Cal P w K mg base 11 "_law_reads" ["_law_found","_law_columns","_law_some"] (Zy K))(xT:Cal P w K mg base 17 "_law_read_twice" ["_law_pages","_law_table","_law_columns","_law_some"] (Jc P w ob))(qf:Cal P w K mg base 16 "rows_in" ["pages","table","low","high"] (Q0 P w ob))(bt:Qhc P w K mg base 16 "rows_in" ["pages","table","low","high"] [.none] (Q0 P w ob))(aR:Qhc P w K mg base 16 "rows_in" ["pages","table","low","high"] [.none,.none] (Q0 P w ob))(YJ:Cal P w K mg base 2 "_law_between" ["_law_some","_law_low","_law_high"] (Z7 K))(F:Fun K "_law_all_read" "_law_all_read" J1 f fd):Qp P w K mg base CX0 18 f fd ["_law_pages","_law_table","_law_columns","_law_some","_law_low","_law_high"] (Jy P w ob):=by
 refine F.ok YNa (λvs H Q E h=>?_) (λah A outer s H vs Q E hr h=>?_)
 .walk_at "n"
 obtain⟨p,d1,d2,st,c,tt,tc,l,d,rt,ac,L,R,B,nm,ky,lo,hi,rfl,hS,tb,pu,gd,aT,aZ,q⟩:=h;refine⟨_,(ZR (Ymb (Yla (ZIa (Jh xT hr (Q2 (pv 0) (Q2 (pv 1) (Q2 (pv 2) (Q2 (pv 3) Zc))))) (λ_=>rfl))) (Yb (Qca Ykb)) Jpa)
  (ZR (Ymb (Yla (ZIa (Jh ZO hr (Q2 (JCb bt QUd hr (Q2 (pv 0) (Q2 (pv 1) (Q2 (pv 4) Zc)))) (Q2 (pv 2) (Q2 (Jh YJ hr (Q2 (pv 3) (Q2 (pv 4) (Q2 Jcb Zc)))) Zc)))) (λ_=>rfl))) (Yb (Qca Ykb)) Jpa)
  (ZR (Ymb (Yla (ZIa (Jh ZO hr (Q2 (Jh qf hr (Q2 (pv 0) (Q2 (pv 1) (Q2 (pv 4) (Q2 (pv 5) Zc))))) (Q2 (pv 2) (Q2 (Jh YJ hr (Q2 (pv 3) (Q2 (pv 4) (Q2 (pv 5) Zc)))) Zc)))) (λ_=>rfl))) (Yb (Qca Ykb)) Jpa)
  (Yb (Qca (Jh ZO hr (Q2 (Jh qf hr (Q2 (pv 0) (Q2 (pv 1) (Q2 Jcb (Q2 (pv 5) Zc))))) (Q2 (pv 2) (Q2 (Jh YJ hr (Q2 (pv 3) (Q2 Jcb (Q2 (pv 5) Zc)))) Zc))))))))),?_⟩
 refine JDa (σ:=[Vo (.ref p),Vo (.ref tt),Vo (.ref l),Vo (.ref d),Vo lo,Vo hi]) rfl ?_
 walk_at "rd";have tH:J4 lo:=.inr (gd.gk lo aT).key;have tI:J4 hi:=.inr (gd.gk hi aZ).key;have kB:∀ x∈B,Q4 (kV x.1):=λx hx=>(pu.bok gd x hx).2.key
 have lB:=pu.bl gd;have one:∀ {H1:Hp} {lo hi:V} {Qk:VK},J4 lo->J4 hi->Qf H H1->(∀ H',Qf H H'->Qk (.bl true) H')->Q0 P w ob [.ref p,.ref tt,lo,hi] H1 (λx H1=>Z7 K [.ref d,lo,hi] H1 (λy H1=>Zy K [x,.ref l,y] H1 Qk E0) E0) E0:=λ{H1 lo hi Qk} h1 h2 s1 qk=>by
  refine Yfb pu gd (hS.same s1) (tb.same s1) h1 h2 λr H2 xs s2 ck g2 xU=>?_
  have au:=s1.trans s2;have t2:=tb.same au;refine⟨d,B,lo,hi,rfl,t2.dc.at_,kB,pu.ok.nd,by lia,h1,h2,λe H3 s3 he g3=>?_⟩
  have az:=au.trans s3;have t3:=tb.same az;exact QZb pu gd t3.cl (t3.dc.sub g3 ((hS.same au).al he) λx hx=>(mem_filter.mp hx).1) (s3 _ _ g2) (Paired.mapP xU λx v ⟨a,b,kvs,ev,ha,hb,dk,n⟩=>⟨a,b,kvs,ev,s3 _ _ ha,s3 _ _ hb,dk.sameT s3.t,n⟩) λH' s'=>qk H' (az.trans s')
 exact⟨p,d1,d2,st,c,tt,tc,l,d,rt,ac,L,R,B,nm,ky,rfl,hS,tb,pu,gd,λH1 s1=>⟨_,rfl,(if_neg (λz=>Df z)).mpr (one tH (.inl rfl) s1 λH2 s2=>⟨_,rfl,(if_neg (λz=>Df z)).mpr (one tH tI s2 λH3 s3=>⟨_,rfl,(if_neg (λz=>Df z)).mpr (one (.inl rfl) tI s3 λH4 s4=>q H4 s4)⟩)⟩)⟩⟩
inductive I27(P:Vg)(w:Vb)(K:VC)(ob:Nat->Vh)(a nl kl p d1 d2:Vh)(ns:List Int)(nm:List Str)(ky:List V)(i:Nat)(σ':St)(H':Hp):Prop
 | mk:∀ (st:StL) (c:Int) (tt tc lc d:Vh) (rt:V) (ac L:List Str) (R:List (V×Cl)) (B:Bk) (hh jm kW lh dh:Vh) (kX:V) (bH Lh:List Str) (Rh:List (V×Cl)) (Bh:Bk) (x6 x9 qh kY kZ:Option V),σ'=[Vo (.ref a),Vo (.ref nl),Vo (.ref kl),Vo (.ref p),Vo (.ref tt),Vo (.ref lc),x6,Vo (.ref d),Vo (.ref hh),x9,qh,kY,kZ] ->
  Qs P w ob H' p d1 d2 st c->Tb H' [p,d1,d2] st tt tc lc d rt ac L R B->Pu nm ky ac L R B->H' hh=Vo (.tup [.ref jm,.ref lh,.ref dh])->Tb H' [p,d1,d2] st jm kW lh dh kX bH Lh Rh Bh->Pu nm ky bH Lh Rh Bh->H' nl=Vo (.lst (LX V.str nm))->H' kl=Vo (.lst ky)->SqL K H' a (LX V.int ns)->st.length<=200+500 * i->I27 P w K ob a nl kl p d1 d2 ns nm ky i σ' H'
theorem XVc(xs:List V){k:Int}(h:0<=k):∃ j,ZT xs Vp (Vo k)=xs.take j:=by
 obtain⟨k,rfl⟩:=Dh h;unfold ZT;rw[HT.Jta,HT.Jua];exact⟨_,rfl⟩
inductive PcI(H:Hp)(C:List Str)(i:Nat)(tt:Vh)(H':Hp):Prop
 | mk (tc:Vh) (ac:List Str) (s:Qf H H') (h1:H' tt=Vo (.tup [.ref tc,.non])) (h2:H' tc=Vo (.tup (LX V.str ac))) (up:ac.Pairwise ltS) (pm:ac.Perm (C.take i))
inductive Q0b(K:VC)(vs:List V)(H:Hp)(Q:VK)(E:XK):Prop
 | mk:∀ (a:Vh) (ns:List Int),vs=[.ref a]->SqL K H a (ns.map V.int)->ns.length<=63->(∀ H',Q (.bl true) H')->Q0b K vs H Q E
theorem Ynd(T:Tx K mg ob)(Zad:Cal P w K mg base 2 "_law_names" ["_law_cell_here","_law_many"] (Y8 K))(Zyd:Cal P w K mg base 4 "_law_pool" ["_law_cell_here"] (X0 K))(Yod:Cal P w K mg base 1 "no_table" [] (Xta K))(Jyc:Cal P w K mg base 18 "_law_all_read" ["_law_pages","_law_table","_law_columns","_law_some","_law_low","_law_high"] (Jy P w ob))(Zzd:Cal P w K mg base 1 "_law_cell" ["_law_script","_law_k"] (XW K))(xB:Cal P w K mg base 5 "put_column" ["table","column"] (JL K))(XDb:Cal P w K mg base 5 "_law_with_clashes" ["_law_cell_here","_law_columns","_law_keys"] (ZF K))(Zbd:Cal P w K mg base 8 "_law_begun" ["_law_pages","_law_columns","_law_some"] (Y9 P w ob))(ZAd:Cal P w K mg base 26 "_law_deed" ["_law_pages","_law_table","_law_columns","_law_some","_law_cell_here","_law_key_here","_law_name"] (X3 P w ob))(Ja:Cal P w K mg base 1 "_law_mix" ["_law_cell_here","_law_k"] (Za K))(Zcd:Cal P w K mg base 11 "_law_asked" ["_law_pages","_law_table","_law_columns","_law_some","_law_key_here","_law_name"] (Xa P w ob))(ZBd:Cal P w K mg base 1 "_law_copy" ["_law_some"] (X2 K))(xV:MkV P w K mg base 1 "Pages" (ob 3) (JC P w ob))(F:Fun K "law" "law" ZWb f fd):Qp P w K mg base CX0 27 f fd ["_law_script"] (Q0b K):=by
 refine F.ok Xmc (λvs H Q E h=>?_) (λah A outer s H vs Q E hr h=>?_)
 .walk_at "n"
 obtain⟨a,ns,rfl,mW,lns,q⟩:=h
 exists 1,Xmc,QV,Zd,Q6,Zk,JN,Qj,Q5,Q6,Qq,ZFc,Qq,Qy,Qh,Qx,Qh,Qx,Qh,Qx,Qh,Qx,XGb,Qh,Qx,Qh,Qx,Qh,Qx,Qh,Qx,Qj,Q5,Qu,Qz,Qh,Qx,Qh,Qx,Qq,Zi,Qh,Qi,Qq,Zi,Qh,Qi,Qh,Qi
 refine QRd λR0 kJ=>?_
 walk_at "rd";refine⟨a,ns,0,rfl,mW,λc0=>⟨c0,8,rfl,by decide,λnl H1 nm s1 hnl g1 ln gw xW=>⟨a,ns,1,rfl,s1.seq mW,λc1=>⟨c1,rfl,λkl H2 ky s2 uV g2 lk gk=>?_⟩⟩⟩⟩
 have gd:Gd nm ky:=⟨ln,gw,lk,gk⟩;have mO:=s1.trans s2;intro x0 xX tJ lE qi;refine⟨x0,xX,rfl,Qa,λd1 d2 H3 dx fs f1 f2 s3 xY=>?_⟩
 have cL:Qf H2 H3:=by rw[YL]at s3;exact XMa tJ lE s3
 walk_at "rd";refine⟨rfl,λxZ x8 H4 s4 h4 ya=>⟨a,ns,2,rfl,(mO.trans (cL.trans s4)).seq mW,λc2=>⟨c2,rfl,_,SqL.of ((s2.trans (cL.trans s4)) _ _ g1),λlc tK=>?_⟩⟩⟩
 obtain⟨j0,ej⟩:=XVc (LX V.str nm) (k:=c2 % 9) #[0]
 rw[ej,<- map_take]at *;have gf:∀ z∈nm.take j0,z∈nm:=λz h=>IQ h
 have lF:(nm.take j0).Nodup:=xW.sublist (take_sublist _ _);have lC:(nm.take j0).length<=8:=by rw[Ob];lia
 generalize nm.take j0=C at gf lF lC tK ⊢;have s5:=Qb tK (.lst (LX V.str C));have g5:upd H4 lc (.lst (LX V.str C)) lc=_:=Qa;generalize upd H4 lc (.lst (LX V.str C))=H5 at s5 g5 ⊢;have mX:=s4.trans s5;have gc:=cL.trans mX;have qj:=xY.same mX;have q5:=(mO.trans gc).seq mW;have n5:=(s2.trans gc) _ _ g1;have k5:=gc _ _ g2;have zC:∀ z∈C,GW z:=λz hz=>gw z (gf z hz)
 clear s3 tJ lE qi fs f1 f2;refine kJ _ _ (ZZ λR1 iL=>?_)
 clear kJ;walk_at "rd";refine⟨⟨_,SqL.of g5⟩,ZU (LX V.str C) (λi σ' H'=>∃ tt x6,σ'=[Vo (.ref a),Vo (.ref nl),Vo (.ref kl),Vo (.ref x0),Vo (.ref tt),Vo (.ref lc),x6,Vp,Vp,Vp,Vp,Vp,Vp]/\PcI H5 C i tt H') ⟨xZ,_,rfl,x8,[],Qf.refl _,s5 _ _ h4,s5 _ _ ya,.nil,.nil⟩ (λi σ' H' _ h=>by obtain⟨_,_,_,_,_,h,_⟩:=h;exact SqL.of (h _ _ g5)) ?_ ?_⟩
 .rintro i x σ' H' hx ⟨tt,x6,rfl,tc,ac,s',h1,h2,up,pm⟩
  refine stN λN hN=>?_
  rw[Of]at hx
  cases hc:C[i]? with
  | none=>rw[hc]at hx;cases hx
  | some z =>
  rw[hc]at hx;cases hx;walk_at "rd";obtain⟨li,ei⟩:=List.getElem?_eq_some_iff.mp hc
  have bA:z∉ac:=λh=>by
   have h:=pm.mem_iff.mp h;obtain⟨j,hj,ej⟩:=mem_iff_getElem.mp h;rw[Ob]at hj;rw[L9]at ej;exact(pairwise_iff_getElem.mp lF) j i #[0] li #[0] (ej.trans ei.symm)
  have zc:∀ y∈ac,y∈C:=λy hy=>IQ (pm.mem_iff.mp hy)
  refine⟨tt,tc,.non,z,ac,rfl,h1,h2,bA,zC z (Og hc),λy hy=>by have:=(zC y (zc y hy)).2.1;lia,by rw[pm.length_eq,Ob];lia,λr bq H6 ax s6 g6 yb eE iU=>hN _ _ ⟨r,_,rfl,bq,ax,s'.trans s6,g6,yb,eE,?_⟩⟩
  refine(Dk (Db (λ{a b} h e=>by subst e;exact ltS.irr _ h) eE) (lF.sublist (take_sublist _ _))).mpr λy=>?_
  rw[iU,pm.mem_iff,Im,hc,IS];simp
 .rintro σ' H' ⟨tt,x6,rfl,tc,ac,s',h1,h2,up,pm⟩
  rw[UK,IT]at pm;refine iL _ _ (JNa λRc iS=>?_)
  clear iL;have rest:∀ (H6:Hp) (st:StL) (c:Int) (tt tc d:Vh) (rt:V) (ac:List Str) (R:List (V×Cl)) (B:Bk),Qs P w ob H6 x0 d1 d2 st c->Tb H6 [x0,d1,d2] st tt tc lc d rt ac C R B->Pu nm ky ac C R B->H6 nl=Vo (.lst (LX V.str nm))->H6 kl=Vo (.lst ky)->SqL K H6 a (LX V.int ns)->st.length<=200->Rc [Vo (.ref a),Vo (.ref nl),Vo (.ref kl),Vo (.ref x0),Vo (.ref tt),Vo (.ref lc),x6,Vo (.ref d),Vp,Vp,Vp,Vp,Vp] H6:=by
   intro H6 st c tt tc d rt ac R B sa tb pu hn hk hq lst;refine iS _ _ (JNa λR9 tL=>?_)
   clear iS;walk_at "rd";refine⟨by show 3<=Vs;decide,λhh dm=>?_⟩
   have s7:=Qb dm (.tup [.ref tt,.ref lc,.ref d]);have g7:upd H6 hh (.tup [.ref tt,.ref lc,.ref d]) hh=_:=Qa;generalize upd H6 hh (.tup [.ref tt,.ref lc,.ref d])=H7 at s7 g7 ⊢;refine⟨_,.inl (s7.seq hq),_,_,⟨rfl,rfl⟩,_,_,⟨rfl,rfl⟩,⟨by decide,by decide,by rw[UK];split <;> lia,by rw[UK];split <;> lia⟩,?_⟩
   refine ZH (λi σ' H'=>I27 P w K ob a nl kl x0 d1 d2 ns nm ky i σ' H') ⟨st,c,tt,tc,lc,d,rt,ac,C,R,B,hh,tt,tc,lc,d,rt,ac,C,R,B,x6,Vp,Vp,Vp,Vp,rfl,sa.same s7,tb.same s7,pu,g7,tb.same s7,pu,s7 _ _ hn,s7 _ _ hk,s7.seq hq,lst⟩ ?_ ?_
   .clear sa tb pu hn hk hq lst s7 g7 dm
    rintro i σ' H' hi ⟨st,c,tt,tc,lc,d,rt,ac,L,R,B,hh,jm,kW,lh,dh,kX,bH,Lh,Rh,Bh,x6,x9,qh,kY,kZ,rfl,sa,tb,pu,dm,mY,mZ,hn,hk,hq,lst⟩;refine stN λN hN=>?_
    have ma:3+i < ns.length/\i < 60:=by
     rw[UK]at hi
     split at hi <;> lia
    obtain⟨n,yc⟩:∃ n,ns[3+i]?=Vo n:=⟨_,IA ma.1⟩
    have bF:atI (LX V.int ns) (3+(i:Int))=Vo (.int n):=by
     have:=QQ (xs:=LX V.int ns) (j:=3+i) (v:=.int n) (by rw[Of,yc];rfl)
     rwa [show((3+i:Nat):Int)=3+(i:Int) by lia]at this
    obtain⟨k,aG⟩:=Jj (l:=ky) (k:=n / 8 % 24) #[0] #[0]
    refine ZZ λRa tO=>?_
    walk_at "rd";refine⟨_,hq,_,bF,n,rfl,by unfold Qaa;decide,_,SqL.of hk,k,aG,tO _ _ (ZZ λRb tP=>?_)⟩
    clear tO;walk_at "rd";refine⟨_,hq,_,bF,_,_,rfl,λm _ _=>?_⟩
    obtain⟨zv,tQ⟩:=Jj (l:=LX V.str nm) (k:=m % 8) #[0] (by rw[UK];lia)
    obtain⟨z,hz,ez⟩:=mem_map.mp (Jn tQ);subst ez;refine⟨m,rfl,_,SqL.of hn,_,tQ,tP _ _ (ZZ λRd kR=>?_)⟩
    clear tP;walk_at "rd";refine⟨_,hq,_,bF,x0,d1,d2,st,c,tt,tc,lc,d,rt,ac,L,R,B,nm,ky,k,z,n,rfl,sa,tb,pu,gd,Jn aG,hz,by lia,λr H1 ci c1 jn lG jo lH jl ca L1 R1 B1 kU m5 ge l1 g1 gg dL=>?_⟩
    have m7:=sa.kp kU;have ql:=mY.kp m7 ge;have qm:=m7.l _ _ hn;have iy:=m7.l _ _ hk;have dF:=sa.seq kU hq;have oH:=m7.t _ _ dm;refine⟨r,rfl,_,SqT.of g1,rfl,_,_,rfl,_,_,rfl,_,_,rfl,rfl,kR _ _ (ZZ λRe jh=>?_)⟩
    clear kR;walk_at "rd";refine⟨x0,d1,d2,ci,c1,jn,lG,jo,lH,jl,ca,L1,R1,B1,nm,ky,k,z,rfl,m5,gg,dL,gd,Jn aG,hz,λH2 s2=>⟨_,rfl,(if_neg (λz=>Df z)).mpr (jh _ _ (ZZ λRf ji=>?_))⟩⟩
    clear jh;walk_at "rd";refine⟨_,s2.seq dF,_,bF,_,_,rfl,λm2 _ _=>?_⟩
    obtain⟨k2,fw⟩:=Jj (l:=ky) (k:=m2 % 24) #[0] #[0]
    obtain⟨zv0,lI⟩:=Jj (l:=LX V.str nm) (k:=0) #[0] (by rw[UK];lia)
    obtain⟨z0,mK,yd⟩:=mem_map.mp (Jn lI);subst yd;refine⟨m2,rfl,_,SqL.of (s2 _ _ iy),k2,fw,_,SqL.of (s2 _ _ qm),_,lI,x0,d1,d2,ci,c1,jn,lG,jo,lH,jl,ca,L1,R1,B1,nm,ky,k2,z0,rfl,m5.same s2,gg.same s2,dL,gd,Jn fw,mK,λH3 s3=>⟨_,rfl,(if_neg (λz=>Df z)).mpr (ji _ _ ?_)⟩⟩
    clear ji;walk_at "rd";refine⟨a,ns,2,rfl,(s2.trans s3).seq dF,λc5=>⟨c5,rfl,by unfold Qaa;decide,?_⟩⟩
    have az:=s2.trans s3;have iV:=gg.same az;have lJ:=m5.same az;refine QR (λ_=>⟨lH,[x0,d1,d2],B1,rfl,iV.dc,λx hx=>(dL.clk gd hx).len,dL.ok.nd,by have:=dL.bl gd;lia,λr4 H4 B4 s4 gM nw e4=>⟨by show 3<=Vs;decide,λye qo=>?_⟩⟩) λ_=>hN _ _ ⟨ci,c1,jn,lG,jo,lH,jl,ca,L1,R1,B1,hh,jm,kW,lh,dh,kX,bH,Lh,Rh,Bh,_,_,_,kY,kZ,rfl,lJ,iV,dL,az _ _ oH,ql.same az,mZ,az _ _ qm,az _ _ iy,az.seq dF,by lia⟩
    have s5:=Qb qo (.tup [.ref jn,.ref jo,.ref r4]);have mX:=s4.trans s5;have cq:=az.trans mX;have lK:=gg.same cq;exact hN _ _ ⟨ci,c1,jn,lG,jo,lH,jl,ca,L1,R1,B1,ye,jn,lG,jo,r4,jl,ca,L1,R1,B4,_,_,_,kY,kZ,rfl,m5.same cq,lK,dL,Qa,⟨lK.tt,lK.tc,lK.cl,(nw.dc lJ gM).same s5,lK.tr⟩,⟨dL.up,dL.pm,dL.wd,dL.ok.sameD e4,dL.fit.sameD e4⟩,cq _ _ qm,cq _ _ iy,cq.seq dF,by lia⟩
   .clear sa tb pu hn hk hq lst s7 g7 dm
    rintro σ' H' ⟨st,c,tt,tc,lc,d,rt,ac,L,R,B,hh,jm,kW,lh,dh,kX,bH,Lh,Rh,Bh,x6,x9,qh,kY,kZ,rfl,sa,tb,pu,dm,mY,mZ,hn,hk,hq,lst⟩;refine tL _ _ ?_
    clear tL;walk_at "rd";refine⟨a,ns,1,rfl,hq,λc6=>⟨_,_,rfl,λm3 _ _=>?_⟩⟩
    obtain⟨lo,aT⟩:=Jj (l:=ky) (k:=m3 % 24) #[0] #[0]
    refine⟨m3,rfl,_,SqL.of hk,lo,aT,a,ns,1,rfl,hq,λc7=>⟨_,_,rfl,λm4 _ _=>?_⟩⟩
    obtain⟨hi,aZ⟩:=Jj (l:=ky) (k:=m4 % 24) #[0] #[0]
    refine⟨m4,rfl,_,SqL.of hk,hi,aZ,Yja pu gd tb.cl λD H1 s1 gD=>?_⟩
    have gg:=tb.same s1;refine⟨x0,d1,d2,st,c,tt,tc,D,d,rt,ac,L,R,B,nm,ky,lo,hi,rfl,sa.same s1,⟨gg.tt,gg.tc,gD,gg.dc,gg.tr⟩,pu,gd,Jn aT,Jn aZ,λH2 s2=>⟨_,rfl,(if_neg (λz=>Df z)).mpr ?_⟩⟩
    have au:=s1.trans s2;refine⟨_,SqT.of (au _ _ dm),_,at0 _ _,_,SqT.of (au _ _ dm),_,at1 _ _ _,Yja mZ gd (mY.same au).cl λD2 H3 s3 yf=>?_⟩
    have az:=au.trans s3;have iV:=mY.same az;exact⟨_,SqT.of (az _ _ dm),_,QQ (j:=2) rfl,x0,d1,d2,st,c,jm,kW,D2,dh,kX,bH,Lh,Rh,Bh,nm,ky,lo,hi,rfl,sa.same az,⟨iV.tt,iV.tc,yf,iV.dc,iV.tr⟩,mZ,gd,Jn aT,Jn aZ,λH4 _=>q H4⟩
  clear iS;walk_at "rd";intro d hd;have s6:=Qb hd (.dK []);have g6:upd H' d (.dK []) d=_:=Qa;generalize upd H' d (.dK [])=H6 at s6 g6 ⊢;have fk:=s'.trans s6;have fj:=qj.same fk;have bok:BOk C ky []:=⟨LH,(λx h=>nomatch h),λx h=>nomatch h⟩
  refine⟨a,ns,2,rfl,fk.seq q5,λc3=>⟨c3,rfl,by unfold Qaa;decide,QR (λ_=>⟨a,ns,1,rfl,fk.seq q5,λc4=>⟨_,_,rfl,λm _ _=>⟨m,lc,kl,C,ky,rfl,fk _ _ g5,lF,lC,fk _ _ k5,lk,λv hv=>(gk v hv).key,λd7 H7 B s7 tS nw mS yg=>?_⟩⟩⟩) λ_=>?_⟩⟩
  .have jp:=fk.trans s7
   have qq:=qj.same jp;refine⟨x0,d1,d2,[],0,lc,d7,C,ky,B,rfl,qq,jp _ _ g5,lF,lC,λz hz=>by have:=(zC z hz).2.1;lia,nw.dc fj tS,mS,yg,λv hv=>(gk v hv).key,lk,rfl,λr bq bP H8 yh c8 R lO tT p9 l8 g8 yi yj yk t8 qr=>?_⟩
   have lP:=qq.kp tT;exact rest H8 yh c8 r bq d7 bP lO R B p9 ⟨g8,yi,lP.l _ _ (jp _ _ g5),(nw.dc fj tS).x lP.x lP.t,t8⟩ ⟨yj,yk,gf,mS,qr⟩ (lP.l _ _ (jp _ _ n5)) (lP.l _ _ (jp _ _ k5)) (qq.seq tT (jp.seq q5)) l8
  .exact rest H6 [] 0 tt tc d .non ac [] [] fj ⟨s6 _ _ h1,s6 _ _ h2,fk _ _ g5,⟨g6,(λx h=>nomatch h),λz hz=>by rw[mem_singleton.mp hz];exact(qj.same s').al hd⟩,.inl ⟨rfl,rfl⟩⟩ ⟨up,pm,gf,bok,Fit.nil⟩ (fk _ _ n5) (fk _ _ k5) (fk.seq q5) (Us _)
theorem Ypd{K:VC}{ns:List Int}(hl:ns.length<=63)(_:∀ i∈ns,Ie i<=2 ^ 20)(hS:SqL K H a (ns.map V.int)):Q0b K [.ref a] H (λv _=>v=.bl true) λ_ _ _=>False :=
 ⟨a,ns,rfl,hS,hl,λ_=>rfl⟩
theorem Y2d{α:Type}{C:List α->Prop}(h:∀ a,C [a]):∀ us:List α,us.length=1->C us:=λus hl=>by
 match us,hl with
 | [_],_=>exact h _
theorem ZCd{α:Type}{C:List α->Prop}(h:∀ a b,C [a,b]):∀ us:List α,us.length=2->C us:=λus hl=>by
 match us,hl with
 | [_,_],_=>exact h _ _
theorem ZDd{α:Type}{C:List α->Prop}(h:∀ a b c,C [a,b,c]):∀ us:List α,us.length=3->C us:=λus hl=>by
 match us,hl with
 | [_,_,_],_=>exact h _ _ _
theorem ZEd{α:Type}{C:List α->Prop}(h:∀ a b c d,C [a,b,c,d]):∀ us:List α,us.length=4->C us:=λus hl=>by
 match us,hl with
 | [_,_,_,_],_=>exact h _ _ _ _
theorem Y3d{α:Type}{C:List α->Prop}(h:∀ a b c d e,C [a,b,c,d,e]):∀ us:List α,us.length=5->C us:=λus hl=>by
 match us,hl with
 | [_,_,_,_,_],_=>exact h _ _ _ _ _
theorem Y4d{α:Type}{C:List α->Prop}(h:∀ a b c d e f,C [a,b,c,d,e,f]):∀ us:List α,us.length=6->C us:=λus hl=>by
 match us,hl with
 | [_,_,_,_,_,_],_=>exact h _ _ _ _ _ _
theorem Y5d{α:Type}{C:List α->Prop}(h:∀ a b c d e f g,C [a,b,c,d,e,f,g]):∀ us:List α,us.length=7->C us:=λus hl=>by
 match us,hl with
 | [_,_,_,_,_,_,_],_=>exact h _ _ _ _ _ _ _
theorem Y6d{α:Type}{C:List α->Prop}(h:C []):∀ us:List α,us.length=0->C us:=λus hl=>by
 match us,hl with
 | [],_=>exact h
theorem cq0{P:Vg}{w:Vb}{K:VC}{mg:Str->Option Va}{base h:Vq}(X:K.In h)(G:h.Ns VD mg){k:Nat}{f:Vh}{fd:UU}{ps:List Str}{sp:Sp}{x:Str}(F:Qp P w K mg base CX0 k f fd ps sp)(b:Zz K fd ps [])(kk:UJ K (.ref f)=true)(a:Dl K VD x=Vo (Vo (.ref f))):Cal P w K mg base k x ps sp:=⟨_,_,F,b,kk,Dm X G a⟩
theorem mq1{P:Vg}{w:Vb}{K:VC}{mg:Str->Option Va}{base:Vq}{k:Nat}{C f:Vh}{fd:UU}{ps:List Str}{sp:Sp}{m:Str}(F:Qp P w K mg base (CX1 P w) k f fd ps sp)(b:Zz K fd ps [])(a:Uz K (.ref C) m=Vo (Vo (.ref f)))(j:UA K (.ref f)=true)(kk:UJ K (.ref f)=true):MeV P w K mg base k C m sp:=⟨_,_,_,⟨a,j,kk⟩,F,b⟩
theorem J7c{α:Type}{C:List α->Prop}{gs:List α}{m n:Nat}(h:∀ us:List α,us.length=m->C us)(e:m+gs.length=n):∀ us:List α,(us++gs).length=n->C us:=λus hl=>h us (by rw[Oh]at hl;lia)
def Dfs(K:VC):List (Str×VV)->Prop
 | []=>True
 | (x,s)::L=>(∃ f d,Dl K VD x=Vo (Vo (.ref f))/\Fun K x x s f d)/\Dfs K L
theorem cz0{P:Vg}{w:Vb}{K:VC}{mg:Str->Option Va}{base h:Vq}(X:K.In h)(G:h.Ns VD mg){x:Str}{s:VV}{L:List (Str×VV)}{k:Nat}{ps:List Str}{sp:Sp}(D:Dfs K ((x,s)::L))(o:∀ f d,Fun K x x s f d->Qp P w K mg base CX0 k f d ps sp)(b:∀ f d,Fun K x x s f d->Zz K d ps []):Cal P w K mg base k x ps sp:=by
 obtain⟨⟨f,d,a,F⟩,_⟩:=D;exact⟨f,d,o f d F,b f d F,F.kp,Dm X G a⟩
local macro_rules | `(tactic| walk_at "as") => `(tactic| with_unfolding_all first | exact Y6d rfl | exact Y2d λ_ => rfl | exact ZCd λ_ _ => rfl | exact ZDd λ_ _ _ => rfl | exact ZEd λ_ _ _ _ => rfl | exact Y3d λ_ _ _ _ _ => rfl | exact Y4d λ_ _ _ _ _ _ => rfl | exact Y5d λ_ _ _ _ _ _ _ => rfl)
local macro_rules | `(tactic| exists 0, $x,*) => do let i (s : String) := LZ s.toName; let D := i "D"; let h <- x.getElems.mapM λx => do { let c (y : Lean.Ident) := `(tactic| have := $y $D (λ_ _ _ => by apply $x <;> assumption) (λ_ _ F => F.binds λ_ _ _ _ _ _ => by walk_at "as")); `(tactic| ($(<- c (i "c0")):tactic; have $D:ident := ($D).2)) }; `(tactic| ($[$h:tactic];*)) -- walk_at
seal La in
theorem Yqd{l:W.OpenLaw}{K:VC}{h:Vq}{fa:Vh}(X:K.In h)(G:h.Ns VD mg)(pE:mg "law"=Vo (.ref fa))
 {f7 f8 f9 m8 qt qu qv qw qx qy qz qA qB tU m9 tV tW tX tY tZ uc:Vh} {d7 d8 d9 ym yn d12 yo yp yq yr yt yu yv yw yx yy yz yA yB yC yD:UU}
 (ta:UO K (.builtin "object.__class__") "__get__"=Vo (Vo (.builtin "getset_descriptor.__get__"))) (tb:W.takesIn K (.builtin "object.__class__")=Vo true)
 {O0:Vh} (oa0:Dl K VD "Page"=Vo (Vo (.ref O0))) (of0:W.Yv K O0 ["level","rows","heads","entries","told_by_number","number_by_told","count"]=true)
 {O1:Vh} (oa1:Dl K VD "Leaf"=Vo (Vo (.ref O1))) (of1:W.Yv K O1 ["level","rows","heads","entries","told_by_number","number_by_told","count"]=true)
 (om1:UE K O1=true) (ok1:UJ K (.ref O1)=true)
 {O2:Vh} (oa2:Dl K VD "Twig"=Vo (Vo (.ref O2))) (of2:W.Yv K O2 ["level","rows","heads","entries","told_by_number","number_by_told","count"]=true)
 (om2:UE K O2=true) (ok2:UJ K (.ref O2)=true)
 {O3:Vh} (oa3:Dl K VD "Pages"=Vo (Vo (.ref O3))) (of3:W.Yv K O3 ["level","rows","heads","entries","told_by_number","number_by_told","count"]=true)
 (om3:UE K O3=true) (ok3:UJ K (.ref O3)=true)
 (oo:W.YSc K [O0,O1,O2,O3] YXd=true)
 (a7_0:Uz K (.ref O0) "__init__"=Vo (Vo (.ref f7)))
 (j7:UA K (.ref f7)=true)
 (F7:Fun K "__init__" "Page.__init__" Qua f7 d7)
 (e7:W.clI K O0 f7=true)
 (a8_0:Uz K (.ref O0) "told"=Vo (Vo (.ref f8)))
 (a8_1:Uz K (.ref O1) "told"=Vo (Vo (.ref f8)))
 (a8_2:Uz K (.ref O2) "told"=Vo (Vo (.ref f8)))
 (j8:UA K (.ref f8)=true)
 (F8:Fun K "told" "Page.told" Qva f8 d8)
 (a9_0:Uz K (.ref O0) "first"=Vo (Vo (.ref f9)))
 (a9_1:Uz K (.ref O1) "first"=Vo (Vo (.ref f9)))
 (a9_2:Uz K (.ref O2) "first"=Vo (Vo (.ref f9)))
 (j9:UA K (.ref f9)=true)
 (F9:Fun K "first" "Page.first" Xs f9 d9)
 (a10_0:Uz K (.ref O0) "under"=Vo (Vo (.ref m8)))
 (a10_1:Uz K (.ref O1) "under"=Vo (Vo (.ref m8)))
 (j10:UA K (.ref m8)=true)
 (F10:Fun K "under" "Page.under" Xt m8 ym)
 (a11_1:Uz K (.ref O1) "spread"=Vo (Vo (.ref qt)))
 (j11:UA K (.ref qt)=true)
 (F11:Fun K "spread" "Leaf.spread" Y2 qt yn)
 (a12_2:Uz K (.ref O2) "under"=Vo (Vo (.ref qu)))
 (j12:UA K (.ref qu)=true)
 (F12:Fun K "under" "Twig.under" Xu qu d12)
 (a13_3:Uz K (.ref O3) "__init__"=Vo (Vo (.ref qv)))
 (j13:UA K (.ref qv)=true)
 (F13:Fun K "__init__" "Pages.__init__" Xv qv yo)
 (a14_3:Uz K (.ref O3) "told_at"=Vo (Vo (.ref qw)))
 (j14:UA K (.ref qw)=true)
 (F14:Fun K "told_at" "Pages.told_at" J0 qw yp)
 (a34_1:Uz K (.ref O1) "__init__"=Vo (Vo (.ref qx)))
 (j34:UA K (.ref qx)=true)
 (F34:Fun K "__init__" "Leaf.__init__" QFa qx yq)
 (a35_2:Uz K (.ref O2) "__init__"=Vo (Vo (.ref qy)))
 (j35:UA K (.ref qy)=true)
 (F35:Fun K "__init__" "Twig.__init__" QGa qy yr)
 (a36_3:Uz K (.ref O3) "kept"=Vo (Vo (.ref qz)))
 (j36:UA K (.ref qz)=true)
 (F36:Fun K "kept" "Pages.kept" Xz qz yt)
 (a37_3:Uz K (.ref O3) "card"=Vo (Vo (.ref qA)))
 (j37:UA K (.ref qA)=true)
 (F37:Fun K "card" "Pages.card" XA qA yu)
 (a59_3:Uz K (.ref O3) "page"=Vo (Vo (.ref qB)))
 (j59:UA K (.ref qB)=true)
 (F59:Fun K "page" "Pages.page" XE qB yv)
 (a72:Dl K VD "_law_same"=Vo (Vo (.ref tU)))
 (F72:Fun K "_law_same" "_law_same" QLa tU yw)
 (a76_0:Uz K (.ref O0) "spread"=Vo (Vo (.ref m9)))
 (a76_2:Uz K (.ref O2) "spread"=Vo (Vo (.ref m9)))
 (j76:UA K (.ref m9)=true)
 (F76:Fun K "spread" "Page.spread" Y5 m9 yx)
 (a77:Dl K VD "looked_at"=Vo (Vo (.ref tV)))
 (F77:Fun K "looked_at" "looked_at" QOa tV yy)
 (a79:Dl K VD "heads_with"=Vo (Vo (.ref tW)))
 (F79:Fun K "heads_with" "heads_with" XL tW yz)
 (a80:Dl K VD "joined"=Vo (Vo (.ref tX)))
 (F80:Fun K "joined" "joined" QEb tX yA)
 (a86:Dl K VD "rows_in"=Vo (Vo (.ref tY)))
 (F86:Qgc K "rows_in" "rows_in" YMa [.none,.none] tY yB)
 (a89:Dl K VD "heads_without"=Vo (Vo (.ref tZ)))
 (F89:Fun K "heads_without" "heads_without" J2 tZ yC)
 (a93:Dl K VD "law"=Vo (Vo (.ref uc)))
 (F93:Fun K "law" "law" ZWb uc yD)
 (D:Dfs K (("is_whole",ZVa)::("is_sign",YAa)::("is_word",YBa)::("rank_of",YCa)::("cells_at",ZWa)::("mixed_first",Y1)::("rows_with",Qxa)::("no_table",ZXa)::("has_column",Xw)::("row_told",ZYa)::("_law_cell",Qya)::("_law_mix",ZZa)::("_law_sign",Qza)::("_law_great",Xx)::("_law_before",Y3)::("_law_rising",Zv)::("_law_near",QBa)::("_law_filled",Y4)::("_law_spelled",Yz)::("_law_copy",QDa)::("_law_without",YA)::("is_number",QEa)::("is_text",YDa)::("before",Qvb)::("mixed",JEb)::("_law_text",QHa)::("_law_tall",QIa)::("_law_names",XB)::("_law_between",YB)::("is_key",Qwb)::("is_plain",Z0a)::("place_of",Z1a)::("is_behind_high",Jw)::("level_of",Z2a)::("_law_key",Z3a)::("_law_plain",XC)::("in_order",Z4a)::("last_up_to",XD)::("is_within",QJa)::("is_looked_at",YC)::("page_of",YEa)::("cut",Xic)::("ask_key",YFa)::("ask_cell",Z5a)::("_law_pool",QKa)::("_law_row",Z6a)::("heads_of",Z7a)::("put_column",XF)::("cells_of",Z8a)::("_law_with_clashes",ZQ)::("seek",Qjc)::("crowned",YGa)::("lowered",YHa)::("cells_with",XG)::("built",JFb)::("row_at",QBb)::("cell_at",YIa)::("_law_begun",XH)::("_law_dict",QMa)::("_law_reads",XI)::("_law_asked",XJ)::("rows_of",YJa)::("stretch",YKa)::("put",Xkc)::("drop_column",Y6)::("put_row",YLa)::("put_cell",Z9a)::("_law_read_twice",Ji)::("_law_all_read",J1)::("take",Qkc)::("take_row",Jaa)::("_law_deed",QQa)::[]))
 (z1:Dl K VD "all"=Vo Vp)
 (z2:Dl K VD "bool"=Vo Vp)
 (z3:Dl K VD "dict"=Vo Vp)
 (z4:Dl K VD "int"=Vo Vp)
 (z5:Dl K VD "isinstance"=Vo Vp)
 (z6:Dl K VD "len"=Vo Vp)
 (z7:Dl K VD "list"=Vo Vp)
 (z8:Dl K VD "max"=Vo Vp)
 (z9:Dl K VD "min"=Vo Vp)
 (z10:Dl K VD "ord"=Vo Vp)
 (z11:Dl K VD "range"=Vo Vp)
 (z12:Dl K VD "sorted"=Vo Vp)
 (z13:Dl K VD "str"=Vo Vp)
 (z14:Dl K VD "tuple"=Vo Vp)
 (z15:Dl K VD "zip"=Vo Vp)
 {jU:Tok} (g1:Dl K VD "MOST_SIGNS"=Vo (Vo (.int (40) jU)))
 {qO:Tok} (g2:Dl K VD "MOST_LETTERS"=Vo (Vo (.int (12) qO)))
 {yE:Tok} (g3:Dl K VD "PERCENT"=Vo (Vo (.int (37) yE)))
 {nY:Tok} (g4:Dl K VD "MODULUS"=Vo (Vo (.int (2147483647) nY)))
 {yF:Tok} (g5:Dl K VD "TOP_LEVEL"=Vo (Vo (.int (6) yF)))
 : ∃ fd:UU,(∀ (s:VG) (v:Va),BindsTo s fd ⟨[v],[]⟩ [("_law_script",v)])/\∀ base:Vq,K.In base->base.Ns VD mg->Qp l.prog w K mg base CX0 27 fa fd ["_law_script"] (Q0b K):=by
 have e:=pE.symm.trans (Dm X G a93);cases e;have k7:=F7.kp;have b7:=F7.binds (ps:=["self","level","entries"]) λ_ _ _ _ _ _=>by walk_at "as"
 have k8:=F8.kp;have b8:=F8.binds (ps:=["self"]) λ_ _ _ _ _ _=>by walk_at "as"
 have k9:=F9.kp;have b9:=F9.binds (ps:=["self"]) λ_ _ _ _ _ _=>by walk_at "as"
 have ud:=F10.kp;have ue:=F10.binds (ps:=["self"]) λ_ _ _ _ _ _=>by walk_at "as"
 have yG:=F11.kp;have yH:=F11.binds (ps:=["self","pages"]) λ_ _ _ _ _ _=>by walk_at "as"
 have yI:=F12.kp;have yJ:=F12.binds (ps:=["self"]) λ_ _ _ _ _ _=>by walk_at "as"
 have k13:=F13.kp;have yK:=F13.binds (ps:=["self"]) λ_ _ _ _ _ _=>by walk_at "as"
 have yL:=F14.kp;have yM:=F14.binds (ps:=["self","number"]) λ_ _ _ _ _ _=>by walk_at "as"
 have k34:=F34.kp;have yN:=F34.binds (ps:=["self","rows"]) λ_ _ _ _ _ _=>by walk_at "as"
 have k35:=F35.kp;have yO:=F35.binds (ps:=["self","level","heads"]) λ_ _ _ _ _ _=>by walk_at "as"
 have yP:=F36.kp;have yQ:=F36.binds (ps:=["self","page"]) λ_ _ _ _ _ _=>by walk_at "as"
 have yR:=F37.kp;have yS:=F37.binds (ps:=["self","number"]) λ_ _ _ _ _ _=>by walk_at "as"
 have yT:=F59.kp;have yU:=F59.binds (ps:=["self","number"]) λ_ _ _ _ _ _=>by walk_at "as"
 have uf:=F72.kp;have ug:=F72.binds (ps:=["_law_found","_law_due"]) λ_ _ _ _ _ _=>by walk_at "as"
 have uk:=F76.kp;have ul:=F76.binds (ps:=["self","pages"]) λ_ _ _ _ _ _=>by walk_at "as"
 have um:=F77.kp;have uo:=F77.binds (ps:=["pages","number","low","high"]) λ_ _ _ _ _ _=>by walk_at "as"
 have uq:=F79.kp;have ur:=F79.binds (ps:=["pages","number","row"]) λ_ _ _ _ _ _=>by walk_at "as"
 have ut:=F80.kp;have uu:=F80.binds (ps:=["pages","left","right"]) λ_ _ _ _ _ _=>by walk_at "as"
 have uv:=F89.kp;have uw:=F89.binds (ps:=["pages","number","key"]) λ_ _ _ _ _ _=>by walk_at "as"
 have Z:Zs mg:=⟨Do X G z1,Do X G z2,Do X G z3,Do X G z4,Do X G z5,Do X G z6,Do X G z7,Do X G z8,Do X G z9,Do X G z10,Do X G z11,Do X G z12,Do X G z13,Do X G z14,Do X G z15,⟨_,Dm X G g1⟩,⟨_,Dm X G g2⟩,⟨_,Dm X G g3⟩,⟨_,Dm X G g4⟩,⟨_,Dm X G g5⟩⟩;have T:Tx K mg   (λi=>[O0,O1,O2,O3].getD i 0):=⟨Z,Dm X G oa0,
  Dm X G oa1,
  Dm X G oa2,
  Dm X G oa3,
  λi hi=>match i,hi with | 0,_=>ObC.of of0 ta tb | 1,_=>ObC.of of1 ta tb | 2,_=>ObC.of of2 ta tb | 3,_=>ObC.of of3 ta tb | m+4,h=>absurd h #[0],
  W.JRd oo⟩
 have FL:=F93;obtain⟨_,_,kV,dc,pm,an,ah,ct,_,rfl,_,_⟩:=FL.ex;refine⟨Oi "law" "law" (Yg ZWb) (Jg ZWb) (Qd ZWb) .none kV dc pm an ah ct,λs v=>.of_eq (by with_unfolding_all rfl),λbase _ _=>?_⟩
 have e0:=@cq0 l.prog w K mg base h X G;have c0:=@cz0 l.prog w K mg base h X G;have m1:=@mq1 l.prog w K mg base
 exists 0,Xhb,Qwc,Qyc,Qoc,Xdb,QJb
 have dY:BaI l.prog w K mg base 1 "Page" (Jk K (λi=>[O0,O1,O2,O3].getD i 0)):=⟨O0,_,_,_,Dm X G oa0,ClI.of e7,k7,(JJb T  F7),b7⟩
 have vh:=m1 (XM T  F8) b8 a8_0 j8 k8;have qW:=m1 (XM T  F8) b8 a8_1 j8 k8;have qX:=m1 (XM T  F8) b8 a8_2 j8 k8;have vo:=m1 (Y7 T  F9) b9 a9_0 j9 k9;have rn:=m1 (Y7 T  F9) b9 a9_1 j9 k9;have rB:=m1 (Y7 T  F9) b9 a9_2 j9 k9;have rH:=m1 (ZBa T  F10) ue a10_0 j10 ud;have XR:=m1 (ZBa T  F10) ue a10_1 j10 ud;have JG:=m1 (QLb T  F11) yH a11_1 j11 yG;have Yk:=m1 (Zeb T  F12) yJ a12_2 j12 yI;have xV:MkV l.prog w K mg base 1 "Pages" O3 (JC l.prog w (λi=>[O0,O1,O2,O3].getD i 0)):=⟨_,_,_,⟨om3,a13_3,j13,ok3⟩,(Zab T  F13),yK,Dm X G oa3⟩
 have Z6:=m1 (YQa T  F14) yM a14_3 j14 yL
 exists 0,JPb,Xqb,Zlb,Xtb,JXb,Xkb,JYb,Zib,QWb,QSb,J2b,QVb,XGa,Ybb,XIa,JWb,Qxc,Jmc,Xqc
 have vf:MkV l.prog w K mg base 2 "Leaf" O1 (Yh K (λi=>[O0,O1,O2,O3].getD i 0)):=⟨_,_,_,⟨om1,a34_1,j34,ok1⟩,(by apply JKb <;> assumption),yN,Dm X G oa1⟩
 have ve:MkV l.prog w K mg base 2 "Twig" O2 (Yi K (λi=>[O0,O1,O2,O3].getD i 0)):=⟨_,_,_,⟨om2,a35_2,j35,ok2⟩,(by apply JLb <;> assumption),yO,Dm X G oa2⟩
 have rC:=m1 (by apply Zcb <;> assumption) yQ a36_3 j36 yP
 have Yl:=m1 (by apply Zdb <;> assumption) yS a37_3 j37 yR
 exists 0,JZb,J0b,Zkb,XHa,Jtc,Xjb,Xcb,Yga,Y6b,Xmb,Zjb,Xgb,Zfb,JUb,XFa,Qnc,J8d,QAc,Xrb,J3b,XAb
 have Qr:=m1 (by apply Zbb <;> assumption) yU a59_3 j59 yT
 exists 0,Xab,Zmb,Xsb,Q4a,Q4d,Qqc,Qtc,Znb,Xtc,Jwc,QFc,Zsb
 have ZFd:∀ n,Cal l.prog w K mg base (1+n) "_law_same" ["_law_found","_law_due"] (ZN K n):=λn=>by
  induction n with
  | zero=>exact e0 Yr ug uf a72
  | succ n ih=>exact e0 (by apply J7b <;> assumption) ug uf a72
 exists 0,J8b,Zob,Ztb
 have rO:∀ n,MeV l.prog w K mg base (5+n) O2 "spread" (Jm l.prog w (λi=>[O0,O1,O2,O3].getD i 0) n):=λn=>by
  induction n with
  | zero=>exact⟨_,_,_,⟨a76_2,j76,uk⟩,Yr,ul⟩
  | succ n ih=>exact⟨_,_,_,⟨a76_2,j76,uk⟩,(by apply QMb <;> assumption),ul⟩
 have ZGd:∀ n,Cal l.prog w K mg base (6+n) "looked_at" ["pages","number","low","high"] (Ym l.prog w (λi=>[O0,O1,O2,O3].getD i 0) n):=λn=>by
  induction n with
  | zero=>exact e0 Yr uo um a77
  | succ n ih=>exact e0 (by apply JVb <;> assumption) uo um a77
 exists 0,Qrc
 have Zed:∀ n,Cal l.prog w K mg base (6+n) "heads_with" ["pages","number","row"] (JI l.prog w (λi=>[O0,O1,O2,O3].getD i 0) n):=λn=>by
  induction n with
  | zero=>exact e0 Yr ur uq a79
  | succ n ih=>exact e0 (by apply Zgb <;> assumption) ur uq a79
 have Y7d:∀ n,Cal l.prog w K mg base (6+n) "joined" ["pages","left","right"] (Zaa l.prog w (λi=>[O0,O1,O2,O3].getD i 0) n):=λn=>by
  induction n with
  | zero=>exact e0 Yr uu ut a80
  | succ n ih=>exact e0 (by apply Jsc <;> assumption) uu ut a80
 exists 0,Qvc,Ycd,QRb,QDc,Xvb
 have C0_rows_in:Cal l.prog w K mg base 16 "rows_in" ["pages","table","low","high"] (Q0 l.prog w (λi=>[O0,O1,O2,O3].getD i 0)):=⟨_,_,(by apply Jia <;> assumption),F86.binds (gs:=[]) λ_ _ _ _ _ _ _=>J7c (ZEd λ_ _ _ _=>by with_unfolding_all exact⟨_,rfl,rfl⟩) rfl,F86.kp,Dm X G a86⟩
 have C1_rows_in:Qhc l.prog w K mg base 16 "rows_in" ["pages","table","low","high"] [.none] (Q0 l.prog w (λi=>[O0,O1,O2,O3].getD i 0)):=⟨_,_,(by apply Jia <;> assumption),F86.binds (gs:=[.none]) λ_ _ _ _ _ _ _=>J7c (ZDd λ_ _ _=>by with_unfolding_all exact⟨_,rfl,rfl⟩) rfl,F86.kp,Dm X G a86⟩
 have C2_rows_in:Qhc l.prog w K mg base 16 "rows_in" ["pages","table","low","high"] [.none,.none] (Q0 l.prog w (λi=>[O0,O1,O2,O3].getD i 0)):=⟨_,_,(by apply Jia <;> assumption),F86.binds (gs:=[.none,.none]) λ_ _ _ _ _ _ _=>J7c (ZCd λ_ _=>by with_unfolding_all exact⟨_,rfl,rfl⟩) rfl,F86.kp,Dm X G a86⟩
 exists 0,Joa,YZa
 have Jzc:∀ n,Cal l.prog w K mg base (15+n) "heads_without" ["pages","number","key"] (ZK l.prog w (λi=>[O0,O1,O2,O3].getD i 0) n):=λn=>by
  induction n with
  | zero=>exact e0 Yr uw uv a89
  | succ n ih=>exact e0 (by apply YSa <;> assumption) uw uv a89
 exists 0,Q5d,Xub,Ydb
 apply Ynd <;> assumption
end My
namespace PySem.W.Fast
local macro_rules | `(command| universe $x*) => do
 let r <- x.mapM λx=>
  let i:=Lean.mkIdent (.mkSimple s!"tw{x.getId.toString.foldl (λa c=>let n:=c.toNat;a*62+if n>96 then n-71 else if n>64 then n-65 else n+4) 0}")
  `(command| def $i:ident:=0)
 return Lean.mkNullNode r
universe F8KxEKvmzux Ei6QVi1Wf3L VXsL14qnT5L QKE4Us6ZI5n EvYKguvQ9t6 MJXMOaWhuxy QpQB66GZNZc RPYRGRNgGI2 NEZ7OXHjuSB M9wIkBiSBs0 Sfa3XkN9kch RgH0zc9fPoR RL8j4tDgj8M U07VnVx8tU9 LDVhwG5nsMT ChKFlJSfA6a KF4De7FPL7y GwZG8ILaAij HkT9oqHTsJf KHvnseChsq6 OLadmipTEa4 Kf7PnzGXRwY GAVaq7wJSZy FnvXKc6Fee5 JIPexLMj6aY L8Cks4sChbA GSP0lCONguY C5DvkwCJxgf AnJXYuX0zPV Gyafw0oLTnB IdhUlYeFEzk PpHozbyMjSi JRwRPr06HYn PMeO0mHCumt JJGJLRR8yHJ Ps8NkRQgYEH EIeZVZcjWLQ RYkWaNUnz2X QLn2mcPoCD1 CFruFJdRxlt OhlcCbZ3U7S DPTh9S135Mo JMiRipp0tgp SgMJnJjdgL8 Mov0Xt0pLmD P39nUW1IBv0 DEnIVR2AVBP Brv8lCP3wGt NcQJlhoEi58 JU8HNlvQKah KmMZwO5KtRj CeQR5ovPRqq J7yoYKL1lGN B5Yw4KdSfjf JiF4KERwtIO NMwhAPzVx5u C8jUHl5GRjb EJOV4ORETNi VgzRowduboQ ANw2F6yraTw UOu5hXS5QyF IFxyp0tY8SR VCXy59X8eyb JaYUxbRTDXV FVUWHn4UhD8 BnSFpyHBS2Y S2JOSvYTfSr Jras3NQ6QTP TpGGWyO2RB2 UiaAtyZnpEj MjnQ3URrYcG MSOuWltcmac SGzM7WcjHGP Lm7IRMUsqMZ Pj3MKk6KEKk TJ8MIiz7hvy IIGLyvREy7i OA8GMLMS2Ie N0b4anNjq68 UefCNkAyXic H1HjLIvfFhW TTKTb5cHqPO EkzGUzdeczO F8pA09JtG8V S6x3RR1WRM7 PAJZeXlzd3q FJHQ0fwfNdf FG3k15s8Nlm Knc77wN03Xa UDxld8aRB4z IpJvcXUouzv KNRbjrE0jcd EtyQFjVDZro FsTKwX6skWR K8HYVHqwBUq Ujk7VndCvb2 BtPDI9IyWle MwRIjNyWrva OD1Q2JxBIc4 HhdhwxsSkg2 TFHlH6CRz8f Sawh0gelskb I1fw9gZAnL0 Eugw5KFkG5D Aay9dTEZDJ3 QuOOKTvcoQG SkBovomyMRJ AmPbSGcfatO QwzCvWtLdLT C5pE9CfJlTd LmMExBrZ5Qs QKhWzH7YD9f U0hDK7MLaoc PJXhqImB34E MaXvacyPF8t Votsw65Rhos LgN9FLWPj02 M0s1ykNt6fD EbNpbLnrrr2 Ai4YQGbzlUX UhwJnFHZSrZ EpvwJnRPsgR SekfHdpOpLm JDf9Ql1Agyn BEXsLVxOAMK KwcX5FL9EKC BlFPDqP3MDi Gj8mhNCoG4t NRyaO08ekx0 CMggzzbA7X3 Kpd3mOGVphA VZfAsJUWMj8 CnBymljKjDl LLdbZMivWqf H2w7YKLe3Mp VZlESUvZNQN JbS69nDQTeh FNbflzhCYHQ M4XbQ3tYEzI N9oK98QS3DP FhIhi9mQvAM JAAtRRicnF5 DzuLuJovAuF NcMdXckklyj Sesx1wrDTBO FIg9IEegdkD Big0t5bi5sb E9YXkYGvJJV EVqMYajwWbR BZh1PEHeWCy OmSgk3cJ5PV DuCRlU1gpqt VBVvBjevMyJ PHXJgKN7zfg UcL8jfoIeqb J9is71BTmR8 ERBL7BfgBYn Ewc1CFqGvDm QxEUN62DySa IclSadeKvjD GfpCpdgiYu2 MNF5GMdE6xj UXHLnz2BDvP JNptvwgR0k6 JEEsBrZ7ABf VDYfyAsKfhD S3hq2gr8rfl ACNVnHHsynj UwMwVHZLeu2 K7q7ixFY0M6 MNO6YsIEjKl ALMi0FBFqGE ApHT4u7Xp5i JuiqggeLLMG Me1Dl4DJ6Lg BkTthXct7L9 MJ7j8O6W5fi PoPgrcRU4uw F35QphPy9X5 UtcbYCfUWjh ENBs6sM7ZQ8 Ls6PMF4B5Hf RABzYyvDRBi IFWgftMmO5e VgSPKKy5hUo QlJqhdX8s4E UB0P4ygraSx FJCLvL4bnXj GTT5UJ0rTDH GcMVWxJIJYn Q8x4nrPGlan TPvkq8kpzh6 DLyuAtwb7h3 UOBH6Yh8Iu6 Bl3Oz2ZWTno EZiQw0N2Kuc Qf0mGG8Rlbl Bt1dfFAi3Wu EdGWYOUDYSc QgNm5nTkXfL Lzrh17XTy1m GgZhEaznkR5 DH51zm5OAGz LbEA0R3ZC8T Vh6QR4MzMXE RXFYFDbnJVk LmyqdyQffcn HIWmGhUCrjy JxVyyUExVyV GJoVX2LJHog RuJh0eNvVFY RDZkY9LWOEL FH9j5XFp7NH A6ZG6Dgot0l EkQ6yMVXJRI DdNDo6SvbYF UMeu66cO0kp U47VqHcEASt GtRcYEV9bLT LW1EOLNMPV9 TGgXzR7eFDJ AB7zDRhYK6V PEUk2FKTARc GI6bG5EV7KU MbN2DY2NkyE IfzJVC7YDRV RNzlwt2P6XD IEq77kzLRkO LU2islOZ97o OYDPNYTkiQu MLXtAAOwLaB SFTPB9X4nnF TdbtcCjXHqR G8Levx0zqht LF0Ev207xFR OioXK6xCaEO Rf5kIMy7zFa IQi7eUAYAKt KCyXDJ9lkW8 RrbewTvmRq8 Cn3X7D9Dpvr JHlOzuhwOmv NIfwJtDH7CF Ah45QRIIK6L SUSvcEPEIA1 DdBnSIiMB1R HTiZnZwcMQ1 DxCPG1mivQH AdqgTZ6AUXE M51m4ncAFjm RpDw5ZfwfpN CLl09Ygdi9C IAqAsr7XFmG PDpkrAt1X3Z D4kZdUnx600 PzilMFQvwdZ CNVex69sjek BCEoJ0KJpM0 JC9DuX5SYHo U3u73Lii0Tv NkjNrIzmWkV OAXS5wd7vMv I5Vq0fDpVlo IEVU5xGQiDb OI6Gk5tC8kG BR2ELsgfhOe EtKyI8z0jTN GN693AgPFU8 NuUbKH1d0OQ RyPwsxf9UQC UenpXUioZ2K DIJN2Tdp8Kn JGM0LB14KY7 NKtzidwbmx6 U4xhct5tH4h ALVjm5lkz8G JeniVzulK7Q Lt2pCuWrzgB CGoGnf9vwXR KcycxgzQCul VGRtlHWF7Wh EGaAGEY2nFD U6UKKYc91IS NXLu2RXRI15 AmG6ricVLkx LQPgUIEZIM7 BQwfDRmENC9 DeJ47fCRUGY LxnCzm5j5Yy OcbGB8wn4JO OOOByA8IZf3 M90oqkqm5JF DZDaM0e5dc7 QonZB9rogfY TkIoVNQkPTP B0NJYJlCmAO QSAmS1hW5nD QcBuTWaCCOh Jz0cURQnD7f KRgwiIr8AfW R4VksZL7SQ3 IOdtkI6cIRG K1hXwPCGoiE N9FCXXdB7ck UhiW5AIw2zJ S8fvdA9V0jn It34SFZZp7f UWdGPgdDHj2 IxWzoFmTKCw IITuRB3GffE TTa206s0ilG R7BEklIbiZQ Dk9e6kFoxCq QBnqBJpgejD U9uErBhP4zu OQkvumH8BGz Sc2GWisLWBI NlsY0xNeqUT RvzS3VZ7T6F MUjAv6Tb4Uv E7u2knylisE HuJn6BVrHBZ I1h89IVptTi L3vjAx86RXN Npte143BzcV FmnUgiez2kS MlVR4J9OjgH Fh3WOcDjG66 ManRi47Kd7K GVLO85pqcVS RlbQspBgMK4 QVZhOzMcSr2 H2TP4yvloiT TO6aLN5UcKh D7Z8yJDOO6g APnLYxbqN07 FivKcs3CdxF E5q8zqFnG2G C70LIou0sHw JE4rKa6pKSQ Byx4NLpTMfk K0Uty39eCdQ G79sARQlc6k Ia9s6hddHms HKrMVFgdJ3d Q59wxT9eqpX FTjq79ZlGx7 ROzWdIWCWYJ IHemZrvzkot SYTol1wHkch Vew3GKlZRtn VxNM8KnJV75 G8rWX0AtPjc GY4Onk1XFkW BTR2woHDSs7 Fpxu5lZsXh0 ESq1soE432N O5jLSnOUUjY M6QeRDnp0hw JEERRMM02rs R6O2fP5a2Rw PtW5zzGEMr3 DZOeNn5JLmN U0dNgT1PySx Vdq66kBd5So Mvhu3v3ViTp ALwPT1IFLw2 AlgQo9wkcj7 DzyLRkIXLYP Ntm7GdZXSYD K584C2H2PVt VRtsUOEfyBc KbXiicgoKYu PGLLXtjqKJ7 JlWYbaP5W2W SusdZoC2Hzj VRMSoydNx3e ShVKReZeGW3 T7rKo9NhLcr DKIWBA032iW BlxWyK17tFd CUAyXmvhKQH GiF8vKRpyAs LLWBNqF85c0 HgQ6G1EwyrD FhKnCKc1ta0 CRCVRapBS7d IxRnUDL0EKd Aox13GueLyH G4kUUQi1RlM IRoptPQgcmx Ge0vicCa099 H22LhUmUYI6 BSXVk0WL0uB Dq7D8U5eSRt Tr6vTsS2hwJ K9rEwU8AVzJ MNGNi4nm6bh IGjV5lc7mXy PnsouRNpPu3 NrCTrWsWNtf KsxDeLsJuDU LDyNFAabY5E BSRm1LImjxR LXmmshEmgIM PLYO4eYElTO K2mdVNXH3re IrbzikhUkU9 UHDXPbKPd0Q Gk6ttluFF6b RxZC0nTsu8C EEK31aYe6g2 EJzhCWLZY24 AX054vEvmaY LvHDyM2LdWU R7ZttgoLPOs CZvIXQPJMtb Ool6fADaWLD QOJKNMyYmPm IdZoun5xF0O SYEezxgc052 HAKBbzvIPuM HtSzICzpDbF DsmbOPyxpF7 GcuPfmG6Rpu P2NpxiG45dm IbFORDII5lE FBiuzf3bI7D H6Xd94lGKJa DxLbvMfj3v7 VUSiY0elsy7 MMTluIM6akw JelClNs7oeX Id0S6vyhZp6 DHz6gY85kam Eg0FJLW8C4J Hu0NSQ3jp1a VdMeirIejTh AXxxpN9tegi Aj2zPdimJdy Bb5cZ3GrUro NAWonbI7uWQ IItibfBSESA NOqq90oRDIB Ga7veVyXJFw EN0ii7Kzk2S PXQFN8Zb20M VefzryPBKjy KAldiLfVs5h VPEggDfrWzs Ja8oSsI05J0 SA1dQAFwEdg NSlEdi8Ejyc M39s1OYkDjr KlwyMKK2YxE Vs8IkLqBJww NomzEFEDXV2 HV1cF5g25rC Vjcg3anDjgd JP1O0atckYL QGydKpHsZF6 QIn9EAlsmZk Sgro3UKm8zj AARdAClKjl4 UxpPlHdeuQL OQLO8zao89p LX29TueBpuZ OgdhSA1E2rE PfGpevEJ52L M734Un4pHX0 Q0wAPGMDQZZ HOgW93IwD9e EdrEUikcVPi MHKaQGnl5ay JecpsOnBHmG JJk2aa2Nw5Z Reii9ckhik7 SFCOZsY6DcB GkoqYfrDWVJ PKnyC75VTJ5 I2CmP2N0okZ Q02ZE50Btsa PV4dOCzrQ2C Tb6bs6odMZi AQuF06kK43y SsofyrwFyd6 RypO6VR07ab RvP9M7aDE33 NtU03PdSYBW Q9imtWQIE6U ERWuqxDYFx3 J1Htni0ybfj BbxbigpnJqx VUkDkAqOh7B SaS6fUOadKg VrFGNuIzoaT NqzrElnbfom AnAsDg8eJs3 Um7aOFJ32TI SGUxFwW1ywa CCL4S2nTbfF CtWw6aQUqyK NTpopMaGmYw OhNuZEV5ZsT SlDEyf6Pqec ODKONMmhOhT MOWum3lqtVY BYrvHzXJq3g K1FiJ0uC2Fx MGNBz0ZzisH N6RnpEnSFKO EXtbnT7gVJA V5IopwbLRvc N8jD72JQ5qV S4Rf41il1Xc OCZXqPJ3jyz TlF3OMZXhOh K2aXMKZS5am QIll3quKJ12 CEFMZnRgCsg LoUiEJlGts2 ASPkGKmOrC6 TuTX4oUGaV5 OJuWWKM8yno QIWqYjwdBKC Sg8AiA9eWz6 Bhj33IGEdMp UArEVQoPI3U MZ5mPxBklMl FJh95NQ61RF Htd1w2S4f4T NMlMqQeHFJw Nv2gB8W5VO5 Cua6DTvWKKf U87MALDG8jG OOTXHEMB0uN MBe4uvANa7H ER6OoBuF978
end PySem.W.Fast
open PySem PySem.W PyProof.Rows
local macro_rules | `(tactic| walk_at "fn") => `(tactic| exact L2.Jrd (by k_is) (by k_is) (by k_is))
set_option maxRecDepth 100000 in
set_option maxHeartbeats 0 in
theorem PySem.Challenge.cw_twigtable_k27_rows_and_cells_holds : PySem.Challenge.rw_twigtable_k27_rows_and_cells.Holds := by
 w_on;o_law;k_head;(case hw=>w_witness2)
 k_fill
 refine L2.Ykc (l:=PySem.Challenge.rw_twigtable_k27_rows_and_cells) (n:=63) (k:=27) (x:="_law_script") (CX:=λ_=>L2.CX0) (sp:=My.Q0b) rfl #[1] rfl ⟨rfl,by decide,by decide⟩ (λw h Y=>W.kIn_of Y) ?F ?S ?C
 case F =>
  intro w mg fa h KX G jH;refine' My.Yqd KX G jH ?ta ?tb ?oa0 ?of0 ?oa1 ?of1 ?om1 ?ok1 ?oa2 ?of2 ?om2 ?ok2 ?oa3 ?of3 ?om3 ?ok3 ?oo ?a7_0 ?j7 ?F7 ?e7 ?a8_0 ?a8_1 ?a8_2 ?j8 ?F8 ?a9_0 ?a9_1 ?a9_2 ?j9 ?F9 ?a10_0 ?a10_1 ?j10 ?F10 ?a11_1 ?j11 ?F11 ?a12_2 ?j12 ?F12 ?a13_3 ?j13 ?F13 ?a14_3 ?j14 ?F14 ?a34_1 ?j34 ?F34 ?a35_2 ?j35 ?F35 ?a36_3 ?j36 ?F36 ?a37_3 ?j37 ?F37 ?a59_3 ?j59 ?F59 ?a72 ?F72 ?a76_0 ?a76_2 ?j76 ?F76 ?a77 ?F77 ?a79 ?F79 ?a80 ?F80 ?a86 ?F86 ?a89 ?F89 ?a93 ?F93 ?D ?z1 ?z2 ?z3 ?z4 ?z5 ?z6 ?z7 ?z8 ?z9 ?z10 ?z11 ?z12 ?z13 ?z14 ?z15 ?g1 ?g2 ?g3 ?g4 ?g5
  (case oa0|oa1|om1|ok1|oa2|om2|ok2|oa3|om3|ok3|a7_0|j7|a8_0|a8_1|a8_2|j8|a9_0|a9_1|a9_2|j9|a10_0|a10_1|j10|a11_1|j11|a12_2|j12|a13_3|j13|a14_3|j14|a34_1|j34|a35_2|j35|a36_3|j36|a37_3|j37|a59_3|j59|a72|a76_0|a76_2|j76|a77|a79|a80|a86|a89|a93|z1|z2|z3|z4|z5|z6|z7|z8|z9|z10|z11|z12|z13|z14|z15|g1|g2|g3|g4|g5=>k_is)
  (case ta|tb|of0|of1|of2|of3|oo|e7=>first|rfl|kernel_rfl|decide +kernel)
  (case F7|F8|F9|F10|F11|F12|F13|F14|F34|F35|F36|F37|F59|F72|F76|F77|F79|F80|F89|F93=>walk_at "fn")
  (case F86=>exact L2.QTd (by k_is) (by k_is) (by k_is) (by k_is))
  (case D=>(repeat refine⟨⟨_,_,by k_is,by walk_at "fn"⟩,?_⟩);trivial)
 case S=>exact λw H a ns hl hb hO hS=>My.Ypd hl hb hS
 case C=>exact λ_ _ _ _ _ z=>z
end
