import PyProof.Rows.All
import Wide.All
import OpenK.AllK
import Wide.FinOn
import PyProof.EqAt
import PyProof.EqKinds
import PyProof.NeKinds
import PyProof.TupleCall
import KE.KRevIter
import PyProof.ZipIter
import PyProof.Rows.SetFrom
import PyProof.StrWalks
import PyProof.DictStraight
import PyProof.StrLawsFrom
import PyProof.Rows.StrNews2
import KE.KMinBuiltin
import PyProof.Rows.CallKwBuiltin
import PyProof.Rows.SortShell
import KE.KSortTup
import KE.KBoundM
import KE.KLam
import KE.KDictLaws
import PyProof.DictWalks
import Lean
import PySem.Challenge.RW_letterlaw_k82_apart_by_forms
set_option compiler.extract_closed false
open Lean(mkIdent)
local macro_rules | `(end in $d)=>do let m<-`(noncomputable def x:=0);return d.raw.setArg 0 m.raw[0]
local macro_rules | `(!0)=>`(by decide +kernel)
local macro_rules | `(!-$i)=>`($(mkIdent `zk) $(mkIdent `w4) ($(mkIdent `pv) $i) $(mkIdent `zf))
local macro_rules | `(tactic| exists $t)=>`(tactic| refine $t (λvs H Q E h=>by repeat (first | (obtain⟨e,_⟩:=h;subst e;rfl) | obtain⟨_,h⟩:=h)) (λ$(mkIdent `cdv) $(mkIdent `A) $(mkIdent `outer) $(mkIdent `s) $(mkIdent `H) $(mkIdent `vs) $(mkIdent `Q) $(mkIdent `E) $(mkIdent `hr) $(mkIdent `h)=>?_))
local macro_rules | `(tactic| exists $t,0)=>`(tactic| refine $t (λvs H Q E h=>by repeat (first | (obtain⟨e,_⟩:=h;subst e;rfl) | obtain⟨_,h⟩:=h)) (λ$(mkIdent `cdv) $(mkIdent `A) $(mkIdent `outer) $(mkIdent `s) $(mkIdent `H) $(mkIdent `vs) $(mkIdent `Q) $(mkIdent `E) $(mkIdent `hr) $(mkIdent `hx) $(mkIdent `h)=>?_))
local macro_rules | `(tactic| rintro $p* : _)=>`(tactic| rintro $(mkIdent `Gz):ident $(mkIdent `hGz):ident $p*)
local macro_rules | `(tactic| right)=>`(tactic| subst $(mkIdent `hGz))
local macro_rules | `($s⁻¹)=>`(($s).heap.objs.size)
local macro_rules | `(⋯)=>`(by lia)
local macro_rules | `(∅)=>`(by decide)
local macro_rules | `(tactic| erw [$[$a:term],*] $[$l:location]?)=>`(tactic| simp only [$[$a:term],*] $[$l:location]?)
local macro_rules | `(())=>`(List Nat)
local macro_rules | `(#[$a,*])=>if a.getElems.size>1 then `(⟨$a,*⟩) else Lean.Macro.throwUnsupported
open List renaming toArray→u9
open PySem.Value renaming ref→u6
open PySem.Value renaming none→u5
open PySem.PassesOwn renaming never→r9
open PySem.Builtin.Str renaming strSliceIndices→r8
open PySem.Builtin.Range renaming rangeSize→p9
open List renaming getElem?_eq_some_iff→BB,mem_map→BC,mem_append→BD,mem_cons→BE,mem_singleton→BF,mem_filter→BJ,mem_range→BK,mem_reverse→BL,mem_iff_getElem?→BM,all_eq_true→BN,nodup_cons→BO,mem_flatMap→BP,length_pos_iff→BR,length_eq_zero_iff→BS,mem_filterMap→BW,any_eq_true→BY,find?_eq_none→BZ,nodup_iff_count→Ca,pairwise_append→Cb,pairwise_cons→Cc
open Option renaming map_eq_some_iff→BH,isSome_iff_exists→BQ,bind_eq_some_iff→BV
open Bool renaming eq_false_iff→BX
open Nat renaming lt_succ_iff_lt_or_eq→Cd
local macro_rules | `(tactic| symm)=>`(tactic| decide +kernel)
local macro_rules | `(tactic| nofun)=>`(tactic| exact⟨rfl,rfl,rfl,by decide +kernel,rfl,by decide +kernel,by decide +kernel⟩)
open PySem.Heap renaming get?_push_of_some→aa,lt_size→aq,get?_push_size→ay,get?_update_other→aC,size_push→bG,get?_update_self→ce,size_update→dM
open List renaming length_map→ac,mem_of_getElem?→ae,getD_eq_getElem?_getD→af,getElem?_eq_getElem→ah,length_append→aj,size_toArray→ak,mem_cons_of_mem→am,append_assoc→ao,getElem?_map→ar,map_append→au,map_cons→av,mem_cons_self→aA,length_take→aE,mem_append_right→aF,take_length→aJ,length_cons→aL,range→aN,map_nil→aO,replicate→aP,take_append_of_le_length→aR,length_drop→aS,append_nil→aT,drop_eq_getElem_cons→aV,set_cons_zero→aW,set_cons_succ→aX,lookup_cons→aY,take_append_drop→aZ,drop_of_length_le→ba,take_of_length_le→bc,toArray→be,idxOf_lt_length_of_mem→bf,getElem?_eq_none→bh,lookup→bi,sum_cons→bj,mem_append_left→bn,mem_of_mem_take→bo,nil_append→bq,getElem?_take_of_lt→br,cons_append→bv,length_replicate→bx,getElem?_reverse→bz,getElem?_append_right→bA,getElem?_append_left→bC,drop_append_of_le_length→bD,length_reverse→bE,take_zero→bN,length_nil→cj,mem_of_mem_drop→cr,length_range→cw,replicate_succ→cy,map_congr_left→cz,drop_left→cC,range_succ→cE,take_left→cH,getElem?_cons_zero→cK,countP_cons_of_pos→cL,filter_append→cP,length_singleton→cT,drop_drop→cU,length_filter_le→cX,replicate_succ'→de,flatMap_append→dh,of_mem_zip→dj,forIn_cons→dk,filter_nil→dm,contains_cons→dq,map_map→du,zip_cons_cons→dv,getElem?_cons_succ→dz,append_cancel_left→dA,countP_cons_of_neg→dB,flatten_cons→dC,range_succ_eq_map→dH,mem_cons→dL,drop_length→dN,find?_some→dX,eq_nil_of_length_eq_zero→d5,filterMap_cons→d6,getElem?_range→d9,replicate_zero→ee,take_succ_cons→ef,drop_zero→et,getElem_idxOf→eE,getElem?_drop→eF,ext_getElem?→eM,extract_eq_drop_take→eN,mem_of_find?_eq_some→eO,mem_nil_iff→eR,getElem_mem→eS,map_reverse→eX,not_mem_nil→eY,filter_cons→eZ,getElem?_replicate→e9,pairwise_singleton→fg,filter_cons_of_pos→fh,filter_cons_of_neg→fj,getElem?_set_self→fo,length→ft,forIn_nil→fG,mem_range→fL,take_take→fM,mem_of_mem_head?→fN,getElem?_set_ne→fQ,all_cons→fV,find?_eq_none→gg,getElem_range→gh
open PySem.W renaming findIn→ag,nsIn→aw,mg_of→aH,keepIn→aI,mg_none_of→aM,kitOne→aQ,isFn→aU,kia_one→bg,fnOf→bu,mroIn→bF,emptyDict→bO,plainGet→bS,callWith_K→bT,codeIn→bU,hasDictIn→bW,methodCall_KW→cb,kla_fn→cf,instObj→ci,plainOver→cu,makesIn→cD,specialIn→cF,looks_findIn→cG,subIn→df,takesIn→dP,plainGet_of→d8,lookIn→eg,methodObj→eK,kitx_list→eL,envX→eU,takerIn→fk,cellsFrom_some→fq,callWith_K0→fZ,kitx_tuple→gd,set_plain→gk,kitx_dict→gm,handedIn→gn,bind_fn→gq,findObj→gv,readsIn→gw,findCls→gx,kat_nil→gz,kas_ask→gA
open Nat renaming le_refl→al,lt_of_lt_of_le→ax,ne_of_lt→aB,zero_le→aG,le_trans→aK,ne_of_gt→bR,not_lt_zero→bX,min_eq_left→cp,le_add_right→cB,lt_irrefl→cM,lt_of_le_of_lt→cN,le_succ→cQ,lt_succ_of_lt→cS,lt_succ_self→da,le_of_not_lt→db,min_eq_right→dc,le_of_lt→dn,add_right_comm→dw,lt_trichotomy→dF,lt_or_ge→dU,zero_add→dW,add_le_add_right→dY,mul_le_mul_right→d4,succ_mul→eP,min_self→eQ,sub_self→e7,mul_le_mul→fF,pow_le_pow_right→fS,lt_trans→gf
open Int renaming toNat_natCast→az,emod_lt_of_pos→bH,natCast_nonneg→bI,eq_ofNat_of_zero_le→bJ,emod_nonneg→bQ,natCast_mul→dZ,le_refl→eC
open Bool renaming false_ne_true→aD,false_eq_true→bB,eq_false_or_eq_true→cq,and_eq_true→cA,eq_iff_iff→di,not_eq_true'→dD,or_true→dQ,and_false→eh,and_true→eJ,or_eq_true→fm,not_false→fH,beq_comm→fW,not_true→fX,true_and→fY
open PySem.F renaming plainAttrs_str→bp,plain_max_loop→bL,plain_min_loop→bM,plainAttrs_list→bV,slot_list_append→cI,type_list_append→cJ,slot_str_find→cY,type_str_find→cZ,entry_max_loop→dI,entry_min_loop→dJ,excBase_ValueError→eI,slot_str_count→fw,type_str_count→fz,slot_str_index→fA,type_str_index→fB
open PyProof.Rows renaming callWith_type1→bw,boot_all→dO,boot_sum→fJ,boot_any→fO,boot_min→fP
open PySem.Str renaming ofString→bK,empty→eD
open Decidable renaming byContradiction→bP
open PySem renaming mem_of_lookup→bY,strKind→dg,frameOf→eG,passOn→ge,call→gy
open Option renaming bind_some→bZ,join_some→eV,join_none→eW,getD_some→e8,getD_none→gp
open Array renaming length_toList→d7,getD→fR,toList_append→gc
open PySem renaming wpAny_bind→sN,wpAny_pure→sP,mainGlobals→sQ,starEach→sS,sizeLine→sU
open PySem.W renaming Frag→sV
open PySem renaming Addr→sX,Value→sY,Shared→sZ,FuncData→tj,wpAny→tm,Program→tu,Str→tw,World→tz,Around→tB,Expr→tD,Heap→tE,Stmt→tF,compareOp→tG,keywordEach→tH,wpAny_truthy_bool→tI,backTo→tK,wpAny_field→tL,strIterType→tM,wpAny_seqItems→tN,wpAny_Call_Name_kw→tO,sizeLine_eq→tP,wpAny_holding→tQ,Obj→tR,bootBuiltins→tS,backToKw→tT,Scope→tU,wpAny_tryCatch→tV,wpAny_loadPart_at→tW,codeAny_builtin→tX,wpAny_letGo→tY,IsPair→tZ,wpAny_passesOwn→Aa,wpAny_standAt→Ab,wpAny_noRaise→Ac,Pos→Ad,codeAny→Ae,wpAny_setField→Af,Arguments→Ag,wpAny_setField_rec→Ah,wpAny_updateSeq→Ai,wpAny_execs_nil→Aj,wpAny_mono→Ak,wpAny_call→Al,wpAny_execs_cons→Am,codeAny_mono→An,wpAny_isSubtype_exc→Ao,wpAny_pyIter_list→Ap,wpAny_newObj_type→Aq,plainObj_wpAny_Assign_Attribute→Ar,CmpOp→As,wpAny_attempt→Au,codeAny_call_builtin→Av,NameKind→Aw,Tok→Ay,wpAny_pyIter_tuple→AA,IsZip→AB,excClassObj→AC,wpAny_comprehension_free→AD,wpAny_getItem_str_slice→AE,wpAny_call_entry→AF,wpAny_rule→AG,wpAny_pyNext_range_end→AH,wpAny_pyIter_rangeiter→AI,Env→AK,wpAny_updateSeq_pair→AL,wpAny_pyIter_revIter→AM,wpAny_newFunctionEnv→AN,wpAny_loadPart→AO,recursionLimit→AQ,Result→AR,IsRangeIter→AS,BindsTo→AT,wpAny_onRaise→AU,wpAny_newList→AV,ExceptHandler→AX,wpAny_pyIter_range→AY,wpAny_pyIter_enum→AZ,wpAny_assign_Name→Ba,wpAny_Return_some→Bb,wpAny_Assign_Name→Bc,Model→Bd,GenState→Bf,wpAny_pyIter_zip→Bg,wpAny_lookBehind→Bh,wpAny_Try_except→Bj,isCodeTable→Bk,Sem→Bl,Keyword→Bm,wpAny_Name→Bn,TriplesOk→Bp,Paired→Bq
open PyProof.Rows renaming seqObj→tJ,envOfC→Ax,AllBare→Az,subscriptTail_builtinR→AJ,subscriptTail→AW,IntsAre→Be,Subscript_→Bo,Call_→Bs
open PySem.W renaming KasT→Br
open Option renaming some→Bu,none→Bv
open Bool renaming true→Bw,false→Bx
open PySem PySem.Spec PyProof.Rows
local macro_rules | `(tactic| change $t:term)=>`(tactic| refine $(mkIdent `zj) (λ$(mkIdent `σ) $(mkIdent `H')=>$t) ?_ ?_)
local macro_rules | `(tactic| intros $xs*)=>`(tactic| (intro $(mkIdent `By):ident $(mkIdent `s):ident $(mkIdent `σ):ident $(mkIdent `H):ident;intro $[$(xs.map λx=>(⟨x.raw⟩:Lean.TSyntax `term))]*))
def y9:=@if_neg
def y6:=@if_pos
def y4:=@absurd
def y3:=@decide_eq_false
def w9:=@decide_eq_true
def w6:=@of_decide_eq_true
set_option Elab.async false
set_option linter.all false
set_option maxRecDepth 100000
set_option maxHeartbeats 4000000
namespace L2
end in abbrev Key:=Sum Int tw
end in def zdx:Key->sY->Bool
 | .inl k,v=>Value.isInt k v
 | .inr x,v=>Value.isStrOf x v
end in def zgV(w:tz):Key->Int
 | .inl k=>hashInt k
 | .inr x=>hashStr w x
theorem yo:∀{k:Key} {v:sY},zdx k v=Bw->(∃i t,k=Sum.inl i/\v=Value.int i t)\/(∃x t,k=Sum.inr x/\v=Value.str x t)
 | .inl i,v,h=>by
  obtain⟨t,e⟩:=Value.isInt_shape (k:=i) (v:=v) h;exact .inl #[i,t,rfl,e]
 | .inr x,v,h=>by
  obtain⟨t,e⟩:=Value.isStrOf_shape (x:=x) (v:=v) h;exact .inr #[x,t,rfl,e]
def zed(a b:Int):decide ((Sum.inl a:Key)=Sum.inl b)=(a == b):=by
 by_cases e:a=b
 ·subst e;simp
 ·have h:¬ (Sum.inl a:Key)=Sum.inl b:=λq=>e (Sum.inl.inj q);rw[y3 h];exact (beq_eq_false_iff_ne.mpr e).symm
def zd6(a b:tw):decide ((Sum.inr a:Key)=Sum.inr b)=decide (a=b):=by
 by_cases e:a=b
 ·subst e;simp
 ·have h:¬ (Sum.inr a:Key)=Sum.inr b:=λq=>e (Sum.inr.inj q);rw[y3 h,y3 e]
def zdA(a:Int)(b:tw):decide ((Sum.inl a:Key)=Sum.inr b)=Bx:=y3 (λq=>nomatch q)
def zew(a:tw)(b:Int):decide ((Sum.inr a:Key)=Sum.inl b)=Bx:=y3 (λq=>nomatch q)
end in def Xc(prog:tu)(w:tz):PySem.KeyKind prog w Key where
 is:=zdx
 hash:=zgV w
 inj:=λv a b ha hb=>by
  rcases yo ha with ⟨i,t,rfl,rfl⟩ | ⟨x,t,rfl,rfl⟩
  ·rcases yo hb with ⟨j,u,rfl,e⟩ | ⟨y,u,rfl,e⟩
   ·injection e with e1 _;rw[e1]
   ·exact nomatch e
  ·rcases yo hb with ⟨j,u,rfl,e⟩ | ⟨y,u,rfl,e⟩
   ·exact nomatch e
   ·injection e with e1 _;rw[e1]
 byValue:=λk v h=>by
  rcases yo h with ⟨i,t,rfl,rfl⟩ | ⟨x,t,rfl,rfl⟩ <;> rfl
 pyHash:=λhv h=>by
  rcases yo hv with ⟨i,t,rfl,rfl⟩ | ⟨x,t,rfl,rfl⟩
  ·exact wpAny_pyHash_int h
  ·exact wpAny_pyHash_str h
 eqBool:=λhu hv h=>by
  rcases yo hu with ⟨i,t,rfl,rfl⟩ | ⟨x,t,rfl,rfl⟩
  ·rcases yo hv with ⟨j,u,rfl,rfl⟩ | ⟨y,u,rfl,rfl⟩
   ·rw[zed]at h;exact wpAny_eqBool_int h
   ·rw[zdA]at h;exact SeqAt.EqAt.int_str i t y u _ _ _ _ h
  ·rcases yo hv with ⟨j,u,rfl,rfl⟩ | ⟨y,u,rfl,rfl⟩
   ·rw[zew]at h;exact SeqAt.EqAt.str_int x t j u _ _ _ _ h
   ·rw[zd6]at h;exact wpAny_eqBool_str h
 «strs»:=λk x t v h=>by
  rcases yo h with ⟨i,u,rfl,e⟩ | ⟨y,u,rfl,e⟩
  ·exact nomatch e
  ·injection e with e1 _;subst e1;cases v <;> rfl
inductive V where
 | non | bl (b:Bool) | int (i:Int) | str (x:tw) | byt (b:Array UInt8) | flt (b:UInt64) | ref (a:sX) | ty (n:String)
 deriving DecidableEq
def RelV:V->sY->Prop
 | .non,u=>u=u5
 | .bl b,u=>u=Value.bool b
 | .int i,u=>∃t,u=Value.int i t
 | .str x,u=>∃t,u=Value.str x t
 | .byt b,u=>∃t,u=Value.bytes b t
 | .flt b,u=>∃t,u=Value.float b t
 | .ref a,u=>u=u6 a
 | .ty n,u=>u=Value.type n
abbrev Vals:List V->List sY->Prop:=Bq RelV
def Vals.length{xs:List V}{us:List sY}(r:Vals xs us):xs.length=us.length:=Paired.length r
theorem Vals.get:∀{xs:List V} {us:List sY} {i:Nat} {x:V},Vals xs us->xs[i]? = Bu x->∃u,us[i]? = Bu u/\RelV x u
 | _,_,_,_,.nil,e=>by simp at e
 | _,_,0,_,.cons r _,e=>by simp at e;subst e;exact#[_,rfl,r]
 | _,_,i+1,x,.cons _ t,e=>by
  obtain⟨u,h1,h2⟩:=Vals.get (i:=i) (x:=x) t (by simpa using e);exact#[u,by simpa using h1,h2]
theorem Vals.set{x:V}{u:sY}(r:RelV x u):∀{xs:List V} {us:List sY} (i:Nat),Vals xs us->Vals (xs.set i x) (us.set i u)
 | _,_,_,.nil=>.nil
 | _,_,0,.cons _ t=>.cons r t
 | _,_,i+1,.cons q t=>.cons q (Vals.set r i t)
theorem Vals.append{xs ys:List V}{us ws:List sY}(h:Vals xs us)(s:Vals ys ws):Vals (xs ++ ys) (us ++ ws):=by
 induction h with
 | nil=>exact s
 | cons r t ih=>exact .cons r ih
theorem Vals.take:∀{xs:List V} {us:List sY} (n:Nat),Vals xs us->Vals (xs.take n) (us.take n)
 | _,_,0,_=>.nil
 | _,_,_+1,.nil=>.nil
 | _,_,n+1,.cons r t=>.cons r (Vals.take n t)
theorem Vals.drop:∀{xs:List V} {us:List sY} (n:Nat),Vals xs us->Vals (xs.drop n) (us.drop n)
 | _,_,0,r=>r
 | _,_,_+1,.nil=>.nil
 | _,_,n+1,.cons _ t=>Vals.drop n t
def RelO:Option V->Option sY->Prop
 | some v,Bu u=>RelV v u
 | none,Bv=>True
 | _,_=>False
def KV{κ:Type}:List (κ × V)->List (κ × sY)->Prop:=Bq λ(p:κ × V) (q:κ × sY)=>p.1=q.1/\RelV p.2 q.2
end in def kV:Key->V
 | .inl i=>.int i
 | .inr x=>.str x
inductive HO where
  | lst (xs:List V)
  | tup (xs:List V)
  | dK (kvs:List (Key × V)) | dT (kvs:List (List Key × V))
  | set (S:Int->Bool) (n:Nat)
  | ins (C dx:sX) (fs:List (tw × V))
  | own (x:sX)
  | xd (fs:List (tw × V))
  | met (f x:sX)
  | rng (lo hi:Int)
  | frz (o:tR) (u:HO)
  | tbl (ps:Array sY)
  | ext (φ:tE->Prop)
end in abbrev Hp:=sX->Option HO
end in def upd(H:Hp)(a:sX)(o:HO):Hp:=λb=>if b=a then Bu o else H b
def zc{H:Hp}{a:sX}{o:HO}:upd H a o a=Bu o:=by unfold upd;rw[y6 rfl]
def zq{H:Hp}{a b:sX}{o:HO}(h:b≠a):upd H a o b=H b:=by unfold upd;rw[y9 h]
def zI{H:Hp}{a b:sX}{o:HO}(h:H a=Bu o)(h':H b=Bv):a≠b:=by intro e;subst e;rw[h]at h';cases h'
section
variable(P:tu)(w:tz)
def ObjOk(H:Hp)(h:tE)(a:sX):HO->Prop
 | .lst xs=>xs.length<=sU/\∃(its:List sY) (n:Nat),Vals xs its/\h.get? a=Bu { cls:=.type "list",data:=.seq its.toArray n }
 | .tup xs=>xs.length<=sU/\∃its:List sY,Vals xs its/\IsTup h a its.toArray
 | .dK kvs=>kvs.length<=sU/\(a == sysModules)=Bx/\∃vs,KV kvs vs/\h.DictOf (Xc P w) a vs
 | .dT kvs=>kvs.length<=sU/\(a == sysModules)=Bx/\∃xs:List (List Key × sX × sY),
   Bq (λ(p:List Key × V) (q:List Key × sX × sY)=>p.1=q.1/\H q.2.1=Bu (.tup (p.1.map kV))/\RelV p.2 q.2.2) kvs xs /\
   ∃o es ep,h.get? a=Bu o/\o.ExactDict/\o.data=.dict es ep/\es.toList=xs.map (entryOfKey (tupleKind (Xc P w)))/\(xs.map (·.1)).Nodup
 | .set S n=>h.SetOf (intKind P w) a S n
 | .ins C dx fs=>H dx=Bu (.own a)/\fs.length<=1000/\dx≠a/\h.get? a=Bu (ci C dx) /\
   ∃mA,h.Ns1 dx mA/\(∀f,RelO (fs.lookup f) (mA f))/\PySem.Within mA (fs.map (·.1))
 | .own _=>∃o,h.get? a=Bu o
 | .xd fs=>∃mA,h.Ns1 a mA/\∀f,RelO (fs.lookup f) (mA f)
 | .rng lo hi=>∃t u v,h.get? a=Bu { cls:=.type "range",data:=.fields (u9 [.int lo t,.int hi u,.int 1 v]) }
 | .frz o u=>h.get? a=Bu o/\ObjOk H h a u
 | .tbl ps=>h.get? a=Bu { cls:=.none,data:=.fields ps }
 | .met f x=>h.get? a=Bu (eK (.ref f) (.ref x))
 | .ext φ=>φ h/\(∃o,h.get? a=Bu o)/\∀h1 h2:tE,φ h1->(∀o,h1.get? a=Bu o->h2.get? a=Bu o)->φ h2
def HOk(H:Hp)(h:tE):Prop:=∀a o,H a=Bu o->ObjOk P w H h a o
end
section
variable{P:tu}{w:tz}{H H':Hp}{h h':tE}{a:sX}{o:HO}
theorem ObjOk.lt(x:ObjOk P w H h a o):a<h.objs.size:=by
 cases o with
 | lst xs=>obtain⟨_,_,_,_,e⟩:=x;exact aq e
 | tup xs=>obtain⟨_,_,_,p⟩:=x;exact p.lt
 | dK kvs=>obtain⟨_,_,_,_,o,_,_,e,_⟩:=x;exact aq e
 | dT kvs=>obtain⟨_,_,_,_,o,_,_,e,_⟩:=x;exact aq e
 | set S n=>obtain⟨o,_,_,_,e,_⟩:=x;exact aq e
 | ins C dx fs=>obtain⟨_,_,_,e,_⟩:=x;exact aq e
 | own y=>obtain⟨_,e⟩:=x;exact aq e
 | xd fs=>obtain⟨_,⟨_,_,_,e,_⟩,_⟩:=x;exact aq e
 | rng lo hi=>obtain⟨_,_,_,e⟩:=x;exact aq e
 | frz ob u=>obtain⟨e,_⟩:=x;exact aq e
 | tbl ps=>exact aq (show h.get? a=Bu _ from x)
 | met f y=>exact aq (show h.get? a=Bu _ from x)
 | ext φ=>obtain⟨_,⟨_,e⟩,_⟩:=x;exact aq e
theorem Paired.mapP{α β:Type}{F G:α->β->Prop}{l₁:List α}{l₂:List β}(h:Bq F l₁ l₂)(f:∀a b,F a b->G a b):Bq G l₁ l₂:=by
 induction h with
 | nil=>exact .nil
 | cons r t ih=>exact .cons (f _ _ r) ih
theorem ObjOk.stay(x:ObjOk P w H h a o)(k:∀b u,(b=a\/H b=Bu (.own a))->h.get? b=Bu u->h'.get? b=Bu u)(ho:∀b,H b=Bu (.own a)->H' b=Bu (.own a)) (ht:∀b xs,H b=Bu (.tup xs)->H' b=Bu (.tup xs)):ObjOk P w H' h' a o:=by
 induction o with
 | lst xs=>obtain⟨z,its,n,r,e⟩:=x;exact#[z,its,n,r,k _ _ (.inl rfl) e]
 | tup xs=>obtain⟨z,its,r,ob,e,c⟩:=x;exact#[z,its,r,ob,k _ _ (.inl rfl) e,c]
 | dK kvs=>obtain⟨z,y,vs,r,ob,es,ep,e,c⟩:=x;exact#[z,y,vs,r,ob,es,ep,k _ _ (.inl rfl) e,c]
 | dT kvs =>
  obtain⟨z,y,xs,r,ob,es,ep,e,c⟩:=x;exact#[z,y,xs,Paired.mapP r λp q z=>#[z.1,ht _ _ z.2.1,z.2.2],ob,es,ep,k _ _ (.inl rfl) e,c]
 | set S n=>obtain⟨ob,es,ep,t,e,c⟩:=x;exact#[ob,es,ep,t,k _ _ (.inl rfl) e,c]
 | ins C dx fs =>
  obtain⟨d,z,ne,e,mA,⟨od,es,ep,e2,c⟩,r⟩:=x;exact#[ho _ d,z,ne,k _ _ (.inl rfl) e,mA,#[od,es,ep,k _ _ (.inr d) e2,c],r]
 | own y=>obtain⟨ob,e⟩:=x;exact#[ob,k _ _ (.inl rfl) e]
 | xd fs=>obtain⟨mA,⟨od,es,ep,e,c⟩,r⟩:=x;exact#[mA,#[od,es,ep,k _ _ (.inl rfl) e,c],r]
 | rng lo hi=>obtain⟨t,u,v,e⟩:=x;exact#[t,u,v,k _ _ (.inl rfl) e]
 | frz ob u ih=>obtain⟨e,q⟩:=x;exact#[k _ _ (.inl rfl) e,ih q]
 | tbl ps =>
  have e:h.get? a=Bu { cls:=.none,data:=.fields ps }:=x;show h'.get? a=Bu { cls:=.none,data:=.fields ps };exact k a _ (.inl rfl) e
 | met f y =>
  have e:h.get? a=Bu (eK (.ref f) (.ref y)):=x;show h'.get? a=Bu (eK (.ref f) (.ref y));exact k a _ (.inl rfl) e
 | ext φ=>obtain⟨p,⟨o,e⟩,st⟩:=x;exact#[st _ _ p λo q=>k _ _ (.inl rfl) q,#[o,k _ _ (.inl rfl) e],st]
def HOk.lt(x:HOk P w H h)(e:H a=Bu o):a<h.objs.size:=(x a o e).lt
theorem HOk.fresh(x:HOk P w H h)(e:h.objs.size<=a):H a=Bv:=by
 cases q:H a with
 | none=>rfl
 | some u=>exact y4 (ax (x.lt q) e) (cM _)
def HOk.kept(x:HOk P w H h)(k:∀b u,h.get? b=Bu u->h'.get? b=Bu u):HOk P w H h':=λa o e =>
 (x a o e).stay (λb u _ q=>k b u q) (λ_ q=>q) λ_ _ q=>q
def HOk.laid(x:HOk P w H h)(k:∀b u,h.get? b=Bu u->h'.get? b=Bu u)(hp:h.objs.size<=a)(new:ObjOk P w (upd H a o) h' a o):HOk P w (upd H a o) h':=λb u e=>by
 have hn:=x.fresh hp;by_cases hb:b=a
 ·subst hb;rw[zc]at e;cases e;exact new
 ·rw[zq hb]at e;exact (x b u e).stay (λc v _ q=>k c v q) (λc q=>by rw[zq (zI q hn)];exact q) λc xs q=>by rw[zq (zI q hn)];exact q
end
def Rd(H:Hp)(a:sX)(u:HO):Prop:=H a=Bu u\/∃o,H a=Bu (.frz o u)
def Rd.ok{P:tu}{w:tz}{H:Hp}{h:tE}{a:sX}{u:HO}(r:Rd H a u)(x:HOk P w H h):ObjOk P w H h a u:=by
 rcases r with r | ⟨o,r⟩
 ·exact x a u r
 ·obtain⟨_,q⟩:=x a _ r;exact q
def Mut:Option HO->Prop
 | some (.lst _)=>True
 | some (.dK _)=>True
 | some (.dT _)=>True
 | some (.set _ _)=>True
 | some (.ins _ _ _)=>True
 | some (.ext _)=>True
 | _=>False
section
variable{P:tu}{w:tz}{H:Hp}{h h':tE}{x e:sX}{o':HO}
def HOk.write(ok:HOk P w H h)(mu:Mut (H x))(he:e=x\/H e=Bu (.own x))(k:∀b u,b≠e->h.get? b=Bu u->h'.get? b=Bu u)(heo:∃u,h'.get? e=Bu u)(new:ObjOk P w (upd H x o') h' x o'):HOk P w (upd H x o') h':=λb u q=>by
 have nown:∀c y,H c=Bu (.own y)->c≠x:=λc y r z=>by subst z;rw[r]at mu;exact mu
 have ntup:∀c xs,H c=Bu (.tup xs)->c≠x:=λc xs r z=>by subst z;rw[r]at mu;exact mu
 by_cases hb:b=x
 ·subst hb;rw[zc]at q;cases q;exact new
 ·rw[zq hb]at q;by_cases hbe:b=e
  ·have q':H b=Bu (.own x):=by
    rcases he with z | z
    ·exact y4 (hbe.trans z) hb
    ·rw[hbe];exact z
   rw[q]at q';cases q';obtain⟨v,hv⟩:=heo;exact#[v,by rw[hbe];exact hv]
  ·refine (ok b u q).stay (λc v hc r=>k c v ?_ r) (λc r=>by rw[zq (nown c b r)];exact r) λc xs r=>by rw[zq (ntup c xs r)];exact r
   rcases hc with rfl | hc
   ·exact hbe
   ·rintro rfl;rcases he with z | z
    ·exact nown c b hc z
    ·rw[hc]at z;cases z;exact hb rfl
end
structure Un(fs ex:List sX)(H H':Hp)(h h':tE):Prop where
 keep:∀b o,h.get? b=Bu o->H b=Bv->b ∉ fs->b ∉ ex->h'.get? b=Bu o
 slot:∀b o,h.get? b=Bu o->H b=Bv->b ∈ fs->b ∉ ex->∃sl,h'.get? b=Bu { o with slots:=sl }
 free:∀b o,h.get? b=Bu o->H b=Bv->b ∉ ex->H' b=Bv
 there:∀b o,h.get? b=Bu o->b ∉ ex->∃o',h'.get? b=Bu o'
 tups:∀b xs,H b=Bu (.tup xs)->H' b=Bu (.tup xs)
 frzs:∀b o u,H b=Bu (.frz o u)->H' b=Bu (.frz o u)
 tbls:∀b ps,H b=Bu (.tbl ps)->∃more,H' b=Bu (.tbl (ps ++ more))
section
variable{fs fs' ex ex':List sX}{H H1 H2:Hp}{h h1 h2 h':tE}{a x e:sX}{o:HO}
def Un.any(u:Un fs ex H H1 h h1){b:sX}{ob:tR}(q:h.get? b=Bu ob)(n:H b=Bv)(hx:b ∉ ex):∃sl,h1.get? b=Bu { ob with slots:=sl }:=by
 by_cases hb:b ∈ fs
 ·exact u.slot b ob q n hb hx
 ·exact#[ob.slots,u.keep b ob q n hb hx]
def Un.kept(k:∀b u,h.get? b=Bu u->h'.get? b=Bu u):Un fs ex H H h h' :=
 #[λb ob q _ _ _=>k b ob q,λb ob q _ _ _=>#[ob.slots,k b ob q],λ_ _ _ n _=>n,λb ob q _=>#[ob,k b ob q],λ_ _ q=>q,λ_ _ _ q=>q,λ_ ps q=>#[#[],by rw[q];simp]]
def Un.refl:Un fs ex H H h h:=Un.kept λ_ _ q=>q
def Un.laid(k:∀b u,h.get? b=Bu u->h'.get? b=Bu u)(hp:h.objs.size<=a)(hn:H a=Bv):Un fs ex H (upd H a o) h h' where
 keep:=λb u q _ _ _=>k b u q
 slot:=λb u q _ _ _=>#[u.slots,k b u q]
 free:=λb u q n _=>by rw[zq (aB (ax (aq q) hp))];exact n
 there:=λb u q _=>#[u,k b u q]
 tups:=λb xs q=>by rw[zq (zI q hn)];exact q
 frzs:=λb u xs q=>by rw[zq (zI q hn)];exact q
 tbls:=λb ps q=>#[#[],by rw[zq (zI q hn),q];simp]
def Un.write(mu:Mut (H x))(he:e=x\/H e=Bu (.own x))(k:∀b u,b≠e->h.get? b=Bu u->h'.get? b=Bu u)(heo:∃u,h'.get? e=Bu u):Un fs ex H (upd H x o) h h':=by
 have hx:∀b,H b=Bv->b≠x:=λb n z=>by subst z;rw[n]at mu;exact mu
 have hb:∀b,H b=Bv->b≠e:=λb n z=>by
  subst z;rcases he with r | r
  ·exact hx b n r
  ·rw[n]at r;cases r
 have hm:∀b u,H b=Bu u->¬ Mut (Bu u)->b≠x:=λb u q nm z=>by subst z;rw[q]at mu;exact nm mu
 refine#[λb u q n _ _=>k b u (hb b n) q,λb u q n _ _=>#[u.slots,k b u (hb b n) q],λb u q n _=>by rw[zq (hx b n)];exact n,λb u q _=>?_,
  λb xs q=>by rw[zq (hm b _ q λz=>z)];exact q,λb u xs q=>by rw[zq (hm b _ q λz=>z)];exact q,λb ps q=>#[#[],by rw[zq (hm b _ q λz=>z),q];simp]]
 by_cases hbe:b=e
 ·subst hbe;exact heo
 ·exact#[u,k b u hbe q]
end
end in def trk(h:tE)(H:Hp):List sX:=(aN h.objs.size).filter λa=>(H a).isSome
end in def Ql(h:tE)(H:Hp):tE:=PySem.W.hideAll h (trk h H)
def UJ(h:tE)(H:Hp):(Ql h H).objs.size=h.objs.size:=PySem.W.hideAll_size _ _
def WA{h:tE}{H:Hp}{b:sX}{o:tR}(e:h.get? b=Bu o)(n:H b=Bv):(Ql h H).get? b=Bu o :=
 PySem.W.hideAll_get _ e λhm=>by
  have q:(H b).isSome=Bw:=(BJ.mp hm).2;rw[n]at q;simp at q
theorem zbW{h:tE}{H:Hp}{b:sX}{o:tR}(e:(Ql h H).get? b=Bu o):h.get? b=Bu o/\H b=Bv:=by
 have e':h.get? b=Bu o:=PySem.W.of_hideAll (trk h H) e;refine#[e',?_]
 cases q:H b with
 | none=>rfl
 | some x =>
  have hm:b ∈ trk h H:=BJ.mpr #[BK.mpr (aq e'),by simp [q]];have z:(Ql h H).get? b=Bv:=PySem.W.hideAll_none (trk h H) hm;rw[z]at e;cases e
end in def zbP(g h:tE)(L:sX):List (sX × tR):=(aN h.objs.size).filterMap λa=>if a=L\/(g.get? a).isSome=Bw then Bv else (h.get? a).map λo=>(a,o)
end in def rest(g h:tE)(L d:sX):List (sX × tR):=(zbP g h L).filter λp=>decide (p.1≠d)
structure Mod(K:sV)(mg:tw->Option sY)(base:tE):Prop where
 kin:K.In base
 glob:base.Ns sQ mg
 blt:∃mb,base.Ns builtinsNs mb/\∀x:tw,x≠"__name__"->mb x=tS x
 nolimit:base.NoLimit
structure Cx where
 prog:tu
 w:tz
 K:sV
 mg:tw->Option sY
 base:tE
 A:tB
 N:List tw
 s₀:sZ
 H₀:Hp
 env:AK
 outer:List AK
 stack:List AK
 ex:List sX
 fn:tw->Bool
 calm:Bool
 pn:List (sX × tR)
 xe:sY->sZ->Prop
end in def frs(l:List AK):List sX:=l.filterMap (·.frame)
end in abbrev Cx.fs(X:Cx):List sX:=frs X.outer
def Vis(sc:tU)(x:tw):Prop:=sc.names.lookup x=Bu .local\/sc.names.lookup x=Bu .cell\/sc.names.lookup x=Bu .free
def Loc(sc:tU)(x:tw):Prop:=sc.names.lookup x=Bu .local\/sc.names.lookup x=Bu .cell
def zgW(env:AK)(h:tE)(m:tw->Option sY)(x:tw)(u:sY):Prop :=
 (env.kindOf x=Bu .local/\m x=Bu u)\/((env.kindOf x=Bu .cell\/env.kindOf x=Bu .free)/\∃c,env.cells.lookup x=Bu c/\h.IsCell c (Bu u))
structure Cx.Ok(X:Cx):Prop where
 mod:Mod X.K X.mg X.base
 kind:X.env.scope.kind=.function
 glob:X.env.globals=sQ
 blt:X.env.builtins=builtinsNs
 above:X.s₀.heap.objs.size<=X.env.locals
 inj:∀x y c,X.env.cells.lookup x=Bu c->X.env.cells.lookup y=Bu c->x=y
 has:∀x,(X.env.kindOf x=Bu .cell\/X.env.kindOf x=Bu .free)->∃c,X.env.cells.lookup x=Bu c
 cab:∀x c,X.fn x=Bw->X.env.cells.lookup x=Bu c->X.s₀.heap.objs.size<=c
 hd:X.calm=Bw->X.A.handled=Bv
 frames:X.A.frames=Bu X.stack
 stk:X.stack=X.outer\/(X.stack=X.env::X.outer/\X.env.frame=Bu X.env.locals)
 exf:∀b ∈ X.ex,b≠X.env.locals/\∀x c,X.env.cells.lookup x=Bu c->c≠b
 bs:∀b o,X.base.get? b=Bu o->X.s₀.heap.get? b=Bu o/\X.H₀ b=Bv
 bsz:X.base.objs.size<=X.s₀.heap.objs.size
 noex:∀b o,X.base.get? b=Bu o->b ∉ X.ex
 exfs:∀b ∈ X.ex,b ∉ X.fs
 funs:X.s₀.heap.FunFrames X.base X.outer
 frf:∀b ∈ X.fs,X.H₀ b=Bv
structure Inv(X:Cx)(By:List (sX × tR))(σ:List (Option V))(H:Hp)(s:sZ):Prop where
 ok:X.Ok
 os:s.os=X.s₀.os
 bare:Az s.gens
 base:Un X.fs X.ex X.H₀ H X.s₀.heap s.heap
 loc:∃m,s.heap.Ns X.env.locals m/\∀(i:Nat) (x:tw) (v:V),X.N[i]? = Bu x->σ[i]? = Bu (Bu v)->Vis X.env.scope x->∃u,RelV v u/\zgW X.env s.heap m x u
 cell:∀x c,X.env.cells.lookup x=Bu c->∃v,s.heap.IsCell c v
 free:H X.env.locals=Bv
 freeC:∀x c,X.env.cells.lookup x=Bu c->H c=Bv
 pin:∀p ∈ X.pn ++ By,s.heap.get? p.1=Bu p.2/\H p.1=Bv/\p.1≠X.env.locals/\p.1 ∉ X.fs/\∀v,p.2.data≠.cell v
 hok:HOk X.prog X.w H s.heap
 len:σ.length=X.N.length
section
variable{X:Cx}{By:List (sX × tR)}{σ:List (Option V)}{H H':Hp}{s:sZ}{h':tE}
def Cx.Ok.nofr(ok:X.Ok){b:sX}{o:tR}(e:X.base.get? b=Bu o):b ∉ X.fs:=λhb=>by
 have:=(ok.funs.mem hb).1;rw[e]at this;cases this
def Inv.bs(I:Inv X By σ H s):∀b o,X.base.get? b=Bu o->s.heap.get? b=Bu o/\H b=Bv:=λb o e =>
 #[I.base.keep b o (I.ok.bs b o e).1 (I.ok.bs b o e).2 (I.ok.nofr e) (I.ok.noex b o e),I.base.free b o (I.ok.bs b o e).1 (I.ok.bs b o e).2 (I.ok.noex b o e)]
def Inv.bk(I:Inv X By σ H s):∀b o,X.base.get? b=Bu o->s.heap.get? b=Bu o:=λb o e=>(I.bs b o e).1
def Inv.mod(I:Inv X By σ H s):Mod X.K X.mg X.base:=I.ok.mod
def Inv.kIn(I:Inv X By σ H s):X.K.In s.heap:=I.ok.mod.kin.keeps I.bk
def Inv.nolimit(I:Inv X By σ H s):s.heap.NoLimit:=I.ok.mod.nolimit.keeps I.bk
def Inv.fr(I:Inv X By σ H s):∃m,Fr X.base X.env.locals s.heap m :=
 let #[m,hn,_]:=I.loc
 #[m,hn,I.bk,aK I.ok.bsz I.ok.above]
def Inv.lt(I:Inv X By σ H s):X.env.locals<s⁻¹:=let #[_,hn,_]:=I.loc;hn.lt
def Inv.sz(I:Inv X By σ H s):X.s₀.heap.objs.size<=s⁻¹:=aK I.ok.above (dn I.lt)
def Inv.nofs(I:Inv X By σ H s){a:sX}(h:s⁻¹<=a):a ∉ X.fs:=λhb=>by
 obtain⟨_,o,ho,_⟩:=I.ok.funs.mem hb;exact y4 (ax (aq ho) (aK I.sz h)) (cM _)
def Inv.cne(I:Inv X By σ H s):∀x c,X.env.cells.lookup x=Bu c->c≠X.env.locals:=λx c e z=>by
 obtain⟨v,o,ho,hd⟩:=I.cell x c e;obtain⟨m,⟨o',es,ep,ho',hd',_⟩,_⟩:=I.loc;rw[z,ho']at ho;cases ho;rw[hd']at hd;cases hd
def Inv.funs(I:Inv X By σ H s):s.heap.FunFrames X.base X.outer:=by
 have all:∀(l:List AK),(∀b ∈ frs l,b ∈ X.fs)->X.s₀.heap.FunFrames X.base l->s.heap.FunFrames X.base l:=by
  intro l
  induction l with
  | nil=>intro _ _;trivial
  | cons env r ih =>
   intro hs hl;obtain⟨hk,⟨L,o,hf,hn,ho,hd⟩,hr⟩:=hl;have hL:L ∈ X.fs:=hs L (by unfold frs;rw[d6,hf];exact aA);obtain⟨sl,e⟩:=I.base.slot L o ho (I.ok.frf L hL) hL λz=>I.ok.exfs L z hL;exact#[hk,#[L,_,hf,hn,e,hd],ih (λb hb=>hs b (by unfold frs;rw[d6,hf];exact am _ hb)) hr]
 exact all X.outer (λ_ hb=>hb) I.ok.funs
def Inv.stack(I:Inv X By σ H s):s.heap.FunFrames X.base X.stack:=by
 rcases I.ok.stk with e | ⟨e,hf⟩
 ·rw[e];exact I.funs
 ·rw[e];obtain⟨m,hn,_⟩:=I.loc;refine .cons (by rw[I.ok.kind];decide) hf hn ?_ I.funs;exact Heap.get?_none_of_le (aK I.ok.bsz I.ok.above)
def Inv.stkSub(I:Inv X By σ H s):∀b ∈ frs X.stack,b ∈ X.env.locals::X.fs:=λb hb=>by
 rcases I.ok.stk with e | ⟨e,hf⟩
 ·rw[e]at hb;exact am _ hb
 ·rw[e]at hb;unfold frs at hb;rw[d6,hf]at hb;exact hb
def Inv.stkFree(I:Inv X By σ H s):∀b ∈ frs X.stack,H b=Bv:=λb hb=>by
 rcases BE.mp (I.stkSub b hb)with e | hb
 ·rw[e];exact I.free
 ·obtain⟨_,o,ho,_⟩:=I.ok.funs.mem hb;exact I.base.free b o ho (I.ok.frf b hb) λz=>I.ok.exfs b z hb
def Inv.step{g':Array Bf}{t':Nat}{d':Drawn}{ch:List sX}(I:Inv X By σ H s)(hch:∀b ∈ ch,(b ∈ X.ex\/X.s₀.heap.objs.size<=b)/\b≠X.env.locals/\(∀x c,X.env.cells.lookup x=Bu c->c≠b)/\∀p ∈ X.pn ++ By,p.1≠b)(keep:∀b o,b≠X.env.locals->b ∉ X.fs->b ∉ ch->s.heap.get? b=Bu o->H b=Bv->h'.get? b=Bu o)(slot:∀b o,b≠X.env.locals->b ∈ X.fs->b ∉ ch->s.heap.get? b=Bu o->H b=Bv->∃sl,h'.get? b=Bu { o with slots:=sl }) (free:∀b o,b ∉ ch->s.heap.get? b=Bu o->H b=Bv->H' b=Bv)(there:∀b o,b ∉ ch->s.heap.get? b=Bu o->∃o',h'.get? b=Bu o')(tups:∀b xs,H b=Bu (.tup xs)->H' b=Bu (.tup xs)) (frzs:∀b o u,H b=Bu (.frz o u)->H' b=Bu (.frz o u)) (tbls:∀b ps,H b=Bu (.tbl ps)->∃more,H' b=Bu (.tbl (ps ++ more)))(ns:∀m,s.heap.Ns X.env.locals m->h'.Ns X.env.locals m) (hok:HOk X.prog X.w H' h') (hg:Az g') :
  Inv X By σ H' { s with heap:=h',gens:=g',drawn:=d',toks:=t' }:=by
 have neL:∀b o,X.s₀.heap.get? b=Bu o->b≠X.env.locals:=λb o e=>aB (ax (aq e) I.ok.above)
 have neC:∀b o,X.s₀.heap.get? b=Bu o->b ∉ X.ex->b ∉ ch:=λb o e hx hb=>by
  rcases (hch b hb).1 with z | z
  ·exact hx z
  ·exact y4 (ax (aq e) z) (cM _)
 have cellK:∀x c,X.env.cells.lookup x=Bu c->∀v,s.heap.IsCell c v->h'.IsCell c v:=λx c e v ⟨o,ho,hd⟩=>by
  have nch:c ∉ ch:=λz=>(hch c z).2.2.1 x c e rfl;by_cases hc:c ∈ X.fs
  ·obtain⟨sl,q⟩:=slot c o (I.cne x c e) hc nch ho (I.freeC x c e);exact#[_,q,hd]
  ·exact#[o,keep c o (I.cne x c e) hc nch ho (I.freeC x c e),hd]
 refine#[I.ok,I.os,hg,#[λb o e n hb hx=>?_,λb o e n hb hx=>?_,λb o e n hx=>?_,λb o e hx=>?_,λb xs e=>tups b xs (I.base.tups b xs e),λb o xs e=>frzs b o xs (I.base.frzs b o xs e),λb ps e=>?_],?_,λx c e=>?_,?_,λx c e=>?_,λp hp=>?_,hok,I.len]
 ·exact keep b o (neL b o e) hb (neC b o e hx) (I.base.keep b o e n hb hx) (I.base.free b o e n hx)
 ·obtain⟨sl,e1⟩:=I.base.slot b o e n hb hx;obtain⟨sl',e2⟩:=slot b _ (neL b o e) hb (neC b o e hx) e1 (I.base.free b o e n hx);exact#[sl',e2]
 ·obtain⟨o',e1⟩:=I.base.there b o e hx;exact free b o' (neC b o e hx) e1 (I.base.free b o e n hx)
 ·obtain⟨o',e1⟩:=I.base.there b o e hx;exact there b o' (neC b o e hx) e1
 ·obtain⟨m1,e1⟩:=I.base.tbls b ps e;obtain⟨m2,e2⟩:=tbls b _ e1;exact#[m1 ++ m2,by rw[e2,Array.append_assoc]]
 ·obtain⟨m,hn,hl⟩:=I.loc;refine#[m,ns m hn,λi x v e1 e2 e3=>?_];obtain⟨u,r,l⟩:=hl i x v e1 e2 e3;refine#[u,r,?_];rcases l with l | ⟨k,c,e,z⟩
  ·exact .inl l
  ·exact .inr #[k,c,e,cellK x c e _ z]
 ·obtain⟨v,z⟩:=I.cell x c e;exact#[v,cellK x c e v z]
 ·obtain⟨m,⟨o,_,_,ho,_⟩,_⟩:=I.loc;exact free _ o (λz=>(hch _ z).2.1 rfl) ho I.free
 ·obtain⟨v,o,ho,hd⟩:=I.cell x c e;exact free c o (λz=>(hch c z).2.2.1 x c e rfl) ho (I.freeC x c e)
 ·obtain⟨e,n,ne,nf,d⟩:=I.pin p hp;have nch:p.1 ∉ ch:=λz=>(hch p.1 z).2.2.2 p hp rfl;exact#[keep p.1 p.2 ne nf nch e n,free p.1 p.2 nch e n,ne,nf,d]
def Inv.un{t':Nat}(I:Inv X By σ H s)(u:Un X.fs [] H H' s.heap h')(hok:HOk X.prog X.w H' h'):Inv X By σ H' { s with heap:=h',toks:=t' }:=by
 obtain⟨m,⟨o,es,ep,ho,r⟩,_⟩:=id I.loc;obtain⟨sl,hL⟩:=u.any ho I.free (by simp)
 exact I.step (g':=s.gens) (d':=s.drawn) (ch:=[]) (λ_ z=>nomatch z) (λb o _ hb _ e n=>u.keep b o e n hb (by simp)) (λb o _ hb _ e n=>u.slot b o e n hb (by simp)) (λb o _ e n=>u.free b o e n (by simp)) (λb o _ e=>u.there b o e (by simp)) u.tups u.frzs u.tbls (λm' hm=>by
  obtain⟨o',es',ep',ho',r'⟩:=hm;rw[ho]at ho';cases ho'
  exact#[_,es',ep',hL,r']) hok I.bare
def Inv.call{g':Array Bf}{t':Nat}{d':Drawn}{ch:List sX}(I:Inv X By σ H s)(u:Un (frs X.stack) ch H H' s.heap h')(hok:HOk X.prog X.w H' h')(hg:Az g')(hch:∀b ∈ ch,(b ∈ X.ex\/X.s₀.heap.objs.size<=b)/\b≠X.env.locals/\(∀x c,X.env.cells.lookup x=Bu c->c≠b)/\∀p ∈ X.pn ++ By,p.1≠b) :
  Inv X By σ H' { s with heap:=h',gens:=g',drawn:=d',toks:=t' }:=by
 obtain⟨m,⟨o,es,ep,ho,r⟩,_⟩:=id I.loc;obtain⟨sl,hL⟩:=u.any ho I.free λz=>(hch _ z).2.1 rfl
 exact I.step (ch:=ch) hch (λb o hL hb hc e n=>u.keep b o e n (λz=>(BE.mp (I.stkSub b z)).elim hL hb) hc) (λb o _ _ hc e n=>u.any e n hc) (λb o hc e n=>u.free b o e n hc) (λb o hc e=>u.there b o e hc) u.tups u.frzs u.tbls (λm' hm=>by
  obtain⟨o',es',ep',ho',r'⟩:=hm;rw[ho]at ho';cases ho'
  exact#[_,es',ep',hL,r']) hok hg
def Inv.turned{t':Nat}{it:sX}(I:Inv X By σ H s)(k:∀b o,b≠it->s.heap.get? b=Bu o->h'.get? b=Bu o)(hn:H it=Bv)(hL:it≠X.env.locals)(h1:it ∈ X.ex\/X.s₀.heap.objs.size<=it) (h2:∀x c,X.env.cells.lookup x=Bu c->c≠it) (h3:∀p ∈ X.pn ++ By,p.1≠it):Inv X By σ H { s with heap:=h',toks:=t' }:=by
 have nit:∀b u,H b=Bu u->b≠it:=λb u e z=>by rw[z,hn]at e;cases e
 refine I.step (g':=s.gens) (d':=s.drawn) (ch:=[it]) (λb hb=>?_) (λb o _ _ hc e _=>k b o (λz=>hc (by simp [z])) e) (λb o _ _ hc e _=>#[o.slots,k b o (λz=>hc (by simp [z])) e]) (λ_ _ _ _ n=>n)
  (λb o hc e=>#[o,k b o (λz=>hc (by simp [z])) e]) (λ_ _ e=>e) (λ_ _ _ e=>e) (λb ps e=>#[#[],by rw[e];simp]) (λm hm=>?_) (λb u e=>?_) I.bare
 ·have e:b=it:=by simpa using hb
  subst e;exact#[h1,hL,h2,h3]
 ·obtain⟨o,es,ep,ho,r⟩:=hm;exact#[o,es,ep,k _ o (Ne.symm hL) ho,r]
 ·refine (I.hok b u e).stay (λc v hc q=>k c v ?_ q) (λ_ q=>q) λ_ _ q=>q;rcases hc with z | z
  ·rw[z];exact nit b u e
  ·exact nit c _ z
def Inv.tok(I:Inv X By σ H s)(t:Nat):Inv X By σ H { s with toks:=t }:=I.un (h':=s.heap) (t':=t) Un.refl I.hok
def Inv.kept{t':Nat}(I:Inv X By σ H s)(k:∀b u,s.heap.get? b=Bu u->h'.get? b=Bu u):Inv X By σ H { s with heap:=h',toks:=t' }:=I.un (Un.kept k) (I.hok.kept k)
def Inv.laid{a:sX}{o:HO}{t':Nat}(I:Inv X By σ H s)(k:∀b u,s.heap.get? b=Bu u->h'.get? b=Bu u)(hp:s⁻¹<=a)(new:ObjOk X.prog X.w (upd H a o) h' a o) :
  Inv X By σ (upd H a o) { s with heap:=h',toks:=t' }:=I.un (Un.laid k hp (I.hok.fresh hp)) (I.hok.laid k hp new)
def Inv.write{x e:sX}{o:HO}{t':Nat}(I:Inv X By σ H s)(mu:Mut (H x))(he:e=x\/H e=Bu (.own x))(k:∀b u,b≠e->s.heap.get? b=Bu u->h'.get? b=Bu u)(heo:∃u,h'.get? e=Bu u)(new:ObjOk X.prog X.w (upd H x o) h' x o):Inv X By σ (upd H x o) { s with heap:=h',toks:=t' }:=I.un (Un.write mu he k heo) (I.hok.write mu he k heo new)
def Inv.weak{σ':List (Option V)}(I:Inv X By σ H s)(hl:σ'.length=σ.length)(w:∀(i:Nat) v,σ'[i]? = Bu (Bu v)->σ[i]? = Bu (Bu v)):Inv X By σ' H s :=
 #[I.ok,I.os,I.bare,I.base,let #[m,hn,hl']:=I.loc; #[m,hn,λi x v e1 e2 e3=>hl' i x v e1 (w i v e2) e3],I.cell,I.free,I.freeC,I.pin,I.hok,hl.trans I.len]
def Inv.pins_of{pins':List (sX × tR)}(I:Inv X By σ H s)(h:∀p ∈ pins',s.heap.get? p.1=Bu p.2/\H p.1=Bv/\p.1≠X.env.locals/\p.1 ∉ X.fs/\∀v,p.2.data≠.cell v):Inv X pins' σ H s :=
 #[I.ok,I.os,I.bare,I.base,I.loc,I.cell,I.free,I.freeC,λp hp=>(BD.mp hp).elim (λz=>I.pin p (bn _ z)) (h p),I.hok,I.len]
def WK{N:List tw}(hN:N.Nodup){i j:Nat}{x:tw}(a:N[i]? = Bu x)(b:N[j]? = Bu x):i=j:=by obtain⟨h1,e1⟩:=BB.mp a;obtain⟨h2,e2⟩:=BB.mp b;exact (List.getElem_inj hN).mp (e1.trans e2.symm)
theorem YJ{M:Bd}{A:tB}{E:sY->sZ->Prop}{i:Nat}{x:tw}{v:V}{u:sY}{Q:Unit->sZ->Prop}(I:Inv X By σ H s)(hN:X.N.Nodup)(hi:X.N[i]? = Bu x)(hx:Loc X.env.scope x)(r:RelV v u)(h:∀s',Inv X By (σ.set i (Bu v)) H s'->(∃a,Heap.SameBut a s.heap s'.heap/\(a=X.env.locals\/X.env.cells.lookup x=Bu a))->Q Unit.unit s') (hf:X.fn x=Bw\/X.env.scope.names.lookup x=Bu .local:=by first | exact .inl rfl | exact .inr rfl | assumption):tm M A (storeName X.env x u) Q E s:=by
 obtain⟨m,hn,hl⟩:=id I.loc;have hcls:(X.env.scope.kind == .class || (X.env.scope.kind == .module && X.env.locals != X.env.globals))=Bx:=by rw[I.ok.kind];rfl
 have hiσ:i<σ.length:=by rw[I.len];exact (BB.mp hi).1
 have cne:=I.cne
 have tracked:∀{a:sX} {h':tE},(∃o,s.heap.get? a=Bu o/\H a=Bv)->Heap.SameBut a s.heap h'->HOk X.prog X.w H h':=λ{a h'} ha hs b ob e=>by
  obtain⟨_,_,hfree⟩:=ha;refine (I.hok b ob e).stay (λc w' hc q=>(hs.2 c ?_).trans q) (λ_ q=>q) λ_ _ q=>q;rintro rfl;rcases hc with rfl | hc
  ·rw[hfree]at e;cases e
  ·rw[hfree]at hc;cases hc
 rcases hx with hk | hk
 ·refine wpAny_storeName_local hk hn (λh' hn' hs=>?_) hcls;obtain⟨oL,_,_,hoL,_⟩:=id hn;refine h _ #[I.ok,I.os,I.bare,#[λb o e n hb hx=>?_,λb o e n hb hx=>?_,I.base.free,λb o e hx=>?_,I.base.tups,I.base.frzs,I.base.tbls],#[_,hn',λj y v' e1 e2 e3=>?_],λy c e=>?_,I.free,I.freeC,λp hp=>?_,tracked #[oL,hoL,I.free] hs,by simpa using I.len] #[_,hs,.inl rfl]
  ·exact (hs.2 b (aB (ax (aq e) I.ok.above))).trans (I.base.keep b o e n hb hx)
  ·obtain⟨sl,e1⟩:=I.base.slot b o e n hb hx;exact#[sl,(hs.2 b (aB (ax (aq e) I.ok.above))).trans e1]
  ·obtain⟨o',e1⟩:=I.base.there b o e hx;exact#[o',(hs.2 b (aB (ax (aq e) I.ok.above))).trans e1]
  ·by_cases hj:j=i
   ·subst hj;rw[hi]at e1;cases e1;rw[fo hiσ]at e2;cases e2;exact#[u,r,.inl #[hk,by simp]]
   ·rw[fQ (Ne.symm hj)]at e2;obtain⟨u',r',q⟩:=hl j y v' e1 e2 e3;refine#[u',r',?_];rcases q with ⟨k,e⟩ | ⟨k,c,e,z⟩
    ·refine .inl #[k,?_];have:y≠x:=λe=>hj (WK hN e1 (e ▸ hi));simp [this,e]
    ·exact .inr #[k,c,e,z.sameBut hs (cne y c e)]
  ·obtain⟨w',z⟩:=I.cell y c e;exact#[w',z.sameBut hs (cne y c e)]
  ·obtain⟨e,n,ne,nf,d⟩:=I.pin p hp;exact#[(hs.2 p.1 ne).trans e,n,ne,nf,d]
 ·have hfn:X.fn x=Bw:=by
   rcases hf with z | z
   ·exact z
   ·rw[z]at hk;cases hk
  obtain⟨c,hc⟩:=I.ok.has x (.inl hk);obtain⟨w',z⟩:=I.cell x c hc;refine wpAny_storeName_cell I.ok.kind hk hc z (λh' hc' hs=>?_);obtain⟨oc,hoc,hocd⟩:=id z;refine h { s with heap:=h' } #[I.ok,I.os,I.bare,#[λb o e n hb hx=>?_,λb o e n hb hx=>?_,I.base.free,λb o e hx=>?_,I.base.tups,I.base.frzs,I.base.tbls],#[m,hn.sameBut hs (Ne.symm (cne x c hc)),λj y v' e1 e2 e3=>?_],λy c' e=>?_,I.free,I.freeC,λp hp=>?_,tracked #[oc,hoc,I.freeC x c hc] hs,by simpa using I.len] #[c,hs,.inr hc]
  ·exact (hs.2 b (aB (ax (aq e) (I.ok.cab x c hfn hc)))).trans (I.base.keep b o e n hb hx)
  ·obtain⟨sl,e1⟩:=I.base.slot b o e n hb hx;exact#[sl,(hs.2 b (aB (ax (aq e) (I.ok.cab x c hfn hc)))).trans e1]
  ·obtain⟨o',e1⟩:=I.base.there b o e hx;exact#[o',(hs.2 b (aB (ax (aq e) (I.ok.cab x c hfn hc)))).trans e1]
  ·by_cases hj:j=i
   ·subst hj;rw[hi]at e1;cases e1;rw[fo hiσ]at e2;cases e2;exact#[u,r,.inr #[.inl hk,c,hc,hc']]
   ·rw[fQ (Ne.symm hj)]at e2;obtain⟨u',r',q⟩:=hl j y v' e1 e2 e3;refine#[u',r',?_];rcases q with q | ⟨k,c',e,z'⟩
    ·exact .inl q
    ·refine .inr #[k,c',e,z'.sameBut hs ?_];rintro rfl;exact hj (WK hN e1 (I.ok.inj _ _ _ e hc ▸ hi))
  ·by_cases hcc:c'=c
   ·subst hcc;exact#[_,hc']
   ·obtain⟨w2,z2⟩:=I.cell y c' e;exact#[w2,z2.sameBut hs hcc]
  ·obtain⟨e,n,ne,nf,d⟩:=I.pin p hp;refine#[(hs.2 p.1 ?_).trans e,n,ne,nf,d];intro q;rw[q,hoc]at e;have q':oc=p.2:=Option.some.inj e;exact d w' (by rw[<- q'];exact hocd)
theorem ZK{M:Bd}{A:tB}{E:sY->sZ->Prop}{i:Nat}{x:tw}{v:V}{u:sY}{Q:Unit->sZ->Prop}(I:Inv X By σ H s)(hN:X.N.Nodup)(hi:X.N[i]? = Bu x)(hx:Loc X.env.scope x)(r:RelV v u)(h:∀s',Inv X By (σ.set i (Bu v)) H s'->Q Unit.unit s') (hf:X.fn x=Bw\/X.env.scope.names.lookup x=Bu .local:=by first | exact .inl rfl | exact .inr rfl | assumption):tm M A (storeName X.env x u) Q E s :=
 YJ I hN hi hx r (λs' I' _=>h s' I') hf
def Inv.call'{s':sZ}{ch:List sX}(I:Inv X By σ H s)(ho:s'.os=s.os)(u:Un (frs X.stack) ch H H' s.heap s'.heap)(hok:HOk X.prog X.w H' s'.heap)(hg:Az s'.gens)(hch:∀b ∈ ch,(b ∈ X.ex\/X.s₀.heap.objs.size<=b)/\b≠X.env.locals/\(∀x c,X.env.cells.lookup x=Bu c->c≠b)/\∀p ∈ X.pn ++ By,p.1≠b):Inv X By σ H' s':=by obtain⟨h',g',d',t',o'⟩:=s';have e:o'=s.os:=ho;subst e;exact I.call (g':=g') (t':=t') (d':=d') u hok hg hch
end
end in abbrev XK:=sY->Option sX->Hp->Prop
end in abbrev St:=List (Option V)
end in abbrev VK:=V->Hp->Prop
end in abbrev TE:=St->Hp->VK->Prop
end in abbrev TT:=St->Hp->(Bool->Hp->Prop)->Prop
end in abbrev TA:=St->Hp->(List V->Hp->Prop)->Prop
structure uf where
 nx:St->Hp->Prop
 rt:VK
 bk:St->Hp->Prop:=λ_ _=>False
 ct:St->Hp->Prop:=λ_ _=>False
end in abbrev TS:=uf->St->Hp->Prop
def EP(X:Cx)(By:List (sX × tR))(σ:St)(Q:VK)(u:sY)(s':sZ):Prop:=∃v H',Inv X By σ H' s'/\RelV v u/\Q v H'
def TP(X:Cx)(By:List (sX × tR))(σ:St)(Q:Bool->Hp->Prop)(b:Bool)(s':sZ):Prop:=∃H',Inv X By σ H' s'/\Q b H'
def AP(X:Cx)(By:List (sX × tR))(σ:St)(Q:List V->Hp->Prop)(us:List sY)(s':sZ):Prop:=∃vs H',Inv X By σ H' s'/\Vals vs us/\Q vs H'
def SP(X:Cx)(By:List (sX × tR))(D:uf)(f:Flow)(s':sZ):Prop :=
 match f with
 | .next=>∃σ' H',Inv X By σ' H' s'/\D.nx σ' H'
 | .brk=>∃σ' H',Inv X By σ' H' s'/\D.bk σ' H'
 | .cont=>∃σ' H',Inv X By σ' H' s'/\D.ct σ' H'
 | .ret u=>∃v σ' H',Inv X By σ' H' s'/\RelV v u/\D.rt v H'
def PE(X:Cx)(e:tD)(t:TE):Prop :=
 ∀(By:List (sX × tR)) (s:sZ) (σ:St) (H:Hp) (Q:VK),Inv X By σ H s->t σ H Q->tm (model X.prog X.w) X.A (eval e X.env) (EP X By σ Q) X.xe s
def PT(X:Cx)(e:tD)(t:TT):Prop :=
 ∀(By:List (sX × tR)) (s:sZ) (σ:St) (H:Hp) (Q:Bool->Hp->Prop),Inv X By σ H s->t σ H Q->tm (model X.prog X.w) X.A (isTrue e X.env (eval e X.env)) (TP X By σ Q) X.xe s
def PW(X:Cx)(e:tD)(t:TT):Prop :=
 ∀(whole:Bl sY) (By:List (sX × tR)) (s:sZ) (σ:St) (H:Hp) (Q:Bool->Hp->Prop),Inv X By σ H s->t σ H Q->tm (model X.prog X.w) X.A (isTrue e X.env whole) (TP X By σ Q) X.xe s
def PW.pt{X:Cx}{e:tD}{t:TT}(h:PW X e t):PT X e t:=h _
def PA(X:Cx)(es:List tD)(t:TA):Prop :=
 ∀(pos:Ad) (By:List (sX × tR)) (s:sZ) (σ:St) (H:Hp) (Q:List V->Hp->Prop),Inv X By σ H s->t σ H Q->tm (model X.prog X.w) X.A (spliced (tK pos (sS es X.env))) (AP X By σ Q) X.xe s
def PS(X:Cx)(st:tF)(t:TS):Prop :=
 ∀(By:List (sX × tR)) (s:sZ) (σ:St) (H:Hp) (D:uf),Inv X By σ H s->t D σ H->tm (model X.prog X.w) X.A (exec st X.env) (SP X By D) X.xe s
def PSs(X:Cx)(st:List tF)(t:TS):Prop :=
 ∀(By:List (sX × tR)) (s:sZ) (σ:St) (H:Hp) (D:uf),Inv X By σ H s->t D σ H->tm (model X.prog X.w) X.A (execs st X.env) (SP X By D) X.xe s
def thn{α:Type}{t:Bl α}{Q Q':α->sZ->Prop}{M:Bd}{A:tB}{E:sY->sZ->Prop}{s:sZ}(h:tm M A t Q E s)(hQ:∀a s,Q a s->Q' a s):tm M A t Q' E s:=Ak h hQ λ_ _ x=>x
def el5{α β:Type}{a b c:α->β->Prop}{C:Prop}(f:∀x y,a x y->b x y->c x y->C):(∃x y,a x y/\b x y/\c x y)->C:=λh=>Exists.elim h λx h=>Exists.elim h λy h=>f x y h.1 h.2.1 h.2.2
def el3{α:Type}{a b:α->Prop}{C:Prop}(f:∀x,a x->b x->C):(∃x,a x/\b x)->C:=λh=>Exists.elim h λx h=>f x h.1 h.2
def ua2{a b C:Prop}(f:a->b->C):a/\b->C:=λh=>f h.1 h.2
section
variable{X:Cx}
def onSl(σ:St)(i:Nat)(p:V->Prop):Prop:=match σ[i]? with | some (Bu v)=>p v | _=>False
theorem onSl.of{σ:St}{i:Nat}{p:V->Prop}(h:onSl σ i p):∃v,σ[i]? = Bu (Bu v)/\p v:=by
 unfold onSl at h;split at h
 ·exact#[_,by assumption,h]
 ·exact h.elim
def onInt(x:V)(p:Int->Prop):Prop:=match x with | .int k=>p k | _=>False
def onInt.of{x:V}{p:Int->Prop}(h:onInt x p):∃k,x=.int k/\p k:=by cases x <;> first | exact#[_,rfl,h] | exact h.elim
def onInt.to{x:V}{p:Int->Prop}(h:∃k,x=.int k/\p k):onInt x p:=by obtain⟨k,rfl,h⟩:=h;exact h
def onStr(x:V)(p:tw->Prop):Prop:=match x with | .str k=>p k | _=>False
def onStr.of{x:V}{p:tw->Prop}(h:onStr x p):∃k,x=.str k/\p k:=by cases x <;> first | exact#[_,rfl,h] | exact h.elim
def onStr.to{x:V}{p:tw->Prop}(h:∃k,x=.str k/\p k):onStr x p:=by obtain⟨k,rfl,h⟩:=h;exact h
def onBl(x:V)(p:Bool->Prop):Prop:=match x with | .bl k=>p k | _=>False
def onBl.of{x:V}{p:Bool->Prop}(h:onBl x p):∃k,x=.bl k/\p k:=by cases x <;> first | exact#[_,rfl,h] | exact h.elim
def onBl.to{x:V}{p:Bool->Prop}(h:∃k,x=.bl k/\p k):onBl x p:=by obtain⟨k,rfl,h⟩:=h;exact h
def onRef(x:V)(p:sX->Prop):Prop:=match x with | .ref k=>p k | _=>False
def onRef.of{x:V}{p:sX->Prop}(h:onRef x p):∃k,x=.ref k/\p k:=by cases x <;> first | exact#[_,rfl,h] | exact h.elim
def onRef.to{x:V}{p:sX->Prop}(h:∃k,x=.ref k/\p k):onRef x p:=by obtain⟨k,rfl,h⟩:=h;exact h
def z6(i:Nat):TE:=λσ H Q=>onSl σ i λv=>Q v H
def tC(v:V):TE:=λ_ H Q=>Q v H
def zdt{i:Nat}{x:tw}{pos:Ad}(hN:X.N[i]? = Bu x)(hv:Vis X.env.scope x)(hd:(x ==("__debug__" : tw))=Bx:=by decide)(hcd:(x ==("__classdict__" : tw))=Bx:=by decide):PE X (.Name x pos) (z6 i):=by
 intros Q I h;obtain⟨v,e,h⟩:=onSl.of h;obtain⟨m,hn,hl⟩:=I.loc;obtain⟨u,r,l⟩:=hl i x v hN e hv;have fin:EP X By σ Q u s:=#[v,H,I,r,h];rcases l with ⟨hk,hm⟩ | ⟨hk,c,hc,hcell⟩
 ·exact Bn (wpAny_loadName_local I.ok.kind hk hn hm fin) hd
 ·rcases hk with hk | hk
  ·exact Bn (wpAny_loadName_cell I.ok.kind hk hc hcell fin) hd
  ·exact Bn (wpAny_loadName_free I.ok.kind hk hc hcell fin hcd) hd
def zf{i j pos}:PE X (.Constant (.int i) j pos) (tC (.int i)):=λ_ _ _ H _ I h=>wpAny_Constant_int #[.int i,H,I.tok _,#[_,rfl],h]
def yt{b j pos}:PE X (.Constant (.bool b) j pos) (tC (.bl b)):=λ_ _ _ H _ I h=>Constant_bool #[.bl b,H,I,rfl,h]
def ym{j pos}:PE X (.Constant .none j pos) (tC .non):=λ_ _ _ H _ I h=>Constant_none #[.non,H,I,rfl,h]
def yc{x j pos}:PE X (.Constant (.str x) j pos) (tC (.str x)):=λ_ _ _ H _ I h=>Calls.Constant_str #[.str x,H,I.tok _,#[_,rfl],h]
def Gl(X:Cx)(x:tw):Prop:=X.env.kindOf x=Bu .globalImplicit
def v0{E:sY->sZ->Prop}{By:List (sX × tR)}{s:sZ}{σ:St}{H:Hp}{x:tw}{u:sY}{pos:Ad}{Q:sY->sZ->Prop}(I:Inv X By σ H s)(hg:Gl X x)(hm:X.mg x=Bu u)(h:Q u s)(hd:(x ==("__debug__" : tw))=Bx:=by decide):tm (model X.prog X.w) X.A (eval (.Name x pos) X.env) Q E s :=
 Calls.Name_function_global I.ok.kind hg (Calls.loadGlobal_global (by rw[I.ok.glob];exact I.mod.glob.keeps I.bk) hm h) hd
def vq{E:sY->sZ->Prop}{By:List (sX × tR)}{s:sZ}{σ:St}{H:Hp}{x:tw}{u:sY}{pos:Ad}{Q:sY->sZ->Prop}(I:Inv X By σ H s)(hg:Gl X x)(hm:X.mg x=Bv)(hv:tS x=Bu u)(h:Q u s)(hn:x≠"__name__":=by decide) (hd:(x ==("__debug__" : tw))=Bx:=by decide):tm (model X.prog X.w) X.A (eval (.Name x pos) X.env) Q E s:=by obtain⟨mb,h1,h2⟩:=I.mod.blt;exact Calls.Name_function_global I.ok.kind hg (Calls.loadGlobal_builtin (by rw[I.ok.glob];exact I.mod.glob.keeps I.bk) hm (by rw[I.ok.blt];exact h1.keeps I.bk) ((h2 x hn).trans hv) h) hd
def yC{x:tw}{v:V}{u:sY}{pos:Ad}(hg:Gl X x)(hm:X.mg x=Bu u)(r:RelV v u)(hd:(x ==("__debug__" : tw))=Bx:=by decide):PE X (.Name x pos) (tC v) :=
 λ_ _ _ H _ I h=>v0 I hg hm #[v,H,I,r,h] hd
def zcZ{x:tw}{v:V}{u:sY}{pos:Ad}(hg:Gl X x)(hm:X.mg x=Bv)(hv:tS x=Bu u)(r:RelV v u)(hn:x≠"__name__":=by decide)(hd:(x ==("__debug__" : tw))=Bx:=by decide):PE X (.Name x pos) (tC v) :=
 λ_ _ _ H _ I h=>vq I hg hm hv #[v,H,I,r,h] hn hd
variable{a b:tD}{ta tb:TE}{pos:Ad}
def PC(X:Cx)(op:As)(a b:tD)(t:TE):Prop :=
 ∀(By:List (sX × tR)) (s:sZ) (σ:St) (H:Hp) (Q:VK),Inv X By σ H s->t σ H Q ->
  tm (model X.prog X.w) X.A (eval a X.env) (λv s₁=>tm (model X.prog X.w) X.A (eval b X.env) (λu s₂=>tm (model X.prog X.w) X.A (tG op v u) (EP X By σ Q) X.xe s₂) X.xe s₁) X.xe s
def Kf(b:tD){op:As}(h:op≠.In)(h2:op≠.NotIn):behindInMarks op b=Bx:=by
 have e1:(op == CmpOp.In)=Bx:=by cases op <;> first | rfl | exact y4 rfl h
 have e2:(op == CmpOp.NotIn)=Bx:=by cases op <;> first | rfl | exact y4 rfl h2
 cases b <;> simp [behindInMarks,e1,e2]
def yP{op:As}{t:TE}(h:PC X op a b t)(h1:behindInMarks op b=Bx:=by first | exact Kf _ ∅ ∅ | rfl):PE X (.Compare a [op] [b] pos) t:=λBy s σ H Q I hw=>wpAny_Compare1 (h By s σ H Q I hw) h1
variable{tA tB':TT}{rest:List tD}
def zff(t u:TT):TT:=λσ H Q=>t σ H λc H1=>if c=Bw then u σ H1 Q else Q Bx H1
def tOr(t u:TT):TT:=λσ H Q=>t σ H λc H1=>if c=Bw then Q Bw H1 else u σ H1 Q
def zdd(t:TT):TT:=λσ H Q=>t σ H λc H1=>Q (!c) H1
theorem zb9(ha:PT X a tA):PW X (.BoolOp .And [a] pos) tA:=by
 intro wh By s σ H Q I h;refine isTrue_and (thn (ha By s σ H Q I h) λc s1 e=>?_)
 cases c with
 | true=>exact isTrue_and_nil e
 | false=>exact e
theorem wI(ha:PT X a tA):PW X (.BoolOp .Or [a] pos) tA:=by
 intro wh By s σ H Q I h;refine isTrue_or (thn (ha By s σ H Q I h) λc s1 e=>?_)
 cases c with
 | false=>exact isTrue_or_nil e
 | true=>exact e
theorem zdS(ha:PT X a tA)(hb:PW X (.BoolOp .And (b::rest) pos) tB'):PW X (.BoolOp .And (a::b::rest) pos) (zff tA tB'):=by
 intro wh By s σ H Q I h;refine isTrue_and (thn (ha By s σ H _ I h) λc s1=>el3 λH1 I1 q1=>?_)
 cases c with
 | true=>exact hb wh By s1 σ H1 Q I1 q1
 | false=>exact#[H1,I1,q1]
theorem vM(ha:PT X a tA)(hb:PW X (.BoolOp .Or (b::rest) pos) tB'):PW X (.BoolOp .Or (a::b::rest) pos) (tOr tA tB'):=by
 intro wh By s σ H Q I h;refine isTrue_or (thn (ha By s σ H _ I h) λc s1=>el3 λH1 I1 q1=>?_)
 cases c with
 | true=>exact#[H1,I1,q1]
 | false=>exact hb wh By s1 σ H1 Q I1 q1
def zZ(ha:PT X a tA):PT X (.UnaryOp .Not a pos) (zdd tA):=by intros Q I h;exact isTrue_not (ha By s σ H (λc H1=>Q (!c) H1) I h)
def Uh(ta tb:TE):TE:=λσ H Q=>ta σ H λx H1=>onBl x λc=>if c=Bw then tb σ H1 Q else Q (.bl Bx) H1
def Uj(ta:TE):TE:=λσ H Q=>ta σ H λx H1=>onBl x λc=>Q (.bl (!c)) H1
def ky{op}{t:TE}(h:PE X a t):PE X (.BoolOp op [a] pos) t:=λBy s σ H Q I hw=>BoolOp_one (h By s σ H Q I hw)
theorem kH(ha:PE X a ta)(hb:PE X (.BoolOp .And (b::rest) pos) tb):PE X (.BoolOp .And (a::b::rest) pos) (Uh ta tb):=by
 intros Q I h;refine BoolOp_and (thn (ha By s σ H _ I h) λv s1=>el5 λx H1 I1 r1 q1=>?_);obtain⟨c,rfl,q1⟩:=onBl.of q1;cases r1;refine tI ?_
 cases c with
 | true=>exact hb By s1 σ H1 Q I1 q1
 | false=>exact#[.bl Bx,H1,I1,rfl,q1]
def zap(ha:PE X a ta):PE X (.UnaryOp .Not a pos) (Uj ta):=by intros Q I h;refine UnaryOp_ (thn (ha By s σ H _ I h) λv s1=>el5 λx H1 I1 r1 q1=>?_);obtain⟨c,rfl,q1⟩:=onBl.of q1;cases r1;exact not_of (tI #[.bl (!c),H1,I1,rfl,q1])
def tIf(t:TT)(ta tb:TE):TE:=λσ H Q=>t σ H λc H1=>if c=Bw then ta σ H1 Q else tb σ H1 Q
theorem vF{c:tD}(hc:PT X c tA)(ha:PE X a ta)(hb:PE X b tb):PE X (.IfExp c a b pos) (tIf tA ta tb):=by
 intros Q I h;refine wpAny_IfExp (thn (hc By s σ H _ I h) λd s1=>el3 λH1 I1 q1=>?_)
 cases d with
 | true=>exact ha By s1 σ H1 Q I1 q1
 | false=>exact hb By s1 σ H1 Q I1 q1
end
def SqL(K:sV)(H:Hp)(a:sX)(xs:List V):Prop :=
 Rd H a (.lst xs) \/
  ∃(o:tR) (its:Array sY) (n:Nat),K.lookup a=Bu o/\o.cls=.type "list"/\o.dict=Bv/\o.data=.seq its n/\its.size<=sU/\Vals xs its.toList
def SqT(K:sV)(H:Hp)(a:sX)(xs:List V):Prop :=
 Rd H a (.tup xs) \/
  ∃(o:tR) (its:Array sY) (n:Nat),K.lookup a=Bu o/\o.cls=.type "tuple"/\o.data=.seq its n/\its.size<=sU/\Vals xs its.toList
end in def zgX:sY->Option V
 | .none=>Bu .non
 | .bool b=>Bu (.bl b)
 | .int i _=>Bu (.int i)
 | .str x _=>Bu (.str x)
 | .bytes b _=>Bu (.byt b)
 | .float b _=>Bu (.flt b)
 | .ref a=>Bu (.ref a)
 | .type n=>Bu (.ty n)
 | _=>Bv
theorem RelV.abs{x:V}{u:sY}(r:RelV x u):zgX u=Bu x:=by
 cases x with
 | non=>cases r;rfl
 | bl _=>cases r;rfl
 | int _=>obtain⟨t,rfl⟩:=r;rfl
 | str _=>obtain⟨t,rfl⟩:=r;rfl
 | byt _=>obtain⟨t,rfl⟩:=r;rfl
 | flt _=>obtain⟨t,rfl⟩:=r;rfl
 | ref _=>cases r;rfl
 | ty _=>cases r;rfl
def RelV.inj{x y:V}{u:sY}(r:RelV x u)(q:RelV y u):x=y:=Option.some.inj (r.abs.symm.trans q.abs)
theorem Vals.inj{xs ys:List V}{us:List sY}(h:Vals xs us)(h':Vals ys us):xs=ys:=by
 induction h generalizing ys with
 | nil =>
  cases h';rfl
 | cons r t ih =>
  cases h' with
  | cons r' t'=>rw[r.inj r',ih t']
section
variable{X:Cx}{By:List (sX × tR)}{σ:St}{H:Hp}{s:sZ}{a:sX}{xs ys:List V}
def SqL.of{K:sV}(h:H a=Bu (.lst xs)):SqL K H a xs:=.inl (.inl h)
def SqT.of{K:sV}(h:H a=Bu (.tup xs)):SqT K H a xs:=.inl (.inl h)
theorem Inv.list(I:Inv X By σ H s)(h:SqL X.K H a xs):∃its:List sY,Vals xs its/\PlainL s.heap a its.toArray/\xs.length<=sU:=by
 rcases h with h | ⟨o,its,n,hk,hc,hd,hs,hz,r⟩
 ·obtain⟨z,its,n,r,e⟩:=h.ok I.hok;exact#[its,r,#[_,n,e,rfl,rfl,rfl],z]
 ·refine#[its.toList,r,#[o,n,I.kIn a o hk,hc,hd,by simpa using hs],?_];have e:=r.length
  erw[d7]at e
  lia
theorem Inv.tuple(I:Inv X By σ H s)(h:SqT X.K H a xs):∃its:List sY,Vals xs its/\IsTup s.heap a its.toArray/\xs.length<=sU:=by
 rcases h with h | ⟨o,its,n,hk,hc,hs,hz,r⟩
 ·obtain⟨z,its,r,p⟩:=h.ok I.hok;exact#[its,r,p,z]
 ·refine#[its.toList,r,#[o,I.kIn a o hk,hc,n,by simpa using hs],?_];have e:=r.length
  erw[d7]at e
  lia
def Inv.list_inj(I:Inv X By σ H s)(h:SqL X.K H a xs)(h':SqL X.K H a ys):xs=ys:=by
 obtain⟨its,r,⟨o,n,e,_,_,d⟩,_⟩:=I.list h;obtain⟨its',r',⟨o',n',e',_,_,d'⟩,_⟩:=I.list h';rw[e]at e';cases e';rw[d]at d';injection d' with d1 _;have:its=its':=by simpa using congrArg Array.toList d1
 subst this;exact r.inj r'
def Inv.tuple_inj(I:Inv X By σ H s)(h:SqT X.K H a xs)(h':SqT X.K H a ys):xs=ys:=by
 obtain⟨its,r,⟨o,e,_,n,d⟩,_⟩:=I.tuple h;obtain⟨its',r',⟨o',e',_,n',d'⟩,_⟩:=I.tuple h';rw[e]at e';cases e';rw[d]at d';injection d' with d1 _;have:its=its':=by simpa using congrArg Array.toList d1
 subst this;exact r.inj r'
end
end in abbrev Cx.wish(X:Cx)(E:sY->sZ->Prop):Cx:={ X with xe:=E }
end in abbrev Cx.nox(X:Cx):Cx:=X.wish λ_ _=>False
def Cx.Ok.wish{X:Cx}(ok:X.Ok)(E:sY->sZ->Prop):(X.wish E).Ok :=
 #[ok.mod,ok.kind,ok.glob,ok.blt,ok.above,ok.inj,ok.has,ok.cab,ok.hd,ok.frames,ok.stk,ok.exf,ok.bs,ok.bsz,ok.noex,ok.exfs,ok.funs,ok.frf]
def Cx.Ok.unwish{X:Cx}{E:sY->sZ->Prop}(ok:(X.wish E).Ok):X.Ok :=
 #[ok.mod,ok.kind,ok.glob,ok.blt,ok.above,ok.inj,ok.has,ok.cab,ok.hd,ok.frames,ok.stk,ok.exf,ok.bs,ok.bsz,ok.noex,ok.exfs,ok.funs,ok.frf]
section
variable{X:Cx}{By:List (sX × tR)}{σ:St}{H:Hp}{s:sZ}{E:sY->sZ->Prop}
def Inv.wish(I:Inv X By σ H s)(E:sY->sZ->Prop):Inv (X.wish E) By σ H s:=#[I.ok.wish E,I.os,I.bare,I.base,I.loc,I.cell,I.free,I.freeC,I.pin,I.hok,I.len]
def Inv.unwish(I:Inv (X.wish E) By σ H s):Inv X By σ H s:=#[I.ok.unwish,I.os,I.bare,I.base,I.loc,I.cell,I.free,I.freeC,I.pin,I.hok,I.len]
theorem SP.unwish{D:uf}{f:Flow}{s':sZ}(h:SP (X.wish E) By D f s'):SP X By D f s':=by
 cases f with
 | next=>obtain⟨σ',H',I,q⟩:=h;exact#[σ',H',I.unwish,q]
 | brk=>obtain⟨σ',H',I,q⟩:=h;exact#[σ',H',I.unwish,q]
 | cont=>obtain⟨σ',H',I,q⟩:=h;exact#[σ',H',I.unwish,q]
 | ret u=>obtain⟨v,σ',H',I,r,q⟩:=h;exact#[v,σ',H',I.unwish,r,q]
def PSs.nox{st:List tF}{t:TS}(h:PSs X.nox st t):PSs X st t:=λBy s σ H D I hw =>
 Ak (h By s σ H D (I.wish _) hw) (λ_ _ q=>q.unwish) λ_ _ z=>False.elim z
end
section
variable{X:Cx}{st:tF}{rest:List tF}{t u:TS}{e:tD}{te:TE}{pos:Ad}
def KZ:TS:=λD σ H=>D.nx σ H
def ze3(t u:TS):TS:=λD σ H=>t { D with nx:=u D } σ H
def zr:PSs X [] KZ:=λ_ _ σ H _ I h=>Aj #[σ,H,I,h]
theorem zG(h1:PS X st t)(h2:PSs X rest u):PSs X (st::rest) (ze3 t u):=by
 intros D I h;refine Am (thn (h1 By s σ H { D with nx:=u D } I h) λf s1 q=>?_)
 cases f with
 | next =>
  obtain⟨σ',H',I',q⟩:=q;exact h2 By s1 σ' H' D I' q
 | ret v=>exact q
 | brk=>exact q
 | cont=>exact q
theorem zg(h1:PS X st t):PSs X [st] t:=by
 intros D I h;refine Am (thn (h1 By s σ H D I h) λf s1 q=>?_)
 cases f with
 | next=>exact Aj q
 | ret v=>exact q
 | brk=>exact q
 | cont=>exact q
def Inv.quiet{By:List (sX × tR)}{σ:St}{H:Hp}{s:sZ}(I:Inv X By σ H s):interactive X.env=Bx:=by simp [interactive,I.ok.kind]
def Ke(te:TE):TS:=λD σ H=>te σ H λ_ H1=>D.nx σ H1
def vn(he:PE X e te)(hs:swapsWith e Bv pos.line X.env=pure Bx:=by rfl):PS X (.Expr e pos) (Ke te):=by intros D I h;exact wpAny_Expr_any (thn (he By s σ H _ I h) λv s1=>el5 λx H1 I1 r1 q1=>#[σ,H1,I1,q1]) I.quiet hs
def zaQ(te:TE):TS:=λD σ H=>te σ H D.rt
def zl(he:PE X e te):PS X (.Return (Bu e) pos) (zaQ te):=by intros D I h;exact Bb (thn (he By s σ H _ I h) λv s1=>el5 λx H1 I1 r1 q1=>#[x,σ,H1,I1,r1,q1])
def zfb(c:TT)(t u:TS):TS:=λD σ H=>c σ H λb H1=>if b=Bw then t D σ H1 else u D σ H1
theorem zN{c:tD}{a b:List tF}{tc:TT}(hc:PT X c tc)(ha:PSs X a t)(hb:PSs X b u):PS X (.If c a b pos) (zfb tc t u):=by
 intros D I h;refine wpAny_If (thn (hc By s σ H _ I h) λd s1=>el3 λH1 I1 q1=>?_)
 cases d with
 | true=>exact ha By s1 σ H1 D I1 q1
 | false=>exact hb By s1 σ H1 D I1 q1
end
end in abbrev TG:=V->St->Hp->(St->Hp->Prop)->Prop
end in abbrev TGs:=List V->St->Hp->(St->Hp->Prop)->Prop
def PG(X:Cx)(target:tD)(t:TG):Prop :=
 ∀(By:List (sX × tR)) (s:sZ) (σ:St) (H:Hp) (v:V) (u:sY) (Q:St->Hp->Prop),Inv X By σ H s->RelV v u->t v σ H Q ->
  tm (model X.prog X.w) X.A (assign target X.env u) (λ_ s'=>∃σ' H',Inv X By σ' H' s'/\Q σ' H') X.xe s
def PGs(X:Cx)(ts:List tD)(t:TGs):Prop :=
 ∀(By:List (sX × tR)) (s:sZ) (σ:St) (H:Hp) (vs:List V) (us:List sY) (Q:St->Hp->Prop),Inv X By σ H s->Vals vs us->t vs σ H Q ->
  tm (model X.prog X.w) X.A (assignInOrder ((assignEach ts X.env).map (·.2)) us) (λ_ s'=>∃σ' H',Inv X By σ' H' s'/\Q σ' H') X.xe s
end in abbrev zf2:=V->V->V->Hp->(Hp->Prop)->Prop
def zgo(X:Cx)(t:zf2):Prop :=
 ∀(By:List (sX × tR)) (s:sZ) (σ:St) (H:Hp) (o i v:V) (ov iv u:sY) (Q:Hp->Prop),Inv X By σ H s->RelV o ov->RelV i iv->RelV v u->t o i v H Q ->
  tm (model X.prog X.w) X.A (setItem ov iv u) (λ_ s'=>∃H',Inv X By σ H' s'/\Q H') X.xe s
section
variable{X:Cx}{pos:Ad}
def yK(i:Nat):TG:=λv σ H Q=>Q (σ.set i (Bu v)) H
theorem zt{i:Nat}{x:tw}(hN:X.N.Nodup)(hi:X.N[i]? = Bu x)(hx:Loc X.env.scope x)(hf:X.fn x=Bw\/X.env.scope.names.lookup x=Bu .local:=by first | exact .inl rfl | exact .inr rfl | assumption):PG X (.Name x pos) (yK i):=by intros v u Q I r h;exact Ba (ZK I hN hi hx r (λs' I'=>#[_,H,I',h]) hf)
def zcd:TGs:=λvs σ H Q=>vs=[]/\Q σ H
def kg(t:TG)(u:TGs):TGs:=λvs σ H Q=>∃v r,vs=v::r/\t v σ H λσ' H'=>u r σ' H' Q
def xC:PGs X [] zcd:=by intros vs us Q I r h;obtain⟨e,h⟩:=h;subst e;cases r;exact assignInOrder_nil #[σ,H,I,h]
theorem zP{e:tD}{es:List tD}{t:TG}{u:TGs}(h1:PG X e t)(h2:PGs X es u)(hs:(assignEach (e::es) X.env).map (·.2)=assign e X.env::(assignEach es X.env).map (·.2):=by rfl):PGs X (e::es) (kg t u):=by
 intros vs us Q I r h;obtain⟨v,vr,e1,h⟩:=h;subst e1
 cases r with
 | cons r rr =>
  rw[hs];refine assignInOrder_cons (thn (h1 By s σ H _ _ _ I r h) λ_ s1 ⟨σ1,H1,I1,q1⟩=>?_);exact h2 By s1 σ1 H1 _ _ Q I1 rr q1
def zcB(K:sV)(n:Nat)(t:TGs):TG:=λv σ H Q=>∃a xs,v=.ref a/\SqT K H a xs/\xs.length=n/\t xs σ H Q
def vm{es:List tD}{k:Nat}{t:TGs}{n:Nat}(hc:X.calm=Bw)(h:PGs X es t)(hn:(assignEach es X.env).length=n:=by rfl) (hst:(assignEach es X.env).findIdx? (·.1)=Bv:=by rfl):PG X (.Tuple es k pos) (zcB X.K n t):=by intros v u Q I r hw;obtain⟨a,xs,e1,hq,hl,hw⟩:=hw;subst e1;cases r;obtain⟨its,rv,ht,hz⟩:=I.tuple hq;refine assign_Tuple_tuple (I.ok.hd hc) ht (by simp [hn,<- hl,rv.length]) hst λh' hx=>?_;have I1:Inv X By σ H { s with heap:=h' }:=I.kept (t':=s.toks) λb o e=>hx b o (aB (aq e)) e;exact h By _ σ H xs _ Q I1 (by simpa using rv) hw
def zgA(to ti:TE)(t:zf2):TG:=λv σ H Q=>to σ H λo H1=>ti σ H1 λi H2=>t o i v H2 λH3=>Q σ H3
def zdu{o i:tD}{to ti:TE}{t:zf2}(ho:PE X o to)(hi:PE X i ti)(hs:zgo X t)(ha:∀v,assign (.Subscript o i pos) X.env v=(do
   let ov <- holding [v] (eval o X.env)
   let iv <- holding [v,ov] (eval i X.env)
   standAt pos
   holding [v,ov,iv] (setItem ov iv v)
   release [v,ov,iv] []):=by intro _;rfl):PG X (.Subscript o i pos) (zgA to ti t):=by intros v u Q I r h;rw[ha];refine sN (tQ (thn (ho By s σ H _ I h) λov s1=>el5 λx H1 I1 r1 q1=>?_));refine sN (tQ (thn (hi By s1 σ H1 _ I1 q1) λiv s2=>el5 λy H2 I2 r2 q2=>?_));refine sN (Ab (sN (tQ (thn (hs By s2 σ H2 x y v ov iv u _ I2 r1 r2 r q2) λ_ s3=>el3 λH3 I3 q3=>?_))));exact wpAny_release #[σ,H3,I3,q3]
def zc5(te:TE)(g:TG):TS:=λD σ H=>te σ H λx H1=>g x σ H1 D.nx
def zba{tg e:tD}{te:TE}{g:TG}(he:PE X e te)(hg:PG X tg g)(hs:swapsWithSole [tg] e pos.line X.env=pure Bx:=by rfl)(hw:swappedStores [tg] e X.env=pure Bv:=by rfl)(h1:(assignEach [tg] X.env).map (·.2)=[assign tg X.env]:=by rfl):PS X (.Assign [tg] e pos) (zc5 te g):=by intros D I h;refine wpAny_Assign_stores (thn (he By s σ H _ I h) λv s1=>el5 λx H1 I1 r1 q1=>?_) hs hw;rw[h1];exact thn (hg By s1 σ H1 x v _ I1 r1 q1) λ_ s2 q=>q
theorem jF{i:Nat}{x:tw}{e:tD}{te:TE}{pos':Ad}(hN:X.N.Nodup)(hi:X.N[i]? = Bu x)(hx:Loc X.env.scope x)(he:PE X e te)(hs:swapsWith e (Bu (.Name x pos')) pos.line X.env=pure Bx:=by rfl)(hf:X.fn x=Bw\/X.env.scope.names.lookup x=Bu .local:=by first | exact .inl rfl | exact .inr rfl | assumption) :
  PS X (.Assign [.Name x pos'] e pos) (zc5 te (yK i)):=by intros D I h;refine Bc (thn (he By s σ H _ I h) λv s1=>el5 λy H1 I1 r1 q1=>?_) hs;exact ZK I1 hN hi hx r1 (λs2 I2=>#[_,H1,I2,q1]) hf
def WX(c:TT)(tb:TS):TS:=λD σ H=>∃W:Nat->St->Hp->Prop,(∃m,W m σ H)/\∀m σ H,W m σ H ->
 c σ H λb H1=>if b=Bw then ∃N:St->Hp->Prop,(∀σ' H',N σ' H'->∃m',m'<m/\W m' σ' H')/\tb { D with nx:=N,ct:=N,bk:=D.nx } σ H1 else D.nx σ H1
theorem Z6{c:tD}{body:List tF}{tc:TT}{tb:TS}(hp:PassesOwn (model X.prog X.w) X.A X.env X.xe)(hc:PT X c tc)(hb:PSs X body tb):PS X (.While c body [] pos) (WX tc tb):=by
 intros D I h;obtain⟨W,⟨m0,w0⟩,turn⟩:=h;refine wpAny_While (codeAny_whileLoop (λn s'=>∃σ' H',Inv X By σ' H' s'/\W n σ' H') ?_ m0 #[σ,H,I,w0]);rintro n s1 ⟨σ1,H1,I1,w1⟩;refine Aa hp (thn (hc By s1 σ1 H1 _ I1 (turn n σ1 H1 w1)) λb s2=>el3 λH2 I2 q2=>?_)
 cases b with
 | true =>
  obtain⟨N,hN,q2⟩:=q2;rw[y6 rfl];refine Aa hp (thn (hb By s2 σ1 H2 _ I2 q2) λf s3 q3=>?_)
  cases f with
  | next =>
   obtain⟨σ3,H3,I3,n3⟩:=q3;obtain⟨m',hm,w3⟩:=hN σ3 H3 n3;exact#[m',hm,σ3,H3,I3,w3]
  | cont =>
   obtain⟨σ3,H3,I3,n3⟩:=q3;obtain⟨m',hm,w3⟩:=hN σ3 H3 n3;exact#[m',hm,σ3,H3,I3,w3]
  | brk=>exact q3
  | ret v=>exact q3
 | false =>
  rw[y9 aD];exact Aj #[σ1,H2,I2,q2]
end
structure It where
 go:Nat->Hp->Prop
 yld:Nat->Hp->V->Hp->Prop
 stop:Nat->Hp->Prop
def wz(X:Cx)(By:List (sX × tR))(H:Hp)(b:sX):Prop :=
 H b=Bv/\b≠X.env.locals/\b ∉ X.fs/\(b ∈ X.ex\/X.s₀.heap.objs.size<=b)/\(∀x c,X.env.cells.lookup x=Bu c->c≠b)/\∀p ∈ X.pn ++ By,p.1≠b
def Inv.fpOk{X:Cx}{By:List (sX × tR)}{σ:St}{H H':Hp}{s:sZ}{b:sX}(I:Inv X By σ H s)(hb:s⁻¹<=b)(hn:H' b=Bv):wz X By H' b:=by
 refine#[hn,bR (ax I.lt hb),I.nofs hb,.inr (aK I.sz hb),λx c e z=>?_,λp hp z=>?_]
 ·obtain⟨v,q⟩:=I.cell x c e;exact y4 (ax q.lt (by rw[z];exact hb)) (cM _)
 ·exact y4 (ax (aq (I.pin p hp).1) (by rw[z];exact hb)) (cM _)
structure JN(P:tu)(w:tz)(K:sV)(tg:tD)(J:It)(fp:List sX)(it:sX)(tn:Nat->tE->Prop):Prop where
 mem:it ∈ fp
 obj:∀i h,tn i h->∀b ∈ fp,∃o,h.get? b=Bu o/\∀v,o.data≠.cell v
 keep:∀i h h',tn i h->(∀b ∈ fp,∀o,h.get? b=Bu o->h'.get? b=Bu o)->tn i h'
 item:∀(X:Cx),X.prog=P->X.w=w->X.K=K->X.calm=Bw->∀(i:Nat) (By:List (sX × tR)) (s:sZ) (σ:St) (H:Hp) (E:sY->sZ->Prop),Inv X By σ H s->(∀b ∈ fp,wz X By H b)->tn i s.heap->J.go i H ->
  tm (model P w) X.A (pyNext (.ref it)) (λr s1=>∃u,r=Bu u /\
   tm (model P w) X.A (letOwnedTupleGo tg (.ref it) u) (λ_ s2=>∃x H',Inv X By σ H' s2/\RelV x u/\J.yld i H x H'/\tn (i+1) s2.heap/\∀b ∈ fp,H' b=Bv) E s1) E s
 done:∀(X:Cx),X.prog=P->X.w=w->X.K=K->X.calm=Bw->∀(i:Nat) (By:List (sX × tR)) (s:sZ) (σ:St) (H:Hp) (E:sY->sZ->Prop),Inv X By σ H s->(∀b ∈ fp,wz X By H b)->tn i s.heap->J.stop i H ->
  tm (model P w) X.A (pyNext (.ref it)) (λr s1=>r=Bv/\Inv X By σ H s1) E s
 self:∀(A:tB) (i:Nat) (s:sZ) (Q:sY->sZ->Prop) (E:sY->sZ->Prop),tn i s.heap->Q (.ref it) s->tm (model P w) A (pyIter (.ref it)) Q E s
end in abbrev TI:=St->Hp->(It->Hp->Prop)->Prop
def PIE(X:Cx)(By:List (sX × tR))(σ:St)(tg:tD)(R:It->Hp->Prop)(itv:sY)(s2:sZ):Prop :=
 ∃(it:sX) (fp:List sX) (tn:Nat->tE->Prop) (J:It) (H':Hp),itv=.ref it/\Inv X By σ H' s2/\JN X.prog X.w X.K tg J fp it tn/\tn 0 s2.heap/\(∀b ∈ fp,wz X By H' b)/\R J H'
def PI(X:Cx)(tg iter:tD)(wi:TI):Prop :=
 ∀(By:List (sX × tR)) (s:sZ) (σ:St) (H:Hp) (R:It->Hp->Prop),Inv X By σ H s->wi σ H R ->
  tm (model X.prog X.w) X.A (eval iter X.env) (λv s1=>tm (model X.prog X.w) X.A (pyIter v) (PIE X By σ tg R) X.xe s1) X.xe s
def VW{M:Bd}{A:tB}{E:sY->sZ->Prop}{s:sZ}{tg:tD}{it:sX}{u:sY}{o:tR}{n:String}{vs:Array sY}{Q:Unit->sZ->Prop}(ho:s.heap.get? it=Bu o)(hc:o.cls=.type n)(hd:o.data=.fields vs)(hn:["enumerate","zip","dict_itemiterator","dict_reverseitemiterator","odict_iterator","itertools.zip_longest","itertools.pairwise"].contains n=Bx) (hQ:Q Unit.unit s):tm M A (letOwnedTupleGo tg (.ref it) u) Q E s:=by
  unfold letOwnedTupleGo
  cases tg <;> first
    | exact sP hQ
    | (cases u <;> first
        | exact sP hQ
        | (refine sN (wpAny_load ho ?_)
           rw[hc,hd];show tm M A (if (["enumerate","zip","dict_itemiterator","dict_reverseitemiterator","odict_iterator","itertools.zip_longest","itertools.pairwise"].contains n && vs[0]? == Bu (rawInt _))=Bw then _ else _) Q E s;rw[y9 (by intro h;rw[hn,Bool.false_and]at h;cases h)]
           exact sP hQ))
end in def Itl(K:sV)(a:sX):It :=
 #[λi H=>∃xs x,SqL K H a xs/\xs[i]? = Bu x,λi H x H'=>H'=H/\∀xs,SqL K H a xs->xs[i]? = Bu x,λi H=>∃xs,SqL K H a xs/\xs.length<=i]
end in def Itt(K:sV)(a:sX):It :=
 #[λi H=>∃xs x,SqT K H a xs/\xs[i]? = Bu x,λi H x H'=>H'=H/\∀xs,SqT K H a xs->xs[i]? = Bu x,λi H=>∃xs,SqT K H a xs/\xs.length<=i]
end in def Itr(lo:Int)(n:Nat):It:=#[λi _=>i<n,λi H x H'=>H'=H/\x=.int (lo+i),λi _=>n<=i]
theorem Ui{P:tu}{w:tz}{K:sV}{tg:tD}(a it:sX):JN P w K tg (Itl K a) [it] it (λi h=>h.IsListIter it a i) where
 mem:=by simp
 obj:=λi h st b hb=>by
  have e:b=it:=by simpa using hb
  subst e;obtain⟨o,e,c,d⟩:=st;exact#[o,e,λv z=>by rw[d]at z;cases z]
 keep:=λi h h' st k=>st.at λo e=>k it (by simp) o e
 item:=by
  intro X hP hw hK hc i By s σ H E I hf st hg;subst hP hw hK;obtain⟨xs,x,hq,hx⟩:=hg;obtain⟨its,rv,p,hz⟩:=I.list hq;obtain⟨u,hu,ru⟩:=rv.get hx;obtain⟨f0,f1,f2,f3,f4,f5⟩:=hf it (by simp);refine wpAny_pyNext_list_item st p.isList (x:=u) (by simpa using hu) λh' st' sb=>?_;have I1:Inv X By σ H { s with heap:=h' }:=I.turned (t':=s.toks) (λb o hb e=>(sb.2 b hb).trans e) f0 f1 f3 f4 f5;obtain⟨o,e,c,d⟩:=id st';exact#[u,rfl,VW (s:={ s with heap:=h' }) e c d ∅ #[x,H,I1,ru,#[rfl,λys hy=>by rw[I.list_inj hy hq];exact hx],st',λb hb=>(hf b hb).1]]
 done:=by
  intro X hP hw hK hc i By s σ H E I hf st hg;subst hP hw hK;obtain⟨xs,hq,hx⟩:=hg;obtain⟨its,rv,p,hz⟩:=I.list hq;obtain⟨f0,f1,f2,f3,f4,f5⟩:=hf it (by simp);have hl:=rv.length;exact wpAny_pyNext_list_end (I.ok.hd hc) st p.isList (by simp;lia) λh' eb=>#[rfl,I.turned (t':=s.toks) (λb o hb e=>eb b o hb e) f0 f1 f3 f4 f5]
 self:=λ_ _ _ _ _ st h=>wpAny_pyIter_listiter st h
theorem VO{P:tu}{w:tz}{K:sV}{tg:tD}(a it:sX):JN P w K tg (Itt K a) [it] it (λi h=>h.IsTupleIter it a i) where
 mem:=by simp
 obj:=λi h st b hb=>by
  have e:b=it:=by simpa using hb
  subst e;obtain⟨o,e,c,d⟩:=st;exact#[o,e,λv z=>by rw[d]at z;cases z]
 keep:=λi h h' st k=>st.at λo e=>k it (by simp) o e
 item:=by
  intro X hP hw hK hc i By s σ H E I hf st hg;subst hP hw hK;obtain⟨xs,x,hq,hx⟩:=hg;obtain⟨its,rv,p,hz⟩:=I.tuple hq;obtain⟨u,hu,ru⟩:=rv.get hx;obtain⟨f0,f1,f2,f3,f4,f5⟩:=hf it (by simp);refine wpAny_pyNext_tuple_item st (show s.heap.IsTuple a its.toArray from p) (x:=u) (by simpa using hu) λh' st' sb=>?_;have I1:Inv X By σ H { s with heap:=h' }:=I.turned (t':=s.toks) (λb o hb e=>(sb.2 b hb).trans e) f0 f1 f3 f4 f5;obtain⟨o,e,c,d⟩:=id st';exact#[u,rfl,VW (s:={ s with heap:=h' }) e c d ∅ #[x,H,I1,ru,#[rfl,λys hy=>by rw[I.tuple_inj hy hq];exact hx],st',λb hb=>(hf b hb).1]]
 done:=by
  intro X hP hw hK hc i By s σ H E I hf st hg;subst hP hw hK;obtain⟨xs,hq,hx⟩:=hg;obtain⟨its,rv,p,hz⟩:=I.tuple hq;obtain⟨f0,f1,f2,f3,f4,f5⟩:=hf it (by simp);have hl:=rv.length;exact wpAny_pyNext_tuple_end (I.ok.hd hc) st (show s.heap.IsTuple a its.toArray from p) (by simp;lia) λh' eb=>#[rfl,I.turned (t':=s.toks) (λb o hb e=>eb b o hb e) f0 f1 f3 f4 f5]
 self:=λ_ _ _ _ _ st h=>wpAny_pyIter_tupleiter st h
theorem Vu{P:tu}{w:tz}{K:sV}{tg:tD}(it:sX)(lo:Int)(n:Nat):JN P w K tg (Itr lo n) [it] it (λi h=>AS h it (lo+(i:Nat) * 1) ((n:Int) - (i:Nat)) 1) where
 mem:=by simp
 obj:=λi h st b hb=>by
  have e:b=it:=by simpa using hb
  subst e
  exact#[_,st,λv z=>by
   have z':Data.fields _=Data.cell v:=z
   cases z']
 keep:=λi h h' st k=>k it (by simp) _ st
 item:=by
  intro X hP hw hK hc i By s σ H E I hf st hg;subst hP hw hK;obtain⟨f0,f1,f2,f3,f4,f5⟩:=hf it (by simp);have W:=Walks.range (prog:=X.prog) (w:=X.w) (I.ok.hd hc) it lo 1 n;refine W.item i s _ _ hg st λv h' tk hv st' kk=>?_;obtain⟨t,rfl⟩:=hv;have I1:Inv X By σ H { s with heap:=h',toks:=tk }:=I.turned (λb o hb e=>kk b o (by simpa using hb) e) f0 f1 f3 f4 f5;refine#[_,rfl,VW (s:={ s with heap:=h',toks:=tk }) (n:="range_iterator") st' rfl rfl ∅ #[.int (lo+i),H,I1,#[t,?_],#[rfl,rfl],st',λb hb=>(hf b hb).1]];rw[Int.mul_one]
 done:=by
  intro X hP hw hK hc i By s σ H E I hf st hg;subst hP hw hK;obtain⟨f0,f1,f2,f3,f4,f5⟩:=hf it (by simp);exact AH (I.ok.hd hc) st (by have:n<=i:=hg;lia) λh' eb=>#[rfl,I.turned (t':=s.toks) (λb o hb e=>eb b o hb e) f0 f1 f3 f4 f5]
 self:=λ_ _ _ _ _ st h=>AI st h
section
variable{X:Cx}{tg:tD}
def zcn(K:sV)(tl:TE):TI:=λσ H R=>tl σ H λx H1=>∃a,x=.ref a/\(∃xs,SqL K H1 a xs)/\R (Itl K a) H1
def zfV(K:sV)(tl:TE):TI:=λσ H R=>tl σ H λx H1=>∃a,x=.ref a/\(∃xs,SqT K H1 a xs)/\R (Itt K a) H1
def z9{l:tD}{tl:TE}(hl:PE X l tl):PI X tg l (zcn X.K tl):=by
 intros R I h;refine thn (hl By s σ H _ I h) λv s1=>el5 λx H1 I1 r1 q1=>?_;obtain⟨a,e,⟨xs,hq⟩,q⟩:=q1;subst e;cases r1;obtain⟨its,rv,p,hz⟩:=I1.list hq;refine Ap p.isList ?_;refine#[s1⁻¹,[s1⁻¹],_,_,H1,rfl,I1.kept (t':=s1.toks) λb o e=>aa _ e,Ui a _,#[_,ay _ rfl,rfl,rfl],λb hb=>?_,q];have e:b=s1⁻¹:=by simpa using hb
 subst e;exact I1.fpOk (al _) (I1.hok.fresh (al _))
def zeG{l:tD}{tl:TE}(hl:PE X l tl):PI X tg l (zfV X.K tl):=by
 intros R I h;refine thn (hl By s σ H _ I h) λv s1=>el5 λx H1 I1 r1 q1=>?_;obtain⟨a,e,⟨xs,hq⟩,q⟩:=q1;subst e;cases r1;obtain⟨its,rv,p,hz⟩:=I1.tuple hq;refine AA (show s1.heap.IsTuple a its.toArray from p) ?_;refine#[s1⁻¹,[s1⁻¹],_,_,H1,rfl,I1.kept (t':=s1.toks) λb o e=>aa _ e,VO a _,#[_,ay _ rfl,rfl,rfl],λb hb=>?_,q];have e:b=s1⁻¹:=by simpa using hb
 subst e;exact I1.fpOk (al _) (I1.hok.fresh (al _))
theorem WC{By:List (sX × tR)}{σ:St}{H:Hp}{s:sZ}{R:It->Hp->Prop}{E:sY->sZ->Prop}{lo hi:Int}{t u v:Ay}{tk:Nat}(I:Inv X By σ H s)(h1:-(2 ^ 62)<=lo)(h2:lo<2 ^ 62)(h3:-(2 ^ 62)<=hi)(h4:hi<2 ^ 62)(q:R (Itr lo (hi - lo).toNat) H):tm (model X.prog X.w) X.A (pyIter (.ref s⁻¹)) (PIE X By σ tg R) E { s with heap:=s.heap.push { cls:=.type "range",data:=.fields (u9 [.int lo t,.int hi u,.int 1 v]) },toks:=tk }:=by
 refine AY (IsRange.new ..) (small_one h1 h2 h3 h4) ?_;have I1:Inv X By σ H { s with heap:=s.heap.push { cls:=.type "range",data:=.fields (u9 [.int lo t,.int hi u,.int 1 v]) },toks:=tk }:=I.kept λb o e=>aa _ e
 refine#[(s.heap.push { cls:=.type "range",data:=.fields (u9 [.int lo t,.int hi u,.int 1 v]) }).objs.size,[(s.heap.push { cls:=.type "range",data:=.fields (u9 [.int lo t,.int hi u,.int 1 v]) }).objs.size],_,_,H,rfl,
  I1.kept (t':=tk) λb o e=>aa _ e,Vu _ lo (hi - lo).toNat,?_,λb hb=>?_,q]
 ·have e1:lo+((0:Nat):Int) * 1=lo:=by simp
  have e2:(((hi - lo).toNat:Nat):Int) - ((0:Nat):Int)=p9 lo hi 1:=by rw[rangeSize_one];split <;> lia
  show AS _ _ (lo+((0:Nat):Int) * 1) ((((hi - lo).toNat:Nat):Int) - ((0:Nat):Int)) 1;rw[e1,e2];exact ay _ rfl
 ·have e:b=(s.heap.push { cls:=.type "range",data:=.fields (u9 [.int lo t,.int hi u,.int 1 v]) }).objs.size:=by simpa using hb
  subst e;exact I1.fpOk (al _) (I1.hok.fresh (al _))
def zcN(ta:TA):TI:=λσ H R=>ta σ H λvs H1=>∃j:Int,vs=[.int j]/\-(2 ^ 62)<=j/\j<2 ^ 62/\R (Itr 0 j.toNat) H1
def zeg(ta:TA):TI:=λσ H R=>ta σ H λvs H1=>∃i j:Int,vs=[.int i,.int j]/\(-(2 ^ 62)<=i/\i<2 ^ 62/\-(2 ^ 62)<=j/\j<2 ^ 62)/\R (Itr i (j - i).toNat) H1
theorem yB{a:tD}{ta:TA}{p pos:Ad}(hg:Gl X "range")(hm:X.mg "range" = Bv)(ha:PA X [a] ta)(hs:sS [a] X.env=[(Bx,eval a X.env)]:=by rfl):PI X tg (.Call (.Name "range" p) [a] [] pos) (zcN ta):=by
 intros R I h;refine Bs (vq I hg hm boot_range (bw (thn (ha pos By s σ H _ I h) λus s1=>el5 λvs H1 I1 r1 q1=>?_) hs rfl));obtain⟨j,e,q1,q2,q⟩:=q1;subst e
 cases r1 with
 | cons r rr =>
  cases rr;obtain⟨t,rfl⟩:=r;exact call_range_1 (WC I1 ⋯ ⋯ q1 q2 (by simpa using q))
theorem Yz{a b:tD}{ta:TA}{p pos:Ad}(hg:Gl X "range")(hm:X.mg "range" = Bv)(ha:PA X [a,b] ta)(hs:sS [a,b] X.env=[(Bx,eval a X.env),(Bx,eval b X.env)]:=by rfl)(hs2:sS [b] X.env=[(Bx,eval b X.env)]:=by rfl) :
  PI X tg (.Call (.Name "range" p) [a,b] [] pos) (zeg ta):=by
 intros R I h;refine Bs (vq I hg hm boot_range (bw (thn (ha pos By s σ H _ I h) λus s1=>el5 λvs H1 I1 r1 q1=>?_) (by rw[hs,hs2]) (by rw[hs2];rfl)));obtain⟨i,j,e,⟨q1,q2,q3,q4⟩,q⟩:=q1;subst e
 cases r1 with
 | cons r rr =>
  cases rr with
  | cons r' rr =>
   cases rr;obtain⟨t,rfl⟩:=r;obtain⟨t',rfl⟩:=r';exact call_range_2 (WC I1 q1 q2 q3 q4 q)
def Kw(wi:TI)(g:TG)(tb:TS):TS:=λD σ H=>wi σ H λJ H1=>∃W:Nat->Nat->St->Hp->Prop,(∃m,W 0 m σ H1)/\∀i m σ H,W i m σ H ->
 (J.stop i H/\D.nx σ H)\/(J.go i H/\∃N:St->Hp->Prop,(∀σ' H',N σ' H'->∃m',m'<m/\W (i+1) m' σ' H')/\∀x H',J.yld i H x H'->g x σ H' λσ2 H2=>tb { D with nx:=N,ct:=N,bk:=D.nx } σ2 H2)
end in def YR(fp:List sX)(h:tE):List (sX × tR):=fp.filterMap λb=>(h.get? b).map λo=>(b,o)
def vJ{fp:List sX}{h:tE}{b:sX}{o:tR}(hb:b ∈ fp)(e:h.get? b=Bu o):(b,o) ∈ YR fp h:=BW.mpr #[b,hb,by rw[e];rfl]
theorem V7{fp:List sX}{h:tE}{p:sX × tR}(hp:p ∈ YR fp h):p.1 ∈ fp/\h.get? p.1=Bu p.2:=by
 obtain⟨b,hb,e⟩:=BW.mp hp
 cases q:h.get? b with
 | none=>rw[q]at e;cases e
 | some o =>
  rw[q]at e;have e':(b,o)=p:=Option.some.inj e;subst e';exact#[hb,q]
def Inv.pinned{By:List (sX × tR)}{σ:St}{H:Hp}{s:sZ}{fp:List sX}(I:Inv X By σ H s)(hf:∀b ∈ fp,wz X By H b)(ho:∀b ∈ fp,∃o,s.heap.get? b=Bu o/\∀v,o.data≠.cell v):Inv X (By ++ YR fp s.heap) σ H s :=
 I.pins_of λp hp=>(BD.mp hp).elim (λz=>I.pin p (aF _ z)) λz=>by
  obtain⟨hb,e⟩:=V7 z;obtain⟨f0,f1,f2,_⟩:=hf p.1 hb;obtain⟨o,e',d⟩:=ho p.1 hb;rw[e]at e';cases e';exact#[e,f0,f1,f2,d]
def Inv.unpinned{By pl:List (sX × tR)}{σ:St}{H:Hp}{s:sZ}(I:Inv X (By ++ pl) σ H s):Inv X By σ H s:=I.pins_of λp hp=>I.pin p (aF _ (bn _ hp))
def z7{iter:tD}{body:List tF}{wi:TI}{g:TG}{tb:TS}{pos:Ad}(hp:PassesOwn (model X.prog X.w) X.A X.env X.xe)(hc:X.calm=Bw)(hi:PI X tg iter wi)(hg:PG X tg g)(hb:PSs X body tb)(hs:∀x,foldedSetIterable iter X.env x=pure x:=by intro _;rfl):PS X (.For tg iter body [] pos) (Kw wi g tb):=by
 intros D I h;refine wpAny_For (thn (hi By s σ H _ I h) λv s1 h1=>thn h1 λitv s2 h2=>?_) hs;obtain⟨it,fp,tn,J,H2,e,I2,T,st2,f2,W,⟨m0,w0⟩,turn⟩:=h2;subst e;have stat:∀{H':Hp},(∀b ∈ fp,H' b=Bv)->∀b ∈ fp,wz X By H' b:=λhn b hb=>#[hn b hb,(f2 b hb).2];refine codeAny_forLoop_any (λn s'=>∃i σ' H',Inv X By σ' H' s'/\tn i s'.heap/\(∀b ∈ fp,H' b=Bv)/\W i n σ' H') ?_ m0 #[0,σ,H2,I2,st2,λb hb=>(f2 b hb).1,w0];rintro n s3 ⟨i,σ3,H3,I3,st3,fr3,w3⟩;rcases turn i n σ3 H3 w3 with ⟨stop,qn⟩ | ⟨go,N,hN,step⟩
 ·refine Aa hp (thn (T.done X rfl rfl rfl hc i By s3 σ3 H3 X.xe I3 (stat fr3) st3 stop) λr s4 ⟨hr,I4⟩=>?_);subst hr;exact Aj #[σ3,H3,I4,qn]
 ·refine Aa hp (thn (T.item X rfl rfl rfl hc i By s3 σ3 H3 X.xe I3 (stat fr3) st3 go) λr s4 ⟨u,hr,h4⟩=>?_);subst hr;refine Aa hp (thn h4 λ_ s5=>el5 λx H5 I5 r5 q_z=>?_);obtain⟨y5,st5,fr5⟩:=q_z;have I5':=I5.pinned (stat fr5) (T.obj _ _ st5);refine Aa hp (thn (hg _ s5 σ3 H5 x u _ I5' r5 (step x H5 y5)) λ_ s6 ⟨σ6,H6,I6,q6⟩=>?_);refine Aa hp (thn (hb _ s6 σ6 H6 _ I6 q6) λf s7 q7=>?_)
  have again:∀{σ7:St} {H7:Hp},Inv X (By ++ YR fp s5.heap) σ7 H7 s7->N σ7 H7->∃m,m<n/\∃i σ' H',Inv X By σ' H' s7/\tn i s7.heap/\(∀b ∈ fp,H' b=Bv)/\W i m σ' H':=λ{σ7 H7} I7 n7=>by
   obtain⟨m',hm,w7⟩:=hN σ7 H7 n7;refine#[m',hm,i+1,σ7,H7,I7.unpinned,T.keep _ _ _ st5 λb hb o e=>(I7.pin (b,o) (aF _ (aF _ (vJ hb e)))).1,λb hb=>?_,w7];obtain⟨o,e,d⟩:=T.obj _ _ st5 b hb;exact (I7.pin (b,o) (aF _ (aF _ (vJ hb e)))).2.1
  cases f with
  | next=>obtain⟨σ7,H7,I7,n7⟩:=q7;exact again I7 n7
  | cont=>obtain⟨σ7,H7,I7,n7⟩:=q7;exact again I7 n7
  | brk=>obtain⟨σ7,H7,I7,q7⟩:=q7;exact#[σ7,H7,I7.unpinned,q7]
  | ret v=>obtain⟨x7,σ7,H7,I7,r7,q7⟩:=q7;exact#[x7,σ7,H7,I7.unpinned,r7,q7]
end
theorem KO{K:sV}{a:sX}{xs:List V}{g:TG}{tb:TS}{D:uf}{σ:St}{H:Hp}(Pv:Nat->St->Hp->Prop)(h0:Pv 0 σ H)(hl:∀i σ H,i<=xs.length->Pv i σ H->SqL K H a xs)(hs:∀i x σ H,xs[i]? = Bu x->Pv i σ H->g x σ H λσ2 H2=>tb { D with nx:=Pv (i+1),ct:=Pv (i+1),bk:=D.nx } σ2 H2) (hd:∀σ H,Pv xs.length σ H->D.nx σ H) :
  ∃W:Nat->Nat->St->Hp->Prop,(∃m,W 0 m σ H)/\∀i m σ H,W i m σ H ->
   ((Itl K a).stop i H/\D.nx σ H)\/((Itl K a).go i H/\∃N:St->Hp->Prop,(∀σ' H',N σ' H'->∃m',m'<m/\W (i+1) m' σ' H')/\∀x H',(Itl K a).yld i H x H'->g x σ H' λσ2 H2=>tb { D with nx:=N,ct:=N,bk:=D.nx } σ2 H2):=by
 refine#[λi m σ H=>m=xs.length - i/\i<=xs.length/\Pv i σ H,#[xs.length,by simp,aG _,h0],?_];rintro i m σ H ⟨rfl,hi,p⟩;have q:=hl i σ H hi p;by_cases hlt:i<xs.length
 ·refine .inr #[#[xs,xs[i],q,by simp [hlt]],Pv (i+1),λσ' H' p'=>#[xs.length - (i+1),⋯,rfl,hlt,p'],λx H' y=>?_];obtain⟨e,y⟩:=y;subst e;exact hs i x σ _ (y xs q) p
 ·have e:i=xs.length:=⋯;subst e;exact .inl #[#[xs,q,al _],hd σ H p]
theorem Jg{lo:Int}{n:Nat}{g:TG}{tb:TS}{D:uf}{σ:St}{H:Hp}(Pv:Nat->St->Hp->Prop)(h0:Pv 0 σ H)(hs:∀i σ H,i<n->Pv i σ H->g (.int (lo+i)) σ H λσ2 H2=>tb { D with nx:=Pv (i+1),ct:=Pv (i+1),bk:=D.nx } σ2 H2) (hd:∀σ H,Pv n σ H->D.nx σ H) :
  ∃W:Nat->Nat->St->Hp->Prop,(∃m,W 0 m σ H)/\∀i m σ H,W i m σ H ->
   ((Itr lo n).stop i H/\D.nx σ H)\/((Itr lo n).go i H/\∃N:St->Hp->Prop,(∀σ' H',N σ' H'->∃m',m'<m/\W (i+1) m' σ' H')/\∀x H',(Itr lo n).yld i H x H'->g x σ H' λσ2 H2=>tb { D with nx:=N,ct:=N,bk:=D.nx } σ2 H2):=by
 refine#[λi m σ H=>m=n - i/\i<=n/\Pv i σ H,#[n,by simp,aG _,h0],?_];rintro i m σ H ⟨rfl,hi,p⟩;by_cases hlt:i<n
 ·refine .inr #[hlt,Pv (i+1),λσ' H' p'=>#[n - (i+1),⋯,rfl,hlt,p'],λx H' y=>?_];obtain⟨e,y⟩:=y;subst e y;exact hs i σ _ hlt p
 ·have e:i=n:=⋯;subst e;exact .inl #[al _,hd σ H p]
end in abbrev R2:=V->V->Hp->VK->Prop
def OpR(X:Cx)(f:sY->sY->Bl sY)(r:R2):Prop :=
 ∀(By:List (sX × tR)) (s:sZ) (σ:St) (H:Hp) (x y:V) (v u:sY) (Q:VK),Inv X By σ H s->RelV x v->RelV y u->r x y H Q ->
  tm (model X.prog X.w) X.A (f v u) (EP X By σ Q) X.xe s
def UnR(X:Cx)(f:sY->Bl sY)(r:V->Hp->VK->Prop):Prop :=
 ∀(By:List (sX × tR)) (s:sZ) (σ:St) (H:Hp) (x:V) (v:sY) (Q:VK),Inv X By σ H s->RelV x v->r x H Q ->
  tm (model X.prog X.w) X.A (f v) (EP X By σ Q) X.xe s
def wK(X:Cx)(f:sY)(r:List V->Hp->VK->Prop):Prop :=
 ∀(By:List (sX × tR)) (s:sZ) (σ:St) (H:Hp) (xs:List V) (us:List sY) (Q:VK),Inv X By σ H s->Vals xs us->r xs H Q ->
  tm (model X.prog X.w) X.A (call f us) (EP X By σ Q) X.xe s
def zg0(X:Cx)(r:V->Hp->(Bool->Hp->Prop)->Prop):Prop :=
 ∀(By:List (sX × tR)) (s:sZ) (σ:St) (H:Hp) (x:V) (v:sY) (Q:Bool->Hp->Prop),Inv X By σ H s->RelV x v->r x H Q ->
  tm (model X.prog X.w) X.A (truthy v) (TP X By σ Q) X.xe s
def tOp(r:R2)(ta tb:TE):TE:=λσ H Q=>ta σ H λx H1=>tb σ H1 λy H2=>r x y H2 Q
def tUn(r:V->Hp->VK->Prop)(ta:TE):TE:=λσ H Q=>ta σ H λx H1=>r x H1 Q
def rI(C:Int->Int->Prop)(g:Int->Int->V):R2:=λx y H Q=>onInt x λi=>onInt y λj=>C i j/\Q (g i j) H
def rI0(g:Int->Int->V):R2:=λx y H Q=>onInt x λi=>onInt y λj=>Q (g i j) H
def rU(g:Int->V):V->Hp->VK->Prop:=λx H Q=>onInt x λi=>Q (g i) H
section
variable{X:Cx}{a b c:tD}{ta tb tc:TE}{pos:Ad}
def zfA(ha:PE X a ta)(hb:PE X b tb){By:List (sX × tR)}{s:sZ}{σ:St}{H:Hp}{R:V->V->Hp->Prop}(I:Inv X By σ H s)(h:ta σ H λx H1=>tb σ H1 λy H2=>R x y H2) {Q:sY->sZ->Prop} {f:sY->sY->Bl sY}(hf:∀v u s2 x y H2,Inv X By σ H2 s2->RelV x v->RelV y u->R x y H2->tm (model X.prog X.w) X.A (f v u) Q X.xe s2) :
  tm (model X.prog X.w) X.A (eval a X.env) (λv s₁=>tm (model X.prog X.w) X.A (eval b X.env) (λu s₂=>tm (model X.prog X.w) X.A (f v u) Q X.xe s₂) X.xe s₁) X.xe s:=by refine thn (ha By s σ H _ I h) λv s1=>el5 λx H1 I1 r1 q1=>?_;refine thn (hb By s1 σ H1 _ I1 q1) λu s2=>el5 λy H2 I2 r2 q2=>?_;exact hf v u s2 x y H2 I2 r1 r2 q2
def zD{op:Operator}{r:R2}(ho:OpR X (binaryOp op) r)(ha:PE X a ta)(hb:PE X b tb):PE X (.BinOp a op b pos) (tOp r ta tb):=by intros Q I h;exact wpAny_BinOp (zfA ha hb I h λv u s2 x y H2 I2 rx ry q=>ho By s2 σ H2 x y v u Q I2 rx ry q)
def zfr{op:UnaryOp}{r:V->Hp->VK->Prop}(ho:UnR X (unaryOp op) r)(ha:PE X a ta):PE X (.UnaryOp op a pos) (tUn r ta):=by intros Q I h;exact UnaryOp_ (thn (ha By s σ H _ I h) λv s1=>el5 λx H1 I1 r1 q1=>ho By s1 σ H1 x v Q I1 r1 q1)
def opI{f:sY->sY->Bl sY}{C:Int->Int->Prop}{g:Int->Int->Int}(rule:∀(i j:Int) (t u:Ay) (s:sZ) (Q:sY->sZ->Prop) (E:sY->sZ->Prop),C i j->Q (.int (g i j) s.toks) { s with toks:=s.toks+1 }->tm (model X.prog X.w) X.A (f (.int i t) (.int j u)) Q E s) :
  OpR X f (rI C λi j=>.int (g i j)):=by intros x y v u Q I rx ry h;obtain⟨i,rfl,h2⟩:=onInt.of h;obtain⟨j,rfl,hc,q⟩:=onInt.of h2;obtain⟨t,rfl⟩:=rx;obtain⟨t',rfl⟩:=ry;exact rule i j t t' s _ _ hc #[.int (g i j),H,I.tok _,#[_,rfl],q]
def zgC{f:sY->sY->Bl sY}{g:Int->Int->Int}(rule:∀(i j:Int) (t u:Ay) (s:sZ) (Q:sY->sZ->Prop) (E:sY->sZ->Prop),Q (.int (g i j) s.toks) { s with toks:=s.toks+1 }->tm (model X.prog X.w) X.A (f (.int i t) (.int j u)) Q E s) :
  OpR X f (rI0 λi j=>.int (g i j)):=by intros x y v u Q I rx ry h;obtain⟨i,rfl,h2⟩:=onInt.of h;obtain⟨j,rfl,q⟩:=onInt.of h2;obtain⟨t,rfl⟩:=rx;obtain⟨t',rfl⟩:=ry;exact rule i j t t' s _ _ #[.int (g i j),H,I.tok _,#[_,rfl],q]
def ze9{f:sY->sY->Bl sY}{g:Int->Int->Bool}(rule:∀(i j:Int) (t u:Ay) (s:sZ) (Q:sY->sZ->Prop) (E:sY->sZ->Prop),Q (.bool (g i j)) s->tm (model X.prog X.w) X.A (f (.int i t) (.int j u)) Q E s) :
  OpR X f (rI0 λi j=>.bl (g i j)):=by intros x y v u Q I rx ry h;obtain⟨i,rfl,h2⟩:=onInt.of h;obtain⟨j,rfl,q⟩:=onInt.of h2;obtain⟨t,rfl⟩:=rx;obtain⟨t',rfl⟩:=ry;exact rule i j t t' s _ _ #[.bl (g i j),H,I,rfl,q]
def zgO(i j:Int):Prop:=0<j/\j<1073741824
def CMul(i j:Int):Prop:=(-(2 ^ 64)<i/\i<2 ^ 64)\/(-(2 ^ 64)<j/\j<2 ^ 64)
def CMul.ok{i j:Int}(h:CMul i j):IntMulOk i j:=by
 rcases h with ⟨h1,h2⟩ | ⟨h1,h2⟩
 ·exact .of_left (intBits_le_64 h1 h2)
 ·exact .of_right (intBits_le_64 h1 h2)
def yn:OpR X (binaryOp .Add) (rI0 λi j=>.int (i+j)):=zgC λ_ _ _ _ _ _ _ q=>add_int q
def ut:OpR X (binaryOp .Sub) (rI0 λi j=>.int (i - j)):=zgC λ_ _ _ _ _ _ _ q=>sub_int q
def kO:OpR X (binaryOp .Mult) (rI CMul λi j=>.int (i * j)):=opI λ_ _ _ _ _ _ _ hc q=>mul_int q hc.ok
theorem xE:OpR X (binaryOp .FloorDiv) (rI zgO λi j=>.int (i / j)):=opI λi j _ _ _ _ _ hc q=>by
 have h1:(0:Int)<j:=hc.1;have h2:j<1073741824:=hc.2;exact floordiv_int ⋯ (by rw[Int.fdiv_eq_ediv_of_nonneg i ⋯];exact q) (.inl (PyProof.noPylong_small ⋯))
theorem xO:OpR X (binaryOp .Mod) (rI (λ_ j=>0<j) λi j=>.int (i % j)):=opI λi j _ _ _ _ _ hc q=>by
 have h1:(0:Int)<j:=hc;exact mod_int' ⋯ (by rw[Int.fmod_eq_emod_of_nonneg i ⋯];exact q)
def unI{f:sY->Bl sY}{g:Int->Int}(rule:∀(i:Int) (t:Ay) (s:sZ) (Q:sY->sZ->Prop) (E:sY->sZ->Prop),Q (.int (g i) s.toks) { s with toks:=s.toks+1 }->tm (model X.prog X.w) X.A (f (.int i t)) Q E s) :
  UnR X f (rU λi=>.int (g i)):=by intros x v Q I rx h;obtain⟨i,rfl,q⟩:=onInt.of h;obtain⟨t,rfl⟩:=rx;exact rule i t s _ _ #[.int (g i),H,I.tok _,#[_,rfl],q]
def zdX:UnR X (unaryOp .USub) (rU λi=>.int (-i)):=unI λ_ _ _ _ _ q=>neg_int q
end
end in def JL:V->V->Bool
 | .non,.non=>Bw | .non,.int _=>Bw | .int _,.non=>Bw | .non,.bl _=>Bw | .bl _,.non=>Bw | .non,.str _=>Bw | .str _,.non=>Bw
 | .int _,.int _=>Bw | .bl _,.bl _=>Bw | .str _,.str _=>Bw | .byt _,.byt _=>Bw
 | .int _,.str _=>Bw | .str _,.int _=>Bw | .bl _,.str _=>Bw | .str _,.bl _=>Bw
 | _,_=>Bx
def rEq:R2:=λx y H Q=>match x,y with | .int a,.int b=>Q (.bl (decide (a=b))) H | .str a,.str b=>Q (.bl (decide (a=b))) H | x,y=>JL x y=Bw/\Q (.bl (decide (x=y))) H
def rEq_is{x y:V}{H:Hp}{Q:VK}:rEq x y H Q=(JL x y=Bw/\Q (.bl (decide (x=y))) H):=by cases x <;> cases y <;> first | rfl | (show Q _ H=(Bw=Bw/\Q _ H);rw[eq_self,true_and];congr 2;exact decide_eq_decide.mpr #[λh=>by rw[h],λh=>by cases h;rfl])
def rNe:R2:=λx y H Q=>match x,y with | .int a,.int b=>Q (.bl (!decide (a=b))) H | .str a,.str b=>Q (.bl (!decide (a=b))) H | x,y=>JL x y=Bw/\Q (.bl (!decide (x=y))) H
def rNe_is{x y:V}{H:Hp}{Q:VK}:rNe x y H Q=(JL x y=Bw/\Q (.bl (!decide (x=y))) H):=by cases x <;> cases y <;> first | rfl | (show Q _ H=(Bw=Bw/\Q _ H);rw[eq_self,true_and];congr 2;congr 1;exact decide_eq_decide.mpr #[λh=>by rw[h],λh=>by cases h;rfl])
def QP{i j:Int}:decide (V.int i=V.int j)=(i == j):=by rw[di];simp
def zan{i j:Bool}:decide (V.bl i=V.bl j)=(i == j):=by rw[di];simp
def UT{i j:tw}:decide (V.str i=V.str j)=(i == j):=by rw[di];simp
def Jw{i j:Array UInt8}:decide (V.byt i=V.byt j)=(i.toList == j.toList):=by rw[di];cases i;cases j;simp
section
variable{X:Cx}{a b c:tD}{ta tb tc:TE}{pos:Ad}
def zX{By:List (sX × tR)}{σ:St}{H:Hp}{s:sZ}{Q:VK}{k k':Bool}(I:Inv X By σ H s)(q:Q (.bl k) H)(e:k=k'):EP X By σ Q (.bool k') s:=by subst e;exact#[.bl k,H,I,rfl,q]
theorem wF:OpR X (tG .Eq) rEq:=by
 intros x y v u Q I rx ry h;obtain⟨hs,q⟩:=rEq_is.mp h
 cases x with
 | non =>
  cases rx
  cases y with
  | non=>cases ry;exact PySem.EqNone.eq_none_none (zX I q (by simp))
  | bl j=>cases ry;exact PySem.EqNone.eq_none_bool (zX I q (by simp))
  | int j=>obtain⟨t',rfl⟩:=ry;exact PySem.EqNone.eq_none_int (zX I q (by simp))
  | str j=>obtain⟨t',rfl⟩:=ry;exact PySem.EqNone.eq_none_str (zX I q (by simp))
  | _=>exact y4 (show Bx=Bw from hs) aD
 | bl i =>
  cases rx
  cases y with
  | non=>cases ry;exact PySem.EqNone.eq_bool_none (zX I q (by simp))
  | bl j=>cases ry;exact eq_bool (zX I q zan)
  | str j=>obtain⟨t',rfl⟩:=ry;exact PySem.EqMixed.eq_bool_str (zX I q (by simp))
  | _=>exact y4 (show Bx=Bw from hs) aD
 | int i =>
  obtain⟨t,rfl⟩:=rx
  cases y with
  | non=>cases ry;exact PySem.EqNone.eq_int_none (zX I q (by simp))
  | int j=>obtain⟨t',rfl⟩:=ry;exact eq_int (zX I q QP)
  | str j=>obtain⟨t',rfl⟩:=ry;exact PySem.EqMixed.eq_int_str (zX I q (by simp))
  | _=>exact y4 (show Bx=Bw from hs) aD
 | str i =>
  obtain⟨t,rfl⟩:=rx
  cases y with
  | non=>cases ry;exact PySem.EqNone.eq_str_none (zX I q (by simp))
  | bl j=>cases ry;exact PySem.EqMixed.eq_str_bool (zX I q (by simp))
  | int j=>obtain⟨t',rfl⟩:=ry;exact PySem.EqMixed.eq_str_int (zX I q (by simp))
  | str j=>obtain⟨t',rfl⟩:=ry;exact eq_str (zX I q UT)
  | _=>exact y4 (show Bx=Bw from hs) aD
 | byt i =>
  obtain⟨t,rfl⟩:=rx
  cases y with
  | byt j=>obtain⟨t',rfl⟩:=ry;exact PySem.W.eq_bytes (zX I q Jw)
  | _=>exact y4 (show Bx=Bw from hs) aD
 | _=>cases y <;> exact y4 (show Bx=Bw from hs) aD
theorem uE:OpR X (tG .NotEq) rNe:=by
 intros x y v u Q I rx ry h;obtain⟨hs,q⟩:=rNe_is.mp h
 cases x with
 | non =>
  cases rx
  cases y with
  | non=>cases ry;exact PySem.EqNone.ne_none_none (zX I q (by simp))
  | bl j=>cases ry;exact PySem.EqNone.ne_none_bool (zX I q (by simp))
  | int j=>obtain⟨t',rfl⟩:=ry;exact PySem.EqNone.ne_none_int (zX I q (by simp))
  | str j=>obtain⟨t',rfl⟩:=ry;exact PySem.EqNone.ne_none_str (zX I q (by simp))
  | _=>exact y4 (show Bx=Bw from hs) aD
 | bl i =>
  cases rx
  cases y with
  | non=>cases ry;exact PySem.EqNone.ne_bool_none (zX I q (by simp))
  | bl j=>cases ry;exact ne_bool (zX I q (congrArg not zan))
  | str j=>obtain⟨t',rfl⟩:=ry;exact PySem.EqMixed.ne_bool_str (zX I q (by simp))
  | _=>exact y4 (show Bx=Bw from hs) aD
 | int i =>
  obtain⟨t,rfl⟩:=rx
  cases y with
  | non=>cases ry;exact PySem.EqNone.ne_int_none (zX I q (by simp))
  | int j=>obtain⟨t',rfl⟩:=ry;exact ne_int (zX I q (congrArg not QP))
  | str j=>obtain⟨t',rfl⟩:=ry;exact PySem.EqMixed.ne_int_str (zX I q (by simp))
  | _=>exact y4 (show Bx=Bw from hs) aD
 | str i =>
  obtain⟨t,rfl⟩:=rx
  cases y with
  | non=>cases ry;exact PySem.EqNone.ne_str_none (zX I q (by simp))
  | bl j=>cases ry;exact PySem.EqMixed.ne_str_bool (zX I q (by simp))
  | int j=>obtain⟨t',rfl⟩:=ry;exact PySem.EqMixed.ne_str_int (zX I q (by simp))
  | str j=>obtain⟨t',rfl⟩:=ry;exact ne_str (zX I q (congrArg not UT))
  | _=>exact y4 (show Bx=Bw from hs) aD
 | byt i =>
  obtain⟨t,rfl⟩:=rx
  cases y with
  | byt j=>obtain⟨t',rfl⟩:=ry;exact PySem.W.ne_bytes (zX I q (congrArg not Jw))
  | _=>exact y4 (show Bx=Bw from hs) aD
 | _=>cases y <;> exact y4 (show Bx=Bw from hs) aD
def VH:OpR X (tG .Lt) (rI0 λi j=>.bl (decide (i<j))):=ze9 λ_ _ _ _ _ _ _ q=>lt_int q
def zgd:OpR X (tG .LtE) (rI0 λi j=>.bl (decide (i<=j))):=ze9 λ_ _ _ _ _ _ _ q=>le_int q
def VT:OpR X (tG .Gt) (rI0 λi j=>.bl (decide (j<i))):=ze9 λ_ _ _ _ _ _ _ q=>gt_int q
def zfN:OpR X (tG .GtE) (rI0 λi j=>.bl (decide (j<=i))):=ze9 λ_ _ _ _ _ _ _ q=>ge_int q
def Qz:OpR X (tG .Lt) (λx y H Q=>∃i j,x=.str i/\y=.str j/\Q (.bl (decide (i.cps.toList<j.cps.toList))) H):=by intros x y v u Q I rx ry h;obtain⟨i,j,rfl,rfl,q⟩:=h;obtain⟨t,rfl⟩:=rx;obtain⟨t',rfl⟩:=ry;exact lt_str (zX I q rfl)
def zeL:OpR X (tG .Is) (λx y H Q=>y=.non/\Q (.bl (decide (x=.non))) H):=by
 intros x y v u Q I rx ry h;obtain⟨rfl,q⟩:=h;cases ry;refine is_none_gen (zX I q ?_)
 cases x <;> first
  | (cases rx;rfl)
  | (obtain⟨t,rfl⟩:=rx;rfl)
def zct:OpR X (tG .IsNot) (λx y H Q=>y=.non/\Q (.bl (!decide (x=.non))) H):=by
 intros x y v u Q I rx ry h;obtain⟨rfl,q⟩:=h;cases ry;refine isnot_none_gen (zX I q ?_)
 cases x <;> first
  | (cases rx;rfl)
  | (obtain⟨t,rfl⟩:=rx;rfl)
def YW:OpR X (tG .NotIn) (λx y H Q=>∃i j,x=.str i/\y=.str j/\Q (.bl (!(!(Builtin.Str.occurrences j i 0 j.length 1).isEmpty))) H):=by intros x y v u Q I rx ry h;obtain⟨i,j,rfl,rfl,q⟩:=h;obtain⟨t,rfl⟩:=rx;obtain⟨t',rfl⟩:=ry;exact notIn_str (zX I q rfl)
def zA(b:tD){op:As}(h:op≠.In:=by decide)(h2:op≠.NotIn:=by decide):behindInMarks op b=Bx:=by
 have e1:(op == CmpOp.In)=Bx:=by cases op <;> first | rfl | exact y4 rfl h
 have e2:(op == CmpOp.NotIn)=Bx:=by cases op <;> first | rfl | exact y4 rfl h2
 cases b <;> simp [behindInMarks,e1,e2]
def yI{op:As}{r:R2}(ho:OpR X (tG op) r)(ha:PE X a ta)(hb:PE X b tb)(hm:behindInMarks op b=Bx):PE X (.Compare a [op] [b] pos) (tOp r ta tb):=by intros Q I h;exact wpAny_Compare1 (zfA ha hb I h λv u s2 x y H2 I2 rx ry q=>ho By s2 σ H2 x y v u Q I2 rx ry q) hm
def Qi(t:TE):TT:=λσ H Q=>t σ H λx H'=>onBl x λk=>Q k H'
def zy{op:As}{r:R2}(ho:OpR X (tG op) r)(ha:PE X a ta)(hb:PE X b tb)(hm:behindInMarks op b=Bx):PT X (.Compare a [op] [b] pos) (Qi (tOp r ta tb)):=by
 intros Q I h
 refine wpAny_isTrue_Compare1 (thn (ha By s σ H _ I h) λv s1=>el5 λx H1 I1 r1 q1=>thn (hb By s1 σ H1 _ I1 q1) λu s2=>el5 λy H2 I2 r2 q2 =>
  thn (ho By s2 σ H2 x y v u _ I2 r1 r2 q2) λc s3=>el5 λz H3 I3 r3 q3=>?_) hm
 obtain⟨k,rfl,q3⟩:=onBl.of q3;cases r3;exact tI #[H3,I3,q3]
def kP(r r':R2)(ta tb tc:TE):TE:=λσ H Q=>ta σ H λx H1=>tb σ H1 λy H2=>r x y H2 λz H3=>onBl z λk =>
 (if k=Bw then tc σ H3 λw' H4=>r' y w' H4 Q else Q (.bl Bx) H3)
theorem Wt{op op':As}{r r':R2}(ho:OpR X (tG op) r)(ho':OpR X (tG op') r')(ha:PE X a ta)(hb:PE X b tb)(hc:PE X c tc)(hm:lastMarks [op,op'] [b,c]=Bx:=by with_unfolding_all rfl):PE X (.Compare a [op,op'] [b,c] pos) (kP r r' ta tb tc):=by
 intros Q I h
 refine Compare_chain (thn (ha By s σ H _ I h) λv s1=>el5 λx H1 I1 r1 q1=>chain_link (thn (hb By s1 σ H1 _ I1 q1) λu s2=>el5 λy H2 I2 r2 q2 =>
  thn (ho By s2 σ H2 x y v u _ I2 r1 r2 q2) λd s3=>el5 λz H3 I3 r3 q3=>?_)) hm
 obtain⟨k,rfl,q3⟩:=onBl.of q3;cases r3;refine tI ?_
 cases k with
 | false=>exact ite_ff #[.bl Bx,H3,I3,rfl,q3]
 | true=>exact ite_tt (chain_last (thn (hc By s3 σ H3 _ I3 q3) λw' s4=>el5 λz' H4 I4 r4 q4=>ho' By s4 σ H4 y z' u w' Q I4 r2 r4 q4))
theorem uB{op op':As}{r r':R2}(ho:OpR X (tG op) r)(ho':OpR X (tG op') r')(ha:PE X a ta)(hb:PE X b tb)(hc:PE X c tc)(hm:lastMarks [op,op'] [b,c]=Bx:=by with_unfolding_all rfl):PT X (.Compare a [op,op'] [b,c] pos) (Qi (kP r r' ta tb tc)):=by
 intros Q I h
 refine isTrue_chain (thn (ha By s σ H _ I h) λv s1=>el5 λx H1 I1 r1 q1=>test_link (thn (hb By s1 σ H1 _ I1 q1) λu s2=>el5 λy H2 I2 r2 q2 =>
  thn (ho By s2 σ H2 x y v u _ I2 r1 r2 q2) λd s3=>el5 λz H3 I3 r3 q3=>?_)) hm
 obtain⟨k,rfl,q3⟩:=onBl.of q3;cases r3;refine tI ?_
 cases k with
 | false =>
  exact ite_ff #[H3,I3,q3]
 | true =>
  refine ite_tt (test_last (thn (hc By s3 σ H3 _ I3 q3) λw' s4=>el5 λz' H4 I4 r4 q4=>thn (ho' By s4 σ H4 y z' u w' _ I4 r2 r4 q4) λd' s5=>el5 λz2 H5 I5 r5 q5=>?_));obtain⟨k2,rfl,q5⟩:=onBl.of q5;cases r5;exact tI #[H5,I5,q5]
def zdJ(K:sV)(x:V)(H:Hp)(k:Bool):Prop :=
 match x with
 | .non=>k=Bx
 | .bl b=>k=b
 | .int i=>k=(i != 0)
 | .str y=>y.length<=sU/\k=((y.length:Int) != 0)
 | .byt y=>y.size<=sU/\k=((y.size:Int) != 0)
 | .ref p=>(∃xs,SqL K H p xs/\k=!xs.isEmpty)\/(∃xs,SqT K H p xs/\k=!xs.isEmpty)\/∃kvs,H p=Bu (.dK kvs)/\k=!kvs.isEmpty
 | _=>False
def Vw{κ:Type}{kvs:List (κ × V)}{vs:List (κ × sY)}(r:KV kvs vs):(!vs.isEmpty)=!kvs.isEmpty:=by cases r <;> rfl
def kJ{xs:List V}{its:List sY}(r:Vals xs its):(!its.toArray.isEmpty)=!xs.isEmpty:=by cases r <;> simp
def Y4:(sU:Nat)<2 ^ 63:=by rw[tP];decide
theorem za6:zg0 X (λx H Q=>∃k,zdJ X.K x H k/\Q k H):=by
 intros x v Q I rx h;obtain⟨k,e,q⟩:=h;have hl:=Y4;have hs:sU=16777216:=tP
 cases x with
 | non =>
  cases rx;have e':k=Bx:=e;subst e';exact truthy_none #[H,I,q]
 | bl b =>
  cases rx;have e':k=b:=e;subst e';exact tI #[H,I,q]
 | int i =>
  obtain⟨t,rfl⟩:=rx;have e':k=(i != 0):=e;subst e';exact PySem.P.truthy_int #[H,I,q]
 | str y =>
  obtain⟨t,rfl⟩:=rx;obtain⟨hy,e'⟩:y.length<=sU/\k=((y.length:Int) != 0):=e;subst e';exact PySem.P.truthy_str ⋯ #[H,I.tok _,q]
 | byt y =>
  obtain⟨t,rfl⟩:=rx;obtain⟨hy,e'⟩:y.size<=sU/\k=((y.size:Int) != 0):=e;subst e';exact PySem.W.truthy_bytes ⋯ #[H,I.tok _,q]
 | ref p =>
  cases rx;have e':(∃xs,SqL X.K H p xs/\k=!xs.isEmpty)\/(∃xs,SqT X.K H p xs/\k=!xs.isEmpty)\/∃kvs,H p=Bu (.dK kvs)/\k=!kvs.isEmpty:=e;rcases e' with ⟨xs,hx,e'⟩ | ⟨xs,hx,e'⟩ | ⟨kvs,hx,e'⟩
  ·subst e';obtain⟨its,r,pl,hz⟩:=I.list hx;have hlen:=r.length;exact wpAny_truthy_list pl.isList (by erw[ak];lia) #[H,I.tok _,by rw[kJ r];exact q]
  ·subst e';obtain⟨its,r,pl,hz⟩:=I.tuple hx;have hlen:=r.length;exact truthy_tuple pl (by erw[ak];lia) #[H,I.tok _,by rw[kJ r];exact q]
  ·subst e';obtain⟨hz,hS,vs,r,m⟩:kvs.length<=sU/\(p == sysModules)=Bx/\∃vs,KV kvs vs/\s.heap.DictOf (Xc X.prog X.w) p vs:=I.hok p _ hx;have hlen:kvs.length=vs.length:=Paired.length r;exact wpAny_truthy_dict hS m ⋯ #[H,I.tok _,by rw[Vw r];exact q]
 | _=>exact (show False from e).elim
def WB(ha:PE X a ta)(he:∀whole,isTrue a X.env whole=(do let v <- whole;standAt a.pos;holding [v] (truthy v))) :
  PT X a (λσ H Q=>ta σ H λx H'=>∃k,zdJ X.K x H' k/\Q k H'):=by intros Q I h;exact isTrue_plain (thn (ha By s σ H _ I h) λv s1=>el5 λx H1 I1 r1 q1=>za6 By s1 σ H1 x v Q I1 r1 q1) (he _)
def zQ:OpR X (binaryOp .Add) (λx y H Q=>∃i j,x=.str i/\y=.str j/\i.length+j.length<=sU/\Q (.str (i ++ j)) H):=by intros x y v u Q I rx ry h;obtain⟨i,j,rfl,rfl,hz,q⟩:=h;obtain⟨t,rfl⟩:=rx;obtain⟨t',rfl⟩:=ry;exact add_str (λt' tk=>#[.str (i ++ j),H,I.tok _,#[_,rfl],q]) hz
theorem wx{x:V}{us:List sY}(r:Vals [x] us):∃u,us=[u]/\RelV x u:=by
 cases r with
 | cons r1 r2=>cases r2;exact#[_,rfl,r1]
theorem X6{x y:V}{us:List sY}(r:Vals [x,y] us):∃u w',us=[u,w']/\RelV x u/\RelV y w':=by
 cases r with
 | cons r1 r2 =>
  cases r2 with
  | cons r3 r4=>cases r4;exact#[_,_,rfl,r1,r3]
def JI(hc:X.calm=Bw):wK X (.builtin "max") (λxs H Q=>∃i j,xs=[.int i,.int j]/\Q (.int (if j > i then j else i)) H):=by
 intros xs us Q I r h;obtain⟨i,j,rfl,q⟩:=h;obtain⟨u,w',rfl,⟨t,rfl⟩,⟨t',rfl⟩⟩:=X6 r;refine max_two_ints (I.ok.hd hc) λh' tk k=>#[_,H,I.kept k,?_,q];by_cases hj:j > i
 ·rw[y6 hj,y6 hj];exact#[_,rfl]
 ·rw[y9 hj,y9 hj];exact#[_,rfl]
def JG(hc:X.calm=Bw):wK X (.builtin "min") (λxs H Q=>∃i j,xs=[.int i,.int j]/\Q (.int (if j<i then j else i)) H):=by
 intros xs us Q I r h;obtain⟨i,j,rfl,q⟩:=h;obtain⟨u,w',rfl,⟨t,rfl⟩,⟨t',rfl⟩⟩:=X6 r;refine min_two_ints (I.ok.hd hc) λh' tk k=>#[_,H,I.kept k,?_,q];by_cases hj:j<i
 ·rw[y6 hj,y6 hj];exact#[_,rfl]
 ·rw[y9 hj,y9 hj];exact#[_,rfl]
def UY:wK X (.type "int") (λxs H Q=>(∃i,xs=[.int i]/\Q (.int i) H)\/∃k,xs=[.bl k]/\Q (.int (if k then 1 else 0)) H):=by
 intros xs us Q I r h;rcases h with ⟨i,rfl,q⟩ | ⟨k,rfl,q⟩
 ·obtain⟨u,rfl,t,rfl⟩:=wx r;exact call_int_int #[.int i,H,I,#[_,rfl],q]
 ·obtain⟨u,rfl,r1⟩:=wx r;cases r1;exact call_int_bool #[.int (if k then 1 else 0),H,I.tok _,#[_,rfl],q]
def zd1(K:sV)(x:V)(H:Hp)(n:Nat):Prop :=
 match x with
 | .str y=>y.length<=sU/\n=y.length
 | .byt y=>y.size<=sU/\n=y.size
 | .ref p=>(∃xs,SqL K H p xs/\n=xs.length)\/∃xs,SqT K H p xs/\n=xs.length
 | _=>False
theorem JU:wK X (.builtin "len") (λxs H Q=>∃x n,xs=[x]/\zd1 X.K x H n/\Q (.int n) H):=by
 intros xs us Q I r h;obtain⟨x,n,rfl,e,q⟩:=h;obtain⟨u,rfl,rx⟩:=wx r;have hl:=Y4;have hs:sU=16777216:=tP
 cases x with
 | str y =>
  obtain⟨t,rfl⟩:=rx;obtain⟨hy,e'⟩:y.length<=sU/\n=y.length:=e;subst e';exact len_str ⋯ #[.int _,H,I.tok _,#[_,rfl],q]
 | byt y =>
  obtain⟨t,rfl⟩:=rx;obtain⟨hy,e'⟩:y.size<=sU/\n=y.size:=e;subst e';exact PySem.W.len_bytes ⋯ #[.int _,H,I.tok _,#[_,rfl],q]
 | ref p =>
  cases rx;have e':(∃xs,SqL X.K H p xs/\n=xs.length)\/∃xs,SqT X.K H p xs/\n=xs.length:=e;rcases e' with ⟨xs,hx,e'⟩ | ⟨xs,hx,e'⟩
  ·subst e';obtain⟨its,r',pl,hz⟩:=I.list hx;have hlen:=r'.length;exact Calls.call_len_list pl.isList (by erw[ak];lia) #[.int xs.length,H,I.tok _,#[_,by erw[ak];rw[hlen]],q]
  ·subst e';obtain⟨its,r',pl,hz⟩:=I.tuple hx;have hlen:=r'.length;exact len_tuple pl (by erw[ak];lia) #[.int xs.length,H,I.tok _,#[_,by erw[ak];rw[hlen]],q]
 | _=>exact (show False from e).elim
end
structure ObjM(h:tE)(x dx C:sX)(mA:tw->Option sY):Prop where
 obj:h.get? x=Bu (ci C dx)
 ns:h.Ns1 dx mA
 ne:dx≠x
def JJ{h:tE}{dx:sX}{mA:tw->Option sY}(n:h.Ns1 dx mA):∃od,h.get? dx=Bu od/\∀name,eg name od=Bu (mA name):=by
 obtain⟨o,es,ep,ho,hd,hk,_,hm⟩:=n;refine#[o,ho,λname=>?_];have e:=hm name;unfold nsFind findBy at e;rw[<- Array.find?_toList]at e;unfold eg;rw[hd];dsimp only;split
 ·rename_i y q;rw[q]at e;exact congrArg Bu e
 ·rename_i q;rw[q]at e
  have a:es.toList.any (·.refKey)=Bx:=by
   rw[List.any_eq_false];intro y hy;obtain⟨z,t,hkey⟩:=hk y (Array.mem_toList_iff.mp hy);simp [DictEntry.refKey,hkey]
  have a':¬ es.toList.any (·.refKey)=Bw:=by rw[a];exact aD
  rw[y9 a'];exact congrArg Bu e
def ObjM.look{h:tE}{x dx C:sX}{mA:tw->Option sY}(I:ObjM h x dx C mA):∃od,PySem.W.InstAt h x (ci C dx) C (Bu od)/\∀name,eg name od=Bu (mA name) :=
 let #[od,ho,hl]:=JJ I.ns
 #[od,#[I.obj,rfl,rfl,ho],hl]
section
variable{prog:tu}{w:tz}{A:tB}{E:sY->sZ->Prop}{s:sZ}{K:sV}{x dx C f:sX}{mA:tw->Option sY}{name:tw}{v:sY}
def zbB{expr:Bool}{Q:sY->sZ->Prop}(X:K.In s.heap)(I:ObjM s.heap x dx C mA)(hg:bS K C name=Bw)(hh:bW K C=Bw)(ha:ag K (.ref C) name=Bu Bv) (hv:mA name=Bu v) (hv':gn v=Bw) (h:Q v { s with toks:=s.toks+1 }) :
  tm (model prog w) A (getAttr (.ref x) name expr) Q E s:=by obtain⟨od,J,hl⟩:=I.look;exact PySem.W.get_value X J (d8 hg).1 (PySem.W.findObj_own hh ha rfl (by rw[hl,hv])) hv' h
def K1{pl:Bl Bool}{Q:sY × List sY->sZ->Prop}(X:K.In s.heap)(I:ObjM s.heap x dx C mA)(hg:bS K C name=Bw)(hf:ag K (.ref C) name=Bu (Bu (.ref f))) (ht:aU K (.ref f)=Bw) (hv:mA name=Bv) (h:Q (.ref f,[.ref x]) s) :
  tm (model prog w) A (getMethod (.ref x) name pl) Q E s:=by obtain⟨od,J,hl⟩:=I.look;exact PySem.W.method_fn X J (d8 hg).1 (d8 hg).2 hf (beq_iff_eq.mp ht) (by show (eg name od).map (·.isSome)=Bu Bx;rw[hl,hv];rfl) h
theorem zbe{ns:List tw}{Q:Unit->sZ->Prop}(X:K.In s.heap)(I:ObjM s.heap x dx C mA)(hs:ag K (.ref C) "__setattr__" = Bu (Bu (.builtin "object.__setattr__"))) (hp:cu K C=Bw) (ht:fk K C name=Bu Bv) (hh:bW K C=Bw)(hw:PySem.Within mA ns) (hsz:ns.length<=sU)(h:∀h',ObjM h' x dx C (λy=>if y=name then Bu v else mA y)->Heap.SameBut dx s.heap h'->Q Unit.unit { s with heap:=h',toks:=s.toks+2 }) :
  tm (model prog w) A (setAttr (.ref x) name v) Q E s:=by obtain⟨od,J,hl⟩:=I.look;refine gk X J hs (PySem.W.osa_open (s:={ s with toks:=s.toks+1 }) (r:=Bv) X J hp ht λb=>?_);obtain⟨cd,hc,hd'⟩:=PySem.W.any_some hh;have hx:s.heap.get? x=Bu #[.ref C,Bu dx,.plain,#[]]:=I.obj;refine sN (sP (sN (sN (AO hx (sN (PySem.W.Looks.here (s:={ s with toks:=s.toks+1 }) (PySem.W.looks_clsIn X hc) ?_))))));rw[hd'];refine sP (a:=Bu dx) (sN (sP (sN ?_)));refine wpAny_nsSet1 (s:={ s with toks:=s.toks+1 }) I.ns λh' hn2 hs2=>?_;obtain⟨oD,esD,epD,hoD,hdD,hcD⟩:=hn2.count (PySem.Within.cons name v hw);refine sN (Bh hoD (by rw[hdD];exact pastItsLine_dict (aK hcD (by rw[aL];lia))) ?_);exact sP (h _ #[(hs2.2 _ (Ne.symm I.ne)).trans I.obj,hn2,I.ne] hs2)
def Kv{R:AR->sZ->Prop}{vs:List sY}{kw:List (tw × sY)}(X:K.In s.heap)(hm:cD K C=Bw)(hi:ag K (.ref C) "__init__" = Bu (Bu (.ref f))) (hf:PySem.W.typeIn K (.ref f)=Bu (.type "function"))(h:Ae (model prog w) (A.under (.builtin "type.__call__" #[.ref C::vs,kw])) (.call (.ref f) #[.ref (s⁻¹+1)::vs,kw]) (PySem.W.InitBack (s⁻¹+1) R)
   { s with heap:=(s.heap.push bO).push (ci C s⁻¹) }) :
  Ae (model prog w) A (.call (.ref C) #[vs,kw]) R s:=by obtain⟨hh,g,d,t,os⟩:=s;exact PySem.W.make_core (PySem.W.makes_of X hm) (cG X hi) (λself=>gq X self hf) (.inl rfl) h
end
end in def Yc(f:tw)(v:V):List (tw × V)->List (tw × V)
  | []=>[(f,v)]
  | (g,x)::r=>if g=f then (g,v)::r else (g,x)::Yc f v r
theorem jL(f g:tw)(v:V):∀fs:List (tw × V),(Yc f v fs).lookup g=if g=f then Bu v else fs.lookup g
  | []=>by
    show bi g [(f,v)]=_;by_cases h:g=f
    . have hb:(g == f)=Bw:=beq_iff_eq.mpr h
      erw[bi,hb,y6 h]
    . have hb:(g == f)=Bx:=beq_eq_false_iff_ne.mpr h
      erw[bi,hb,y9 h]
  | (k,x)::r=>by
    have ih:=jL f g v r;rw[show Yc f v ((k,x)::r)=(if k=f then (k,v)::r else (k,x)::Yc f v r)from rfl];by_cases hk:k=f
    . rw[y6 hk]
      by_cases h:g=k
      . have hb:(g == k)=Bw:=beq_iff_eq.mpr h
        erw[bi,hb,y6 (h.trans hk)]
      . have hb:(g == k)=Bx:=beq_eq_false_iff_ne.mpr h
        erw[bi,hb,y9 (λe:g=f=>h (e.trans hk.symm))]
    . rw[y9 hk]
      by_cases h:g=k
      . have hb:(g == k)=Bw:=beq_iff_eq.mpr h
        erw[bi,hb,y9 (λe:g=f=>hk (h.symm.trans e))]
      . have hb:(g == k)=Bx:=beq_eq_false_iff_ne.mpr h
        erw[bi,hb]
        exact ih
theorem jf(f:tw)(v:V):∀fs:List (tw × V),f ∈ (Yc f v fs).map (·.1)/\∀g,g ∈ fs.map (·.1)->g ∈ (Yc f v fs).map (·.1)
  | []=>#[by simp [Yc],λg h=>by simp at h]
  | (k,x)::r=>by
    obtain⟨i1,i2⟩:=jf f v r;rw[show Yc f v ((k,x)::r)=(if k=f then (k,v)::r else (k,x)::Yc f v r)from rfl];by_cases hk:k=f
    . rw[y6 hk]
      subst hk;exact#[by simp,λg h=>by simpa using h]
    . rw[y9 hk]
      refine#[?_,λg h=>?_]
      . rw[av]
        exact am _ i1
      . rw[av]at h ⊢
        rcases BE.mp h with e | e
        . exact BE.mpr (.inl e)
        . exact am _ (i2 g e)
theorem jU(f:tw)(v:V):∀fs:List (tw × V),(Yc f v fs).length<=fs.length+1
  | []=>by simp [Yc]
  | (k,x)::r=>by
    have ih:=jU f v r;rw[show Yc f v ((k,x)::r)=(if k=f then (k,v)::r else (k,x)::Yc f v r)from rfl];by_cases hk:k=f
    . rw[y6 hk,aL,aL];lia
    . rw[y9 hk,aL,aL];lia
theorem RelO.some_of{v:V}{o:Option sY}(r:RelO (Bu v) o):∃u,o=Bu u/\RelV v u:=by
 cases o with
 | none=>exact (show False from r).elim
 | some u=>exact#[u,rfl,r]
theorem RelO.none_of{o:Option sY}(r:RelO Bv o):o=Bv:=by
 cases o with
 | none=>rfl
 | some u=>exact (show False from r).elim
theorem U5{v:V}{u:sY}(r:RelV v u):gn u=Bw:=by
 cases v with
 | non=>cases (show u=u5 from r);rfl
 | bl b=>cases (show u=Value.bool b from r);rfl
 | int i=>obtain⟨t,e⟩:=(show ∃t,u=Value.int i t from r);cases e;rfl
 | str x=>obtain⟨t,e⟩:=(show ∃t,u=Value.str x t from r);cases e;rfl
 | byt b=>obtain⟨t,e⟩:=(show ∃t,u=Value.bytes b t from r);cases e;rfl
 | flt b=>obtain⟨t,e⟩:=(show ∃t,u=Value.float b t from r);cases e;rfl
 | ref a=>cases (show u=u6 a from r);rfl
 | ty n=>cases (show u=Value.type n from r);rfl
section
variable{P:tu}{w:tz}{H H':Hp}{h h':tE}{a C dx:sX}{fs fs':List (tw × V)}
def Zy(hok:HOk P w H h)(e:H a=Bu (.ins C dx fs)):∃mA,ObjM h a dx C mA/\(∀f,RelO (fs.lookup f) (mA f))/\PySem.Within mA (fs.map (·.1))/\fs.length<=1000/\H dx=Bu (.own a):=by obtain⟨d,z,ne,ob,mA,n,r,q⟩:=(show ObjOk P w H h a (.ins C dx fs)from hok a _ e);exact#[mA,#[ob,n,ne],r,q,z,d]
end
structure Cls(K:sV)(C:sX):Prop where
 pg:bS K C eD=Bw
 hd:bW K C=Bw
 po:cu K C=Bw
 sa:ag K (.ref C) "__setattr__" = Bu (Bu (.builtin "object.__setattr__"))
def Cls.get{K:sV}{C:sX}(c:Cls K C)(f:tw):bS K C f=Bw:=c.pg
def NoAttr(K:sV)(C:sX)(f:tw):Prop:=ag K (.ref C) f=Bu Bv
def NoAttr.taker{K:sV}{C:sX}{f:tw}(n:NoAttr K C f):fk K C f=Bu Bv:=by unfold fk;rw[show ag K (.ref C) f=Bu Bv from n];rfl
structure zdZ(K:sV)(C:sX)(m:tw)(f:sX):Prop where
 at_:ag K (.ref C) m=Bu (Bu (.ref f))
 fn:aU K (.ref f)=Bw
 kp:aI K (.ref f)=Bw
section
variable{X:Cx}{By:List (sX × tR)}{σ:St}{H:Hp}{s:sZ}{a C dx:sX}{fs:List (tw × V)}{f:tw}{v:V}{A:tB}{E:sY->sZ->Prop}
def VV{b:Bool}{Q:sY->sZ->Prop}(I:Inv X By σ H s)(e:H a=Bu (.ins C dx fs))(c:Cls X.K C)(n:NoAttr X.K C f)(l:fs.lookup f=Bu v)(h:∀u s',Inv X By σ H s'->RelV v u->Q u s'):tm (model X.prog X.w) A (getAttr (.ref a) f b) Q E s:=by obtain⟨mA,O,r,_,_,_⟩:=Zy I.hok e;obtain⟨u,hu,ru⟩:=RelO.some_of (v:=v) (o:=mA f) (by rw[<- l];exact r f);exact zbB I.kIn O (c.get f) c.hd n hu (U5 ru) (h u _ (I.tok _) ru)
def wl{m:tw}{g:sX}{pl:Bl Bool}{Q:sY × List sY->sZ->Prop}(I:Inv X By σ H s)(e:H a=Bu (.ins C dx fs))(c:Cls X.K C)(k:zdZ X.K C m g)(l:fs.lookup m=Bv)(h:Q (.ref g,[.ref a]) s):tm (model X.prog X.w) A (getMethod (.ref a) m pl) Q E s:=by obtain⟨mA,O,r,_,_,_⟩:=Zy I.hok e;have hn:mA m=Bv:=RelO.none_of (by rw[<- l];exact r m);exact K1 I.kIn O (c.get m) k.at_ k.fn hn h
theorem VL{y:V}{u:sY}{Q:Unit->sZ->Prop}(I:Inv X By σ H s)(e:H a=Bu (.ins C dx fs))(c:Cls X.K C)(n:NoAttr X.K C f)(hl:fs.length<1000)(ry:RelV y u)(h:∀s',Inv X By σ (upd H a (.ins C dx (Yc f y fs))) s'->Q Unit.unit s'):tm (model X.prog X.w) A (setAttr (.ref a) f u) Q E s:=by
 obtain⟨mA,O,r,wi,_,ho⟩:=Zy I.hok e;have hz:(fs.map (·.1)).length<=sU:=by rw[ac,tP];lia
 refine zbe I.kIn O c.sa c.po n.taker c.hd wi hz λh' O' sb=>h _ ?_;have hd:∃o,h'.get? dx=Bu o:=let #[o,_,_,e',_]:=O'.ns; #[o,e'];refine I.write (x:=a) (e:=dx) (by rw[e];exact True.intro) (.inr ho) (λb q hb z=>(sb.2 b hb).trans z) hd ?_;refine#[by rw[zq O.ne];exact ho,?_,O.ne,O'.obj,_,O'.ns,λg=>?_,λg hg=>?_]
 ·have:=jU f y fs;lia
 ·show RelO ((Yc f y fs).lookup g) (if g=f then Bu u else mA g);rw[jL];by_cases q:g=f
  ·rw[y6 q,y6 q];exact ry
  ·rw[y9 q,y9 q];exact r g
 ·by_cases q:g=f
  ·rw[q];exact (jf f y fs).1
  ·refine (jf f y fs).2 g (wi g λz=>hg ?_);show (if g=f then Bu u else mA g)=Bv;rw[y9 q];exact z
def Inv.made(I:Inv X By σ H s):Inv X By σ (upd (upd H s⁻¹ (.own (s⁻¹+1))) (s⁻¹+1) (.ins C s⁻¹ [])) { s with heap:=(s.heap.push bO).push (ci C s⁻¹) }:=by
 have e1:(s.heap.push bO).get? s⁻¹=Bu bO:=ay s.heap rfl
 have e2:((s.heap.push bO).push (ci C s⁻¹)).get? (s⁻¹+1)=Bu (ci C s⁻¹):=by
  have:=ay (s.heap.push bO) (o:=ci C s⁻¹) rfl
  rwa [bG]at this
 have e3:(s.heap.push bO).Ns s⁻¹ (λ_=>Bv):=#[bO,#[],_,e1,rfl,(λe he=>y4 he (by simp)),λ_=>rfl];have I1:=I.laid (a:=s⁻¹) (o:=.own (s⁻¹+1)) (h':=s.heap.push bO) (t':=s.toks) (λb u q=>aa _ q) (al _) #[_,e1];refine I1.laid (a:=s⁻¹+1) (o:=.ins C s⁻¹ []) (t':=s.toks) (λb u q=>aa _ q) (Nat.le_of_eq (bG _ _)) ?_;have ne:s⁻¹≠s⁻¹+1:=aB (da _);refine#[by rw[zq ne,zc],aG _,ne,e2,λ_=>Bv,(Heap.Ns1.of_empty e3).at λo q=>aa _ q,λ_=>True.intro,λy hy=>y4 rfl hy]
def zcf{prog:tu}{w:tz}{env:AK}{e:tD}{f:tw}{pos:Ad}{s:sZ}{Q:sY->sZ->Prop}(hb:attributeBase e f env (eval e env)=eval e env)(h:tm (model prog w) A (eval e env) (λo s₁=>tm (model prog w) A (getAttr o f Bw) Q E s₁) E s):tm (model prog w) A (eval (.Attribute e f pos) env) Q E s :=
 Attribute_any_ h (by rw[arm_eval_Attribute,hb])
end
def zc6(K:sV)(ta:TE)(f:tw):TE:=λσ H Q=>ta σ H λx H1=>∃a C dx fs v,x=.ref a/\H1 a=Bu (.ins C dx fs)/\Cls K C/\NoAttr K C f/\fs.lookup f=Bu v/\Q v H1
def zfX(K:sV)(ta tv:TE)(f:tw):TS:=λD σ H=>tv σ H λy H1=>ta σ H1 λx H2=>∃a C dx fs,x=.ref a/\H2 a=Bu (.ins C dx fs)/\Cls K C/\NoAttr K C f/\fs.length<1000 /\
 D.nx σ (upd H2 a (.ins C dx (Yc f y fs)))
section
variable{X:Cx}{o e value:tD}{f:tw}{pos pos' tpos:Ad}{ta tv:TE}
def uj(he:PE X e ta)(hb:attributeBase e f X.env (eval e X.env)=eval e X.env):PE X (.Attribute e f pos) (zc6 X.K ta f):=by intros Q I h;refine zcf hb (thn (he By s σ H _ I h) λu s1=>el5 λx H1 I1 rx q_z=>?_);obtain⟨a,C,dx,fs,v,ex,ea,c,n,l,q⟩:=q_z;subst ex;obtain rfl:u=u6 a:=rx;exact VV I1 ea c n l λu' s2 I2 ru=>#[v,H1,I2,ru,q]
def kL(ha:PE X o ta)(hv:PE X value tv)(hs:swapsWith value (Bu (.Attribute o f pos')) pos.line X.env=pure Bx):PS X (.Assign [.Attribute o f pos'] value pos) (zfX X.K ta tv f):=by intros D I h;refine Ar (thn (hv By s σ H _ I h) λu s1=>el5 λy H1 I1 ry q=>thn (ha By s1 σ H1 _ I1 q) λov s2=>el5 λx H2 I2 rx q_z=>?_) hs;obtain⟨a,C,dx,fs,ex,ea,c,n,l,q2⟩:=q_z;subst ex;obtain rfl:ov=u6 a:=rx;exact VL I2 ea c n l ry λs3 I3=>#[σ,_,I3,q2]
def zbo{pl:Bl Bool}{m:tw}{apos:Ad}{args:List tD}{By:List (sX × tR)}{s:sZ}{σ:St}{H:Hp}{Q:sY->sZ->Prop}{te:TE}(he:PE X e te)(I:Inv X By σ H s)(h:te σ H λx H1=>∃a C dx fs g,x=.ref a/\H1 a=Bu (.ins C dx fs)/\Cls X.K C/\zdZ X.K C m g/\fs.lookup m=Bv /\
      ∀s1,Inv X By σ H1 s1->tm (model X.prog X.w) X.A (callWith pos (.ref g) [.ref a] (tK pos (sS args X.env)) (tT pos (tH [] X.env))) Q X.xe s1)(ht:eval (.Call (.Attribute e m apos) args [] pos) X.env=(do
      let ov <- eval e X.env
      standAt apos.atName
      let (f,first) <- holding [ov] (getMethod ov m pl)
      callWith pos f first (tK pos (sS args X.env)) (tT pos (tH [] X.env)))) :
    tm (model X.prog X.w) X.A (eval (.Call (.Attribute e m apos) args [] pos) X.env) Q X.xe s:=by refine cb (pl:=pl) (thn (he By s σ H _ I h) λu s1=>el5 λx H1 I1 rx q_z=>?_) ht;obtain⟨a,C,dx,fs,g,ex,ea,c,k,l,q⟩:=q_z;subst ex;obtain rfl:u=u6 a:=rx;exact wl I1 ea c k l (q s1 I1)
end
section
variable{X:Cx}{By:List (sX × tR)}{σ:St}{H:Hp}{s:sZ}{A:tB}{E:sY->sZ->Prop}{Q:sY->sZ->Prop}{c:sY}{b:Bool}
inductive WS(K:sV)(H:Hp):V->sY->Prop where
 | non:WS K H .non (.type "NoneType")
 | bl (x:Bool):WS K H (.bl x) (.type "bool")
 | int (i:Int):WS K H (.int i) (.type "int")
 | str (x:tw):WS K H (.str x) (.type "str")
 | flt (x:UInt64):WS K H (.flt x) (.type "float")
 | lst {a:sX} {xs:List V} (e:H a=Bu (.lst xs)):WS K H (.ref a) (.type "list")
 | frz {a:sX} {o:tR} {xs:List V} (e:H a=Bu (.frz o (.lst xs))):WS K H (.ref a) (.type "list")
 | tup {a:sX} {xs:List V} (e:H a=Bu (.tup xs)):WS K H (.ref a) (.type "tuple")
 | dK {a:sX} {kvs:List (Key × V)} (e:H a=Bu (.dK kvs)):WS K H (.ref a) (.type "dict")
 | dT {a:sX} {kvs:List (List Key × V)} (e:H a=Bu (.dT kvs)):WS K H (.ref a) (.type "dict")
 | ins {a C dx:sX} {fs:List (tw × V)} (e:H a=Bu (.ins C dx fs)) (cl:Cls K C) (ha:ag K (.ref C) "__class__" = Bu (Bu (.builtin "object.__class__")))
   (hn:cF K (.builtin "object.__class__") "__get__" = Bu (Bu (.builtin "getset_descriptor.__get__"))) (htk:dP K (.builtin "object.__class__")=Bu Bw)
   (hm:bF K C (.type "object")=Bu Bw):WS K H (.ref a) (.ref C)
theorem Jr{x:V}{u t:sY}(I:Inv X By σ H s)(rx:RelV x u)(ty:WS X.K H x t)(e:aQ X.K t c=Bu b)(h:∀tk,Q (.bool b) { s with toks:=tk }) :
  tm (model X.prog X.w) A (call (.builtin "isinstance") [u,c]) Q E s:=by
 cases ty with
 | non=>cases (show u=u5 from rx);exact bg PySem.W.kitx_none I.kIn True.intro e (λz=>nomatch z) h
 | bl y=>cases (show u=Value.bool y from rx);exact bg PySem.W.kitx_bool I.kIn True.intro e (λz=>nomatch z) h
 | int i=>obtain⟨t,q⟩:=(show ∃t,u=Value.int i t from rx);cases q;exact bg PySem.W.kitx_int I.kIn True.intro e (λz=>nomatch z) h
 | str y=>obtain⟨t,q⟩:=(show ∃t,u=Value.str y t from rx);cases q;exact bg PySem.W.kitx_str I.kIn True.intro e (λz=>nomatch z) h
 | flt y=>obtain⟨t,q⟩:=(show ∃t,u=Value.float y t from rx);cases q;exact bg PySem.W.kitx_float I.kIn True.intro e (λz=>nomatch z) h
 | @lst a xs ea =>
  cases (show u=u6 a from rx);obtain⟨_,_,n,_,h1⟩:=(show ObjOk X.prog X.w H s.heap a (.lst xs)from I.hok a _ ea);exact bg eL I.kIn #[_,h1,rfl] e (λz=>nomatch z) h
 | @frz a ob xs ea =>
  cases (show u=u6 a from rx);obtain⟨_,_,_,n,_,h1⟩:=(show ObjOk X.prog X.w H s.heap a (.frz ob (.lst xs))from I.hok a _ ea);exact bg eL I.kIn #[_,h1,rfl] e (λz=>nomatch z) h
 | @tup a xs ea =>
  cases (show u=u6 a from rx);obtain⟨_,_,_,p⟩:=(show ObjOk X.prog X.w H s.heap a (.tup xs)from I.hok a _ ea);obtain⟨o,h1,h2,_⟩:=p;exact bg gd I.kIn #[o,h1,h2] e (λz=>nomatch z) h
 | @dK a kvs ea =>
  cases (show u=u6 a from rx);obtain⟨_,_,vs,_,p⟩:=(show ObjOk X.prog X.w H s.heap a (.dK kvs)from I.hok a _ ea);obtain⟨o,es,ep,h1,h2,_⟩:=p;exact bg gm I.kIn #[o,h1,h2.1] e (λz=>nomatch z) h
 | @dT a kvs ea =>
  cases (show u=u6 a from rx);obtain⟨_,_,xs,_,o,es,ep,h1,h2,_⟩:=(show ObjOk X.prog X.w H s.heap a (.dT kvs)from I.hok a _ ea);exact bg gm I.kIn #[o,h1,h2.1] e (λz=>nomatch z) h
 | @ins a C dx fs ea cl ha hn htk hm =>
  cases (show u=u6 a from rx);obtain⟨mA,O,_⟩:=Zy I.hok ea;obtain⟨od,J,_⟩:=O.look;exact bg (PySem.W.kitx_own (cl.get _) cl.hd ha hn htk hm) I.kIn J e (λz=>nomatch z) h
end
structure Room(k:Nat)(A:tB):Prop where
 hd:A.handled=Bv
 dp:A.depth+3 * k+5<AQ
 un:A.units+16 * k+200<cLine
theorem Room.mono{j k:Nat}{A:tB}(r:Room k A)(h:j<=k):Room j A:=#[r.hd,by have:=r.dp;lia,by have:=r.un;lia]
theorem Room.deeper{k:Nat}{A:tB}(r:Room (k+1) A)(env:AK):Room k (A.deeper env) :=
 #[r.hd,by have:=r.dp;show A.depth+1+3 * k+5<_;lia,by have:=r.un;show A.units+3+16 * k+200<_;lia]
theorem Room.in1{k:Nat}{A:tB}(r:Room (k+1) A):Room k A.in1 :=
 #[r.hd,by have:=r.dp;show A.depth+3 * k+5<_;lia,by have:=r.un;show A.units+1+16 * k+200<_;lia]
def VS{A:tB}{C:sX}{us:List sY}{kw:List (tw × sY)}:(A.under (.builtin "type.__call__" #[.ref C::us,kw])).depth=A.depth+1:=by first | rfl | simp [Around.under,Code.weight,Code.isCreation,Code.isGuard,Code.isCaller,Code.frames,Code.isFrame,guardIds]
def Vv{A:tB}{C:sX}{us:List sY}{kw:List (tw × sY)}:(A.under (.builtin "type.__call__" #[.ref C::us,kw])).units=A.units+1:=by first | rfl | simp [Around.under,Code.cUnits,Code.frames,Code.isFrame]
theorem Room.make{k:Nat}{A:tB}(r:Room (k+1) A)(C:sX)(us:List sY)(kw:List (tw × sY)):Room k (A.under (.builtin "type.__call__" #[.ref C::us,kw])) :=
 #[r.hd,by have:=r.dp;rw[VS];lia,by have:=r.un;rw[Vv];lia]
theorem Room.depth{k:Nat}{A:tB}(r:Room k A):A.depth<AQ:=by have:=r.dp;lia
theorem Room.units{k:Nat}{A:tB}(r:Room k A):A.units+64<cLine:=by have:=r.un;lia
def xx:TA:=λ_ H Q=>Q [] H
def zL(ta:TE)(tr:TA):TA:=λσ H Q=>ta σ H λx H1=>tr σ H1 λxs H2=>Q (x::xs) H2
section
variable{X:Cx}{e:tD}{es:List tD}{te:TE}{t:TA}{pos:Ad}
def ze:PA X [] xx:=λ_ _ _ _ H Q I h=>Calls.spliced_nil #[[],H,I,.nil,h]
def za(ha:PE X e te)(hr:PA X es t)(hs:sS (e::es) X.env=(Bx,eval e X.env)::sS es X.env:=by rfl):PA X (e::es) (zL te t):=by intro pos By s σ H Q I h;rw[hs];show tm _ _ (spliced ((Bx,eval e X.env)::tK pos (sS es X.env))) _ _ s;refine Calls.spliced_cons (thn (ha By s σ H _ I h) λu s1=>el5 λx H1 I1 r1 q1=>?_);exact thn (hr pos By s1 σ H1 _ I1 q1) λus s2=>el5 λxs H2 I2 r2 q2=>#[x::xs,H2,I2,.cons r1 r2,q2]
def Jl(t:TA):TE:=λσ H Q=>t σ H λxs H1=>xs.length<=sU/\∀p,H1 p=Bv->Q (.ref p) (upd H1 p (.tup xs))
def zeu(t:TA):TE:=λσ H Q=>t σ H λxs H1=>xs.length<=sU/\∀p,H1 p=Bv->Q (.ref p) (upd H1 p (.lst xs))
def zS{x1}(h:PA X es t):PE X (.Tuple es x1 pos) (Jl t):=by intros Q I hq;refine wpAny_Tuple_spliced (thn (h pos By s σ H _ I hq) λus s1=>el5 λxs H1 I1 r=>ua2 λz q=>#[by rw[<- r.length];exact z,?_]);have hf:H1 s1⁻¹=Bv:=I1.hok.fresh (al _);refine#[.ref s1⁻¹,upd H1 s1⁻¹ (.tup xs),I1.laid (t':=s1.toks) (λb u e=>aa _ e) (al _) ?_,rfl,q _ hf];exact#[z,us,r,#[_,ay _ rfl,rfl,_,rfl]]
def uK(h:PA X es t):PE X (.List es pos) (zeu t):=by intros Q I hq;refine wpAny_List_spliced (thn (h pos By s σ H _ I hq) λus s1=>el5 λxs H1 I1 r=>ua2 λz q=>#[by rw[<- r.length];exact z,?_]);have hf:H1 s1⁻¹=Bv:=I1.hok.fresh (al _);refine#[.ref s1⁻¹,upd H1 s1⁻¹ (.lst xs),I1.laid (t':=s1.toks) (λb u e=>aa _ e) (al _) ?_,rfl,q _ hf];exact#[z,us,0,r,ay _ rfl]
end
end in abbrev Sp:=List V->Hp->VK->XK->Prop
end in abbrev CXT:=List AK->Hp->sZ->XK->sY->sZ->Prop
structure Env0(P:tu)(w:tz)(K:sV)(mg:tw->Option sY)(base:tE)(A:tB)(outer:List AK)(s:sZ)(H:Hp):Prop where
 frames:A.frames=Bu outer
 mod:Mod K mg base
 bs:∀b o,base.get? b=Bu o->s.heap.get? b=Bu o/\H b=Bv
 bsz:base.objs.size<=s⁻¹
 funs:s.heap.FunFrames base outer
 frf:∀b ∈ frs outer,H b=Bv
 hok:HOk P w H s.heap
 bare:Az s.gens
def CE(outer:List AK)(P:tu)(w:tz)(H:Hp)(s:sZ)(Q:VK)(u:sY)(s':sZ):Prop :=
 ∃v H',s'.os=s.os/\Az s'.gens/\Un (frs outer) [] H H' s.heap s'.heap/\HOk P w H' s'.heap/\RelV v u/\Q v H'
def CR(CX:CXT)(outer:List AK)(P:tu)(w:tz)(H:Hp)(s:sZ)(Q:VK)(E:XK)(r:AR)(s':sZ):Prop :=
 match r with
 | .ok (.ret u)=>CE outer P w H s Q u s'
 | .ok _=>False
 | .error e=>CX outer H s E e s'
structure zY(P:tu)(w:tz)(K:sV)(mg:tw->Option sY)(base:tE)(CX:CXT)(k:Nat)(f:sX)(fd:tj)(ps:List tw)(sp:Sp):Prop where
 len:∀vs H Q E,sp vs H Q E->vs.length=ps.length
 run:∀(A:tB) (outer:List AK) (s:sZ) (H:Hp) (args:Args) (us:List sY) (vs:List V) (Q:VK) (E:XK),Room k A->Env0 P w K mg base A outer s H->AT s fd args (ps.zip us)->Vals vs us->sp vs H Q E ->
  Ae (model P w) A (.call (.ref f) args) (CR CX outer P w H s Q E) s
def Env0.make{P:tu}{w:tz}{K:sV}{mg:tw->Option sY}{base:tE}{A:tB}{outer:List AK}{s:sZ}{H:Hp}(e:Env0 P w K mg base A outer s H)(C:sX)(us:List sY)(kw:List (tw × sY)) :
  Env0 P w K mg base (A.under (.builtin "type.__call__" #[.ref C::us,kw])) outer s H:=#[by first | exact e.frames | (simpa [Around.under,Code.envs,Code.isFrame,pushEnvs] using e.frames),e.mod,e.bs,e.bsz,e.funs,e.frf,e.hok,e.bare]
section
variable{X:Cx}{By:List (sX × tR)}{σ:St}{H:Hp}{s s':sZ}
def Inv.env0(I:Inv X By σ H s):Env0 X.prog X.w X.K X.mg X.base X.A X.stack s H :=
 #[I.ok.frames,I.ok.mod,I.bs,aK I.ok.bsz I.sz,I.stack,I.stkFree,I.hok,I.bare]
def Inv.after{Q:VK}{u:sY}(I:Inv X By σ H s)(h:CE X.stack X.prog X.w H s Q u s'):EP X By σ Q u s':=by obtain⟨v,H',os,bare,un,hok,r,q⟩:=h;obtain⟨hh,g,d,t,os'⟩:=s';obtain rfl:os'=s.os:=os;exact#[v,H',I.call (h':=hh) (g':=g) (d':=d) (t':=t) (ch:=[]) un hok bare (λb z=>y4 z (by simp)),r,q]
end
def wL(sp:Sp)(dvs:List V)(E:XK)(t:TA):TE:=λσ H Q=>t σ H λvs H1=>sp (vs ++ dvs) H1 Q E
def Z1(C:sX)(m:tw)(sp:Sp)(dvs:List V)(E:XK)(ta:TE)(t:TA):TE:=λσ H Q=>ta σ H λx H1=>∃a dx fs,x=.ref a/\H1 a=Bu (.ins C dx fs)/\fs.lookup m=Bv /\
 t σ H1 λvs H2=>sp (x::(vs ++ dvs)) H2 Q E
def U8(C:sX)(sp:Sp)(dvs:List V)(E:XK)(t:TA):TE:=λσ H Q=>t σ H λvs H1=>∀x dx,H1 x=Bv->H1 dx=Bv->dx≠x ->
 sp (.ref x::(vs ++ dvs)) (upd (upd H1 dx (.own x)) x (.ins C dx [])) (λv H2=>v=.non/\Q (.ref x) H2) E
def Binds(K:sV)(fd:tj)(ps:List tw)(ds:List sY):Prop :=
 ∀(s:sZ) (us:List sY),K.In s.heap->(us ++ ds).length=ps.length->AT s fd #[us,[]] (ps.zip (us ++ ds))
def Binds.all{K:sV}{fd:tj}{ps:List tw}(h:∀us:List sY,us.length=ps.length->bindArgs fd #[us,[]]=pure (ps.zip us)):Binds K fd ps []:=λs us _ hl=>by
 rw[aT]at hl ⊢;exact .of_eq (h us hl)
def qt(CX:CXT)(X:Cx)(E:XK):Prop:=∀(By:List (sX × tR)) (σ:St) (H:Hp) (s:sZ) (e:sY) (s':sZ),Inv X By σ H s->CX X.stack H s E e s'->X.xe e s'
section
variable{X:Cx}{CX:CXT}{k:Nat}{f C:sX}{fd:tj}{ps:List tw}{sp:Sp}{dvs:List V}{ds:List sY}{E:XK}{x m:tw}{p pos apos:Ad}{e o:tD}{es:List tD}{ta:TE}{t:TA}
theorem kD{By:List (sX × tR)}{σ:St}{H:Hp}{s:sZ}{Q:VK}{us:List sY}{vs:List V}(F:zY X.prog X.w X.K X.mg X.base CX k f fd ps sp)(hr:Room k X.A)(hb:Binds X.K fd ps ds)(hd:Vals dvs ds)(hx:qt CX X E)(I:Inv X By σ H s) (r:Vals vs us) (h:sp (vs ++ dvs) H Q E):tm (model X.prog X.w) X.A (call (.ref f) us) (EP X By σ Q) X.xe s:=by
 have r2:Vals (vs ++ dvs) (us ++ ds):=r.append hd;have hl:(us ++ ds).length=ps.length:=by rw[<- r2.length];exact F.len _ _ _ _ h
 refine Al (An (F.run X.A X.stack s H #[us,[]] (us ++ ds) (vs ++ dvs) Q E hr I.env0 (hb s us I.kIn hl) r2 h) λr s' hq=>?_)
 cases r with
 | error e=>exact hx By σ H s e s' I hq
 | ok fl =>
  cases fl with
  | ret u=>exact I.after hq
  | next=>exact False.elim hq
  | brk=>exact False.elim hq
  | cont=>exact False.elim hq
def UQ(F:zY X.prog X.w X.K X.mg X.base CX k f fd ps sp)(hr:Room k X.A)(hg:Gl X x)(hm:X.mg x=Bu (.ref f))(hk:aI X.K (.ref f)=Bw)(hb:Binds X.K fd ps ds)(hd:Vals dvs ds)(hx:qt CX X E)(ha:PA X (e::es) t) (hdb:(x ==("__debug__" : tw))=Bx:=by decide) (he:sS (e::es) X.env=(Bx,eval e X.env)::sS es X.env:=by rfl) (hpl:(tK pos (sS es X.env)).any (·.1)=Bx:=by rfl) :
  PE X (.Call (.Name x p) (e::es) [] pos) (wL sp dvs E t):=by intros Q I h;refine tO (v0 I hg hm ?_ hdb);refine bT (h₀:=X.base) I.ok.mod.kin hk (thn (ha pos By s σ H _ I h) λus s1=>el5 λvs H1 I1 r q=>#[I1.kIn,?_]) he hpl;exact kD F hr hb hd hx I1 r q
def zb2{pl:Bl Bool}(he:PE X o ta)(c:Cls X.K C)(hm:zdZ X.K C m f)(F:zY X.prog X.w X.K X.mg X.base CX k f fd ps sp)(hr:Room k X.A)(hb:Binds X.K fd ps ds)(hd:Vals dvs ds)(hx:qt CX X E)(ha:PA X (e::es) t)(hst:sS (e::es) X.env=(Bx,eval e X.env)::sS es X.env:=by rfl) (hpl:(tK pos (sS es X.env)).any (·.1)=Bx:=by rfl)(ht:eval (.Call (.Attribute o m apos) (e::es) [] pos) X.env=(do
      let ov <- eval o X.env
      standAt apos.atName
      let (f,first) <- holding [ov] (getMethod ov m pl)
      callWith pos f first (tK pos (sS (e::es) X.env)) (tT pos (tH [] X.env))):=by rfl) :
    PE X (.Call (.Attribute o m apos) (e::es) [] pos) (Z1 C m sp dvs E ta t):=by intros Q I h;refine cb (pl:=pl) (thn (he By s σ H _ I h) λu s1=>el5 λx H1 I1 rx q_z=>?_) ht;obtain⟨a,dx,fs,ex,ea,l,q⟩:=q_z;subst ex;obtain rfl:u=u6 a:=rx;refine wl I1 ea c hm l ?_;refine bT (first:=[.ref a]) (h₀:=X.base) I.ok.mod.kin hm.kp (thn (ha pos By s1 σ H1 _ I1 q) λus s2=>el5 λvs H2 I2 r q2=>#[I2.kIn,?_]) hst hpl;exact kD (us:=.ref a::us) (vs:=.ref a::vs) F hr hb hd hx I2 (.cons rfl r) q2
def KI{pl:Bl Bool}(he:PE X o ta)(c:Cls X.K C)(hm:zdZ X.K C m f)(F:zY X.prog X.w X.K X.mg X.base CX k f fd ps sp)(hr:Room k X.A)(hb:Binds X.K fd ps ds)(hd:Vals dvs ds)(hx:qt CX X E)(ht:eval (.Call (.Attribute o m apos) [] [] pos) X.env=(do
      let ov <- eval o X.env
      standAt apos.atName
      let (f,first) <- holding [ov] (getMethod ov m pl)
      callWith pos f first (tK pos (sS [] X.env)) (tT pos (tH [] X.env))):=by rfl) :
    PE X (.Call (.Attribute o m apos) [] [] pos) (Z1 C m sp dvs E ta xx):=by intros Q I h;refine cb (pl:=pl) (thn (he By s σ H _ I h) λu s1=>el5 λx H1 I1 rx q_z=>?_) ht;obtain⟨a,dx,fs,ex,ea,l,q⟩:=q_z;subst ex;obtain rfl:u=u6 a:=rx;refine wl I1 ea c hm l ?_;exact fZ (first:=[.ref a]) I1.kIn hm.kp (kD (us:=[.ref a]) (vs:=[.ref a]) F hr hb hd hx I1 (.cons rfl .nil) q)
structure Mk(K:sV)(C f:sX):Prop where
 makes:cD K C=Bw
 init:ag K (.ref C) "__init__" = Bu (Bu (.ref f))
 fn:aU K (.ref f)=Bw
 kp:aI K (.ref C)=Bw
theorem Ki{By:List (sX × tR)}{σ:St}{H:Hp}{s:sZ}{Q:VK}{us:List sY}{vs:List V}(M:Mk X.K C f)(F:zY X.prog X.w X.K X.mg X.base CX k f fd ps sp)(hr:Room (k+1) X.A)(hb:Binds X.K fd ps ds)(hd:Vals dvs ds)(hx:qt CX X E) (I:Inv X By σ H s) (r:Vals vs us)(h:∀x dx,H x=Bv->H dx=Bv->dx≠x->sp (.ref x::(vs ++ dvs)) (upd (upd H dx (.own x)) x (.ins C dx [])) (λv H2=>v=.non/\Q (.ref x) H2) E) :
  tm (model X.prog X.w) X.A (call (.ref C) us) (EP X By σ Q) X.xe s:=by
 have hq:=h (s⁻¹+1) s⁻¹ (I.hok.fresh (cQ _)) (I.hok.fresh (al _)) (aB (da _));have I2:=Inv.made (C:=C) I;have r2:Vals (V.ref (s⁻¹+1)::(vs ++ dvs)) (u6 (s⁻¹+1)::(us ++ ds)):=.cons rfl (r.append hd)
 have hl:(u6 (s⁻¹+1)::us ++ ds).length=ps.length:=by
  have e:=r2.length;rw[F.len _ _ _ _ hq]at e;exact e.symm
 refine Al (Kv (f:=f) I.kIn M.makes M.init (beq_iff_eq.mp M.fn) (An (F.run _ X.stack _ _ #[u6 (s⁻¹+1)::us,[]] (u6 (s⁻¹+1)::(us ++ ds)) _ _ E (hr.make C us [])
  (I2.env0.make C us []) (hb _ (u6 (s⁻¹+1)::us) I2.kIn hl) r2 hq) λr s' hq'=>?_))
 cases r with
 | error e=>exact hx By σ _ _ e s' I2 hq'
 | ok fl =>
  cases fl with
  | ret u =>
   obtain⟨v,H',I3,rv,ev,q3⟩:=I2.after hq';subst ev;exact#[rv,#[V.ref (s⁻¹+1),H',I3,rfl,q3]]
  | next=>exact False.elim hq'
  | brk=>exact False.elim hq'
  | cont=>exact False.elim hq'
def U7(M:Mk X.K C f)(F:zY X.prog X.w X.K X.mg X.base CX k f fd ps sp)(hr:Room (k+1) X.A)(hg:Gl X x)(hm:X.mg x=Bu (.ref C))(hb:Binds X.K fd ps ds)(hd:Vals dvs ds)(hx:qt CX X E)(ha:PA X (e::es) t) (hdb:(x ==("__debug__" : tw))=Bx:=by decide) (he:sS (e::es) X.env=(Bx,eval e X.env)::sS es X.env:=by rfl) (hpl:(tK pos (sS es X.env)).any (·.1)=Bx:=by rfl) :
  PE X (.Call (.Name x p) (e::es) [] pos) (U8 C sp dvs E t):=by intros Q I h;refine tO (v0 I hg hm ?_ hdb);refine bT (h₀:=X.base) I.ok.mod.kin M.kp (thn (ha pos By s σ H _ I h) λus s1=>el5 λvs H1 I1 r q=>#[I1.kIn,?_]) he hpl;exact Ki M F hr hb hd hx I1 r q
end
def PK(X:Cx)(kws:List Bm)(t:TA):Prop :=
 ∀(pos:Ad) (By:List (sX × tR)) (s:sZ) (σ:St) (H:Hp) (Q:List V->Hp->Prop),Inv X By σ H s->t σ H Q->tm (model X.prog X.w) X.A (evalAll ((tT pos (tH kws X.env)).map (·.2))) (AP X By σ Q) X.xe s
section
variable{X:Cx}{CX:CXT}{k:Nat}{f C:sX}{fd:tj}{ps ks:List tw}{sp:Sp}{E:XK}{x m:tw}{p pos apos kpos:Ad}{e o:tD}{es:List tD}{kws:List Bm}{te ta:TE}{t tk:TA}{nm:Option tw}
def za8:PK X [] xx:=λ_ _ _ _ H Q I h=>wpAny_evalAll_nil #[[],H,I,.nil,h]
def QF(ha:PE X e te)(hr:PK X kws t):PK X (#[nm,e,kpos]::kws) (zL te t):=by intro pos By s σ H Q I h;show tm _ _ (evalAll ((do let v <- eval e X.env;standAt pos;pure v)::(tT pos (tH kws X.env)).map (·.2))) _ _ s;refine wpAny_evalAll_cons (sN (thn (ha By s σ H _ I h) λu s1=>el5 λx H1 I1 r1 q1=>sN (Ab (sP ?_))));exact thn (hr pos By s1 σ H1 _ I1 q1) λus s2=>el5 λxs H2 I2 r2 q2=>#[x::xs,H2,I2,.cons r1 r2,q2]
variable{g:List sY->List sY->List sY}{gV:List V->List V->List V}
end
structure zm(N P:List tw)(sc:tU):Prop where
 kind:sc.kind=.function
 co:sc.isCoroutine=Bx
 gen:sc.isGenerator=Bx
 nd:N.Nodup
 pre:N.take P.length=P
 par:∀x ∈ P,sc.names.lookup x=Bu .local\/sc.names.lookup x=Bu .cell
 nofree:∀y ∈ sc.names,y.2≠.free
theorem Yf{kindOf:tw->Option Aw}{x:tw}:∀{binds:List (tw × sY)} {m:tw->Option sY},(∀v,(x,v) ∉ binds)->bindL kindOf binds m x=m x
  | [],_,_=>rfl
  | (n,v)::r,m,h=>by
    unfold bindL;rw[Yf λw hw=>h w (am _ hw)];split
    . have:x≠n:=by rintro rfl;exact h v aA
      simp [this]
    . rfl
theorem YZ{kindOf:tw->Option Aw}{x:tw}:∀{binds:List (tw × sY)} {m:tw->Option sY},(∀v,(x,v) ∉ binds)->bindC kindOf binds m x=m x
  | [],_,_=>rfl
  | (n,v)::r,m,h=>by
    unfold bindC;rw[YZ λw hw=>h w (am _ hw)];split
    . rfl
    . have:x≠n:=by rintro rfl;exact h v aA
      simp [this]
theorem YD{kindOf:tw->Option Aw}{x:tw}{v:sY}:∀{P:List tw} {vs:List sY} {i:Nat} {m:tw->Option sY},P.Nodup->P[i]? = Bu x->vs[i]? = Bu v->kindOf x=Bu .local ->
  bindL kindOf (P.zip vs) m x=Bu v
 | [],_,_,_,_,h,_,_=>by simp at h
 | _::_,[],_,_,_,_,h,_=>by simp at h
 | p::P,w::vs,0,m,nd,h1,h2,hk=>by
  simp at h1 h2;subst h1;subst h2;show bindL kindOf ((p,w)::P.zip vs) m p=_;unfold bindL;rw[Yf λv hv=>(BO.mp nd).1 (dj hv).1,y6 hk];simp
 | p::P,w::vs,i+1,m,nd,h1,h2,hk=>by
  show bindL kindOf ((p,w)::P.zip vs) m x=_;unfold bindL;exact YD (i:=i) (BO.mp nd).2 (by simpa using h1) (by simpa using h2) hk
theorem Y0{kindOf:tw->Option Aw}{x:tw}{v:sY}:∀{P:List tw} {vs:List sY} {i:Nat} {m:tw->Option sY},P.Nodup->P[i]? = Bu x->vs[i]? = Bu v->kindOf x≠Bu .local ->
  bindC kindOf (P.zip vs) m x=Bu v
 | [],_,_,_,_,h,_,_=>by simp at h
 | _::_,[],_,_,_,_,h,_=>by simp at h
 | p::P,w::vs,0,m,nd,h1,h2,hk=>by
  simp at h1 h2;subst h1;subst h2;show bindC kindOf ((p,w)::P.zip vs) m p=_;unfold bindC;rw[YZ λv hv=>(BO.mp nd).1 (dj hv).1,y9 hk];simp
 | p::P,w::vs,i+1,m,nd,h1,h2,hk=>by
  show bindC kindOf ((p,w)::P.zip vs) m x=_;unfold bindC;exact Y0 (i:=i) (BO.mp nd).2 (by simpa using h1) (by simpa using h2) hk
end in def start(N:List tw)(vs:List V):St:=vs.map Bu ++ aP (N.length - vs.length) Bv
end in def qS(CX:CXT)(P:tu)(w:tz)(K:sV)(mg:tw->Option sY)(base:tE)(N:List tw)(qual:tw)(scope:tU)(f:sX)(cd:sY)(A:tB)(outer:List AK)(s:sZ)(H:Hp)(E:XK):Cx where
 prog:=P
 w:=w
 K:=K
 mg:=mg
 base:=base
 A:=A.deeper (Ax qual scope s⁻¹ f cd)
 N:=N
 s₀:=s
 H₀:=H
 env:=Ax qual scope s⁻¹ f cd
 outer:=outer
 stack:=Ax qual scope s⁻¹ f cd::outer
 ex:=[]
 calm:=Bw
 fn:=λ_=>Bw
 pn:=[]
 xe:=λe s'=>tm (model P w) (A.deeper (Ax qual scope s⁻¹ f cd)) (leaving (Ax qual scope s⁻¹ f cd) e) (λ_ s''=>CX outer H s E e s'') (λe' s''=>CX outer H s E e' s'') s'
def Wa{sc:tU}{n:Nat}{x:tw}(h:sc.names.lookup x=Bu .cell):∃c,(cellsFrom n sc.names []).lookup x=Bu c:=by have q:=fq sc.names n [] (.inl h);exact BQ.mp q
theorem Jp{CX:CXT}{P:tu}{w:tz}{K:sV}{mg:tw->Option sY}{base:tE}{N ps:List tw}{qual:tw}{scope:tU}{f:sX}{cd:sY}{A:tB}{outer:List AK}{s s1:sZ}{H:Hp}{E:XK}{us:List sY}{vs:List V}(S:zm N ps scope) (hd:A.handled=Bv) (e0:Env0 P w K mg base A outer s H) (hl:vs.length=ps.length) (r:Vals vs us)(x:InCallC s s⁻¹ (bindL (Ax qual scope s⁻¹ f cd).kindOf (ps.zip us) λ_=>Bv) (cellsFrom (s⁻¹+1) scope.names []) (bindC (Ax qual scope s⁻¹ f cd).kindOf (ps.zip us) λ_=>Bv) s1) :
  Inv (qS CX P w K mg base N qual scope f cd A outer s H E) [] (start N vs) H s1:=by
 have hpl:ps.length<=N.length:=by have:=congrArg ft S.pre;rw[aE]at this;lia
 obtain⟨h1,tk,rfl,hk⟩:=x.done;have noA:∀b:sX,b ∉ (qS CX P w K mg base N qual scope f cd A outer s H E).ex:=λb z=>y4 (show b ∈ ([]:List sX)from z) (by simp)
 refine#[#[e0.mod,S.kind,rfl,rfl,al _,λy z c h1 h2=>?_,λy hy=>?_,λy c _ h=>?_,λ_=>hd,Around.frames_deeper e0.frames,.inr #[rfl,rfl],λb z=>y4 z (noA b),e0.bs,e0.bsz,λb _ _=>noA b,λb z=>y4 z (noA b),e0.funs,e0.frf],
  rfl,e0.bare,Un.kept hk,#[_,x.toInCall.ns,λi y v h1 h2 h3=>?_],λy c h=>#[_,x.cell y c h],e0.hok.fresh (al _),λy c h=>?_,λp hp=>y4 (show p ∈ ([]:List (sX × tR))from hp) (by simp),e0.hok.kept hk,?_]
 ·exact name_of_addr x.apart (bY h1) (bY h2)
 ·have hy:scope.names.lookup y=Bu .cell\/scope.names.lookup y=Bu .free:=hy;rcases hy with hy | hy
  ·exact Wa hy
  ·exact y4 rfl (S.nofree _ (bY hy))
 ·exact dn (x.above y c (bY h))
 ·have hi:i<vs.length:=by
   unfold start at h2;by_cases hi:i<vs.length
   ·exact hi
   ·rw[bA (by simpa using hi)]at h2;rw[e9]at h2;split at h2 <;> cases h2
  have ha:vs[i]? = Bu v:=by
   unfold start at h2;rw[bC (by simpa using hi),ar]at h2
   cases e:vs[i]? with
   | none=>rw[e]at h2;cases h2
   | some a=>rw[e]at h2;cases h2;rfl
  obtain⟨u,hu,rv⟩:=r.get ha
  have hp:ps[i]? = Bu y:=by
   rw[<- S.pre,br ⋯];exact h1
  have ndP:ps.Nodup:=by rw[<- S.pre];exact S.nd.sublist (List.take_sublist _ _)
  refine#[u,rv,?_];rcases S.par y (ae hp)with k | k
  ·exact .inl #[k,YD ndP hp hu k]
  ·obtain⟨c,e⟩:=Wa (n:=s⁻¹+1) k;refine .inr #[.inl k,c,e,?_];have q:=x.cell y c e;rw[Y0 ndP hp hu (by show scope.names.lookup y≠_;rw[k];decide)]at q;exact q
 ·exact e0.hok.fresh (dn (x.above y c (bY h)))
 ·unfold start;show _=N.length;rw[aj,ac,bx];lia
theorem J9{CX:CXT}{P:tu}{w:tz}{K:sV}{mg:tw->Option sY}{base:tE}{k:Nat}{f:sX}{name qual:tw}{params:Ag}{body:List tF}{scope:tU}{dV kV doc pm cdv ct oc:sY}{an od:Option sX}{osl:Array (Option sY)} {N ps:List tw} {sp:Sp} (lk:K.lookup f=Bu #[oc,od,.func (bu name qual params body scope dV kV doc pm an cdv ct),osl]) (hcd:bU K cdv qual=Bw) (S:zm N ps scope)(len:∀vs H Q E,sp vs H Q E->vs.length=ps.length)(hbody:∀(A:tB) (outer:List AK) (s:sZ) (H:Hp) (vs:List V) (Q:VK) (E:XK),Room k (A.deeper (Ax qual scope s⁻¹ f cdv))->sp vs H Q E ->
   ∃t,PSs (qS CX P w K mg base N qual scope f cdv A outer s H E) body t/\t { nx:=λ_ H'=>Q .non H',rt:=Q } (start N vs) H) :
  zY P w K mg base CX (k+1) f (bu name qual params body scope dV kV doc pm an cdv ct) ps sp:=by
 refine#[len,λA outer s H args us vs Q E hr e0 hb r hsp=>?_];have hl:=len _ _ _ _ hsp;have KX:K.In s.heap:=e0.mod.kin.keeps λb o e=>(e0.bs b o e).1;have lim:s.heap.NoLimit:=e0.mod.nolimit.keeps λb o e=>(e0.bs b o e).1
 have hkind:∀y ∈ ps.zip us,scope.names.lookup y.1=Bu .local\/(scope.names.lookup y.1=Bu .cell/\((cellsFrom (s⁻¹+1) scope.names []).lookup y.1).isSome=Bw):=λ⟨n,v⟩ hy=>by
  rcases S.par n (dj hy).1 with q | q
  ·exact .inl q
  ·exact .inr #[q,fq _ _ _ (.inl q)]
 refine codeAny_call_function hr.depth (KX _ _ lk) rfl S.co S.gen rfl (PySem.W.codeRec_of KX hcd) (hb _ _ _ _ ?_);refine wpAny_newFunctionEnv_cells S.kind hkind λenv he s1 x=>?_;subst he;refine#[lim.keeps x.toInCall.keep,codeAny_func ?_];obtain⟨t,ht,hq⟩:=hbody A outer s H vs Q E (hr.deeper _) hsp;have I:Inv (qS CX P w K mg base N qual scope f cdv A outer s H E) [] (start N vs) H s1:=Jp S hr.hd e0 hl r x;refine Ak (ht [] s1 (start N vs) H _ I hq) (λfl s' hs=>?_) λe s' hs=>hs
 have fin:∀{σ':St} {H':Hp} {v:V} {u:sY},Inv (qS CX P w K mg base N qual scope f cdv A outer s H E) [] σ' H' s'->RelV v u->Q v H'->CE outer P w H s Q u s' :=
  λ{σ' H' v u} J rv q=>#[v,H',J.os,J.bare,J.base,J.hok,rv,q]
 cases fl with
 | ret u =>
  obtain⟨v,σ',H',J,rv,q⟩:=hs;exact fin J rv q
 | next =>
  obtain⟨σ',H',J,q⟩:=hs;exact fin (v:=V.non) (u:=u5) J rfl q
 | brk =>
  obtain⟨_,_,_,q⟩:=hs;exact False.elim q
 | cont =>
  obtain⟨_,_,_,q⟩:=hs;exact False.elim q
section
variable{X:Cx}{x:tw}{p pos:Ad}{e:tD}{es:List tD}{t:TA}{id T:String}{r:List V->Hp->VK->Prop}
def tCB(r:List V->Hp->VK->Prop)(t:TA):TE:=λσ H Q=>t σ H λvs H1=>r vs H1 Q
def yu(hc:wK X (.builtin id) r)(hg:Gl X x)(hm:X.mg x=Bv)(hv:tS x=Bu (.builtin id))(ha:PA X (e::es) t)(hn:x≠"__name__":=by decide)(hdb:(x ==("__debug__" : tw))=Bx:=by decide)(he:sS (e::es) X.env=(Bx,eval e X.env)::sS es X.env:=by rfl) (hpl:(tK pos (sS es X.env)).any (·.1)=Bx:=by rfl):PE X (.Call (.Name x p) (e::es) [] pos) (tCB r t):=by intros Q I h;refine tO (vq I hg hm hv ?_ hn hdb);exact PyProof.Rows.callWith_builtin1 (thn (ha pos By s σ H _ I h) λus s1=>el5 λvs H1 I1 r1 q1=>hc By s1 σ H1 vs us Q I1 r1 q1) he hpl
def xp(hc:wK X (.type T) r)(hg:Gl X x)(hm:X.mg x=Bv)(hv:tS x=Bu (.type T))(ha:PA X (e::es) t)(hn:x≠"__name__":=by decide)(hdb:(x ==("__debug__" : tw))=Bx:=by decide)(he:sS (e::es) X.env=(Bx,eval e X.env)::sS es X.env:=by rfl) (hpl:(tK pos (sS es X.env)).any (·.1)=Bx:=by rfl):PE X (.Call (.Name x p) (e::es) [] pos) (tCB r t):=by intros Q I h;refine tO (vq I hg hm hv ?_ hn hdb);exact bw (thn (ha pos By s σ H _ I h) λus s1=>el5 λvs H1 I1 r1 q1=>hc By s1 σ H1 vs us Q I1 r1 q1) he hpl
end
end L2
namespace HT
open PySem PyProof.Rows
section
open PySem.SeqAt
open PySem.AutoSeq1 (wpAny_loadPart')
open PySem.MeetsSeq PySem.MeetsSeq2 PySem.MeetsSeq3
end
section
variable{prog:tu}{w:tz}{A:tB}{E:sY->sZ->Prop}{s:sZ}
end in def sIx(n d:Nat):Option Int->Nat
 | none=>d
 | some v=>if v<0 then (v+(n:Int)).toNat else min v.toNat n
def sIx_none(n d:Nat):sIx n d Bv=d:=rfl
theorem sIx_nat(n d k:Nat):sIx n d (Bu (k:Int))=min k n:=by show (if (k:Int)<0 then ((k:Int)+(n:Int)).toNat else min (k:Int).toNat n)=min k n;rw[y9 ⋯,az]
theorem sIx_le(n d:Nat)(hd:d<=n)(o:Option Int):sIx n d o<=n:=by
 cases o with
 | none=>exact hd
 | some v =>
  show (if v<0 then (v+(n:Int)).toNat else min v.toNat n)<=n;by_cases hv:v<0
  ·rw[y6 hv];lia
  ·rw[y9 hv];exact Nat.min_le_right _ _
end
end HT
namespace L2
end in abbrev TO:=St->Hp->(Option Int->Hp->Prop)->Prop
def PO(X:Cx)(e:Option tD)(t:TO):Prop :=
 ∀(By:List (sX × tR)) (s:sZ) (σ:St) (H:Hp) (Q:Option Int->Hp->Prop),Inv X By σ H s->t σ H Q ->
  tm (model X.prog X.w) X.A (evalPart e X.env) (λu s'=>∃o H',Inv X By σ H' s'/\IsPart u o/\Q o H') X.xe s
def Zz:TO:=λ_ H Q=>Q Bv H
def Ys(t:TE):TO:=λσ H Q=>t σ H λx H1=>onInt x λi=>Q (Bu i) H1
section
variable{X:Cx}{e:tD}{te:TE}{lo hi:Option tD}{tl th:TO}{pos p2:Ad}
def yA:PO X Bv Zz:=by intros Q I h;rw[evalPart_none];exact sP #[Bv,H,I,.none,h]
def zU(h:PE X e te):PO X (Bu e) (Ys te):=by intros Q I hw;rw[evalPart_some];refine thn (h By s σ H _ I hw) λu s1=>el5 λx H1 I1 r1 q1=>?_;obtain⟨i,rfl,q⟩:=onInt.of q1;obtain⟨t,rfl⟩:=r1;exact#[Bu i,H1,I1,.int i t,q]
def SlR(X:Cx)(r:V->Option Int->Option Int->Hp->VK->Prop):Prop :=
 ∀(By:List (sX × tR)) (s:sZ) (σ:St) (H:Hp) (x:V) (v vl vu:sY) (lo hi:Option Int) (sl:sX) (Q:VK),Inv X By σ H s->RelV x v->s.heap.IsSliceOf sl vl vu .none->IsPart vl lo->IsPart vu hi->r x lo hi H Q ->
  ∃T id,typeLookup (.type T) "__getitem__" = pure (Bu (.builtin id))/\s.TypeIs v T/\tm (model X.prog X.w) X.A (getItem v (.ref sl)) (EP X By σ Q) X.xe s
def tSl(r:V->Option Int->Option Int->Hp->VK->Prop)(te:TE)(tl th:TO):TE:=λσ H Q=>te σ H λx H1=>tl σ H1 λl H2=>th σ H2 λu H3=>r x l u H3 Q
def zR{r:V->Option Int->Option Int->Hp->VK->Prop}(hr:SlR X r)(he:PE X e te)(hl:PO X lo tl)(hu:PO X hi th):PE X (.Subscript e (.Slice lo hi Bv p2) pos) (tSl r te tl th):=by intros Q I h;refine Bo (thn (he By s σ H _ I h) λv s1=>el5 λx H1 I1 r1 q1=>?_);refine wpAny_Slice (thn (hl By s1 σ H1 _ I1 q1) λvl s2=>el5 λl H2 I2 pl q2=>thn (hu By s2 σ H2 _ I2 q2) λvu s3=>el5 λu H3 I3 pu q3=>?_);rw[evalPart_none];refine sP ?_;have I4:Inv X By σ H3 { s3 with heap:=s3.heap.push { cls:=.type "slice",data:=.fields (u9 [vl,vu,.none]) } }:=I3.kept (t':=s3.toks) λb ob q=>aa _ q;obtain⟨T,id,hT,ht,hg⟩:=hr By { s3 with heap:=s3.heap.push { cls:=.type "slice",data:=.fields (u9 [vl,vu,.none]) } } σ H3 x v vl vu l u s3⁻¹ Q I4 r1 (Heap.IsSliceOf.new ..) pl pu q3;show tm (model X.prog X.w) X.A (AW e (.Slice lo hi Bv p2) v (.ref s3⁻¹)) (EP X By σ Q) X.xe { s3 with heap:=s3.heap.push { cls:=.type "slice",data:=.fields (u9 [vl,vu,.none]) } };exact tail_any (ops:=[.ref s3⁻¹,v]) ht hT hg (by with_unfolding_all rfl)
end in def Kl(xs:List V)(lo hi:Option Int):List V:=(xs.drop (HT.sIx xs.length 0 lo)).take (HT.sIx xs.length xs.length hi - HT.sIx xs.length 0 lo)
theorem XM(xs:List V)(lo hi:Option Int):(Kl xs lo hi).length<=xs.length:=by unfold Kl;rw[aE,aS];lia
end
end in def ixN(n:Nat)(i:Int):Option Nat:=if 0<=i then (if i<n then Bu i.toNat else Bv)else if -(n:Int)<=i then Bu (i+n).toNat else Bv
end in def atI{α:Type}(xs:List α)(i:Int):Option α:=(ixN xs.length i).bind λj=>xs[j]?
theorem zcm{n:Nat}{i:Int}{j:Nat}(h:ixN n i=Bu j):seqIndex? i n=Bu j/\j<n/\-(n:Int)<=i/\i<n:=by
 unfold ixN at h;by_cases h0:0<=i
 ·rw[y6 h0]at h;by_cases h1:i<n
  ·rw[y6 h1]at h;have e:i.toNat=j:=Option.some.inj h;exact#[by rw[seqIndex_of h0 h1,e],⋯,⋯,h1]
  ·rw[y9 h1]at h;cases h
 ·rw[y9 h0]at h;by_cases h1:-(n:Int)<=i
  ·rw[y6 h1]at h;have e:(i+n).toNat=j:=Option.some.inj h;exact#[by rw[seqIndex_neg ⋯ h1,e],⋯,h1,⋯]
  ·rw[y9 h1]at h;cases h
theorem Xe{α:Type}{xs:List α}{i:Int}{v:α}(h:atI xs i=Bu v):∃j,seqIndex? i xs.length=Bu j/\xs[j]? = Bu v/\j<xs.length/\-(xs.length:Int)<=i/\i<xs.length:=by
 unfold atI at h
 cases e:ixN xs.length i with
 | none=>rw[e]at h;cases h
 | some j =>
  rw[e]at h;obtain⟨h1,h2,h3,h4⟩:=zcm e;exact#[j,h1,h,h2,h3,h4]
theorem wX{α:Type}{xs:List α}{j:Nat}{v:α}(h:xs[j]? = Bu v):atI xs (j:Int)=Bu v:=by
 have hj:j<xs.length:=(BB.mp h).1
 have e:ixN xs.length (j:Int)=Bu j:=by
  unfold ixN;rw[y6 ⋯,y6 ⋯];simp
 unfold atI;rw[e];exact h
def QY(b:tD):Prop:=∀o i,subscripted b Bx o i=operate [o,i] (getItem o i)
def IxR(X:Cx)(r:R2):Prop :=
 ∀(value slice:tD) (By:List (sX × tR)) (s:sZ) (σ:St) (H:Hp) (x y:V) (v u:sY) (Q:VK),Inv X By σ H s->RelV x v->RelV y u->r x y H Q ->
  subscripted slice Bx v u=operate [v,u] (getItem v u)->tm (model X.prog X.w) X.A (AW value slice v u) (EP X By σ Q) X.xe s
def MtR(X:Cx)(id:String)(r:V->List V->Hp->VK->Prop):Prop :=
 ∀(By:List (sX × tR)) (s:sZ) (σ:St) (H:Hp) (x:V) (xs:List V) (v:sY) (us:List sY) (Q:VK),Inv X By σ H s->RelV x v->Vals xs us->r x xs H Q ->
  tm (model X.prog X.w) X.A (call (.builtin id) (v::us)) (EP X By σ Q) X.xe s
section
variable{X:Cx}{a b:tD}{ta tb:TE}{pos:Ad}
def IxR.or{r r':R2}(h:IxR X r)(h':IxR X r'):IxR X (λx y H Q=>r x y H Q\/r' x y H Q):=by
 intro value slice By s σ H x y v u Q I rx ry q hs;rcases q with q | q
 ·exact h value slice By s σ H x y v u Q I rx ry q hs
 ·exact h' value slice By s σ H x y v u Q I rx ry q hs
def zfv{r:R2}(hr:IxR X r)(ha:PE X a ta)(hb:PE X b tb)(hs:QY b):PE X (.Subscript a b pos) (tOp r ta tb):=by intros Q I h;exact Bo (zfA ha hb I h λv u s2 x y H2 I2 rx ry q=>hr a b By s2 σ H2 x y v u Q I2 rx ry q (hs _ _))
def zdR(K:sV):R2:=λx y H Q=>onRef x λp=>onInt y λi=>∃xs,SqL K H p xs/\∃v,atI xs i=Bu v/\Q v H
def vv(K:sV):R2:=λx y H Q=>onRef x λp=>onInt y λi=>∃xs,SqT K H p xs/\∃v,atI xs i=Bu v/\Q v H
def zbS:R2:=λx y H Q=>onStr x λz=>onInt y λi=>z.length<=sU/\∃c,atI z.cps.toList i=Bu c/\Q (.str ⟨#[c]⟩) H
theorem ix_list:IxR X (zdR X.K):=by
 intro value slice By s σ H x y v u Q I rx ry h hs;obtain⟨p,rfl,h2⟩:=onRef.of h;obtain⟨i,rfl,xs,hq,z,he,q⟩:=onInt.of h2;cases rx;obtain⟨t,rfl⟩:=ry;obtain⟨its,r,pl,hz⟩:=I.list hq;obtain⟨j,h1,h2,h3,h4,h5⟩:=Xe he;obtain⟨w,ew,rw'⟩:=r.get h2;have hl:=r.length;have hn:=Y4;have fin:EP X By σ Q w s:=#[z,H,I,rw',q];by_cases h0:0<=i
 ·have hj:i.toNat=j:=by
   rw[seqIndex_of h0 h5]at h1;exact Option.some.inj h1
  exact item_listR pl.isList h0 ⋯ (by rw[hj];simpa using ew) fin hs
 ·have hj:(i+(its.toArray.size:Int)).toNat=j:=by
   rw[seqIndex_neg ⋯ h4]at h1;rw[ak,<- hl];exact Option.some.inj h1
  exact AJ (x:=w) pl.isList.typeIs slot_list_getitem.lookup
   (wpAny_getItem_list_neg (Q:=λr s'=>r=w/\EP X By σ Q r s') pl.isList ⋯ (by rw[ak] <;> lia) ⋯ (by rw[hj];simpa using ew) #[rfl,fin]) hs
theorem w4:IxR X (vv X.K):=by
 intro value slice By s σ H x y v u Q I rx ry h hs;obtain⟨p,rfl,h2⟩:=onRef.of h;obtain⟨i,rfl,xs,hq,z,he,q⟩:=onInt.of h2;cases rx;obtain⟨t,rfl⟩:=ry;obtain⟨its,r,pl,hz⟩:=I.tuple hq;obtain⟨j,h1,h2,h3,h4,h5⟩:=Xe he;obtain⟨w,ew,rw'⟩:=r.get h2;have hl:=r.length;have hn:=Y4;have fin:EP X By σ Q w s:=#[z,H,I,rw',q]
 exact AJ (x:=w) pl.typeIs slot_tuple_getitem.lookup
  (getItem_tuple (j:=j) (Q:=λr s'=>r=w/\EP X By σ Q r s') pl ⋯ ⋯ (by rw[ak,<- hl];exact h1) (by simpa using ew) #[rfl,fin]) hs
theorem QO:IxR X zbS:=by
 intro value slice By s σ H x y v u Q I rx ry h hs;obtain⟨z,rfl,h2⟩:=onStr.of h;obtain⟨i,rfl,hz,c,he,q⟩:=onInt.of h2;obtain⟨t,rfl⟩:=rx;obtain⟨t',rfl⟩:=ry;obtain⟨j,h1,h2,h3,h4,h5⟩:=Xe he;have hl:z.cps.toList.length=z.length:=by simp [Str.length]
 rw[hl]at h1 h4 h5;have hn:=Y4
 exact tail_any (typeIs_str s z t) slot_str_getitem.lookup (getItem_str (c:=c) (by
  have e1:decide (i < -(2 ^ 63:Int))=Bx:=y3 ⋯;have e2:decide (i ≥ 2 ^ 63)=Bx:=y3 ⋯
  rw[e1,e2,Bool.or_false]) (by rw[h1];simpa using h2) #[.str ⟨#[c]⟩,H,I.tok _,#[_,rfl],q]) hs
def rIx(K:sV):R2:=λx y H Q=>match x with | .ref p=>onInt y λi=>(∃xs,SqL K H p xs/\∃v,atI xs i=Bu v/\Q v H)\/∃xs,SqT K H p xs/\∃v,atI xs i=Bu v/\Q v H | .str z=>zbS (.str z) y H Q | _=>False
def rIx.of{K:sV}{x y:V}{H:Hp}{Q:VK}(h:rIx K x y H Q):zdR K x y H Q\/vv K x y H Q\/zbS x y H Q:=by unfold rIx at h;cases x <;> first | exact .inr (.inr h) | (obtain⟨i,rfl,h⟩:=onInt.of h;exact h.elim .inl λh=>.inr (.inl h)) | exact h.elim
def UV:IxR X (rIx X.K):=λa b By s σ H x y v u Q I rx ry h hs=>(ix_list.or (w4.or QO)) a b By s σ H x y v u Q I rx ry h.of hs
def Inv.lst{By:List (sX × tR)}{σ:St}{H:Hp}{s:sZ}{p:sX}{xs:List V}(I:Inv X By σ H s)(h:H p=Bu (.lst xs)) :
  ∃(its:List sY) (n:Nat),Vals xs its/\s.heap.get? p=Bu { cls:=.type "list",data:=.seq its.toArray n }/\xs.length<=sU:=by obtain⟨z,its,n,r,e⟩:=I.hok p _ h;exact#[its,n,r,e,z]
theorem Y6(lo hi:Option Int)(n:Nat):(sliceBounds lo hi Bv n).1=((HT.sIx n 0 lo:Nat):Int)/\(sliceBounds lo hi Bv n).2.1=((HT.sIx n n hi:Nat):Int)/\(sliceBounds lo hi Bv n).2.2=1:=by
 refine#[?_,?_,rfl]
 ·cases lo with
  | none=>simp [sliceBounds,HT.sIx]
  | some i =>
   erw[sliceBounds,HT.sIx,gp,show (1:Int) > 0 by decide,if_true]
   by_cases h:i<0
   ·erw[h,if_true] <;> lia
   ·erw[h,if_false] <;> lia
 ·cases hi with
  | none=>simp [sliceBounds,HT.sIx]
  | some i =>
   erw[sliceBounds,HT.sIx,gp,show (1:Int) > 0 by decide,if_true]
   by_cases h:i<0
   ·erw[h,if_true] <;> lia
   ·erw[h,if_false] <;> lia
def Zu(its:List sY)(lo hi:Option Int):slicePick its.toArray lo hi Bv=((its.drop (HT.sIx its.length 0 lo)).take (HT.sIx its.length its.length hi - HT.sIx its.length 0 lo)).toArray:=by
 obtain⟨h1,h2,h3⟩:=Y6 lo hi its.toArray.size;unfold slicePick;rw[h1,h2,h3]
 erw[sliceRange_one,pick_run,ak] <;> rfl
def zeP(K:sV):V->Option Int->Option Int->Hp->VK->Prop:=λx lo hi H Q=>onRef x λa=>∃xs,SqL K H a xs/\∀p,H p=Bv->Q (.ref p) (upd H p (.lst (Kl xs lo hi)))
theorem XH:SlR X (zeP X.K):=by intros x v vl vu lo hi sl Q I rx hs pl pu h;obtain⟨a,rfl,xs,hx,q⟩:=onRef.of h;cases rx;obtain⟨its,r,ht,hz⟩:=I.list hx;have hlen:=r.length;refine#["list",_,slot_list_getitem.lookup,ht.isList.typeIs,?_];refine wpAny_getItem_list_slice ht.isList hs pl pu .none (by simp) ?_ (by rw[ak] <;> lia);rw[Zu,<- hlen];refine#[.ref s⁻¹,_,I.laid (t':=s.toks) (o:=.lst (Kl xs lo hi)) (λb ob q=>aa _ q) (al _) ?_,rfl,q _ (I.hok.fresh (al _))];exact#[aK (XM xs lo hi) hz,_,0,(r.drop (HT.sIx xs.length 0 lo)).take (HT.sIx xs.length xs.length hi - HT.sIx xs.length 0 lo),ay _ rfl]
end in def zdM:V->Bool
 | .non=>Bw
 | .bl _=>Bw
 | .int _=>Bw
 | .str _=>Bw
 | _=>Bx
end in def eqV:V->V->Bool
 | .non,.non=>Bw
 | .bl a,.bl b=>a == b
 | .bl a,.int b=>(if a then 1 else 0) == b
 | .int a,.bl b=>a ==(if b then 1 else 0)
 | .int a,.int b=>a == b
 | .str a,.str b=>a == b
 | _,_=>Bx
theorem WV{A:tB}{s:sZ}{y x:V}{u v:sY}(ry:RelV y u)(rx:RelV x v)(fy:zdM y=Bw)(fx:zdM x=Bw):SeqAt.EqAt A s u v (eqV y x):=by
 cases y with
 | non =>
  cases ry
  cases x with
  | non=>cases rx;exact SeqAt.EqAt.same _
  | bl b=>cases rx;exact SeqAt.EqAt.none_bool b
  | int b=>obtain⟨t,rfl⟩:=rx;exact SeqAt.EqAt.none_int b t
  | str b=>obtain⟨t,rfl⟩:=rx;exact SeqAt.EqAt.none_str b t
  | _=>exact y4 (show Bx=Bw from fx) aD
 | bl a =>
  cases ry
  cases x with
  | non=>cases rx;exact SeqAt.EqAt.bool_none a
  | bl b=>cases rx;exact SeqAt.EqAt.bool_bool a b
  | int b=>obtain⟨t,rfl⟩:=rx;exact SeqAt.EqAt.bool_int a b t
  | str b=>obtain⟨t,rfl⟩:=rx;exact SeqAt.EqAt.bool_str a b t
  | _=>exact y4 (show Bx=Bw from fx) aD
 | int a =>
  obtain⟨t',rfl⟩:=ry
  cases x with
  | non=>cases rx;exact SeqAt.EqAt.int_none a t'
  | bl b=>cases rx;exact SeqAt.EqAt.int_bool a t' b
  | int b=>obtain⟨t,rfl⟩:=rx;exact SeqAt.EqAt.int_int a t' b t
  | str b=>obtain⟨t,rfl⟩:=rx;exact SeqAt.EqAt.int_str a t' b t
  | _=>exact y4 (show Bx=Bw from fx) aD
 | str a =>
  obtain⟨t',rfl⟩:=ry
  cases x with
  | non=>cases rx;exact SeqAt.EqAt.str_none a t'
  | bl b=>cases rx;exact SeqAt.EqAt.str_bool a t' b
  | int b=>obtain⟨t,rfl⟩:=rx;exact SeqAt.EqAt.str_int a t' b t
  | str b=>obtain⟨t,rfl⟩:=rx;exact SeqAt.EqAt.str_str a t' b t
  | _=>exact y4 (show Bx=Bw from fx) aD
 | _=>exact y4 (show Bx=Bw from fy) aD
theorem yR:wK X (.type "list") (λxs H Q=>∃p ys,xs=[.ref p]/\(SqL X.K H p ys\/SqT X.K H p ys)/\∀l,H l=Bv->Q (.ref l) (upd H l (.lst ys))):=by
 intros xs us Q I r h;obtain⟨p,ys,rfl,hq,q⟩:=h;obtain⟨u,rfl,rx⟩:=wx r;cases rx
 have fin:∀(its:List sY),Vals ys its->ys.length<=sU->∀(h':tE) (c':Nat),(∀b o',s.heap.get? b=Bu o'->h'.get? b=Bu o') ->
   h'.get? s⁻¹=Bu { cls:=.type "list",dict:=Bv,data:=.seq its.toArray c',slots:=#[] }->EP X By σ Q (.ref s⁻¹) { s with heap:=h' }:=λits r' hz h' c' kp e =>
  #[.ref s⁻¹,_,I.laid (t':=s.toks) kp (al _) (show ObjOk X.prog X.w _ h' _ (.lst ys)from #[hz,its,c',r',e]),rfl,q _ (I.hok.fresh (al _))]
 rcases hq with hq | hq
 ·obtain⟨its,r',pl,hz⟩:=I.list hq;have hlen:=r'.length;obtain⟨o,ho,hc,n,hd⟩:=pl.isList;exact call_list_seq p (.inl rfl) ho hc hd (λh' c' kp e=>fin its r' hz h' c' kp e) (by erw[ak] <;> lia)
 ·obtain⟨its,r',pl,hz⟩:=I.tuple hq;have hlen:=r'.length;obtain⟨o,ho,hc,n,hd⟩:=pl;exact call_list_seq p (.inr rfl) ho hc hd (λh' c' kp e=>fin its r' hz h' c' kp e) (by erw[ak] <;> lia)
theorem Zl:wK X (.type "tuple") (λxs H Q=>∃p ys,xs=[.ref p]/\((SqL X.K H p ys/\∀l,H l=Bv->Q (.ref l) (upd H l (.tup ys)))\/(SqT X.K H p ys/\Q (.ref p) H))):=by
 intros xs us Q I r h;obtain⟨p,ys,rfl,h⟩:=h;obtain⟨u,rfl,rx⟩:=wx r;cases rx;rcases h with ⟨hq,q⟩ | ⟨hq,q⟩
 ·obtain⟨its,r',pl,hz⟩:=I.list hq;have hlen:=r'.length;refine call_tuple_list pl.isList (λh' kp=>?_) (by erw[ak] <;> lia);have I1:Inv X By σ H { s with heap:=h' }:=I.kept (t':=s.toks) kp
  have I2:Inv X By σ (upd H h'.objs.size (.tup ys)) { s with heap:=h'.push { cls:=.type "tuple",data:=.seq its.toArray } } :=
   I1.laid (t':=s.toks) (λb o e=>aa _ e) (al _) (show ObjOk X.prog X.w _ _ _ (.tup ys)from #[hz,its,r',IsTup.new _ _])
  exact#[.ref h'.objs.size,_,I2,rfl,q _ (I1.hok.fresh (al _))]
 ·obtain⟨its,r',pl,hz⟩:=I.tuple hq;exact call_tuple_same pl #[.ref p,H,I,rfl,q]
def tyV(K:sV)(T:String)(x:V)(H:Hp):Prop:=match x with
 | .str _=>T="str"
 | .int _=>T="int"
 | .ref p=>(T="list"/\∃xs,SqL K H p xs)\/(T="tuple"/\∃o,K.lookup p=Bu o/\o.cls=.type "tuple"/\o.dict=Bv) \/
   (T="dict"/\((∃kvs,H p=Bu (.dK kvs))\/∃kvs,H p=Bu (.dT kvs)))\/(T="set"/\∃S n,H p=Bu (.set S n))
 | _=>False
theorem zaO{By:List (sX × tR)}{σ:St}{H:Hp}{s:sZ}{T:String}{x:V}{v:sY}(I:Inv X By σ H s)(r:RelV x v)(ty:tyV X.K T x H) :
  s.TypeIs v T/\∀a,v=.ref a->∃ob,s.heap.get? a=Bu ob/\ob.dict=Bv:=by
 cases x with
 | str z =>
  obtain⟨t,rfl⟩:=r;cases (show T="str" from ty);exact#[typeIs_str s z t,λ_ e=>nomatch e]
 | int i =>
  obtain⟨t,rfl⟩:=r;cases (show T="int" from ty);exact#[typeIs_int s i t,λ_ e=>nomatch e]
 | ref p =>
  cases r;rcases ty with ⟨rfl,xs,hq⟩ | ⟨rfl,o,hk,hc,hd⟩ | ⟨rfl,hk⟩ | ⟨rfl,S,n,hk⟩
  ·obtain⟨its,_,pl,_⟩:=I.list hq;refine#[pl.isList.typeIs,λa e=>?_];cases e;obtain⟨o,n,e,c,hd,_⟩:=pl;exact#[o,e,hd]
  ·refine#[#[o,I.kIn p o hk,hc],λa e=>?_];cases e;exact#[o,I.kIn _ o hk,hd]
  ·have z:∃o,s.heap.get? p=Bu o/\o.ExactDict:=by
    rcases hk with ⟨kvs,hk⟩ | ⟨kvs,hk⟩
    ·obtain⟨_,_,_,_,o,_,_,e,ex,_⟩:=I.hok p _ hk;exact#[o,e,ex]
    ·obtain⟨_,_,_,_,o,_,_,e,ex,_⟩:=I.hok p _ hk;exact#[o,e,ex]
   obtain⟨o,e,ex⟩:=z;refine#[#[o,e,ex.1],λa e2=>?_];cases e2;exact#[o,e,ex.2.1]
  ·obtain⟨o,_,_,_,e,ex,_⟩:=I.hok p _ hk;refine#[#[o,e,ex.1],λa e2=>?_];cases e2;exact#[o,e,ex.2.1]
 | _=>exact False.elim ty
def zeY(K:sV)(T:String)(r:V->List V->Hp->VK->Prop)(to:TE):TE:=λσ H Q=>to σ H λx H1=>tyV K T x H1/\r x [] H1 Q
def tBM(K:sV)(T:String)(r:V->List V->Hp->VK->Prop)(to:TE)(t:TA):TE:=λσ H Q=>to σ H λx H1=>tyV K T x H1/\t σ H1 λxs H2=>r x xs H2 Q
variable{o e:tD}{es:List tD}{to:TE}{t:TA}{name:tw}{apos cpos:Ad}{T id:String}{r:V->List V->Hp->VK->Prop}
def zeM(pa:PlainAttrs T)(slot:Slot T name id)(hty:typeOf (.builtin id)=pure (.type "method_descriptor"))(hm:MtR X id r)(ho:PE X o to)(hbase:attributeBase o name X.env (eval o X.env)=eval o X.env:=by rfl) (hline:(apos.endLine == cpos.line)=Bw:=by rfl):PE X (.Call (.Attribute o name apos) [] [] cpos) (zeY X.K T r to):=by intros Q I h;refine wpAny_Call_method0_late hbase hline (thn (ho By s σ H _ I h) λv s1=>el5 λx H1 I1 r1=>ua2 λty q1=>?_);obtain⟨h1,h2⟩:=zaO I1 r1 ty;exact#[T,id,pa,slot,hty,h1,h2,Calls.callWith_builtin rfl (PySem.evalArgs_none (hm By s1 σ H1 x [] v [] Q I1 r1 .nil q1))]
def ux(pa:PlainAttrs T)(slot:Slot T name id)(hty:typeOf (.builtin id)=pure (.type "method_descriptor"))(hm:MtR X id r)(ho:PE X o to)(ha:PA X (e::es) t)(hbase:attributeBase o name X.env (eval o X.env)=eval o X.env:=by rfl)(hfew:((tK cpos (sS (e::es) X.env)).all (λx=>!x.1) && (tT cpos (tH [] X.env)).all (λx=>x.1.isSome)
   && decide ((e::es).length+([]:List Bm).length+(if ([]:List Bm).isEmpty then 0 else 1)<30))=Bw:=by rfl)(hline:(apos.endLine == cpos.line)=Bw:=by rfl) (hs:sS (e::es) X.env=(Bx,eval e X.env)::sS es X.env:=by rfl) (hplain:(tK cpos (sS es X.env)).any (·.1)=Bx:=by rfl) :
  PE X (.Call (.Attribute o name apos) (e::es) [] cpos) (tBM X.K T r to t):=by intros Q I h;refine wpAny_Call_method_late hbase hfew hline rfl (thn (ho By s σ H _ I h) λv s1=>el5 λx H1 I1 r1=>ua2 λty q1=>?_);obtain⟨h1,h2⟩:=zaO I1 r1 ty;refine#[T,id,pa,slot,hty,h1,h2,?_];have hA:=ha cpos By s1 σ H1 _ I1 q1;rw[hs]at hA ⊢;refine Calls.callWith_builtin (by show (Bx || (tK cpos (sS es X.env)).any (·.1))=Bx;rw[hplain] <;> rfl) (Calls.evalArgs_plain ?_);exact thn hA λus s2=>el5 λvs H2 I2 r2 q2=>hm By s2 σ H2 x vs v us Q I2 r1 r2 q2
/- xs.append(e),list.index on a module's tuple .. are MtR facts of 06m -/
end
def MtM(X:Cx)(id:String)(r:V->List V->Hp->VK->Prop):Prop :=
 ∀(By:List (sX × tR)) (s:sZ) (σ:St) (H:Hp) (x:V) (xs:List V) (v:sY) (us:List sY) (Q:VK),Inv X By σ H s->RelV x v->Vals xs us->r x xs H Q ->
  tm (model X.prog X.w) X.A (call (.builtin id) (v::us)) (EP X By σ Q) X.xe s
theorem Vals.one{x:V}{us:List sY}(h:Vals [x] us):∃u,us=[u]/\RelV x u:=by
 cases h with
 | cons r t =>
  cases t;exact#[_,rfl,r]
theorem Vals.two{x y:V}{us:List sY}(h:Vals [x,y] us):∃u v,us=[u,v]/\RelV x u/\RelV y v:=by
 cases h with
 | cons r t =>
  obtain⟨u,rfl,q⟩:=Vals.one t;exact#[_,_,rfl,r,q]
theorem Vals.zero:∀{us:List sY},Vals [] us->us=[]
 | _,.nil=>rfl
theorem Vals.dropLast{xs:List V}{us:List sY}(h:Vals xs us):Vals xs.dropLast us.dropLast:=by
 induction h with
 | nil=>exact .nil
 | cons r t ih =>
  cases t with
  | nil=>exact .nil
  | cons q t'=>exact .cons r ih
theorem Vals.eraseIdx:∀{xs:List V} {us:List sY} (i:Nat),Vals xs us->Vals (xs.eraseIdx i) (us.eraseIdx i)
 | _,_,_,.nil=>.nil
 | _,_,0,.cons _ t=>t
 | _,_,i+1,.cons r t=>.cons r (Vals.eraseIdx i t)
theorem Vals.reverse{xs:List V}{us:List sY}(h:Vals xs us):Vals xs.reverse us.reverse:=by
 induction h with
 | nil=>exact .nil
 | cons r t ih=>rw[List.reverse_cons,List.reverse_cons];exact Vals.append ih (.cons r .nil)
theorem VQ{α:Type}(l:List α):l.eraseIdx (l.length - 1)=l.dropLast:=by
 induction l with
 | nil=>rfl
 | cons a r ih =>
  cases r with
  | nil=>rfl
  | cons b r =>
   have e:(a::b::r).length - 1=((b::r).length - 1)+1:=by
    have h1:(a::b::r).length=r.length+2:=rfl;have h2:(b::r).length=r.length+1:=rfl;lia
   rw[e,List.eraseIdx_cons_succ,ih]
   all_goals rfl
section
variable{X:Cx}{By:List (sX × tR)}{σ:St}{H:Hp}{s:sZ}{l b:sX}{xs ys zs:List V}
def Inv.lset{its its':List sY}{n:Nat}{f:Array sY->Array sY}{t':Nat}(I:Inv X By σ H s)(hH:H l=Bu (.lst xs))(e:s.heap.get? l=Bu { cls:=.type "list",data:=.seq its.toArray n }) (hf:f its.toArray=its'.toArray) (hv:Vals ys its') (hz:ys.length<=sU) :
  Inv X By σ (upd H l (.lst ys)) { s with heap:=s.heap.update l (Obj.mapSeq f),toks:=t' }:=by have q:=PySem.IsL.update e f;rw[hf]at q;refine I.write (x:=l) (e:=l) (by rw[hH];exact trivial) (.inl rfl) (λb' u hb hu=>(aC s.heap (Obj.mapSeq f) (Ne.symm hb)).trans hu) #[_,q] ?_;exact#[hz,its',_,hv,q]
def Inv.lnew{its:List sY}{t':Nat}(I:Inv X By σ H s)(hv:Vals ys its)(hz:ys.length<=sU) :
  Inv X By σ (upd H s⁻¹ (.lst ys)) { s with heap:=s.heap.push { cls:=.type "list",data:=.seq its.toArray },toks:=t' } :=
 I.laid (λ_ _ q=>aa _ q) (al _) #[hz,its,0,hv,ay _ rfl]
def Inv.fresh(I:Inv X By σ H s):H s⁻¹=Bv:=I.hok.fresh (al _)
def Inv.lstM(I:Inv X By σ H s)(hH:H l=Bu (.lst xs)):xs.length<=sU/\∃(its:List sY) (n:Nat),Vals xs its/\xs.length=its.length/\s.heap.get? l=Bu { cls:=.type "list",data:=.seq its.toArray n }:=by obtain⟨z,its,n,r,e⟩:=I.hok l _ hH;exact#[z,its,n,r,r.length,e]
theorem zaj{n:Nat}(h:n<=sU):Builtin.List.listTooLong n=Bx:=by unfold Builtin.List.listTooLong;exact y3 ⋯
end
section
variable{X:Cx}
def UE:V->List V->Hp->VK->Prop:=λx vs H Q=>onRef x λl=>match vs with | [y]=>∃xs,H l=Bu (.lst xs)/\xs.length<sU/\Q .non (upd H l (.lst (xs ++ [y]))) | _=>False
theorem wQ:MtM X "list.append" UE:=by
 intros x vs v us Q I rx rv h;obtain⟨l,rfl,h2⟩:=onRef.of h
 obtain⟨y,rfl,xs,hH,hz,q⟩:∃y,vs=[y]/\∃xs,H l=Bu (.lst xs)/\xs.length<sU/\Q .non (upd H l (.lst (xs ++ [y]))):=by
  split at h2
  ·exact#[_,rfl,h2]
  ·exact h2.elim
 cases rx;obtain⟨u,rfl,ru⟩:=rv.one;obtain⟨z,its,n,r,hl,e⟩:=I.lstM hH;refine call_meets F.slot_list_append #[_,e,rfl] F.entry_list_append (F.args_list_append_2 _ _) (PySem.list_append l its.toArray n u (by rw[ak];lia)) #[e,?_];refine#[.non,_,I.lset (its':=its ++ [u]) hH e (by simp) (r.append (.cons ru .nil)) ?_,rfl,q];rw[aj,cT];lia
def UK:V->List V->Hp->VK->Prop:=λx vs H Q=>∃l b xs zs,x=.ref l/\vs=[.ref b]/\H l=Bu (.lst xs)/\H b=Bu (.lst zs)/\xs.length+zs.length<=sU/\Q .non (upd H l (.lst (xs ++ zs)))
theorem Q8:MtM X "list.extend" UK:=by
 intros x vs v us Q I rx rv h;obtain⟨l,b,xs,zs,rfl,rfl,hH,hB,hz,q⟩:=h;cases rx;obtain⟨u,rfl,ru⟩:=rv.one;cases ru;obtain⟨z,its,n,r,hl,e⟩:=I.lstM hH;obtain⟨z2,its2,n2,r2,hl2,e2⟩:=I.lstM hB;have hsz:its.toArray.size+its2.toArray.size<=sU:=by rw[ak,ak];lia
 have hlong:¬ (!its.toArray.isEmpty && Builtin.List.listTooLong (its.toArray.size+its2.toArray.size))=Bw:=by
  rw[zaj hsz,eh];exact aD
 refine call_meets F.slot_list_extend #[_,e,rfl] F.entry_list_extend (F.args_list_extend_2 _ _)
  (AutoSeq1.list_extend_list_list_0 l its.toArray n b its2.toArray n2 hlong (by rw[ak];lia) ⋯) #[e,e2,?_]
 refine#[.non,_,I.lset (its':=its ++ its2) hH e (by simp) (r.append r2) ?_,rfl,q];rw[aj];lia
def zg1:V->List V->Hp->VK->Prop:=λx vs H Q=>∃l xs y,x=.ref l/\vs=[]/\H l=Bu (.lst xs)/\xs[xs.length - 1]? = Bu y/\Q y (upd H l (.lst xs.dropLast))
theorem zgw:MtM X "list.pop" zg1:=by
 intros x vs v us Q I rx rv h;obtain⟨l,xs,y,rfl,rfl,hH,hy,q⟩:=h;cases rx;have hus:=rv.zero;subst hus;obtain⟨z,its,n,r,hl,e⟩:=I.lstM hH;obtain⟨u,hu,ru⟩:=r.get hy
 have hy':its.toArray[its.toArray.size - 1]? = Bu u:=by
  show its.toArray[its.length - 1]? = Bu u;rw[<- Array.getElem?_toList,<- hl];exact hu
 refine call_meets F.slot_list_pop #[_,e,rfl] F.entry_list_pop (F.args_list_pop_1 _) (MeetsSeq.list_pop_last l its.toArray n u hy' (by rw[ak];lia)) #[e,?_];refine#[y,_,I.lset (its':=its.dropLast) hH e ?_ r.dropLast ?_,ru,q]
 ·show its.toArray.eraseIdxIfInBounds (its.toArray.size - 1)=its.dropLast.toArray;rw[ak,List.eraseIdxIfInBounds_toArray,VQ]
 ·rw[List.length_dropLast];lia
def W3:V->List V->Hp->VK->Prop:=λx vs H Q=>∃l xs,x=.ref l/\vs=[]/\H l=Bu (.lst xs)/\Q .non (upd H l (.lst xs.reverse))
theorem VB:MtM X "list.reverse" W3:=by intros x vs v us Q I rx rv h;obtain⟨l,xs,rfl,rfl,hH,q⟩:=h;cases rx;have hus:=rv.zero;subst hus;obtain⟨z,its,n,r,hl,e⟩:=I.lstM hH;refine call_meets F.slot_list_reverse #[_,e,rfl] F.entry_list_reverse (F.args_list_reverse_1 _) (AutoSeq1.list_reverse_list_0 l its.toArray n (by rw[ak];lia)) #[e,?_];refine#[.non,_,I.lset (its':=its.reverse) hH e (by simp) r.reverse ?_,rfl,q];rw[bE];lia
def zc4:R2:=λx y H Q=>onRef x λl=>onRef y λb=>∃xs,H l=Bu (.lst xs)/\∃zs,H b=Bu (.lst zs)/\xs.length+zs.length<=sU/\∀p,H p=Bv->Q (.ref p) (upd H p (.lst (xs ++ zs)))
theorem W7:OpR X (binaryOp .Add) zc4:=by
 intros x y v u Q I rx ry h;obtain⟨l,rfl,h2⟩:=onRef.of h;obtain⟨b,rfl,xs,hH,zs,hB,hz,q⟩:=onRef.of h2;cases rx;cases ry;obtain⟨z,its,n,r,hl,e⟩:=I.lstM hH;obtain⟨z2,its2,n2,r2,hl2,e2⟩:=I.lstM hB;refine PySem.P.add_list e e2 ?_ (by rw[ak,ak];lia);have ea:its.toArray ++ its2.toArray=(its ++ its2).toArray:=by simp
 rw[ea];exact#[.ref _,_,I.lnew (t':=s.toks) (r.append r2) (by rw[aj];lia),rfl,q _ I.fresh]
theorem len_rep{α:Type}(xs:List α)(k:Nat):(aP k xs).flatten.length=k * xs.length:=by
 induction k with
 | zero=>simp
 | succ k ih=>rw[cy,dC,aj,ih,eP,Nat.add_comm]
end
section
variable{prog:tu}{w:tz}{A:tB}{E:sY->sZ->Prop}{s:sZ}
end
section
variable{X:Cx}
end
end L2
namespace Att
open PySem PySem.W PySem.Calls PyProof.Rows
theorem qZ{P:Params}{h:tE}:∀(ns:List Int) (vs:List sY),WellAll P h vs (ns.map WData.int)->Be vs ns:=by
 intro ns
 induction ns with
 | nil =>
  intro vs w;rw[aO]at w;cases w;exact .nil
 | cons n ns ih =>
  intro vs w;rw[av]at w
  cases w with
  | cons a b =>
   cases a;exact .cons _ _ (ih _ b)
theorem script_of{l:OpenLaw}{n:Nat}(hn:l.most=Bu n){P:Params}{h:tE}{args:List WData}{vals:List sY}(hpre:l.row.toRowW.claim.pre args=Bw) (hwl:WellAll P h vals args) :
  ∃a vs ns,vals=[u6 a]/\args=[WData.list (ns.map WData.int)]/\h.get? a=Bu { cls:=.type "list",data:=.seq vs.toArray }/\Be vs ns/\ns.length<=n:=by
 have hsh:WShape.hasAll [] args [.list .int]=Bw:=(pre_splitW hpre).1;have hc:l.pre.holds [] { args:=args }=Bw:=(pre_splitW hpre).2;obtain⟨d,r,rfl,h1,h2⟩:=hasAllW_cons hsh;obtain rfl:=hasAllW_nil h2;obtain⟨xs,rfl,h3⟩:=hasW_list h1;obtain⟨ns,rfl⟩:=items_int h3
 have hlen:ns.length<=n:=by
  unfold OpenLaw.pre at hc
  have h4:(WTm.not (.lt (.lit (.int (n:Int))) (.len (.arg 0)))).holds [] { args:=[.list (ns.map .int)] }=Bw:=by
   have h4:=(holds_andW hc).1;rw[hn]at h4;exact h4
  have h5:=condW_of h4 (w_not (w_lt w_lit (w_len_list (w_arg rfl))));rw[ac]at h5;refine db λq=>?_;have q':(n:Int)<((ns.length:Nat):Int):=⋯
  first
   | (rw[w9 q']at h5;exact y4 h5 ∅)
   | (simp at h5;lia)
 cases hwl with
 | cons w1 w2 =>
  cases w2
  cases w1 with
  | list ho hall=>exact#[_,_,ns,rfl,rfl,ho,qZ ns _ hall,hlen]
def post_true(l:OpenLaw)(args:List WData):l.row.toRowW.claim.post args (.bool Bw) args=Bw :=
 postW_of (r:=l.row.toRowW) (X:=(Bw == Bw))
  (show WShape.has [] (.bool Bw) .bool=Bw by first | rfl | decide | simp [WShape.has,WShape.arms,WShape.armsAll])
  (show (WTm.eq .res (.lit (.bool Bw))).value [] { args:=args,res:=Bu (.bool Bw),after:=args }=Bu (.bool (Bw == Bw))from w_eq_bool (w_res rfl) w_lit) rfl
section
variable{prog:tu}{w:tz}{A:tB}{E:sY->sZ->Prop}{s:sZ}{K:Frag}
end in def zgG(h:tE)(L d:sX):List (sX × tR):=(aN h.objs.size).filterMap λa=>if a=L\/a=d then Bv else (h.get? a).map λo=>(a,o)
end
end Att
namespace L2
theorem Yo:∀{vs:List sY} {ns:List Int},Be vs ns->Vals (ns.map V.int) vs
 | _,_,.nil=>.nil
 | _,_,.cons n t h=>.cons #[t,rfl] (Yo h)
end in def yD(s:tF)(j:Nat):tF:=match s with
 | .ClassDef _ _ _ body _ _ _ _ _ _ _=>body.getD j (.Pass #[0,0,0,0])
 | _=>.Pass #[0,0,0,0]
end in def yZ(s:tF):Ag:=match s with
 | .FunctionDef _ a _ _ _ _ _ _ _ _=>a
 | _=>{ posonlyargs:=[],args:=[],vararg:=Bv,kwonlyargs:=[],kw_defaults:=[],kwarg:=Bv,defaults:=[] }
end in def yq(s:tF):List tF:=match s with
 | .FunctionDef _ _ b _ _ _ _ _ _ _=>b
 | _=>[]
end in def zh(s:tF):tU:=match s with
 | .FunctionDef _ _ _ _ _ _ sc _ _ _=>sc
 | _=>{ kind:=.function,names:=[],isGenerator:=Bx,isCoroutine:=Bx }
abbrev CX0:CXT:=λ_ _ _ _ _ _=>False
end in abbrev E0:XK:=λ_ _ _=>False
def XR{X:Cx}:qt CX0 X E0:=λ_ _ _ _ _ _ _ h=>h.elim
structure Fun(K:sV)(x qual:tw)(st:tF)(f:sX)(fd:tj):Prop where
 ex:∃(oc:sY) (od:Option sX) (kV doc pm:sY) (an:Option sX) (cdv ct:sY) (osl:Array (Option sY)),
  fd=bu x qual (yZ st) (yq st) (zh st) .none kV doc pm an cdv ct/\K.lookup f=Bu #[oc,od,.func fd,osl]/\bU K cdv qual=Bw
 kp:aI K (.ref f)=Bw
section
variable{P:tu}{w:tz}{K:sV}{mg:tw->Option sY}{base:tE}
def Fun.ok{x qual:tw}{st:tF}{f:sX}{fd:tj}{N ps:List tw}{k:Nat}{sp:Sp}(F:Fun K x qual st f fd)(S:zm N ps (zh st))(len:∀vs H Q E,sp vs H Q E->vs.length=ps.length)(hbody:∀(cdv:sY) (A:tB) (outer:List AK) (s:sZ) (H:Hp) (vs:List V) (Q:VK) (E:XK),Room k (A.deeper (Ax qual (zh st) s⁻¹ f cdv))->sp vs H Q E ->
   ∃t,PSs (qS CX0 P w K mg base N qual (zh st) f cdv A outer s H E).nox (yq st) t/\t { nx:=λ_ H'=>Q .non H',rt:=Q } (start N vs) H):zY P w K mg base CX0 (k+1) f fd ps sp:=by obtain⟨oc,od,kV,doc,pm,an,cdv,ct,osl,rfl,lk,hcd⟩:=F.ex;refine J9 lk hcd S len λA outer s H vs Q E hr hsp=>?_;obtain⟨t,h,q⟩:=hbody cdv A outer s H vs Q E hr hsp;exact#[t,h.nox,q]
def Fun.binds{x qual:tw}{st:tF}{f:sX}{fd:tj}{ps:List tw}(F:Fun K x qual st f fd)(h:∀(kV doc pm:sY) (an:Option sX) (cdv ct:sY) (us:List sY),us.length=ps.length->bindArgs (bu x qual (yZ st) (yq st) (zh st) .none kV doc pm an cdv ct) #[us,[]]=pure (ps.zip us)):Binds K fd ps []:=by obtain⟨oc,od,kV,doc,pm,an,cdv,ct,osl,rfl,lk,hcd⟩:=F.ex;exact .all (h kV doc pm an cdv ct)
def fun_mk{x qual:tw}{st:tF}{f:sX}{oc:sY}{od an:Option sX}{osl:Array (Option sY)}{kV doc pm cdv ct:sY}(l:K.lookup f=Bu #[oc,od,.func (bu x qual (yZ st) (yq st) (zh st) .none kV doc pm an cdv ct),osl])(c:bU K cdv qual=Bw) (k:aI K (.ref f)=Bw):Fun K x qual st f (bu x qual (yZ st) (yq st) (zh st) .none kV doc pm an cdv ct):=#[#[oc,od,kV,doc,pm,an,cdv,ct,osl,rfl,l,c],k]
end
section
variable{X:Cx}
def pv(i:Nat){x:tw}{pos:Ad}(hN:X.N[i]? = Bu x:=by rfl)(hv:Vis X.env.scope x:=by first | exact Or.inl rfl | exact Or.inr (.inl rfl) | exact Or.inr (Or.inr rfl))(hd:(x ==("__debug__" : tw))=Bx:=by decide)(hcd:(x ==("__classdict__" : tw))=Bx:=by decide):PE X (.Name x pos) (z6 i):=zdt hN hv hd hcd
end
def zf9{A B:Prop}(h:A):if Bw=Bw then A else B:=by rw[y6 rfl];exact h
def yE{c A B:Prop}[Decidable c](h1:c->A)(h2:¬ c->B):if c then A else B:=by
 by_cases h:c
 ·rw[y6 h];exact h1 h
 ·rw[y9 h];exact h2 h
def Same(H H':Hp):Prop:=∀b o,H b=Bu o->H' b=Bu o
def Same.refl(H:Hp):Same H H:=λ_ _ h=>h
def Same.trans{H H1 H2:Hp}(a:Same H H1)(b:Same H1 H2):Same H H2:=λc o h=>b c o (a c o h)
theorem Same.free{H H':Hp}(e:Same H H'){l:sX}(h:H' l=Option.none):H l=Option.none:=by
 cases q:H l with
 | none=>rfl
 | some o =>
  rw[e l o q]at h;cases h
def Same.seq{K:sV}{H H':Hp}{a:sX}{xs:List V}(e:Same H H')(h:SqL K H a xs):SqL K H' a xs:=by
 rcases h with (h | ⟨o,h⟩) | h
 ·exact .inl (.inl (e _ _ h))
 ·exact .inl (.inr #[o,e _ _ h])
 ·exact .inr h
end L2
open L2
namespace L3
end in abbrev St:=L2.St
end in abbrev cs(x:tw):():=x.cps.toList
end in abbrev tx(l:()):tw:=⟨l.toArray⟩
def zeE(x:tw):tx (cs x)=x:=by cases x;rfl
def qX(l:()):cs (tx l)=l:=rfl
def Vf(x:tw):x.length=(cs x).length:=by simp [Str.length,cs]
def zK(l:()):(tx l).length=l.length:=by simp [Str.length,tx]
def YK{x y:tw}(h:cs x=cs y):x=y:=by rw[<- zeE x,<- zeE y,h]
def qo{l m:()}(h:tx l=tx m):l=m:=by rw[<- qX l,<- qX m,h]
def zdm{l m:()}:tx l=tx m ↔ l=m:=#[qo,λh=>by rw[h]]
def yL(l m:()):tx l ++ tx m=tx (l ++ m):=by apply YK;show (tx l ++ tx m).cps.toList=l ++ m;rw[Str.cps_append];simp
end in def cut{α:Type}(l:List α)(lo hi:Option Int):List α:=(l.drop (HT.sIx l.length 0 lo)).take (HT.sIx l.length l.length hi - HT.sIx l.length 0 lo)
theorem w8{α:Type}(l:List α)(lo hi:Option Int):(cut l lo hi).length<=l.length:=by unfold cut;rw[aE,aS];lia
theorem U9(a b:Nat):sliceRange (a:Int) (b:Int) 1=(aN (b - a)).map (λk=>a+k):=by
 unfold sliceRange
 have e:(if (1:Int) > 0 then (if (a:Int)<b then ((b:Int) - a+1 - 1) / 1 else 0)else (if (a:Int) > b then ((a:Int) - b - 1 - 1) / (-1)else 0)).toNat=b - a:=by
  rw[y6 ∅];by_cases h:(a:Int)<b
  ·rw[y6 h,Int.ediv_one];lia
  ·rw[y9 h];lia
 show (aN ((if (1:Int) > 0 then (if (a:Int)<b then ((b:Int) - a+1 - 1) / 1 else 0)else (if (a:Int) > b then ((a:Int) - b - 1 - 1) / (-1)else 0)).toNat)).map _=_;rw[e];refine cz λk _=>?_;lia
theorem zcg(lo hi:Option Int)(n:Nat):r8 lo hi 1 n=(aN (HT.sIx n n hi - HT.sIx n 0 lo)).map (λk=>HT.sIx n 0 lo+k):=by
 rw[<- U9]
 have clip:∀(v:Int) (d:Nat),max 0 (min (if v<0 then v+(n:Int)else v) (n:Int))=((HT.sIx n d (Bu v):Nat):Int):=λv d=>by
  show _=(((if v<0 then (v+(n:Int)).toNat else min v.toNat n):Nat):Int);by_cases hv:v<0
  ·erw[y6 hv];lia
  ·erw[y9 hv];lia
 have h1:((1:Int) > 0)=True:=by simp
 unfold r8
 cases lo with
 | none =>
  cases hi with
  | none=>erw[h1,if_true];rfl
  | some j=>erw[h1,if_true,clip j n];rfl
 | some i =>
  cases hi with
  | none=>erw[h1,if_true,clip i 0];rfl
  | some j=>erw[h1,if_true,clip i 0,clip j n]
theorem Qg(x:tw)(lo hi:Option Int):Txt.slice x lo hi=tx (cut (cs x) lo hi):=by
 have hn:x.length=x.cps.toList.length:=Vf x;have hj:HT.sIx x.length x.length hi<=x.length:=HT.sIx_le _ _ (al _) hi;have hi0:HT.sIx x.length 0 lo<=x.length:=HT.sIx_le _ _ (aG _) lo;unfold Txt.slice;rw[zcg];split
 ·rename_i h;have h':HT.sIx x.length x.length hi - HT.sIx x.length 0 lo=x.length:=by simpa using h
  apply YK;show x.cps.toList=cut x.cps.toList lo hi;unfold cut;rw[<- hn];by_cases z:x.length=0
  ·have:x.cps.toList=[]:=d5 ⋯;rw[this];simp
  ·have e0:HT.sIx x.length 0 lo=0:=⋯;rw[e0]at h' ⊢;rw[h',et,hn,aJ]
 ·apply YK;have h:=StrLaws.picks x.cps.toList (HT.sIx x.length x.length hi - HT.sIx x.length 0 lo) (HT.sIx x.length 0 lo) ⋯;show (List.filterMap (λk=>x.cps[k]?) _).toArray.toList=cut x.cps.toList lo hi;unfold cut;rw[<- hn];simpa using h
section
variable{X:Cx}
theorem Qh{v:sY}{o:Option Int}(p:IsPart v o):∃l:Option (Int × Ay),v=partValue l/\l.map (·.1)=o:=by
 cases p with
 | none=>exact#[Bv,rfl,rfl]
 | int i t=>exact#[Bu (i,t),rfl,rfl]
def zeo:V->Option Int->Option Int->Hp->VK->Prop:=λx lo hi H Q=>onStr x λz=>z.length<=sU/\Q (.str (tx (cut (cs z) lo hi))) H
theorem y8:SlR X zeo:=by
 intros x v vl vu lo hi sl Q I rx hs pl pu h;obtain⟨z,rfl,hz,q⟩:=onStr.of h;obtain⟨t,rfl⟩:=rx;obtain⟨l,rfl,el⟩:=Qh pl;obtain⟨u,rfl,eu⟩:=Qh pu;refine#["str",_,slot_str_getitem.lookup,typeIs_str s z t,?_];refine AE (l:=l) (u:=u) (st:=Bv) hs rfl ?_;have e:Txt.slice z lo hi=tx (cut (cs z) lo hi):=Qg z lo hi;have hl:(tx (cut (cs z) lo hi)).length<=sU:=by rw[zK];have:=w8 (cs z) lo hi;rw[<- Vf]at this;lia
 unfold sliceMade slicePicked;rw[el,eu];unfold Txt.slice at e;by_cases hc:((1:Int) == 1 && (r8 lo hi 1 z.length).length == z.length)=Bw
 ·rw[y6 hc]at e;have hc':(((Bv:Option (Int × Ay)).map (·.1)).getD 1 == 1 && (r8 lo hi (((Bv:Option (Int × Ay)).map (·.1)).getD 1) z.length).length == z.length)=Bw:=hc;rw[y6 hc'];exact#[.str (tx (cut (cs z) lo hi)),H,I,#[t,by rw[<- e]],q]
 ·rw[y9 hc]at e;have hc':¬ (((Bv:Option (Int × Ay)).map (·.1)).getD 1 == 1 && (r8 lo hi (((Bv:Option (Int × Ay)).map (·.1)).getD 1) z.length).length == z.length)=Bw:=hc;rw[y9 hc'];show (Str.mk ((r8 lo hi 1 z.length).filterMap (z.cps[·]?)).toArray).length<=sU/\_;rw[e];refine#[hl,?_]
  exact#[.str (tx (cut (cs z) lo hi)),H,I.tok _,#[_,by
   show Value.str (Str.mk ((r8 lo hi 1 z.length).filterMap (z.cps[·]?)).toArray) _=_
   rw[e]],q]
theorem Wl(l:()):∀(k:Nat) (BA:Array Nat),((aP k l.toArray).foldl (· ++ ·) BA).toList=BA.toList ++ (aP k l).flatten
 | 0,BA=>by simp
 | k+1,BA=>by
  rw[cy,List.foldl_cons,Wl l k,cy,dC];simp
theorem Vz:OpR X (binaryOp .Mult) (λx y H Q=>∃z n,x=.str z/\y=.int n/\0<=n/\n<=1000/\z.length<=1000/\Q (.str (tx (aP n.toNat (cs z)).flatten)) H):=by
 intros x y v u Q I rx ry h;obtain⟨z,n,rfl,rfl,h0,h1,hz,q⟩:=h;obtain⟨t,rfl⟩:=rx;obtain⟨t',rfl⟩:=ry;have hs:sU=16777216:=tP;have hmul:z.length * n.toNat<=1000 * 1000:=fF hz ⋯;have fl:((aP n.toNat (cs z)).flatten).length=n.toNat * z.length:=by rw[L2.len_rep,<- Vf]
 refine PySem.P.mul_str ?_ (λ_ _=>?_) (λ_ _=>?_) ?_
 ·rw[y3 ⋯,y3 ⋯];rfl
 ·have:(1000:Int)<=(2 ^ 63 - 1) / n:=by
   apply Int.le_ediv_of_mul_le ⋯;lia
  lia
 ·unfold Builtin.Str.tooLong;exact y3 ⋯
 ·by_cases c1:n<1
  ·rw[y6 c1];have e:n.toNat=0:=⋯;rw[e]at q;exact#[∅,.str (tx []),H,I.tok _,#[_,rfl],q]
  ·rw[y9 c1];by_cases c2:(n == 1 || z.length == 0)=Bw
   ·rw[y6 c2]
    have e:tx (aP n.toNat (cs z)).flatten=z:=by
     rw[fm]at c2;rcases c2 with c | c
     ·have:n.toNat=1:=by have:=eq_of_beq c;lia
      rw[this]
      erw[List.replicate_one,List.flatten_singleton]
     ·have c0:z.length=0:=eq_of_beq c;have:cs z=[]:=d5 (by rw[<- Vf];exact c0);apply YK;rw[this];show (aP n.toNat ([]:())).flatten=[]
      erw[List.flatten_replicate_nil]
    rw[e]at q;exact#[.str z,H,I,#[_,rfl],q]
   ·rw[y9 c2]
    have e:(⟨(aP n.toNat z.cps).foldl (· ++ ·) #[]⟩:tw)=tx (aP n.toNat (cs z)).flatten:=by
     apply YK;have:=Wl (cs z) n.toNat #[];have e2:(cs z).toArray=z.cps:=by cases z;rfl
     rw[e2]at this;show (List.foldl (· ++ ·) #[] (aP n.toNat z.cps)).toList=(aP n.toNat (cs z)).flatten;rw[this];rfl
    rw[e];refine#[by rw[zK,fl,Nat.mul_comm];lia,.str _,H,I.tok _,#[_,rfl],q]
def Ul:OpR X (tG .LtE) (λx y H Q=>∃i j,x=.str i/\y=.str j/\Q (.bl (!(decide (cs j<cs i)))) H):=by intros x y v u Q I rx ry h;obtain⟨i,j,rfl,rfl,q⟩:=h;obtain⟨t,rfl⟩:=rx;obtain⟨t',rfl⟩:=ry;exact PySem.P.le_str #[.bl _,H,I,rfl,q]
def op_lt_str':OpR X (tG .Lt) (λx y H Q=>∃i j,x=.str i/\y=.str j/\Q (.bl (decide (cs i<cs j))) H):=Qz
def zdB(x:tw)(c:Nat):(!(Builtin.Str.occurrences x (tx [c]) 0 x.length 1).isEmpty)=decide (c ∈ cs x):=StrLaws.found_one x c
def Ko:MtR X "str.count" (λx xs H Q=>∃z y,x=.str z/\xs=[.str y]/\Q (.int (Txt.count z y)) H):=by intros x xs v us Q I rx rv h;obtain⟨z,y,rfl,rfl,q⟩:=h;obtain⟨t,rfl⟩:=rx;obtain⟨u,rfl,t',rfl⟩:=wx rv;exact PySem.SC.count #[.int _,H,I.tok _,#[_,rfl],q]
def UN:MtR X "str.find" (λx xs H Q=>∃z y,x=.str z/\xs=[.str y]/\Q (.int (Txt.find z y)) H):=by intros x xs v us Q I rx rv h;obtain⟨z,y,rfl,rfl,q⟩:=h;obtain⟨t,rfl⟩:=rx;obtain⟨u,rfl,t',rfl⟩:=wx rv;exact PySem.SC.find #[.int _,H,I.tok _,#[_,rfl],q]
end
section
variable{X:Cx}{By:List (sX × tR)}{σ:St}{H:Hp}{s:sZ}{fp:List sX}{h':tE}{t':Nat}
def Inv.turns(I:Inv X By σ H s)(k:∀b o,b ∉ fp->s.heap.get? b=Bu o->h'.get? b=Bu o)(hf:∀b ∈ fp,wz X By H b):Inv X By σ H { s with heap:=h',toks:=t' }:=by
 have nit:∀b u,H b=Bu u->b ∉ fp:=λb u e z=>by rw[(hf b z).1]at e;cases e
 refine I.step (g':=s.gens) (d':=s.drawn) (ch:=fp) (λb hb=>?_) (λb o _ _ hc e _=>k b o hc e) (λb o _ _ hc e _=>#[o.slots,k b o hc e]) (λ_ _ _ _ n=>n)
  (λb o hc e=>#[o,k b o hc e]) (λ_ _ e=>e) (λ_ _ _ e=>e) (λb ps e=>#[#[],by rw[e];simp]) (λm hm=>?_) (λb u e=>?_) I.bare
 ·obtain⟨_,a1,_,a3,a4,a5⟩:=hf b hb;exact#[a3,a1,a4,a5]
 ·obtain⟨o,es,ep,ho,r⟩:=hm;exact#[o,es,ep,k _ o (λz=>(hf _ z).2.1 rfl) ho,r]
 ·refine (I.hok b u e).stay (λc v hc q=>k c v ?_ q) (λ_ q=>q) λ_ _ q=>q;rcases hc with z | z
  ·rw[z];exact nit b u e
  ·exact nit c _ z
def Inv.track{a:sX}{o:HO}(I:Inv X By σ H s)(fa:wz X By H a)(new:ObjOk X.prog X.w (upd H a o) s.heap a o):Inv X By σ (upd H a o) s:=by
 obtain⟨a0,a1,a2,a3,a4,a5⟩:=fa;have e:s={ s with heap:=s.heap,gens:=s.gens,drawn:=s.drawn,toks:=s.toks }:=rfl;rw[e]
 refine I.step (g':=s.gens) (d':=s.drawn) (ch:=[a]) (λb hb=>?_) (λb o _ _ _ e _=>e) (λb o _ _ _ e _=>#[o.slots,e]) (λb o hc _ n=>?_)
  (λb o _ e=>#[o,e]) (λb xs e=>?_) (λb u xs e=>?_) (λb ps e=>?_) (λm hm=>hm) (λb u e=>?_) I.bare
 ·have eb:b=a:=by simpa using hb
  subst eb;exact#[a3,a1,a4,a5]
 ·rw[zq (by simpa using hc)];exact n
 ·rw[zq (zI e a0)];exact e
 ·rw[zq (zI e a0)];exact e
 ·exact#[#[],by rw[zq (zI e a0),e];simp]
 ·by_cases hb:b=a
  ·subst hb;rw[zc]at e;cases e;exact new
  ·rw[zq hb]at e;exact (I.hok b u e).stay (λc v _ q=>q) (λc q=>by rw[zq (zI q a0)];exact q) λc xs q=>by rw[zq (zI q a0)];exact q
end
end in def Its(x:tw):It:=#[λi _=>i<(cs x).length,λi H v H'=>H'=H/\∃c,(cs x)[i]? = Bu c/\v=.str (tx [c]),λi _=>i=(cs x).length]
def zac{P:tu}{w:tz}{K:sV}{tg:tD}{ty:String}(hty:["enumerate","zip","dict_itemiterator","dict_reverseitemiterator","odict_iterator","itertools.zip_longest","itertools.pairwise"].contains ty=Bx)(it:sX)(x:tw)(t:Ay)(W:∀A:tB,A.handled=Bv->Walks P w A it [it] [it] x.cps.size (SignAt x) λi h=>h.IsStrIter it ty x t i)(S:∀(A:tB) (i:Nat) (s:sZ) (Q:sY->sZ->Prop) (E:sY->sZ->Prop),s.heap.IsStrIter it ty x t i->Q (.ref it) s->tm (model P w) A (pyIter (.ref it)) Q E s) :
  JN P w K tg (Its x) [it] it (λi h=>h.IsStrIter it ty x t i) where
 mem:=by simp
 obj:=λi h st b hb=>by
  have e:b=it:=by simpa using hb
  subst e;obtain⟨o,e,c,d⟩:=st;exact#[o,e,λv z=>by rw[d]at z;cases z]
 keep:=λi h h' st k=>let #[o,e,r]:=st; #[o,k it (by simp) o e,r]
 item:=by
  intro X hP hw hK hc i By s σ H E I hf st hg;subst hP hw hK;obtain⟨f0,f1,f2,f3,f4,f5⟩:=hf it (by simp);have hg':i<x.cps.size:=by have:i<x.cps.toList.length:=hg;simpa using this
  refine (W X.A (I.ok.hd hc)).item i s _ _ hg' st λv h' tk hv st' kk=>?_;obtain⟨c,u,hcc,rfl⟩:=hv;have I1:Inv X By σ H { s with heap:=h',toks:=tk }:=I.turned (λb o hb e=>kk b o (by simpa using hb) e) f0 f1 f3 f4 f5;obtain⟨o,e,cl,d⟩:=id st';refine#[_,rfl,VW (s:={ s with heap:=h',toks:=tk }) e cl d hty #[.str (tx [c]),H,I1,#[u,rfl],#[rfl,c,?_,rfl],st',λb hb=>(hf b hb).1]];show x.cps.toList[i]? = Bu c;simpa using hcc
 done:=by
  intro X hP hw hK hc i By s σ H E I hf st hg;subst hP hw hK;obtain⟨f0,f1,f2,f3,f4,f5⟩:=hf it (by simp);have hi:i=x.cps.size:=by have:i=x.cps.toList.length:=hg;simpa using this
  rw[hi]at st;exact (W X.A (I.ok.hd hc)).done s _ _ st λh' tk kk=>#[rfl,I.turned (λb o hb e=>kk b o (by simpa using hb) e) f0 f1 f3 f4 f5]
 self:=λA i s Q E st h=>S A i s Q E st h
section
variable{X:Cx}{tg:tD}
def zfQ(tl:TE):TI:=λσ H R=>tl σ H λv H1=>∃x,v=.str x/\R (Its x) H1
def kN{l:tD}{tl:TE}(hl:PE X l tl):PI X tg l (zfQ tl):=by
 intros R I h;refine thn (hl By s σ H _ I h) λv s1=>el5 λy H1 I1 r1 q1=>?_;obtain⟨x,e,q⟩:=q1;subst e;obtain⟨t,rfl⟩:=r1
 have fin:∀(ty:String) (hty:["enumerate","zip","dict_itemiterator","dict_reverseitemiterator","odict_iterator","itertools.zip_longest","itertools.pairwise"].contains ty=Bx)
   (W:∀A:tB,A.handled=Bv->Walks X.prog X.w A s1⁻¹ [s1⁻¹] [s1⁻¹] x.cps.size (SignAt x) λi h=>h.IsStrIter s1⁻¹ ty x t i)
   (S:∀(A:tB) (i:Nat) (s:sZ) (Q:sY->sZ->Prop) (E:sY->sZ->Prop),s.heap.IsStrIter s1⁻¹ ty x t i->Q (.ref s1⁻¹) s->tm (model X.prog X.w) A (pyIter (.ref s1⁻¹)) Q E s),
   PIE X By σ tg R (.ref s1⁻¹) { s1 with heap:=s1.heap.push { cls:=.type ty,data:=.fields (u9 [.str x t,.int 0 0]) } }:=λty hty W S=>by
  refine#[s1⁻¹,[s1⁻¹],_,_,H1,rfl,I1.kept (t':=s1.toks) λb o e=>aa _ e,zac hty _ x t W S,#[_,ay _ rfl,rfl,rfl],λb hb=>?_,q];have e:b=s1⁻¹:=by simpa using hb
  subst e;exact I1.fpOk (al _) (I1.hok.fresh (al _))
 cases ha:x.cps.all (· < 128)
 ·exact wpAny_pyIter_wide ha (fin "str_iterator" ∅ (λA hA=>Walks.strWide hA _ x t) λA i s Q E st h=>wpAny_pyIter_striter_wide st h)
 ·exact wpAny_pyIter_ascii ha (fin "str_ascii_iterator" ∅ (λA hA=>Walks.strAscii hA _ x t) λA i s Q E st h=>wpAny_pyIter_striter_ascii st h)
end
theorem zcP{x:tw}{g:TG}{tb:TS}{D:uf}{σ:St}{H:Hp}(Pv:Nat->St->Hp->Prop)(h0:Pv 0 σ H)(hs:∀i c σ H,(cs x)[i]? = Bu c->Pv i σ H->g (.str (tx [c])) σ H λσ2 H2=>tb { D with nx:=Pv (i+1),ct:=Pv (i+1),bk:=D.nx } σ2 H2) (hd:∀σ H,Pv (cs x).length σ H->D.nx σ H) :
  ∃W:Nat->Nat->St->Hp->Prop,(∃m,W 0 m σ H)/\∀i m σ H,W i m σ H ->
   ((Its x).stop i H/\D.nx σ H)\/((Its x).go i H/\∃N:St->Hp->Prop,(∀σ' H',N σ' H'->∃m',m'<m/\W (i+1) m' σ' H')/\∀v H',(Its x).yld i H v H'->g v σ H' λσ2 H2=>tb { D with nx:=N,ct:=N,bk:=D.nx } σ2 H2):=by
 refine#[λi m σ H=>m=(cs x).length - i/\i<=(cs x).length/\Pv i σ H,#[(cs x).length,by simp,aG _,h0],?_];rintro i m σ H ⟨rfl,hi,p⟩;by_cases hlt:i<(cs x).length
 ·refine .inr #[hlt,Pv (i+1),λσ' H' p'=>#[(cs x).length - (i+1),⋯,rfl,hlt,p'],λv H' y=>?_];obtain⟨e,c,hc,ev⟩:=y;subst e ev;exact hs i c σ _ hc p
 ·have e:i=(cs x).length:=⋯;subst e;exact .inl #[rfl,hd σ H p]
end in def Ite(x:tw):It:=#[λi _=>i<(cs x).length,λi H v H'=>∃p c,H p=Bv/\(cs x)[i]? = Bu c/\v=.ref p/\H'=upd H p (.tup [.int (i:Nat),.str (tx [c])]),λi _=>i=(cs x).length]
section
variable{X:Cx}
def zfZ(ta:TA):TI:=λσ H R=>ta σ H λvs H1=>∃x,vs=[.str x]/\R (Ite x) H1
end
theorem uR{env:AK}:∀(names:List (tw × Aw)) (BA:List (tw × sX)),
    (∀y,(y,NameKind.free) ∈ names->∃c,env.cells.lookup y=Bu c)->(∀y c,BA.lookup y=Bu c->env.cells.lookup y=Bu c) ->
    ∃cl,(forIn names BA λ(x:tw × Aw) (cs:List (tw × sX))=>if (x.2 == NameKind.free)=Bw then (do let a <- cellOf env x.1;pure (ForInStep.yield ((x.1,a)::cs)))else pure (ForInStep.yield cs):Bl (List (tw × sX)))=pure cl /\
      (∀y c,cl.lookup y=Bu c->env.cells.lookup y=Bu c)/\(∀y,(y,NameKind.free) ∈ names\/(BA.lookup y).isSome=Bw->∃c,cl.lookup y=Bu c)
  | [],BA,_,ha=>#[BA,rfl,ha,λy h=>by
      rcases h with h | h
      . cases h
      . exact BQ.mp h]
  | (n,k)::r,BA,hn,ha=>by
    by_cases hk:k=NameKind.free
    . subst hk
      obtain⟨c,hc⟩:=hn n (by simp)
      have ha':∀y d,((n,c)::BA).lookup y=Bu d->env.cells.lookup y=Bu d:=λy d e=>by
        rw[aY]at e;by_cases hy:(y == n)=Bw
        . rw[hy]at e
          have:y=n:=eq_of_beq hy;subst this;cases e;exact hc
        . have hy':(y == n)=Bx:=by simpa using hy
          rw[hy']at e;exact ha y d e
      obtain⟨cl,e,h1,h2⟩:=uR r ((n,c)::BA) (λy hy=>hn y (am _ hy)) ha';refine#[cl,?_,h1,λy hy=>h2 y ?_]
      . rw[dk]
        have ec:cellOf env n=pure c:=by unfold cellOf;rw[hc]
        erw[beq_self_eq_true,if_true,ec,pure_bind]
        exact e
      . rcases hy with hy | hy
        . rcases BE.mp hy with q | q
          . cases q
            exact .inr (by simp)
          . exact .inl q
        . refine .inr ?_
          rw[aY];by_cases hyn:(y == n)=Bw
          . rw[hyn];rfl
          . have hy':(y == n)=Bx:=by simpa using hyn
            rw[hy'];exact hy
    . obtain⟨cl,e,h1,h2⟩:=uR r BA (λy hy=>hn y (am _ hy)) ha
      refine#[cl,?_,h1,λy hy=>h2 y ?_]
      . rw[dk]
        have ek:(k == NameKind.free)=Bx:=by simpa using hk
        erw[ek,bB,if_false,pure_bind]
        exact e
      . rcases hy with hy | hy
        . rcases BE.mp hy with q | q
          . cases q;exact y4 rfl hk
          . exact .inl q
        . exact .inr hy
def uN{scope:tU}{env:AK}(hn:∀y,(y,NameKind.free) ∈ scope.names->∃c,env.cells.lookup y=Bu c) :
  ∃cl,closureFor scope env=pure cl/\(∀y c,cl.lookup y=Bu c->env.cells.lookup y=Bu c)/\(∀y,(y,NameKind.free) ∈ scope.names->∃c,cl.lookup y=Bu c):=by
 obtain⟨cl,e,h1,h2⟩:=uR scope.names [] hn (λy c h=>by cases h);refine#[cl,?_,h1,λy hy=>h2 y (.inl hy)];unfold closureFor
 erw[bind_pure]
 exact e
end in abbrev Uc(ifs:List tD)(env:AK):Bl Bool :=
 forIn ifs Bw λc r=>if r=Bw then (do let ok <- isTrue c env (eval c env);pure (ForInStep.yield ok))else pure (ForInStep.yield r)
theorem QX{prog:tu}{w:tz}{A:tB}{R:AR->sZ->Prop}{s:sZ}{elt tg iter:tD}{ifs:List tD}{scope:tU}{pos:Ad}{it BA:sY}{env:AK}(I:Nat->sZ->Prop) {EE:sY->sZ->Prop} (hEE:EE=notedBy (model prog w) A env λe s'=>R (.error e) s')(turn:∀n s,I n s->tm (model prog w) A (pyNext it) (λr s1=>match r with
   | none=>R (.ok .next) s1
   | some v=>tm (model prog w) A (letOwnedTupleGo tg it v) (λ_ s2=>tm (model prog w) A (assign tg env v) (λ_ s3 =>
     tm (model prog w) A (Uc ifs env) (λok s4=>if ok=Bw then
      tm (model prog w) A (eval elt env) (λx s5=>tm (model prog w) A (call (.builtin "list.append") [BA,x]) (λ_ s6=>∃m,m<n/\I m s6) EE s5) EE s4
      else ∃m,m<n/\I m s4) EE s3) EE s2) EE s1) EE s) (n:Nat) (h:I n s) :
  Ae (model prog w) A (.compLoop (.ListComp elt [#[tg,iter,ifs,0]] scope pos) 0 it BA env) R s:=by
 subst hEE;refine codeAny_loop rfl I (λn s hI=>?_) n h;show tm _ A ((compTurn (.ListComp elt [#[tg,iter,ifs,0]] scope pos) 0 it BA env).onRaise (λx=>do noteFrame x env;theTreesLotGoes x)) _ _ s;refine wpAny_noted ?_;rw[compTurn_list];refine sN (Ab (sN (thn (turn n s hI) λr s1 h1=>?_)))
 cases r with
 | none=>exact sP h1
 | some v =>
  refine sN (thn h1 λ_ s2 h2=>sN (thn h2 λ_ s3 h3=>sN (thn h3 λok s4 h4=>?_)))
  cases ok with
  | false=>exact sP #[rfl,h4]
  | true=>exact sN (sN (thn h4 λx s5 h5=>sN (thn h5 λ_ s6 h6=>sP (sP #[rfl,h6]))))
end in def yG(X:Cx)(scope:tU)(cl:List (tw × sX))(C:sX)(N:List tw)(By:List (sX × tR))(s3:sZ)(H3:Hp)(fp:List sX)(E:sY->sZ->Prop):Cx :=
 { X with N:=N,s₀:=s3,H₀:=H3,env:=compEnvC scope cl C X.env,outer:=X.stack,ex:=fp,fn:=λ_=>Bx,pn:=X.pn ++ By,xe:=E }
end in def vx(σ:St)(own:Nat)(ix:()):St:=aP own Bv ++ ix.map λi=>(σ[i]?).join
structure kE(X:Cx)(scope:tU)(own caps:List tw)(ix:()):Prop where
 kind:scope.kind=.function
 nocell:∀y ∈ scope.names,y.2≠.cell
 names:∀y ∈ scope.names,y.2=.local->scope.names.lookup y.1=Bu .local
 free:∀y,(y,NameKind.free) ∈ scope.names->X.env.kindOf y=Bu .cell\/X.env.kindOf y=Bu .free
 hown:∀y ∈ own,scope.names.lookup y=Bu .local
 hcaps:∀y ∈ caps,scope.names.lookup y=Bu .free
 hix:ix.map (λi=>X.N[i]?)=caps.map Bu
theorem wb{α β:Type}[BEq α][LawfulBEq α]{l:List (α × β)}{a:α}{b:β}(h:l.lookup a=Bu b):(a,b) ∈ l:=by
 induction l with
 | nil=>cases h
 | cons p r ih =>
  obtain⟨c,d⟩:=p;rw[aY]at h;by_cases e:(a == c)=Bw
  ·rw[e]at h;cases h;rw[eq_of_beq e];exact aA
  ·have e':(a == c)=Bx:=by simpa using e
   rw[e']at h;exact am _ (ih h)
theorem vQ{scope:tU}{env:AK}(hf:env.scope.kind=.function):∀{names:List (tw × Aw)} {x:tw} {k:Aw},names.lookup x=Bu k ->
    (names.map λ(n,k)=>if (k == NameKind.free && env.scope.kind == .function && env.kindOf n == Bu .cell)then (n,NameKind.cell)else (n,k)).lookup x=Bu (if (k == NameKind.free && env.scope.kind == .function && env.kindOf x == Bu .cell)=Bw then .cell else k)
  | [],_,_,h=>by simp at h
  | (n,k')::r,x,k,h=>by
    have ih:=@vQ scope env hf r x k;show bi x ((if (k' == NameKind.free && env.scope.kind == .function && env.kindOf n == Bu .cell)=Bw then (n,NameKind.cell)else (n,k'))::_)=_;by_cases hx:(x == n)=Bw
    . have hxn:x=n:=eq_of_beq hx
      subst hxn;rw[aY,hx]at h;cases h;by_cases c:(k' == NameKind.free && env.scope.kind == .function && env.kindOf x == Bu .cell)=Bw
      . rw[y6 c,y6 c,aY,hx]
      . rw[y9 c,y9 c,aY,hx]
    . have hx':(x == n)=Bx:=by simpa using hx
      rw[aY,hx']at h;by_cases c:(k' == NameKind.free && env.scope.kind == .function && env.kindOf n == Bu .cell)=Bw
      . rw[y6 c,aY,hx'];exact ih h
      . rw[y9 c,aY,hx'];exact ih h
theorem qm{scope:tU}{env:AK}:∀{names:List (tw × Aw)} {x:tw},names.lookup x=Bv ->
    (names.map λ(n,k)=>if (k == NameKind.free && env.scope.kind == .function && env.kindOf n == Bu .cell)then (n,NameKind.cell)else (n,k)).lookup x=Bv
  | [],_,_=>rfl
  | (n,k')::r,x,h=>by
    have ih:=@qm scope env r x;show bi x ((if (k' == NameKind.free && env.scope.kind == .function && env.kindOf n == Bu .cell)=Bw then (n,NameKind.cell)else (n,k'))::_)=_;by_cases hx:(x == n)=Bw
    . rw[aY,hx]at h;cases h
    . have hx':(x == n)=Bx:=by simpa using hx
      rw[aY,hx']at h;by_cases c:(k' == NameKind.free && env.scope.kind == .function && env.kindOf n == Bu .cell)=Bw
      . rw[y6 c,aY,hx'];exact ih h
      . rw[y9 c,aY,hx'];exact ih h
section
variable{X:Cx}{scope:tU}{own caps:List tw}{ix:()}{cl:List (tw × sX)}{By:List (sX × tR)}{σ:St}{H:Hp}{s:sZ}{fp:List sX}{E:sY->sZ->Prop}
def VJ(S:kE X scope own caps ix)(hcl1:∀y c,cl.lookup y=Bu c->X.env.cells.lookup y=Bu c)(hcl2:∀y,(y,NameKind.free) ∈ scope.names->∃c,cl.lookup y=Bu c)(I:Inv X By σ H s) (hfp:∀b ∈ fp,wz X By H b) (hlt:∀b ∈ fp,b<s⁻¹) {h4:tE} {t4:Nat} (hn:h4.Ns s⁻¹ λ_=>Bv) (hk:∀b o,s.heap.get? b=Bu o->h4.get? b=Bu o) :
  Inv (yG X scope cl s⁻¹ (own ++ caps) By s H fp E) [] (vx σ own.length ix) H { s with heap:=h4,toks:=t4 }:=by
 have kf:X.env.scope.kind=.function:=I.ok.kind;have nofp:∀b ∈ fp,b≠s⁻¹:=λb hb=>aB (hlt b hb)
 have cellLt:∀x c,X.env.cells.lookup x=Bu c->c<s⁻¹:=λx c e=>by
  obtain⟨v,o,ho,_⟩:=I.cell x c e;exact aq ho
 have kinds:∀y k,scope.names.lookup y=Bu k->(relabel scope X.env).names.lookup y=Bu (if (k == NameKind.free && X.env.scope.kind == .function && X.env.kindOf y == Bu .cell)=Bw then .cell else k):=λy k e=>vQ (scope:=scope) kf e
 have back:∀y k,(relabel scope X.env).names.lookup y=Bu k->∃k',scope.names.lookup y=Bu k'/\k=(if (k' == NameKind.free && X.env.scope.kind == .function && X.env.kindOf y == Bu .cell)=Bw then .cell else k'):=λy k e=>by
  cases q:scope.names.lookup y with
  | none =>
   have:=qm (scope:=scope) (env:=X.env) q;have e':(scope.names.map λ(n,k)=>if (k == NameKind.free && X.env.scope.kind == .function && X.env.kindOf n == Bu .cell)then (n,NameKind.cell)else (n,k)).lookup y=Bu k:=e;rw[this]at e';cases e'
  | some k' =>
   refine#[k',rfl,?_];have:=kinds y k' q;rw[e]at this;exact Option.some.inj this
 have isCell:∀y,scope.names.lookup y=Bu .free->(relabel scope X.env).names.lookup y=Bu .cell\/(relabel scope X.env).names.lookup y=Bu .free:=λy e=>by
  have:=kinds y _ e;rcases S.free y (wb e)with q | q
  ·refine .inl ?_;rw[this,y6];rw[q,kf];rfl
  ·refine .inr ?_;rw[this,y9];rw[q];simp
 refine#[#[I.ok.mod,?_,I.ok.glob,I.ok.blt,al _,?_,?_,?_,I.ok.hd,I.ok.frames,.inl rfl,?_,I.bs,aK I.ok.bsz I.sz,?_,?_,I.stack,I.stkFree],rfl,I.bare,Un.kept hk,#[_,hn,?_],?_,?_,?_,?_,I.hok.kept hk,?_]
 ·show (relabel scope X.env).kind=.function;exact S.kind
 ·intro x y c h1 h2;exact I.ok.inj x y c (hcl1 x c h1) (hcl1 y c h2)
 ·intro y hy;have hy':(relabel scope X.env).names.lookup y=Bu .cell\/(relabel scope X.env).names.lookup y=Bu .free:=hy
  have:scope.names.lookup y=Bu .free:=by
   rcases hy' with q | q
   ·obtain⟨k',e,ek⟩:=back y _ q;by_cases c:(k' == NameKind.free && X.env.scope.kind == .function && X.env.kindOf y == Bu .cell)=Bw
    ·rw[cA,cA]at c;rw[e,eq_of_beq c.1.1]
    ·rw[y9 c]at ek;exact y4 ek.symm (S.nocell _ (wb e))
   ·obtain⟨k',e,ek⟩:=back y _ q;by_cases c:(k' == NameKind.free && X.env.scope.kind == .function && X.env.kindOf y == Bu .cell)=Bw
    ·rw[y6 c]at ek;cases ek
    ·rw[y9 c]at ek;rw[e,<- ek]
  exact hcl2 y (wb this)
 ·intro x c h _;exact y4 h (by simp [yG])
 ·intro b hb;refine#[nofp b hb,λx c e=>?_];exact (hfp b hb).2.2.2.2.1 x c (hcl1 x c e)
 ·intro b o e hb;obtain⟨_,_,_,q,_⟩:=hfp b hb;rcases q with q | q
  ·exact I.ok.noex b o e q
  ·exact y4 (ax (aq e) (aK I.ok.bsz q)) (cM _)
 ·intro b hb z;rcases BE.mp (I.stkSub b z)with e | e
  ·exact (hfp b hb).2.1 e
  ·exact (hfp b hb).2.2.1 e
 ·intro i y v h1 h2 h3
  have hi:own.length<=i:=by
   refine db λhlt'=>?_;unfold vx at h2;rw[bC (by rw[bx];exact hlt'),e9,y6 hlt']at h2;cases h2
  have h1':caps[i - own.length]? = Bu y:=by
   have:(own ++ caps)[i]? = Bu y:=h1;rw[bA hi]at this;exact this
  have h2':(ix.map λi=>(σ[i]?).join)[i - own.length]? = Bu (Bu v):=by
   unfold vx at h2;rw[bA (by rw[bx];exact hi),bx]at h2;exact h2
  rw[ar]at h2';have hx:=congrArg (λl=>l[i - own.length]?) S.hix
  erw[ar,h1',Option.map_some]at hx
  cases q:ix[i - own.length]? with
  | none=>rw[q]at h2';cases h2'
  | some j =>
   rw[q]at h2' hx;have hj:X.N[j]? = Bu y:=Option.some.inj hx;have hv:(σ[j]?).join=Bu v:=Option.some.inj h2'
   have hσ:σ[j]? = Bu (Bu v):=by
    cases r:σ[j]? with
    | none=>rw[r]at hv;cases hv
    | some z=>rw[r]at hv;cases z with
     | none=>cases hv
     | some z=>cases hv;rfl
   have hfree:scope.names.lookup y=Bu .free:=S.hcaps y (ae h1');have hkc:=S.free y (wb hfree);obtain⟨m,hm,hl⟩:=I.loc;obtain⟨u,ru,l⟩:=hl j y v hj hσ (.inr hkc);refine#[u,ru,.inr #[isCell y hfree,?_]];rcases l with ⟨k,_⟩ | ⟨_,c,e,z⟩
   ·have:X.env.kindOf y=Bu .local:=k;rcases hkc with q' | q' <;> (rw[q']at this;cases this)
   ·obtain⟨c',e'⟩:=hcl2 y (wb hfree);have:=hcl1 y c' e';rw[e]at this;cases this;obtain⟨o,ho,hd⟩:=z;exact#[c,e',o,hk c o ho,hd]
 ·intro x c e;obtain⟨v,o,ho,hd⟩:=I.cell x c (hcl1 x c e);exact#[v,o,hk c o ho,hd]
 ·exact I.hok.fresh (al _)
 ·intro x c e;exact I.freeC x c (hcl1 x c e)
 ·intro p hp
  have hp':p ∈ X.pn ++ By:=by
   have:p ∈ (X.pn ++ By) ++ []:=hp
   rwa [aT]at this
  obtain⟨e,n,ne,nf,d⟩:=I.pin p hp';refine#[hk _ _ e,n,?_,λz=>?_,d]
  ·exact aB (aq e)
  ·rcases BE.mp (I.stkSub p.1 z)with q | q
   ·exact ne q
   ·exact nf q
 ·show (vx σ own.length ix).length=(own ++ caps).length;have:=congrArg ft S.hix;rw[ac,ac]at this;unfold vx;rw[aj,bx,ac,aj,this]
end
def xf(σ σ':St):Prop:=σ.length=σ'.length/\∀(i:Nat) v,σ[i]? = Bu (Bu v)->σ'[i]? = Bu (Bu v)
def PTs(X:Cx)(ifs:List tD)(t:TT):Prop :=
 ∀(By:List (sX × tR)) (s:sZ) (σ:St) (H:Hp) (Q:Bool->Hp->Prop),Inv X By σ H s->t σ H Q->tm (model X.prog X.w) X.A (Uc ifs X.env) (TP X By σ Q) X.xe s
def xw:TT:=λ_ H Q=>Q Bw H
def yg{X:Cx}:PTs X [] xw:=λ_ _ _ H _ I h=>sP #[H,I,h]
def Ug{X:Cx}{c:tD}{t:TT}(h:PT X c t):PTs X [c] t:=λBy s σ H Q I hq=>by
 show tm _ _ (forIn [c] Bw _) _ _ s
 erw[dk,fG,if_true]
 exact sN (sN (thn (h By s σ H Q I hq) λb s' hb=>sP (sP hb)))
def jy(wi:TI)(g:TG)(tt:TT)(te:TE)(own:Nat)(ix:()):TE:=λσ H Q=>wi σ H λJ H1=>∀D,H1 D=Bv->∃W:Nat->Nat->List V->Hp->Prop,(∃m,W 0 m [] (upd H1 D (.lst []))) /\
 ∀i m BA H',W i m BA H'->(J.stop i H'/\Q (.ref D) H')\/(J.go i H'/\∀x H2,J.yld i H' x H2->g x (vx σ own ix) H2 λσ3 H3=>xf (vx σ own ix) σ3/\tt σ3 H3 λb H4=>if b=Bw then
  te σ3 H4 λv H5=>H5 D=Bu (.lst BA)/\BA.length<sU/\∃m',m'<m/\W (i+1) m' (BA ++ [v]) (upd H5 D (.lst (BA ++ [v])))
  else ∃m',m'<m/\W (i+1) m' BA H4)
def Un.but{fs ex:List sX}{H H':Hp}{h h1 h2:tE}{a:sX}(u:Un fs ex H H' h h1)(sb:Heap.SameBut a h1 h2)(ha:h.get? a=Bv):Un fs ex H H' h h2:=by
 have ne:∀b o,h.get? b=Bu o->b≠a:=λb o e z=>by subst z;rw[ha]at e;cases e
 refine#[λb o e n hb hx=>(sb.2 b (ne b o e)).trans (u.keep b o e n hb hx),λb o e n hb hx=>?_,u.free,λb o e hx=>?_,u.tups,u.frzs,u.tbls]
 ·obtain⟨sl,q⟩:=u.slot b o e n hb hx;exact#[sl,(sb.2 b (ne b o e)).trans q]
 ·obtain⟨o',q⟩:=u.there b o e hx;exact#[o',(sb.2 b (ne b o e)).trans q]
def HOk.but{P:tu}{w:tz}{H:Hp}{h1 h2:tE}{a:sX}(ok:HOk P w H h1)(sb:Heap.SameBut a h1 h2)(ha:H a=Bv):HOk P w H h2:=λb ob e=>by
 refine (ok b ob e).stay (λc u hc q=>(sb.2 c ?_).trans q) (λ_ q=>q) λ_ _ q=>q;rintro rfl;rcases hc with rfl | hc
 ·rw[ha]at e;cases e
 ·rw[ha]at hc;cases hc
section
variable{X:Cx}{scope:tU}{own caps:List tw}{ix:()}{elt tg iter:tD}{ifs:List tD}{pos:Ad}{wi:TI}{g:TG}{tt:TT}{te:TE}
def qQ(i:Nat)(t:TE):TS:=λD σ H=>t σ H λx H1=>D.nx (σ.set i (Bu x)) H1
end
section
variable{X:Cx}{a b:tD}{ta tb:TE}{pos:Ad}
def Y1:R2:=λx y H Q=>match x with | .int i=>onInt y λj=>Q (.int (i+j)) H | .str i=>onStr y λj=>i.length+j.length<=sU/\Q (.str (i ++ j)) H | .ref l=>zc4 (.ref l) y H Q | _=>False
theorem uO:OpR X (binaryOp .Add) Y1:=by
 intros x y v u Q I rx ry h
 cases x with
 | int i=>exact yn By s σ H (.int i) y v u Q I rx ry h
 | str i=>exact zQ By s σ H (.str i) y v u Q I rx ry (by obtain⟨j,rfl,q⟩:=onStr.of h;exact#[i,j,rfl,rfl,q])
 | ref l=>exact W7 By s σ H (.ref l) y v u Q I rx ry h
 | _=>exact h.elim
def JV:R2:=λx y H Q=>match x with | .int i=>onInt y λj=>CMul i j/\Q (.int (i * j)) H | .str z=>onInt y λn=>0<=n/\n<=1000/\z.length<=1000/\Q (.str (tx (aP n.toNat (cs z)).flatten)) H | _=>False
theorem ZG:OpR X (binaryOp .Mult) JV:=by
 intros x y v u Q I rx ry h
 cases x with
 | int i=>exact kO By s σ H (.int i) y v u Q I rx ry h
 | str z=>exact Vz By s σ H (.str z) y v u Q I rx ry (by obtain⟨n,rfl,q⟩:=onInt.of h;exact#[z,n,rfl,rfl,q])
 | _=>exact h.elim
def ze6:R2:=λx y H Q=>match x with | .int i=>onInt y λj=>Q (.bl (decide (i<j))) H | .str i=>onStr y λj=>Q (.bl (decide (cs i<cs j))) H | _=>False
theorem Jk:OpR X (tG .Lt) ze6:=by
 intros x y v u Q I rx ry h
 cases x with
 | int i=>exact VH By s σ H (.int i) y v u Q I rx ry h
 | str i=>exact op_lt_str' By s σ H (.str i) y v u Q I rx ry (by obtain⟨j,rfl,q⟩:=onStr.of h;exact#[i,j,rfl,rfl,q])
 | _=>exact h.elim
def ze7:R2:=λx y H Q=>match x with | .int i=>onInt y λj=>Q (.bl (decide (i<=j))) H | .str i=>onStr y λj=>Q (.bl (!(decide (cs j<cs i)))) H | _=>False
theorem xM:OpR X (tG .LtE) ze7:=by
 intros x y v u Q I rx ry h
 cases x with
 | int i=>exact zgd By s σ H (.int i) y v u Q I rx ry h
 | str i=>exact Ul By s σ H (.str i) y v u Q I rx ry (by obtain⟨j,rfl,q⟩:=onStr.of h;exact#[i,j,rfl,rfl,q])
 | _=>exact h.elim
def U4:OpR X (tG .Gt) (λx y H Q=>∃i j,x=.str i/\y=.str j/\Q (.bl (decide (cs j<cs i))) H):=by intros x y v u Q I rx ry h;obtain⟨i,j,rfl,rfl,q⟩:=h;obtain⟨t,rfl⟩:=rx;obtain⟨t',rfl⟩:=ry;exact PySem.P.gt_str #[.bl _,H,I,rfl,q]
def zfe:R2:=λx y H Q=>match x with | .int i=>onInt y λj=>Q (.bl (decide (j<i))) H | .str i=>onStr y λj=>Q (.bl (decide (cs j<cs i))) H | _=>False
theorem QN:OpR X (tG .Gt) zfe:=by
 intros x y v u Q I rx ry h
 cases x with
 | int i=>exact VT By s σ H (.int i) y v u Q I rx ry h
 | str i=>exact U4 By s σ H (.str i) y v u Q I rx ry (by obtain⟨j,rfl,q⟩:=onStr.of h;exact#[i,j,rfl,rfl,q])
 | _=>exact h.elim
def zez(K:sV):V->Option Int->Option Int->Hp->VK->Prop:=λx lo hi H Q=>match x with | .ref a=>zeP K (.ref a) lo hi H Q | .str z=>zeo (.str z) lo hi H Q | _=>False
theorem za9:SlR X (zez X.K):=by
 intros x v vl vu lo hi sl Q I rx hs pl pu h
 cases x with
 | ref a=>exact XH By s σ H (.ref a) v vl vu lo hi sl Q I rx hs pl pu h
 | str z=>exact y8 By s σ H (.str z) v vl vu lo hi sl Q I rx hs pl pu h
 | _=>exact h.elim
end in def cV:V->Option sY
 | .ty n=>Bu (.type n)
 | .ref a=>Bu (.ref a)
 | _=>Bv
def K3:wK X (.builtin "isinstance") (λxs H Q=>∃x c u t b,xs=[x,c]/\cV c=Bu u/\WS X.K H x t/\aQ X.K t u=Bu b/\Q (.bl b) H):=by
 intros xs us Q I r h;obtain⟨x,c,u,t,b,rfl,hc,ty,e,q⟩:=h;obtain⟨v,w',rfl,rx,rc⟩:=X6 r
 have:w'=u:=by
  cases c with
  | ty n=>cases hc;exact rc
  | ref a=>cases hc;exact rc
  | _=>cases hc
 subst this;exact Jr I rx ty e λtk=>#[.bl b,H,I.tok tk,rfl,q]
end
end in def Iel(K:sV)(a:sX):It:=#[λi H=>∃xs x,SqL K H a xs/\xs[i]? = Bu x,λi H v H'=>∃p x,H p=Bv/\(∀xs,SqL K H a xs->xs[i]? = Bu x)/\v=.ref p/\H'=upd H p (.tup [.int (i:Nat),x]),λi H=>∃xs,SqL K H a xs/\i=xs.length]
def Vr{P:tu}{w:tz}{K:sV}{elts:List tD}{x1:Nat}{tpos:Ad}(e it a:sX)(hei:e≠it) :
  JN P w K (.Tuple elts x1 tpos) (Iel K a) [e,it] e (λi h=>(∃old,IsEnum h e it i old)/\h.IsListIter it a i) where
 mem:=by simp
 obj:=λi h st b hb=>by
  obtain⟨⟨old,he⟩,o,e2,c,d⟩:=st;rcases BE.mp hb with q | q
  ·subst q;exact#[_,he,λv z=>by have z':Data.fields _=Data.cell v:=z;cases z']
  ·have q':b=it:=by simpa using q
   subst q';exact#[o,e2,λv z=>by rw[d]at z;cases z]
 keep:=λi h h' st k=>by
  obtain⟨⟨old,he⟩,st⟩:=st;exact#[#[old,k e (by simp) _ he],st.at λo q=>k it (by simp) o q]
 item:=by
  intro X hP hw hK hc i By s σ H E I hf st hg;subst hP hw hK;obtain⟨⟨old,he⟩,st⟩:=st;obtain⟨xs,x,hq,hx⟩:=hg;obtain⟨its,rv,p,hz⟩:=I.list hq;obtain⟨u,hu,ru⟩:=rv.get hx;have hA:X.A.in1.handled=Bv:=I.ok.hd hc;have pl:=p.isList
  have hai:a≠it:=λz=>by
   subst z;obtain⟨o1,q1,c1,_⟩:=st;obtain⟨o2,q2,c2,_⟩:=pl;rw[q1]at q2;cases q2;rw[c1]at c2;exact y4 (Value.type.inj c2) ∅
  have hea:e≠a:=λz=>by
   subst z;obtain⟨o2,q2,c2,_⟩:=pl;rw[he]at q2;cases q2;exact y4 (Value.type.inj c2) ∅
  refine wpAny_pyNext_enum_itemD (Draws.list (A:=X.A.in1) hA it a hai its.toArray) he #[st,pl] (by rw[ak];exact (BB.mp hu).1) hei (by simp [hei,hea]) λv h' tk hv ho st' hT hsz kk=>?_
  have ev:v=u:=by
   have hv':its.toArray[i]? = Bu v:=hv;rw[List.getElem?_toArray,hu]at hv';exact (Option.some.inj hv').symm
  subst ev;refine#[_,rfl,wpAny_letOwnedTupleGo_enum ho λh2 he2 sb=>?_];have elt:e<s⁻¹:=aq he;have ilt:it<s⁻¹:=by obtain⟨o,q,_⟩:=st;exact aq q
  have I1:Inv X By σ H { s with heap:=h2,toks:=tk+1 }:=Inv.turns (fp:=[e,it]) I (λb o hb q=>by
   have hb':b≠e/\b≠it:=by simpa using hb
   exact (sb.2 b hb'.1).trans (kk b o hb'.1 hb'.2 q)) hf
  have hp:H s⁻¹=Bv:=I.hok.fresh (al _);have hT2:h2.get? s⁻¹=Bu { cls:=.type "tuple",data:=.seq (u9 [.int (i:Nat) tk,v]) }:=(sb.2 _ (bR elt)).trans hT
  have I2:Inv X By σ (upd H s⁻¹ (.tup [.int (i:Nat),x])) { s with heap:=h2,toks:=tk+1 } :=
   Inv.track I1 (I.fpOk (al _) hp) #[by show 2<=sU;decide,[.int (i:Nat) tk,v],.cons #[_,rfl] (.cons ru .nil),#[_,hT2,rfl,_,rfl]]
  refine#[.ref s⁻¹,_,I2,rfl,#[s⁻¹,x,hp,λys hy=>by rw[I.list_inj hy hq];exact hx,rfl,rfl],#[#[_,by simpa using he2],?_],λb hb=>?_]
  ·exact st'.1.at λo q=>(sb.2 it (Ne.symm hei)).trans q
  ·rw[zq]
   ·exact (hf b hb).1
   ·rcases BE.mp hb with q | q
    ·rw[q];exact aB elt
    ·have q':b=it:=by simpa using q
     rw[q'];exact aB ilt
 done:=by
  intro X hP hw hK hc i By s σ H E I hf st hg;subst hP hw hK;obtain⟨⟨old,he⟩,st⟩:=st;obtain⟨xs,hq,hi⟩:=hg;obtain⟨its,rv,p,hz⟩:=I.list hq;have pl:=p.isList
  have hai:a≠it:=λz=>by
   subst z;obtain⟨o1,q1,c1,_⟩:=st;obtain⟨o2,q2,c2,_⟩:=pl;rw[q1]at q2;cases q2;rw[c1]at c2;exact y4 (Value.type.inj c2) ∅
  have hA:X.A.in1.handled=Bv:=I.ok.hd hc;have hi':i=its.toArray.size:=by rw[ak,<- rv.length];exact hi
  subst hi';refine wpAny_pyNext_enum_endD (Draws.list (A:=X.A.in1) hA it a hai its.toArray) he #[st,pl] λh' hx=>#[rfl,?_];exact Inv.turns (fp:=[e,it]) (t':=s.toks) I (λb o hb q=>hx b o (λz=>hb (by simp [z])) q) hf
 self:=λA i s Q E st h=>by
  obtain⟨⟨old,he⟩,_⟩:=st;exact AZ he h
section
variable{X:Cx}
def U6(K:sV)(ta:TA):TI:=λσ H R=>ta σ H λvs H1=>∃a,vs=[.ref a]/\(∃xs,SqL K H1 a xs)/\R (Iel K a) H1
def xy{a:tD}{ta:TA}{p pos tpos:Ad}{elts:List tD}{x1:Nat}(hg:Gl X "enumerate")(hm:X.mg "enumerate" = Bv)(ha:PA X [a] ta)(hs:sS [a] X.env=[(Bx,eval a X.env)]:=by rfl) :
  PI X (.Tuple elts x1 tpos) (.Call (.Name "enumerate" p) [a] [] pos) (U6 X.K ta):=by
 intros R I h;refine Bs (vq I hg hm PyProof.Rows.boot_enumerate (bw (thn (ha pos By s σ H _ I h) λus s1=>el5 λvs H1 I1 r1 q1=>?_) hs rfl));obtain⟨l,e,⟨xs,hq⟩,q⟩:=q1;subst e;obtain⟨u,rfl,ru⟩:=wx r1;cases ru;obtain⟨its,rv,pl,hz⟩:=I1.list hq;refine call_enumerate_list pl.isList λh' he hit hsz kk=>?_;have I2:Inv X By σ H1 { s1 with heap:=h' }:=I1.kept (t':=s1.toks) kk;refine AZ (s:={ s1 with heap:=h' }) (i:=0) he ?_;refine#[s1⁻¹+1,[s1⁻¹+1,s1⁻¹],_,_,H1,rfl,I2,Vr _ _ l (Nat.succ_ne_self _),#[#[_,he],hit],λb hb=>?_,q]
 have hb':s1⁻¹<=b:=by
  rcases BE.mp hb with e | e
  ·rw[e];exact cQ _
  ·have:b=s1⁻¹:=by simpa using e
   rw[this];exact al _
 exact I1.fpOk hb' (I1.hok.fresh hb')
end
def ForEL(K:sV)(a:sX)(g:TG)(tb:TS)(D:uf)(σ:St)(H:Hp):Prop:=∃W:Nat->Nat->St->Hp->Prop,(∃m,W 0 m σ H)/\∀i m σ H,W i m σ H ->
 ((Iel K a).stop i H/\D.nx σ H)\/((Iel K a).go i H/\∃N:St->Hp->Prop,(∀σ' H',N σ' H'->∃m',m'<m/\W (i+1) m' σ' H')/\∀x H',(Iel K a).yld i H x H'->g x σ H' λσ2 H2=>tb { D with nx:=N,ct:=N,bk:=D.nx } σ2 H2)
def zdf{K:sV}{ta:TA}{g:TG}{tb:TS}{D:uf}{σ:St}{H:Hp}:Kw (U6 K ta) g tb D σ H=ta σ H λvs H1=>∃a,vs=[.ref a]/\(∃xs,SqL K H1 a xs)/\ForEL K a g tb D σ H1:=rfl
theorem ForEL.by{K:sV}{a:sX}{xs:List V}{g:TG}{tb:TS}{D:uf}{σ:St}{H:Hp}(Pv:Nat->St->Hp->Prop)(h0:Pv 0 σ H)(hl:∀i σ H,i<=xs.length->Pv i σ H->SqL K H a xs)(hs:∀i x σ H p,xs[i]? = Bu x->Pv i σ H->H p=Bv->g (.ref p) σ (upd H p (.tup [.int (i:Nat),x])) λσ2 H2=>tb { D with nx:=Pv (i+1),ct:=Pv (i+1),bk:=D.nx } σ2 H2) (hd:∀σ H,Pv xs.length σ H->D.nx σ H):ForEL K a g tb D σ H:=by
 refine#[λi m σ H=>m=xs.length - i/\i<=xs.length/\Pv i σ H,#[xs.length,by simp,aG _,h0],?_];rintro i m σ H ⟨rfl,hi,p⟩;have q:=hl i σ H hi p;by_cases hlt:i<xs.length
 ·refine .inr #[#[xs,xs[i],q,by simp [hlt]],Pv (i+1),λσ' H' p'=>#[xs.length - (i+1),⋯,rfl,hlt,p'],λv H' y=>?_];obtain⟨p',x,hp,hx,ev,eH⟩:=y;subst ev eH;exact hs i x σ H p' (hx xs q) p hp
 ·have e:i=xs.length:=⋯;subst e;exact .inl #[#[xs,q,rfl],hd σ H p]
def zgZ(K:sV)(a:sX)(g:TG)(tb:TS)(D:uf)(σ:St)(H:Hp):Prop:=∃W:Nat->Nat->St->Hp->Prop,(∃m,W 0 m σ H)/\∀i m σ H,W i m σ H ->
 ((Itt K a).stop i H/\D.nx σ H)\/((Itt K a).go i H/\∃N:St->Hp->Prop,(∀σ' H',N σ' H'->∃m',m'<m/\W (i+1) m' σ' H')/\∀x H',(Itt K a).yld i H x H'->g x σ H' λσ2 H2=>tb { D with nx:=N,ct:=N,bk:=D.nx } σ2 H2)
def zgI{K:sV}{tl:TE}{g:TG}{tb:TS}{D:uf}{σ:St}{H:Hp}:Kw (zfV K tl) g tb D σ H=tl σ H λx H1=>∃a,x=.ref a/\(∃xs,SqT K H1 a xs)/\zgZ K a g tb D σ H1:=rfl
def zfD(K:sV)(x:V)(H:Hp)(p:Bool->Prop):Prop:=match x with | .bl b=>p b | x=>∃k,zdJ K x H k/\p k
def tTr(K:sV)(ta:TE):TT:=λσ H Q=>ta σ H λx H'=>zfD K x H' λk=>Q k H'
def zcq{K:sV}{ta:TE}{σ:L2.St}{H:Hp}{Q:Bool->Hp->Prop}:tTr K ta σ H Q=ta σ H λx H'=>zfD K x H' λk=>Q k H':=rfl
def tBl(ta:TE):TT:=λσ H Q=>ta σ H λx H'=>onBl x λk=>Q k H'
def zco{ta:TE}{σ:L2.St}{H:Hp}{Q:Bool->Hp->Prop}:tBl ta σ H Q=ta σ H λx H'=>onBl x λk=>Q k H':=rfl
section
variable{X:Cx}{a:tD}{ta:TE}
def yF(ha:PE X a ta)(he:∀whole,isTrue a X.env whole=(do let v <- whole;standAt a.pos;holding [v] (truthy v))):PT X a (tBl ta):=by intros Q I h;refine isTrue_plain (thn (ha By s σ H _ I h) λv s1=>el5 λx H1 I1 r1 q1=>?_) (he _);obtain⟨k,rfl,q1⟩:=onBl.of q1;exact za6 By s1 σ H1 (.bl k) v Q I1 r1 #[k,rfl,q1]
end
end in def Irv(K:sV)(a:sX)(n:Nat):It:=#[λi H=>∃xs,SqL K H a xs/\xs.length=n/\i<n,λi H v H'=>H'=H/\∀xs,SqL K H a xs->xs.length=n->xs[n - 1 - i]? = Bu v,λi H=>i=n]
theorem KY{P:tu}{w:tz}{K:sV}{tg:tD}(a it:sX)(n:Nat):JN P w K tg (Irv K a n) [it] it (λi h=>i<=n/\h.IsRevIter it a ((n:Int) - 1 - (i:Int))) where
 mem:=by simp
 obj:=λi h st b hb=>by
  have e:b=it:=by simpa using hb
  subst e;obtain⟨_,o,e,c,d⟩:=st;exact#[o,e,λv z=>by rw[d]at z;cases z]
 keep:=λi h h' st k=>#[st.1,st.2.at λo e=>k it (by simp) o e]
 item:=by
  intro X hP hw hK hc i By s σ H E I hf st hg;subst hP hw hK;obtain⟨xs,hq,hn,hi⟩:=hg;obtain⟨its,rv,p,hz⟩:=I.list hq;obtain⟨f0,f1,f2,f3,f4,f5⟩:=hf it (by simp);have hx:xs[n - 1 - i]? = Bu (xs[n - 1 - i]'⋯):=ah ⋯;generalize xs[n - 1 - i]'⋯=x at hx;obtain⟨u,hu,ru⟩:=rv.get hx;have st2:=st.2;have e:(n:Int) - 1 - (i:Int)=((n - 1 - i:Nat):Int):=⋯;rw[e]at st2;refine wpAny_pyNext_rev_item st2 p.isList (x:=u) (by simpa using hu) λh' st' sb=>?_;have I1:Inv X By σ H { s with heap:=h' }:=I.turned (t':=s.toks) (λb o hb e=>(sb.2 b hb).trans e) f0 f1 f3 f4 f5;have e2:((n - 1 - i:Nat):Int) - 1=(n:Int) - 1 - ((i+1:Nat):Int):=⋯;rw[e2]at st';obtain⟨o,e,c,d⟩:=id st';exact#[u,rfl,VW (s:={ s with heap:=h' }) e c d ∅ #[x,H,I1,ru,#[rfl,λys hy _=>by rw[I.list_inj hy hq];exact hx],#[hi,st'],λb hb=>(hf b hb).1]]
 done:=by
  intro X hP hw hK hc i By s σ H E I hf st hg;subst hP hw hK;obtain⟨f0,f1,f2,f3,f4,f5⟩:=hf it (by simp);have hi:i=n:=hg;have st2:=st.2;rw[hi,show (n:Int) - 1 - (n:Int)=-1 by lia]at st2;exact wpAny_pyNext_rev_end (I.ok.hd hc) st2 λh' eb=>#[rfl,I.turned (t':=s.toks) (λb o hb e=>eb b o hb e) f0 f1 f3 f4 f5]
 self:=λ_ _ _ _ _ st h=>AM st.2 h
def zai:tS "reversed" = Bu (.type "reversed"):=PyProof.Rows.boot_reversed
section
variable{X:Cx}{tg:tD}
def zgx(K:sV)(ta:TA):TI:=λσ H R=>ta σ H λvs H1=>∃a xs,vs=[.ref a]/\SqL K H1 a xs/\R (Irv K a xs.length) H1
theorem zdC{a:tD}{ta:TA}{p pos:Ad}(hg:Gl X "reversed")(hm:X.mg "reversed" = Bv)(ha:PA X [a] ta)(hs:sS [a] X.env=[(Bx,eval a X.env)]:=by rfl) :
  PI X tg (.Call (.Name "reversed" p) [a] [] pos) (zgx X.K ta):=by
 intros R I h;refine Bs (vq I hg hm zai (bw (thn (ha pos By s σ H _ I h) λus s1=>el5 λvs H1 I1 r1 q1=>?_) hs rfl));obtain⟨l,xs,e,hq,q⟩:=q1;subst e;obtain⟨u,rfl,ru⟩:=wx r1;cases ru;obtain⟨its,rv,pl,hz⟩:=I1.list hq;have hn:its.toArray.size=xs.length:=by rw[ak,<- rv.length]
 refine call_reversed_list pl.isList ?_
 have hit:(s1.heap.push (revObj l ((its.toArray.size:Int) - 1))).IsRevIter s1⁻¹ l ((xs.length:Int) - 1 - ((0:Nat):Int)):=by
  refine#[_,ay _ rfl,rfl,?_];rw[hn,show (xs.length:Int) - 1 - ((0:Nat):Int)=(xs.length:Int) - 1 by lia];rfl
 refine AM (s:={ s1 with heap:=s1.heap.push (revObj l ((its.toArray.size:Int) - 1)) }) hit ?_;refine#[s1⁻¹,[s1⁻¹],_,_,H1,rfl,I1.kept (t':=s1.toks) λb o e=>aa _ e,KY l _ xs.length,#[aG _,hit],λb hb=>?_,q];have e:b=s1⁻¹:=by simpa using hb
 subst e;exact I1.fpOk (al _) (I1.hok.fresh (al _))
end
section
variable{prog:tu}{w:tz}{A:tB}{E:sY->sZ->Prop}{s:sZ}
end
section
variable{X:Cx}
def zfz(K:sV)(ta:TA):TE:=λσ H Q=>ta σ H λvs H1=>∃a xs,vs=[.ref a]/\SqL K H1 a xs/\∀l,H1 l=Bv->Q (.ref l) (upd H1 l (.lst xs.reverse))
def Ja{K:sV}{ta:TA}{σ:L2.St}{H:Hp}{Q:VK}:zfz K ta σ H Q=ta σ H λvs H1=>∃a xs,vs=[.ref a]/\SqL K H1 a xs/\∀l,H1 l=Bv->Q (.ref l) (upd H1 l (.lst xs.reverse)):=rfl
end
end in def Izp(K:sV)(a b:sX):It:=#[λi H=>∃xs ys x y,SqL K H a xs/\SqL K H b ys/\xs[i]? = Bu x/\ys[i]? = Bu y,λi H v H'=>∃p x y,H p=Bv/\(∀xs,SqL K H a xs->xs[i]? = Bu x)/\(∀ys,SqL K H b ys->ys[i]? = Bu y)/\v=.ref p/\H'=upd H p (.tup [x,y]),λi H=>∃xs ys,SqL K H a xs/\SqL K H b ys/\(xs.length=i\/ys.length=i)/\i<=xs.length/\i<=ys.length]
def vh{h:tE}{a b:sX}{o1 o2:tR}{t u:String}(h1:h.get? a=Bu o1)(c1:o1.cls=.type t)(h2:h.get? b=Bu o2)(c2:o2.cls=.type u)(hne:t≠u):a≠b:=λz=>by
 rw[z,h2]at h1;cases h1;rw[c2]at c1;exact hne (Value.type.inj c1).symm
structure zax(z TI TO i1 i2:sX):Prop where
 TIz:TI≠z
 TOz:TO≠z
 i1z:i1≠z
 i2z:i2≠z
 TITO:TI≠TO
 TIi1:TI≠i1
 TIi2:TI≠i2
 TOi1:TO≠i1
 TOi2:TO≠i2
 i12:i1≠i2
def ZipAt(z TI TO i1 i2 l1 l2:sX)(i:Nat)(h:tE):Prop:=AB h z TI TO .none/\tZ h TI (.ref i1) (.ref i2)/\(∃a b,tZ h TO a b)/\h.IsListIter i1 l1 i/\h.IsListIter i2 l2 i
def ZipAt.apart{z TI TO i1 i2 l1 l2:sX}{i:Nat}{h:tE}{xs ys:Array sY}(D:zax z TI TO i1 i2)(st:ZipAt z TI TO i1 i2 l1 l2 i h)(h1:h.IsList l1 xs)(h2:h.IsList l2 ys):ZipApart z TI TO i1 i2 l1 l2:=by obtain⟨hz,hTI,⟨a,b,hTO⟩,⟨o1,e1,c1,_⟩,⟨o2,e2,c2,_⟩⟩:=st;obtain⟨p1,q1,k1,_⟩:=h1;obtain⟨p2,q2,k2,_⟩:=h2;exact#[D.TIz,D.TOz,D.i1z,D.i2z,D.TITO,D.TIi1,D.TIi2,D.TOi1,D.TOi2,D.i12,vh q1 k1 hz rfl ∅,vh q1 k1 hTO rfl ∅,vh q1 k1 e1 c1 ∅,vh q1 k1 e2 c2 ∅,vh q2 k2 hz rfl ∅,vh q2 k2 hTO rfl ∅,vh q2 k2 e1 c1 ∅,vh q2 k2 e2 c2 ∅]
section
variable{X:Cx}
def zgP(K:sV)(ta:TA):TI:=λσ H R=>ta σ H λvs H1=>∃a b,vs=[.ref a,.ref b]/\(∃xs,SqL K H1 a xs)/\(∃ys,SqL K H1 b ys)/\R (Izp K a b) H1
end
def zg5(K:sV)(a b:sX)(g:TG)(tb:TS)(D:uf)(σ:L2.St)(H:Hp):Prop:=∃W:Nat->Nat->L2.St->Hp->Prop,(∃m,W 0 m σ H)/\∀i m σ H,W i m σ H ->
 ((Izp K a b).stop i H/\D.nx σ H)\/((Izp K a b).go i H/\∃N:L2.St->Hp->Prop,(∀σ' H',N σ' H'->∃m',m'<m/\W (i+1) m' σ' H')/\∀x H',(Izp K a b).yld i H x H'->g x σ H' λσ2 H2=>tb { D with nx:=N,ct:=N,bk:=D.nx } σ2 H2)
def zgD{K:sV}{ta:TA}{g:TG}{tb:TS}{D:uf}{σ:L2.St}{H:Hp}:Kw (zgP K ta) g tb D σ H=ta σ H λvs H1=>∃a b,vs=[.ref a,.ref b]/\(∃xs,SqL K H1 a xs)/\(∃ys,SqL K H1 b ys)/\zg5 K a b g tb D σ H1:=rfl
end in abbrev xob(C:sX)(dx:Option sX)(t:sX)(tb:sY):tR:={ cls:=.ref C,dict:=dx,data:=.fields (u9 [.ref t,tb,.none,.none,.bool Bx,.none]) }
end in abbrev xog(C:sX)(dx:Option sX)(t:sX)(tb c:sY)(k:Bool):tR:={ cls:=.ref C,dict:=dx,data:=.fields (u9 [.ref t,tb,c,.none,.bool k,.none]) }
def zcO(h:tE)(x:sX)(tb:sY):Prop:=tb=.none\/∃T oT ts,tb=.ref T/\T≠x/\h.get? T=Bu oT/\oT.data=.fields ts/\3<ts.size
section
variable{M:Bd}{A:tB}{E:sY->sZ->Prop}{s:sZ}{base:tE}{env env0:AK}{outer:List AK}{L x t C:sX}{dx:Option sX}{cx:sY}{kx:Bool}
def YA(h:env.frame=env0.frame):eG env=eG env0:=by unfold eG;rw[h]
theorem ZF{tb head:sY}{hadNext:Bool}{Q:Unit->sZ->Prop}(hfr:A.frames=Bu (env0::outer))(hl:s.heap.FunFrames base (env0::outer))(hf:env0.frame=Bu L)(he:env.frame=Bu L)(hx:s.heap.get? x=Bu (xog C dx t tb cx kx))(h:∀h' oT ts,h'.get? x=Bu (xog C dx t (.ref s⁻¹) cx kx)->s⁻¹≠x->h'.get? s⁻¹=Bu oT->oT.data=.fields ts->3<ts.size ->
   (∀b o,b≠x->b ∉ frs (env0::outer)->s.heap.get? b=Bu o->h'.get? b=Bu o)->(∀b o,b≠x->s.heap.get? b=Bu o->∃sl,h'.get? b=Bu { o with slots:=sl })->Q Unit.unit { s with heap:=h' }) :
  tm M A (do let a <- eG env;let pl <- entryPlaceOf L hadNext;let b <- EntryCells.newEntry head a .none (rawInt L) .none pl;setField (.ref x) 1 b) Q E s:=by
 have hxf:x ∉ frs (env0::outer):=λhm=>by
  obtain⟨_,o,ho,hnf⟩:=hl.mem hm;rw[hx]at ho;cases ho;exact hnf _ rfl
 rw[YA (he.trans hf.symm)];refine sN (wpAny_frameOf_fun hfr hl hf λh1 hs1=>sN (wpAny_entryPlaceOf λpl hpl=>?_));unfold EntryCells.newEntry newFields;refine sN (Aq ?_ (hpl.sizeOk5 _ _ _ _ _));have hz:h1.objs.size=s⁻¹:=hs1.1;have hx1:h1.get? x=Bu (xog C dx t tb cx kx):=(hs1.2.1 x hxf).trans hx;generalize ho:({ cls:=.type "traceback",dict:=Bv,data:=.fields ([head,.ref L,.none,rawInt L,.none] ++ (if pl.isEmpty then aP 6 u5 else pl)).toArray }:tR)=ob;have hx2:(h1.push ob).get? x=Bu (xog C dx t tb cx kx):=aa _ hx1;refine Af hx2 rfl (by show 1<6;decide) ?_;have hne:h1.objs.size≠x:=bR (aq hx1)
 have hx3:((h1.push ob).update x (Obj.mapFields (·.setIfInBounds 1 (u6 h1.objs.size)))).get? x=Bu (xog C dx t (.ref h1.objs.size) cx kx) :=
  ce (Obj.mapFields (·.setIfInBounds 1 (u6 h1.objs.size))) hx2 rfl
 have hT:((h1.push ob).update x (Obj.mapFields (·.setIfInBounds 1 (u6 h1.objs.size)))).get? h1.objs.size=Bu ob :=
  (aC _ _ (Ne.symm hne)).trans (ay h1 (by rw[<- ho];rfl))
 rw[hz]at hx3 hT hne
 have kp:∀b o,b≠x->h1.get? b=Bu o->((h1.push ob).update x (Obj.mapFields (·.setIfInBounds 1 (u6 h1.objs.size)))).get? b=Bu o:=λb o hb e =>
  (aC _ _ (Ne.symm hb)).trans (aa _ e)
 rw[hz]at kp ⊢;refine h _ ob _ hx3 hne hT (by rw[<- ho]) (by erw[ak,aj,aL,cj] <;> lia) (λb o hb hbf e=>kp b o hb ((hs1.2.1 b hbf).trans e)) λb o hb e=>?_;obtain⟨sl,q⟩:=hs1.2.2 b o e;exact#[sl,kp b _ hb q]
def kY{tb:sY}{Q:Unit->sZ->Prop}(hfr:A.frames=Bu (env0::outer))(hl:s.heap.FunFrames base (env0::outer))(hf:env0.frame=Bu L)(he:env.frame=Bu L)(hx:s.heap.get? x=Bu (xog C dx t tb cx kx)) (htb:zcO s.heap x tb)(h:∀h' T oT ts,h'.get? x=Bu (xog C dx t (.ref T) cx kx)->T≠x->(tb=.ref T\/s⁻¹<=T)->h'.get? T=Bu oT->oT.data=.fields ts->3<ts.size ->
   (∀b o,b≠x->tb≠.ref b->b ∉ frs (env0::outer)->s.heap.get? b=Bu o->h'.get? b=Bu o)->(∀b o,b≠x->tb≠.ref b->s.heap.get? b=Bu o->∃sl,h'.get? b=Bu { o with slots:=sl })->Q Unit.unit { s with heap:=h' }) :
  tm M A (noteFrame (.ref x) env) (λ_ s1=>tm M A (setFlight (.ref x) Bv) Q E s1) E s:=by
 have land:∀(h1:tE) (T:sX) (oT:tR) (ts:Array sY),h1.get? x=Bu (xog C dx t (.ref T) cx kx)->T≠x->(tb=.ref T\/s⁻¹<=T)->h1.get? T=Bu oT->oT.data=.fields ts->3<ts.size ->
   (∀b o,b≠x->tb≠.ref b->b ∉ frs (env0::outer)->s.heap.get? b=Bu o->h1.get? b=Bu o)->(∀b o,b≠x->tb≠.ref b->s.heap.get? b=Bu o->∃sl,h1.get? b=Bu { o with slots:=sl }) ->
   tm M A (setFlight (.ref x) Bv) Q E { s with heap:=h1 }:=λh1 T oT ts e1 nT oldT e2 d2 z2 k1 k2=>by
  unfold setFlight;refine sN (tL (s:={ s with heap:=h1 }) e1 rfl (x:=.ref T) rfl ?_);rw[y6 (show (u6 T != u5)=Bw from by simp)];refine Af (s:={ s with heap:=h1 }) e2 d2 z2 ?_;have d3:=Obj.data_mapFields d2 (·.setIfInBounds 3 ((Bv:Option sX).elim u5 λf=>rawInt f))
  have nb:∀b,b≠x->tb≠.ref b->(∃o,s.heap.get? b=Bu o)->b≠T:=λb hb hbt ⟨o,eo⟩ z=>by
   subst z;rcases oldT with q | q
   ·exact hbt q
   ·exact y4 (aq eo) (Nat.not_lt.mpr q)
  refine h _ T _ _ ((aC _ _ nT).trans e1) nT oldT (ce _ e2 (Obj.isFreed_of_fields d3)) d3 (by simpa using z2) (λb o hb hbt hbf e=>?_) λb o hb hbt e=>?_
  ·exact (aC _ _ (Ne.symm (nb b hb hbt #[o,e]))).trans (k1 b o hb hbt hbf e)
  ·obtain⟨sl,q⟩:=k2 b o hb hbt e;exact#[sl,(aC _ _ (Ne.symm (nb b hb hbt #[o,e]))).trans q]
 unfold noteFrame
 erw[he]
 refine sN (tL hx rfl (x:=tb) rfl ?_);rcases htb with rfl | ⟨T,oT,ts,rfl,nT,e2,d2,z2⟩
 ·rw[y9 ∅];refine ZF hfr hl hf he hx λh' oT ts e1 ne e2 d2 z2 k1 k2=>land h' _ oT ts e1 ne (.inr (al _)) e2 d2 z2 (λb o hb _ hbf e=>k1 b o hb hbf e) λb o hb _ e=>k2 b o hb e
 ·rw[y6 (show (u6 T != u5)=Bw from by simp)];obtain⟨y,hy⟩:∃y,ts[3]? = Bu y:=#[ts[3],by simp [z2]];refine sN (tL e2 d2 (x:=y) hy ?_);by_cases c:(y == rawInt L)=Bw
  ·rw[y6 c];exact sP (land s.heap T oT ts hx nT (.inl rfl) e2 d2 z2 (λb o _ _ _ e=>e) λb o _ _ e=>#[o.slots,e])
  ·rw[y9 c];refine sN (Af e2 d2 z2 ?_);have oth:∀b,b≠T->(s.heap.update T (Obj.mapFields (·.setIfInBounds 3 u5))).get? b=s.heap.get? b:=λb hb=>aC _ _ (Ne.symm hb);have hl1:(s.heap.update T (Obj.mapFields (·.setIfInBounds 3 u5))).FunFrames base (env0::outer):=hl.of_keeps λb o hb hnf=>#[o,(oth b λq=>by rw[q,e2]at hb;cases hb;exact hnf ts d2).trans hb,rfl];have hsz:(s.heap.update T (Obj.mapFields (·.setIfInBounds 3 u5))).objs.size=s⁻¹:=dM ..;refine ZF (s:={ s with heap:=s.heap.update T (Obj.mapFields (·.setIfInBounds 3 u5)) }) hfr hl1 hf he ((oth x (Ne.symm nT)).trans hx) λh' oT' ts' e1 ne e2' d2' z2' k1 k2=>?_;refine land h' _ oT' ts' e1 ne (.inr (by rw[hsz];exact al _)) e2' d2' z2' (λb o hb hbt hbf e=>k1 b o hb hbf ((oth b λq=>hbt (by rw[q])).trans e)) λb o hb hbt e=>k2 b o hb ((oth b λq=>hbt (by rw[q])).trans e)
def zbA{tb:sY}{Q:Unit->sZ->Prop}(hfr:A.frames=Bu (env0::outer))(hl:s.heap.FunFrames base (env0::outer))(hf:env0.frame=Bu L)(he:env.frame=Bu L)(hx:s.heap.get? x=Bu (xog C dx t tb cx kx)) (htb:zcO s.heap x tb)(h:∀h' T oT ts,h'.get? x=Bu (xog C dx t (.ref T) cx kx)->T≠x->(tb=.ref T\/s⁻¹<=T)->h'.get? T=Bu oT->oT.data=.fields ts->3<ts.size ->
   (∀b o,b≠x->tb≠.ref b->b ∉ frs (env0::outer)->s.heap.get? b=Bu o->h'.get? b=Bu o)->(∀b o,b≠x->tb≠.ref b->s.heap.get? b=Bu o->∃sl,h'.get? b=Bu { o with slots:=sl })->Q Unit.unit { s with heap:=h' }) :
  tm M A (leaving env (.ref x)) Q E s:=sN (kY hfr hl hf he hx htb h)
end
def CXx(P:tu)(w:tz):CXT:=λouter H s E e s'=>∃(x C t:sX) (dx:Option sX) (tb:sY) (H':Hp),e=.ref x/\s'.os=s.os/\Az s'.gens/\Un (frs outer) [] H H' s.heap s'.heap/\HOk P w H' s'.heap /\
 s'.heap.get? x=Bu (xob C dx t tb)/\zcO s'.heap x tb/\H' x=Bv/\s⁻¹<=x/\(∀T,tb=.ref T->H' T=Bv/\s⁻¹<=T)/\E (.ref C) dx H'
def zd8(X:Cx)(E:XK)(e:sY)(s:sZ):Prop:=∃(By:List (sX × tR)) (σ:St) (H:Hp) (x C t:sX) (dx:Option sX) (tb:sY),e=.ref x/\Inv X By σ H s /\
 s.heap.get? x=Bu (xob C dx t tb)/\zcO s.heap x tb/\wz X By H x/\(∀T,tb=.ref T->wz X By H T)/\E (.ref C) dx H
def XE(X:Cx)(E:XK):Prop:=∀e s,zd8 X E e s->X.xe e s
def WT{X:Cx}{E:XK}(hx:XE X E):qt (CXx X.prog X.w) X E:=by intro By σ H s e s' I h;obtain⟨x,C,t,dx,tb,H',rfl,os,bare,un,hok,ob,tr,hn,hsz,hT,q⟩:=h;have I':Inv X By σ H' s':=I.call' os un hok bare λb z=>y4 z (by simp);exact hx _ _ #[By,σ,H',x,C,t,dx,tb,rfl,I',ob,tr,I.fpOk hsz hn,λT e=>I.fpOk (hT T e).2 (hT T e).1,q]
def zdz{P:tu}{w:tz}{K:sV}{mg:tw->Option sY}{base:tE}{N:List tw}{qual:tw}{scope:tU}{f:sX}{cd:sY}{A:tB}{outer:List AK}{s:sZ}{H:Hp}{E:XK} :
  XE (qS (CXx P w) P w K mg base N qual scope f cd A outer s H E) E:=by
 intro e s1 h;obtain⟨By,σ,H1,x,C,t,dx,tb,rfl,I,ob,tr,fx,fT,q⟩:=h;show tm _ _ (leaving _ (.ref x)) _ _ s1;have ff:=I.stack;refine zbA (A:=(qS (CXx P w) P w K mg base N qual scope f cd A outer s H E).A) (env0:=Ax qual scope s⁻¹ f cd) (outer:=outer) I.ok.frames ff rfl rfl ob tr λh' T oT ts e1 nT oldT e2 d2 z2 k1 k2=>?_;have szs:s⁻¹<=s1⁻¹:=I.sz
 have hxs:s⁻¹<=x:=by
  rcases fx.2.2.2.1 with z | z
  ·exact y4 z (by simp [qS])
  ·exact z
 have hTs:s⁻¹<=T/\H1 T=Bv:=by
  rcases oldT with z | z
  ·obtain⟨a0,_,_,a3,_⟩:=fT T z;rcases a3 with y | y
   ·exact y4 y (by simp [qS])
   ·exact#[y,a0]
  ·exact#[aK szs z,I.hok.fresh z]
 have tbs:∀b,tb=.ref b->s⁻¹<=b/\H1 b=Bv:=λb hb=>by
  obtain⟨a0,_,_,a3,_⟩:=fT b hb;rcases a3 with y | y
  ·exact y4 y (by simp [qS])
  ·exact#[y,a0]
 have old:∀b o,s.heap.get? b=Bu o->b≠x/\tb≠.ref b:=λb o e=>by
  have hb:=aq e;refine#[aB (ax hb hxs),λz=>?_];exact y4 (ax hb (tbs b z).1) (cM _)
 have un:Un (frs outer) [] H H1 s.heap h':=by
  have B:=I.base;refine#[λb o e n hb _=>?_,λb o e n hb _=>?_,λb o e n _=>B.free b o e n (by simp [qS]),λb o e _=>?_,B.tups,B.frzs,B.tbls]
  ·have e1:=B.keep b o e n hb (by simp [qS]);refine k1 b o (old b o e).1 (old b o e).2 (λz=>?_) e1;have z':=I.stkSub b z;rcases BE.mp z' with q | q
   ·exact y4 q (aB (ax (aq e) I.ok.above))
   ·exact hb q
  ·obtain⟨sl,e1⟩:=B.slot b o e n hb (by simp [qS]);obtain⟨sl',e2⟩:=k2 b _ (old b o e).1 (old b o e).2 e1;exact#[sl',e2]
  ·obtain⟨o',e1⟩:=B.there b o e (by simp [qS]);obtain⟨sl',e2⟩:=k2 b _ (old b o e).1 (old b o e).2 e1;exact#[_,e2]
 have hok:HOk P w H1 h':=λb u e=>by
  refine (I.hok b u e).stay (λc v hc q=>k1 c v ?_ ?_ ?_ q) (λ_ q=>q) λ_ _ q=>q
  ·rintro rfl;rcases hc with rfl | hc
   ·rw[fx.1]at e;cases e
   ·rw[fx.1]at hc;cases hc
  ·intro z;have:=(tbs c z).2;rcases hc with rfl | hc
   ·rw[this]at e;cases e
   ·rw[this]at hc;cases hc
  ·intro z;have:=I.stkFree c z;rcases hc with rfl | hc
   ·rw[this]at e;cases e
   ·rw[this]at hc;cases hc
 exact#[x,C,t,dx,.ref T,H1,rfl,I.os,I.bare,un,hok,e1,.inr #[T,oT,ts,rfl,nT,e2,d2,z2],fx.1,hxs,λT' z=>by cases z;exact#[hTs.2,hTs.1],q]
def Fun.okX{P:tu}{w:tz}{K:sV}{mg:tw->Option sY}{base:tE}{x qual:tw}{st:tF}{f:sX}{fd:tj}{N ps:List tw}{k:Nat}{sp:Sp}(F:Fun K x qual st f fd)(S:zm N ps (zh st))(len:∀vs H Q E,sp vs H Q E->vs.length=ps.length)(hbody:∀(cdv:sY) (A:tB) (outer:List AK) (s:sZ) (H:Hp) (vs:List V) (Q:VK) (E:XK),Room k (A.deeper (Ax qual (zh st) s⁻¹ f cdv))->XE (qS (CXx P w) P w K mg base N qual (zh st) f cdv A outer s H E) E->sp vs H Q E ->
   ∃t,PSs (qS (CXx P w) P w K mg base N qual (zh st) f cdv A outer s H E) (yq st) t/\t { nx:=λ_ H'=>Q .non H',rt:=Q } (start N vs) H):zY P w K mg base (CXx P w) (k+1) f fd ps sp:=by obtain⟨oc,od,kV,doc,pm,an,cdv,ct,osl,rfl,lk,hcd⟩:=F.ex;exact J9 lk hcd S len λA outer s H vs Q E hr hsp=>hbody cdv A outer s H vs Q E hr zdz hsp
def zd3(X:Cx)(E:XK)(e:sY)(s:sZ):Prop:=∃(cx:sY) (kx:Bool) (By:List (sX × tR)) (σ:St) (H:Hp) (x C t:sX) (dx:Option sX) (tb:sY),e=.ref x/\Inv X By σ H s /\
 s.heap.get? x=Bu (xog C dx t tb cx kx)/\zcO s.heap x tb/\wz X By H x/\(∀T,tb=.ref T->wz X By H T)/\E (.ref C) dx H
def XEg(X:Cx)(E:XK):Prop:=∀e s,zd3 X E e s->X.xe e s
structure RoomH(k:Nat)(A:tB):Prop where
 dp:A.depth+3 * k+5<AQ
 un:A.units+16 * k+200<cLine
def RoomH.mark{k:Nat}{A:tB}(r:RoomH k A)(e:Option sY):RoomH k (A.mark e):=#[r.dp,r.un]
end in def cxH(P:tu)(w:tz)(K:sV)(mg:tw->Option sY)(base:tE)(N:List tw)(qual:tw)(scope:tU)(f:sX)(cd:sY)(A:tB)(outer:List AK)(s:sZ)(H:Hp):Cx :=
 { qS CX0 P w K mg base N qual scope f cd A outer s H E0 with calm:=Bx,xe:=λ_ _=>False }
section
variable{X:Cx}{k:Nat}{f:sX}{fd:tj}{ps:List tw}{sp:Sp}{x:tw}{p pos:Ad}{e:tD}{es:List tD}{t:TA}
end
end in abbrev bmV:List sY:=[.type "ValueError",.type "Exception",.type "BaseException",.type "object"]
end in def Zk(K:sV)(C:sX):Bool:=match K.lookup C with
 | some ⟨.type "type",_,.cls cd,sl⟩=>(match cd.mro,sl.toList with
  | .ref C'::bm,[_,_,_,_,Bu (.builtin n),_]=>C' == C && (n == "ValueError.__new__" && (!cd.hasDel && (cd.hasDict && PySem.W.tailIn K bmV bm)))
  | _,_=>Bx)
 | _=>Bx
def zd2{K:sV}{C:sX}(q:Zk K C=Bw):∃bm N nm qn bs sn sub ab col dd k0 k1 k2 k3 k5,K.lookup C=Bu (AC nm qn C N bs bm Bw sn sub ab col dd k0 k1 k2 k3 k5 "ValueError.__new__")/\∀h:tE,K.In h->OwnTail h bmV bm:=by
 unfold Zk at q;split at q
 ·rename_i dd cd sl ho;split at q
  ·rename_i C' bm k0 k1 k2 k3 n k5 hm hs
   erw[cA,beq_iff_eq,dD]at q
   obtain⟨rfl,rfl,hdel,hdct,ht⟩:=q;obtain⟨nm,bs,mro,ns,qn,hd,sn,sub,ab,col,del⟩:=cd;dsimp only at hm hdel hdct;subst hm hdel hdct
   have hsl:sl=(u9 [k0,k1,k2,k3,Bu (.builtin "ValueError.__new__"),k5]):=by
    obtain⟨l⟩:=sl;simp only at hs;rw[hs]
   subst hsl;exact#[bm,ns,nm,qn,bs,sn,sub,ab,col,dd,k0,k1,k2,k3,k5,ho,λh X=>PySem.W.tail_of_in X ht]
  ·cases q
 ·cases q
def ZJ{K:sV}{C:sX}{G:Prop}(q:Zk K C=Bw)(f:∀bm N nm qn bs sn sub ab col dd k0 k1 k2 k3 k5,K.lookup C=Bu (AC nm qn C N bs bm Bw sn sub ab col dd k0 k1 k2 k3 k5 "ValueError.__new__")->(∀h:tE,K.In h->OwnTail h bmV bm)->G):G:=by obtain⟨bm,N,nm,qn,bs,sn,sub,ab,col,dd,k0,k1,k2,k3,k5,lk,tl⟩:=zd2 q;exact f bm N nm qn bs sn sub ab col dd k0 k1 k2 k3 k5 lk tl
structure XC(K:sV)(C:sX):Prop where
 ok:Zk K C=Bw
 sa:ag K (.ref C) "__setattr__" = Bu (Bu (.builtin "object.__setattr__"))
 ga:ag K (.ref C) "__getattribute__" = Bu (Bu (.builtin "BaseException.__getattribute__"))
 gt:ag K (.ref C) "__getattr__" = Bu Bv
 kp:aI K (.ref C)=Bw
section
variable{prog:tu}{w:tz}{A:tB}{R:AR->sZ->Prop}{h:tE}{g:Array Bf}{d:Drawn}{t:Nat}{os:OsState}{K:sV}{C:sX}
theorem Wm{init:sY}{rest:List sY}(X:K.In h)(q:Zk K C=Bw)(hi:ag K (.ref C) "__init__" = Bu (Bu init))(hb:∀self,PySem.W.Looks (model prog w) h (bindSpecial init self) (init,[self])) (hrest:rest.length<=sU)(hq:Ae (model prog w) (A.under (.builtin "type.__call__" #[.ref C::rest,[]])) (.call init #[.ref (h.objs.size+1)::rest,[]]) (PySem.W.InitBack (h.objs.size+1) R) #[(h.push { cls:=.type "tuple",data:=.seq rest.toArray }).push (xob C Bv h.objs.size .none),g,d,t,os]) :
  Ae (model prog w) A (.call (.ref C) #[rest,[]]) R #[h,g,d,t,os]:=by
 refine ZJ (q) λbm N nm qn bs sn sub ab col dd k0 k1 k2 k3 k5 lk tl=>?_;have hC:=X _ _ lk;have T:=tl h X;have F:=eI;have f1:=tc_lookup;have f2:=tc_bind (.ref C);have hT:(#[h,g,d,t,os]:sZ).TypeIs (.ref C) "type":=#[_,hC,rfl];refine codeAny_of_tree ?_;show tm _ _ (callAny (.ref C) _) _ _ _
 repeat (any_goals (first | assumption | with_reducible refine tW hC ?_ | wp_step))
 refine#[rfl,?_];refine codeAny_call_builtin_at (Code.quiet_builtin _ (!0)) entry_typeCall (wpAny_check_type_call_sub hC ?_)
 repeat (first | with_reducible refine tW hC ?_ | with_reducible refine wpAny_madeBy_exc hC ?_ | wp_step)
 refine codeAny_call_builtin_code (Code.quiet_builtin _ F.quiet) (wpAny_check_new_subT F T hC ?_);refine codeAny_exc_new_subT F T hC ?_ hrest;show tm _ _ _ _ _ _;have k:∀b o,h.get? b=Bu o->((h.push { cls:=.type "tuple",data:=.seq rest.toArray }).push (xob C Bv h.objs.size .none)).get? b=Bu o:=λb o e=>aa _ (aa _ e);have hC1:=k _ _ hC;have hget:((h.push { cls:=.type "tuple",data:=.seq rest.toArray }).push (xob C Bv h.objs.size .none)).get? (h.objs.size+1)=Bu (xob C Bv h.objs.size .none):=by heap_get
 have hcC:(u6 C::bm).contains (.ref C)=Bw:=by simp
 unfold isInstance
 repeat (first | with_reducible refine tW hget ?_ | wp_step)
 refine Ao (C:=C) hC1 ?_;rw[hcC]
 repeat wp_step
 show tm _ _ (typeLookup (.ref C) _) _ _ _;refine ((cG X hi).keeps k).at ?_;refine tQ (sN (((hb _).keeps k).at ?_));refine sN (Al (An hq λr s' z=>?_));rcases r with e | (v | _ | _ | _) <;> first | exact z | exact z.elim | skip;obtain⟨rfl,z⟩:=z;exact sP (sP z)
end
end in def XN(x C:sX)(dx:Option sX):HO:=.ext λh=>∃t,h.get? x=Bu (xob C dx t .none)
end in def XT(x C:sX)(dx:Option sX):HO:=.ext λh=>∃t tb c k,h.get? x=Bu (xog C dx t tb c k)
end in def XP(x C:sX)(dx:Option sX):HO:=.ext λh=>∃t tb,h.get? x=Bu (xob C dx t tb)
def zes{P:tu}{w:tz}{H:Hp}{h:tE}{x C t:sX}{dx:Option sX}(e:h.get? x=Bu (xob C dx t .none)):ObjOk P w H h x (XN x C dx) :=
 #[#[t,e],#[_,e],λh1 h2 ⟨t,q⟩ k=>#[t,k _ q]]
def zdq{P:tu}{w:tz}{H:Hp}{h:tE}{x C t:sX}{dx:Option sX}{tb c:sY}{k:Bool}(e:h.get? x=Bu (xog C dx t tb c k)):ObjOk P w H h x (XT x C dx) :=
 #[#[t,tb,c,k,e],#[_,e],λh1 h2 ⟨t,tb,c,k',q⟩ k=>#[t,tb,c,k',k _ q]]
def zdw{P:tu}{w:tz}{H:Hp}{h:tE}{x C:sX}{dx:Option sX}(o:ObjOk P w H h x (XN x C dx)):∃t,h.get? x=Bu (xob C dx t .none):=o.1
def zfu{P:tu}{w:tz}{H:Hp}{h:tE}{x C:sX}{dx:Option sX}(o:ObjOk P w H h x (XT x C dx)):∃t tb c k,h.get? x=Bu (xog C dx t tb c k):=o.1
section
variable{nm q:tw}{C N:sX}{bs bm:List sY}{hdct:Bool}{sn:List tw}{sub:List sY}{ab:Bool}{col:Option Bool}{dd:Option sX}{k0 k1 k2 k3 k5:Option sY}{newId:String}{h:tE}{M:Bd}
def YU(hC:h.get? C=Bu (AC nm q C N bs bm hdct sn sub ab col dd k0 k1 k2 k3 k5 newId))(base:sY):PySem.W.Looks M h (isSubtype (.ref C) base) ((u6 C::bm).contains base):=λA Q E s k z=>by
 obtain⟨hp,g,d,t,os⟩:=s;exact Ao (k _ _ hC) z
def Uw(hC:h.get? C=Bu (AC nm q C N bs bm hdct sn sub ab col dd k0 k1 k2 k3 k5 newId)):PySem.W.Looks M h (mroOf (.ref C)) (.ref C::bm):=λA Q E s k z=>by
 obtain⟨hp,g,d,t,os⟩:=s;exact wpAny_mroOf_exc (k _ _ hC) z
def Qn(hC:h.get? C=Bu (AC nm q C N bs bm hdct sn sub ab col dd k0 k1 k2 k3 k5 newId)):PySem.W.Looks M h (classData C) { name:=nm,bases:=bs,mro:=.ref C::bm,ns:=N,qualname:=q,hasDict:=hdct,slotNames:=sn,subclasses:=sub,abstract:=ab,collection:=col,hasDel:=Bx }:=λA Q E s k z=>by
 unfold classData;exact sN (wpAny_load (k _ _ hC) (sP z))
theorem X3{bmB bm:List sY}(T:OwnTail h bmB bm)(self:sY)(hp:refuseLoop self "__setattr__" bmB=pure Unit.unit):refuseLoop self "__setattr__" bm=pure Unit.unit:=by
 induction T with
 | base=>exact hp
 | own _ _ _ _ ih=>rw[refuseLoop_ref];exact ih
end
section
variable{X:Cx}{By:List (sX × tR)}{σ:St}{H:Hp}{s:sZ}{A:tB}{E:sY->sZ->Prop}{x C:sX}{f:tw}{y:V}{u:sY}
theorem zbF{Q:Unit->sZ->Prop}(I:Inv X By σ H s)(e:H x=Bu (XN x C Bv))(xc:XC X.K C)(n:NoAttr X.K C f)(ry:RelV y u)(h:∀s' dx,H dx=Bv->Inv X By σ (upd (upd H dx (.xd [(f,y)])) x (XN x C (Bu dx))) s'->Q Unit.unit s'):tm (model X.prog X.w) A (setAttr (.ref x) f u) Q E s:=by
 obtain⟨t,ob⟩:=zdw (I.hok x _ e);refine ZJ (xc.ok) λbm N nm qn bs sn sub ab col dd k0 k1 k2 k3 k5 lk tl=>?_;have hC:=I.kIn _ _ lk;have T:=tl _ I.kIn;have SF:=PySem.F.store_ValueError;have J:PySem.W.InstAt s.heap x (xob C Bv t .none) C Bv:=#[ob,rfl,rfl,trivial];have hob:(u6 C::bm).contains (.type "object")=Bw:=by rw[dq,T.hasType (show bmV.contains (.type "object")=Bw by symm),dQ]
 have isO:PySem.W.Looks (model X.prog X.w) s.heap (isInstance (.ref x) (.type "object")) Bw:=J.type.andThen (by have:=YU (M:=model X.prog X.w) hC (.type "object");rw[hob]at this;exact this);refine gk I.kIn J xc.sa ?_;refine Av SF.slot.plain SF.entry (@PySem.W.check_slot (model X.prog X.w) _ _ { s with toks:=s.toks+1 } "object.__setattr__" "object" "__setattr__" (.ref x) [.str f s.toks,u] [] _ SF.kind SF.split isO (SF.args _ _ _) ?_);rw[PySem.W.osa_eq,refuse_eq];refine sN (sN (J.type.here (s:={ s with toks:=s.toks+1 }) (sN ((Uw hC).here (s:={ s with toks:=s.toks+1 }) ?_))));rw[refuseLoop_ref,X3 T _ (SF.passes _)];refine sP (sN (J.type.here (s:={ s with toks:=s.toks+1 }) (sN ((cG I.kIn n).here (s:={ s with toks:=s.toks+1 }) (sN (sP ?_))))));show tm _ _ (Builtin.ObjectAttr.storeInOwnDict (.ref x) (.ref C) (.str f s.toks) f u Bx) _ _ _;have hx1:(s.heap.push { cls:=.type "dict",data:=.dict #[] }).get? x=Bu (xob C Bv t .none):=aa _ ob;have hxs:x≠s⁻¹:=aB (aq ob);refine sN (sP (sN (sN (AO ob (sN ((Qn hC).here (s:={ s with toks:=s.toks+1 }) ?_))))));rw[y9 (by simp)];show tm _ _ (if (!Bw || !typeHasDict (.ref C))=Bw then _ else _) _ _ _;rw[y9 (by simp [typeHasDict])]
 have hgd:((s.heap.push { cls:=.type "dict",data:=.dict #[] }).update x λo=>{ cls:=o.cls,dict:=Bu s⁻¹,data:=o.data,slots:=o.slots }).get? s⁻¹=Bu { cls:=.type "dict",data:=.dict #[] } :=
  (aC _ _ hxs).trans (Heap.get?_push_at rfl rfl)
 have hgx:((s.heap.push { cls:=.type "dict",data:=.dict #[] }).update x λo=>{ cls:=o.cls,dict:=Bu s⁻¹,data:=o.data,slots:=o.slots }).get? x=Bu (xob C (Bu s⁻¹) t .none) :=
  ce _ hx1 rfl
 have hnd:((s.heap.push { cls:=.type "dict",data:=.dict #[] }).update x λo=>{ cls:=o.cls,dict:=Bu s⁻¹,data:=o.data,slots:=o.slots }).Ns s⁻¹ (λ_=>Bv) :=
  #[_,#[],_,hgd,rfl,λe he=>y4 he (by simp),λ_=>rfl]
 refine sN (wpAny_alloc' (sN (wpAny_update' hx1 (sP ?_))));show tm _ _ (Builtin.ObjectAttr.storeInDict s⁻¹ (.str f s.toks) f u) _ _ _;unfold Builtin.ObjectAttr.storeInDict Builtin.ObjectAttr.newKeyGuard;refine sN (sP (sN (wpAny_nsSet1 (Heap.Ns1.of_empty hnd) λh' hn' hs=>?_)));obtain⟨oD,esD,epD,hoD,hdD,hcD⟩:=hn'.count (Within.cons f u Within.nil);refine sN (Bh hoD (by rw[hdD];exact pastItsLine_dict (aK hcD (by rw[aL,cj,tP];lia))) ?_);refine sP ?_;have hx2:h'.get? x=Bu (xob C (Bu s⁻¹) t .none):=(hs.2 x hxs).trans hgx;have hfr:H s⁻¹=Bv:=I.hok.fresh (al _);have hxe:x≠s⁻¹:=hxs;refine h _ s⁻¹ hfr ?_
 have k0:∀b o,b≠x->s.heap.get? b=Bu o->h'.get? b=Bu o:=λb o hb q =>
  (hs.2 b (aB (aq q))).trans ((aC _ _ (Ne.symm hb)).trans (aa _ q))
 have I1:Inv X By σ (upd H x (XN x C (Bu s⁻¹))) { s with heap:=h',toks:=s.toks+1+1 } :=
  I.write (x:=x) (e:=x) (by rw[e];exact True.intro) (.inl rfl) k0 ⟨_,hx2⟩ (zes hx2)
 have hd2:ObjOk X.prog X.w (upd (upd H x (XN x C (Bu s⁻¹))) s⁻¹ (.xd [(f,y)])) h' s⁻¹ (.xd [(f,y)]):=by
  refine#[_,hn',λg=>?_];show RelO (bi g [(f,y)]) (if g=f then Bu u else Bv);by_cases q:g=f
  ·subst q;rw[y6 rfl];simp [bi,RelO,ry]
  ·rw[y9 q];have q':(g == f)=Bx:=by simpa using q
   simp [bi,q',RelO]
 have fd:wz X By (upd H x (XN x C (Bu s⁻¹))) s⁻¹:=I.fpOk (al _) (by rw[zq (Ne.symm hxe)];exact hfr);have I2:=Inv.track I1 fd hd2
 have eH:upd (upd H x (XN x C (Bu s⁻¹))) s⁻¹ (.xd [(f,y)])=upd (upd H s⁻¹ (.xd [(f,y)])) x (XN x C (Bu s⁻¹)):=by
  funext b;unfold upd;by_cases b1:b=s⁻¹
  ·subst b1;rw[y6 rfl,y9 (Ne.symm hxe),y6 rfl]
  ·by_cases b2:b=x
   ·subst b2;rw[y9 b1,y6 rfl,y6 rfl]
   ·rw[y9 b1,y9 b2,y9 b2,y9 b1]
 rw[eH]at I2;exact I2
end
def zbT(K:sV)(ta tv:TE)(f:tw):TS:=λD σ H=>tv σ H λy H1=>ta σ H1 λo H2=>∃x C,o=.ref x/\H2 x=Bu (XN x C Bv)/\XC K C/\NoAttr K C f/\∀dx,H2 dx=Bv->D.nx σ (upd (upd H2 dx (.xd [(f,y)])) x (XN x C (Bu dx)))
section
variable{X:Cx}{o value:tD}{f:tw}{pos pos':Ad}{ta tv:TE}
def UL(ha:PE X o ta)(hv:PE X value tv)(hs:swapsWith value (Bu (.Attribute o f pos')) pos.line X.env=pure Bx):PS X (.Assign [.Attribute o f pos'] value pos) (zbT X.K ta tv f):=by intros D I h;refine Ar (thn (hv By s σ H _ I h) λu s1=>el5 λy H1 I1 ry q=>thn (ha By s1 σ H1 _ I1 q) λov s2=>el5 λx' H2 I2 rx q_z=>?_) hs;obtain⟨x,C,ex,e,xc,n,q2⟩:=q_z;subst ex;obtain rfl:ov=u6 x:=rx;exact zbF I2 e xc n ry λs3 dx hdx I3=>#[σ,_,I3,q2 dx hdx]
end
section
variable{M:Bd}{A:tB}{E:sY->sZ->Prop}{s:sZ}{env:AK}
def Qm{K:sV}{x:Bl sY}{Q:Flow->sZ->Prop}(hh:A.handled=Bv)(h:tm M A x (λv s1=>∃e C t dx,v=.ref e/\K.In s1.heap/\Zk K C=Bw/\s1.heap.get? e=Bu (xob C dx t .none)/\E (.ref e) s1) E s):tm M A (raiseStmt env (Bu x) Bv) Q E s:=by
 unfold raiseStmt;refine sN (thn h λv s1 h1=>?_);obtain⟨e,C,t,dx,rfl,X,hC,he,hE⟩:=h1;refine ZJ (hC) λbm N nm qn bs sn sub ab col dd k0 k1 k2 k3 k5 lk tl=>?_;have hCo:=X _ _ lk;have T:=tl _ X;have hcB:(u6 C::bm).contains (.type "BaseException")=Bw:=by rw[dq,T.hasType (show bmV.contains (.type "BaseException")=Bw by symm),dQ]
 obtain⟨hp,g,d,tk,os⟩:=s1
 repeat (first | with_reducible refine tW he ?_ | with_reducible refine tW hCo ?_ | (with_reducible refine Ao hCo ?_;rw[hcB]) | wp_step)
 exact wpAny_raiseNew_none hh hE
def Jc{K:sV}{e:tD}{pos:Ad}{Q:Flow->sZ->Prop}(hh:A.handled=Bv)(h:tm M A (eval e env) (λv s1=>∃a C t dx,v=.ref a/\K.In s1.heap/\Zk K C=Bw/\s1.heap.get? a=Bu (xob C dx t .none)/\E (.ref a) s1) E s):tm M A (exec (.Raise (Bu e) Bv pos) env) Q E s:=by
 rw[arm_exec_Raise]
 first
  | exact sN (Ab (Qm hh (sN (thn h λv s1 h1=>sN (Ab (sP h1))))))
  | (erw[evalOpt,Option.map];exact sN (Ab (Qm hh (sN (thn h λv s1 h1=>sN (Ab (sP h1)))))))
end
end in def del(H:Hp)(x:sX):Hp:=λb=>if b=x then Bv else H b
def V6{H:Hp}{x b:sX}(h:b≠x):del H x b=H b:=y9 h
def Wj{H:Hp}{x:sX}:del H x x=Bv:=y6 rfl
section
variable{X:Cx}{By:List (sX × tR)}{σ:St}{H:Hp}{s:sZ}
def Inv.untrack{x:sX}{φ:tE->Prop}(I:Inv X By σ H s)(e:H x=Bu (.ext φ))(hs:X.s₀.heap.objs.size<=x):Inv X By σ (del H x) s:=by
 have nx:∀b u,H b=Bu u->(∀ψ,u≠.ext ψ)->b≠x:=λb u q nu z=>by subst z;rw[e]at q;cases q;exact nu _ rfl
 have hn:∀b,b≠x->del H x b=H b:=λb hb=>V6 hb;have es:s={ s with heap:=s.heap,gens:=s.gens,drawn:=s.drawn,toks:=s.toks }:=rfl;rw[es]
 refine I.step (g':=s.gens) (d':=s.drawn) (ch:=[x]) (λb hb=>?_) (λb o _ _ _ q _=>q) (λb o _ _ _ q _=>#[o.slots,q]) (λb o hc _ n=>?_)
  (λb o _ q=>#[o,q]) (λb xs q=>?_) (λb u xs q=>?_) (λb ps q=>?_) (λm hm=>hm) (λb u q=>?_) I.bare
 ·have eb:b=x:=by simpa using hb
  subst eb;refine#[.inr hs,λz=>?_,λy c q z=>?_,λp hp z=>?_]
  ·rw[z,I.free]at e;cases e
  ·have:=I.freeC y c q;rw[z,e]at this;cases this
  ·have:=(I.pin p hp).2.1;rw[z,e]at this;cases this
 ·rw[hn b (by simpa using hc)];exact n
 ·rw[hn b (nx b _ q λ_ z=>by cases z)];exact q
 ·rw[hn b (nx b _ q λ_ z=>by cases z)];exact q
 ·exact#[#[],by rw[hn b (nx b _ q λ_ z=>by cases z),q];simp]
 ·by_cases hb:b=x
  ·subst hb;rw[Wj]at q;cases q
  ·rw[hn b hb]at q;exact (I.hok b u q).stay (λc v _ z=>z) (λc z=>by rw[hn c (nx c _ z λ_ y=>by cases y)];exact z) λc xs z=>by rw[hn c (nx c _ z λ_ y=>by cases y)];exact z
def VR{C:sX}{us:List sY}{E:sY->sZ->Prop}{Q:sY->sZ->Prop}(I:Inv X By σ H s)(xc:Zk X.K C=Bw)(hi:ag X.K (.ref C) "__init__" = Bu (Bu (.builtin "ValueError.__init__")))(hl:us.length<=sU)(h:∀s' x t,s⁻¹<=x->Inv X By σ H s'->s'.heap.get? x=Bu (xob C Bv t .none)->Q (.ref x) s'):tm (model X.prog X.w) X.A (call (.ref C) us) Q E s:=by
 have F:=eI;refine ZJ (xc) λbm N nm qn bs sn sub ab col dd k0 k1 k2 k3 k5 lk tl=>?_;have hC:=I.kIn _ _ lk;have T:=tl _ I.kIn;obtain⟨hp,g,d,t,os⟩:=s;have k:∀b o,hp.get? b=Bu o->((hp.push { cls:=.type "tuple",data:=.seq us.toArray }).push (xob C Bv hp.objs.size .none)).get? b=Bu o:=λb o e=>aa _ (aa _ e);refine Al (Wm I.kIn xc hi (λself=>PySem.W.Looks.of_pure (F.init.bind self)) hl ?_);have hget:((hp.push { cls:=.type "tuple",data:=.seq us.toArray }).push (xob C Bv hp.objs.size .none)).get? (hp.objs.size+1)=Bu (xob C Bv hp.objs.size .none):=by heap_get
 refine Av F.init.plain F.initEntry (wpAny_check_init_subT F (T.keeps k) (k _ _ hC) hget rfl ?_)
 wp_walk
 refine#[rfl,h _ (hp.objs.size+1) ((hp.push { cls:=.type "tuple",data:=.seq us.toArray }).push (xob C Bv hp.objs.size .none)).objs.size (cQ _) (I.kept (t':=t) λb o e=>?_) ?_]
 ·exact (aC _ _ (bR (cS (aq e)))).trans (aa _ (k b o e))
 ·exact ce (Obj.mapFields λx=>x.setIfInBounds 0 (u6 ((hp.push { cls:=.type "tuple",data:=.seq us.toArray }).push (xob C Bv hp.objs.size .none)).objs.size)) (aa _ hget) rfl
def Xt(E:XK)(C:sX)(t:TA):TS:=λ_ σ H=>t σ H λvs H1=>vs.length<=sU/\E (.ref C) Bv H1
def ye{E:XK}{C:sX}{cn:tw}{np cpos pos:Ad}{e:tD}{es:List tD}{t:TA}(hx:XE X E)(hc:X.calm=Bw)(xc:XC X.K C)(hi:ag X.K (.ref C) "__init__" = Bu (Bu (.builtin "ValueError.__init__")))(hg:Gl X cn)(hm:X.mg cn=Bu (.ref C))(ha:PA X (e::es) t)(hdb:(cn ==("__debug__" : tw))=Bx:=by decide) (he:sS (e::es) X.env=(Bx,eval e X.env)::sS es X.env:=by rfl) (hpl:(tK cpos (sS es X.env)).any (·.1)=Bx:=by rfl) :
  PS X (.Raise (Bu (.Call (.Name cn np) (e::es) [] cpos)) Bv pos) (Xt E C t):=by intros D I h;refine Jc (K:=X.K) (I.ok.hd hc) (tO (v0 I hg hm ?_ hdb));refine bT (h₀:=X.base) I.ok.mod.kin xc.kp (thn (ha cpos By s σ H _ I h) λus s1=>el5 λvs H1 I1 r=>ua2 λz q=>#[I1.kIn,?_]) he hpl;refine VR (us:=[] ++ us) I1 xc.ok hi (by show us.length<=sU;rw[<- r.length];exact z) λs2 x t hz I2 ob=>#[x,C,t,Bv,rfl,I2.kIn,xc.ok,ob,?_];exact hx _ _ #[By,σ,H1,x,C,t,Bv,.none,rfl,I2,ob,.inl rfl,I1.fpOk hz (I1.hok.fresh hz),λT z=>(by cases z),q]
def Qq{A:tB}{C:sX}{us:List sY}{k:Nat}(r:Room (k+1) A):Room k (A.under (.builtin "type.__call__" #[.ref C::us,[]])):=r.make C us []
def XD(E:XK)(C:sX)(sp:Sp)(t:TA):TS:=λ_ σ H=>t σ H λvs H1=>vs.length<=sU/\∀x,H1 x=Bv->sp (.ref x::vs) (upd H1 x (XN x C Bv)) (λv H2=>v=.non/\∃dx,H2 x=Bu (XN x C dx)/\E (.ref C) dx (del H2 x)) E0
theorem Y2{E:XK}{C f:sX}{fd:tj}{k:Nat}{ps:List tw}{sp:Sp}{cn:tw}{np cpos pos:Ad}{e:tD}{es:List tD}{t:TA}(hx:XE X E)(hc:X.calm=Bw)(xc:XC X.K C)(hi:ag X.K (.ref C) "__init__" = Bu (Bu (.ref f)))(hfn:aU X.K (.ref f)=Bw)(F:zY X.prog X.w X.K X.mg X.base CX0 k f fd ps sp) (hr:Room (k+1) X.A) (hb:Binds X.K fd ps []) (hg:Gl X cn) (hm:X.mg cn=Bu (.ref C)) (ha:PA X (e::es) t)(hdb:(cn ==("__debug__" : tw))=Bx:=by decide) (he:sS (e::es) X.env=(Bx,eval e X.env)::sS es X.env:=by rfl) (hpl:(tK cpos (sS es X.env)).any (·.1)=Bx:=by rfl) :
  PS X (.Raise (Bu (.Call (.Name cn np) (e::es) [] cpos)) Bv pos) (XD E C sp t):=by
 intros D I h;refine Jc (K:=X.K) (I.ok.hd hc) (tO (v0 I hg hm ?_ hdb));refine bT (h₀:=X.base) I.ok.mod.kin xc.kp (thn (ha cpos By s σ H _ I h) λus s1=>el5 λvs H1 I1 r=>ua2 λz q=>#[I1.kIn,?_]) he hpl;have hl:us.length<=sU:=by rw[<- r.length];exact z
 have ob:((s1.heap.push { cls:=.type "tuple",data:=.seq us.toArray }).push (xob C Bv s1⁻¹ .none)).get? (s1⁻¹+1)=Bu (xob C Bv s1⁻¹ .none):=by heap_get
 have hfr:H1 (s1⁻¹+1)=Bv:=I1.hok.fresh (cQ _)
 have I2:Inv X By σ (upd H1 (s1⁻¹+1) (XN (s1⁻¹+1) C Bv)) { s1 with heap:=(s1.heap.push { cls:=.type "tuple",data:=.seq us.toArray }).push (xob C Bv s1⁻¹ .none) } :=
  I1.laid (t':=s1.toks) (λb o e=>aa _ (aa _ e)) (cQ _) (zes ob)
 have q1:=q _ hfr;have r2:Vals (V.ref (s1⁻¹+1)::vs) (u6 (s1⁻¹+1)::us):=.cons rfl r
 have hlen:(u6 (s1⁻¹+1)::us ++ ([]:List sY)).length=ps.length:=by
  rw[aT,<- r2.length];exact F.len _ _ _ _ q1
 have hb2:=hb { s1 with heap:=(s1.heap.push { cls:=.type "tuple",data:=.seq us.toArray }).push (xob C Bv s1⁻¹ .none) } (u6 (s1⁻¹+1)::us) I2.kIn hlen;rw[aT]at hb2;have run:=F.run _ X.stack _ _ #[u6 (s1⁻¹+1)::us,[]] (u6 (s1⁻¹+1)::us) _ _ E0 (Qq (C:=C) (us:=us) hr) (I2.env0.make C us []) hb2 r2 q1;have sz0:X.s₀.heap.objs.size<=s1⁻¹+1:=aK I1.sz (cQ _);show tm (model X.prog X.w) X.A (call (.ref C) us) _ X.xe s1;refine Al ?_;refine Wm (h:=s1.heap) (g:=s1.gens) (d:=s1.drawn) (t:=s1.toks) (os:=s1.os) (rest:=us) I1.kIn xc.ok hi (λself=>gq I1.kIn self (beq_iff_eq.mp hfn)) hl (An run λr s' hq=>?_)
 cases r with
 | error e=>exact False.elim hq
 | ok fl =>
  cases fl with
  | ret u =>
   obtain⟨v,H',I3,rv,ev,dx,hx3,q3⟩:=I2.after hq;subst ev;refine#[rv,?_];obtain⟨t,ob3⟩:=zdw (I3.hok _ _ hx3);have I4:=Inv.untrack I3 hx3 sz0;refine#[_,C,t,dx,rfl,I3.kIn,xc.ok,ob3,hx _ _ #[By,σ,_,_,C,t,dx,.none,rfl,I4,ob3,.inl rfl,?_,λT z=>(by cases z),q3]];exact I1.fpOk (cQ _) Wj
  | next=>exact False.elim hq
  | brk=>exact False.elim hq
  | cont=>exact False.elim hq
end
def zbt(X:Cx)(By:List (sX × tR))(σ:St)(E:XK)(e:sY)(s:sZ):Prop:=∃(cx:sY) (kx:Bool) (H:Hp) (x C t:sX) (dx:Option sX) (tb:sY),e=.ref x/\Inv X By σ H s /\
 s.heap.get? x=Bu (xog C dx t tb cx kx)/\zcO s.heap x tb/\wz X By H x/\(∀T,tb=.ref T->wz X By H T)/\E (.ref C) dx H
end in abbrev TX:=St->Hp->VK->XK->Prop
def PEX(X:Cx)(e:tD)(t:TX):Prop :=
 ∀(By:List (sX × tR)) (s:sZ) (σ:St) (H:Hp) (Q:VK) (E:XK),Inv X By σ H s->t σ H Q E->tm (model X.prog X.w) X.A (eval e X.env) (EP X By σ Q) (zbt X By σ E) s
section
variable{X:Cx}
variable{k:Nat}{f:sX}{fd:tj}{ps:List tw}{sp:Sp}{dvs:List V}{ds:List sY}{x:tw}{p pos:Ad}{e:tD}{es:List tD}{t:TA}
theorem KM(F:zY X.prog X.w X.K X.mg X.base (CXx X.prog X.w) k f fd ps sp)(hr:Room k X.A)(hg:Gl X x)(hm:X.mg x=Bu (.ref f))(hk:aI X.K (.ref f)=Bw)(hb:Binds X.K fd ps ds)(hd:Vals dvs ds)(ha:PA X.nox (e::es) t) (hdb:(x ==("__debug__" : tw))=Bx:=by decide) (he:sS (e::es) X.env=(Bx,eval e X.env)::sS es X.env:=by rfl) (hpl:(tK pos (sS es X.env)).any (·.1)=Bx:=by rfl) :
  PEX X (.Call (.Name x p) (e::es) [] pos) (λσ H Q E=>t σ H λvs H1=>sp (vs ++ dvs) H1 Q E):=by
 intros Q E I h;refine tO (v0 I hg hm ?_ hdb);refine bT (h₀:=X.base) I.ok.mod.kin hk (Ac (thn (ha pos By s σ H _ (I.wish _) h) λus s1=>el5 λvs H1 I1 r q=>#[I1.kIn,?_])) he hpl;have I1':Inv X By σ H1 s1:=I1.unwish;have r2:Vals (vs ++ dvs) (us ++ ds):=r.append hd;have hl:(us ++ ds).length=ps.length:=by rw[<- r2.length];exact F.len _ _ _ _ q
 refine Al (An (F.run X.A X.stack s1 H1 #[us,[]] (us ++ ds) (vs ++ dvs) Q E hr I1'.env0 (hb s1 us I1'.kIn hl) r2 q) λr s' hq=>?_)
 cases r with
 | error e =>
  obtain⟨x,C,t,dx,tb,H',rfl,os,bare,un,hok,ob,tr,hn,hsz,hT,q⟩:=hq;exact#[.none,Bx,H',x,C,t,dx,tb,rfl,I1'.call' os un hok bare (λb z=>y4 z (by simp)),ob,tr,I1'.fpOk hsz hn,λT e=>I1'.fpOk (hT T e).2 (hT T e).1,q]
 | ok fl =>
  cases fl with
  | ret u=>exact I1'.after hq
  | next=>exact False.elim hq
  | brk=>exact False.elim hq
  | cont=>exact False.elim hq
end
end in abbrev Cx.suite(X:Cx)(e:sY):Cx:={ X with A:=X.A.mark (Bu e),calm:=Bx,xe:=λ_ _=>False }
def Inv.suite{X:Cx}{By:List (sX × tR)}{σ:St}{H:Hp}{s:sZ}(I:Inv X By σ H s)(e:sY):Inv (Cx.suite X e) By σ H s :=
 #[#[I.ok.mod,I.ok.kind,I.ok.glob,I.ok.blt,I.ok.above,I.ok.inj,I.ok.has,I.ok.cab,λz=>y4 z (by simp [Cx.suite]),I.ok.frames,I.ok.stk,I.ok.exf,I.ok.bs,I.ok.bsz,I.ok.noex,I.ok.exfs,I.ok.funs,I.ok.frf],
  I.os,I.bare,I.base,I.loc,I.cell,I.free,I.freeC,I.pin,I.hok,I.len]
def Inv.unsuite{X:Cx}{By:List (sX × tR)}{σ σ':St}{H H':Hp}{s s':sZ}{e:sY}(J:Inv X By σ' H' s')(I:Inv (Cx.suite X e) By σ H s):Inv X By σ H s :=
 #[J.ok,I.os,I.bare,I.base,I.loc,I.cell,I.free,I.freeC,I.pin,I.hok,I.len]
section
variable{X:Cx}{By:List (sX × tR)}{σ:St}{H:Hp}{s:sZ}
end
theorem zeI{M:Bd}{A:tB}{E:sY->sZ->Prop}{K:sV}{s:sZ}{x C D t:sX}{dx:Option sX}{tb cx:sY}{kx:Bool}{b:Bool}{Q:Bool->sZ->Prop}(X:K.In s.heap)(hD:Zk K D=Bw)(he:s.heap.get? x=Bu (xog C dx t tb cx kx))(hs:df K (.ref C) (.ref D)=Bu b) (h:Q b s):tm M A (excMatches (.ref x) (.ref D)) Q E s:=by
 refine ZJ (hD) λbm N nm qn bs sn sub ab col dd k0 k1 k2 k3 k5 lk tl=>?_;have hDo:=X _ _ lk;have T:=tl _ X;have hcB:(u6 D::bm).contains (.type "BaseException")=Bw:=by rw[dq,T.hasType (show bmV.contains (.type "BaseException")=Bw by symm),dQ]
 have L:=PySem.W.looks_subIn (M:=M) X hs;have f:=tc_notTuple;obtain⟨hp,g,d,tk,os⟩:=s;unfold excMatches
 repeat (first | with_reducible refine tW he ?_ | with_reducible refine tW hDo ?_ | (with_reducible refine Ao hDo ?_;rw[hcB]) | (with_reducible refine PySem.W.Looks.at L ?_) | wp_step)
 cases b with
 | false=>exact sP (sP (sP h))
 | true=>exact sP (sP (sP h))
section
variable{X:Cx}
end in def tbL:sY->List sX
 | .ref b=>[b]
 | _=>[]
end
section
variable{prog:tu}{w:tz}{A:tB}{E:sY->sZ->Prop}{s:sZ}{K:sV}{x C:sX}{ox:tR}{od:Option tR}{name:tw}{tk:Ay}
def zdN{fill expr:Bool}{Q:sY->sZ->Prop}(X:K.In s.heap)(xc:XC K C)(J:PySem.W.InstAt s.heap x ox C od)(h:tm (model prog w) A.in1 (Builtin.«object.__getattribute__» #[[.ref x,.str name tk],[]]) (λfin s'=>match fin with | .done (.ret v)=>tm (model prog w) A (handedOut v) Q E s' | _=>False) (λ_ _=>False) s) :
  tm (model prog w) A (getAttrBy (.ref x) (.str name tk) fill expr) Q E s:=by
 refine ZJ (xc.ok) λbm N nm qn bs sn sub ab col dd k0 k1 k2 k3 k5 lk tl=>?_;have hC:=X _ _ lk;have T:=tl _ X;have FB:=PySem.F.attrBase_ValueError;have L0:=J.type (M:=model prog w);have L1:=cG (M:=model prog w) X xc.ga;have L2:=cG (M:=model prog w) X xc.gt;have hcB:(u6 C::bm).contains (.type "BaseException")=Bw:=by rw[dq,T.hasType (show bmV.contains (.type "BaseException")=Bw by symm),dQ]
 have isB:PySem.W.Looks (model prog w) s.heap (isInstance (.ref x) (.type "BaseException")) Bw:=L0.andThen (by have:=YU (M:=model prog w) hC (.type "BaseException");rw[hcB]at this;exact this);have f3:=FB.ga.bind (.ref x);have hx0:(expr && onTheHeap (Value.builtin "BaseException.__getattribute__"))=Bx:=by cases expr <;> rfl
 have hx2:(Value.builtin "BaseException.__getattribute__" == Value.builtin "object.__getattribute__")=Bx:=by symm
 have hx1:(onTheHeap (u6 C) && Value.builtin "BaseException.__getattribute__" == Value.builtin "object.__getattribute__")=Bx:=by rw[hx2];rfl
 unfold getAttrBy;refine tQ (sN (L0.here (sN (L1.here ?_))));show tm _ _ (if (onTheHeap (u6 C) && Value.builtin "BaseException.__getattribute__" == Value.builtin "object.__getattribute__")=Bw then _ else _) _ _ _;rw[hx1,y9 aD];unfold getAttrByItsOwn hookBefore;rw[y6 (by rfl)];refine sN (L2.here (sN (Au (tQ ?_))));unfold callGetattribute;rw[hx0,y9 aD];unfold boundAndCalled;rw[f3];refine sN (sP ?_);show tm (model prog w) A (call (.builtin "BaseException.__getattribute__") [.ref x,.str name tk]) _ _ s;refine Al (Av FB.ga.plain PySem.F.entry_bexc_ga (@PySem.W.check_slot (model prog w) _ _ s "BaseException.__getattribute__" "BaseException" "__getattribute__" (.ref x) [.str name tk] [] _ (!0) (!0) isB (PySem.F.args_bexc_ga _ _) ?_));refine Ak h (λfin s' z=>?_) λ_ _ z=>z.elim;rcases fin with (_ | _ | _ | v) | _ <;> first | exact z | exact z.elim
def zaH{Q:Option sY->sZ->Prop}(X:K.In s.heap)(xc:XC K C)(J:PySem.W.InstAt s.heap x ox C od)(ha:ag K (.ref C) "__class__" = Bu (Bu (.builtin "object.__class__")))(hn:cF K (.builtin "object.__class__") "__get__" = Bu (Bu (.builtin "getset_descriptor.__get__"))) (htk:dP K (.builtin "object.__class__")=Bu Bw) (hm:bF K C (.type "object")=Bu Bw)(h:Q (Bu (.ref C)) { s with toks:=s.toks+1 }):tm (model prog w) A (getAttr? (.ref x) "__class__") Q E s:=by
 have hf:gv K C od "__class__" = Bu (.bind (.builtin "getset_descriptor.__get__") (.builtin "object.__class__")):=by
  refine ZJ (xc.ok) λbm N nm qn bs sn sub ab col dd k0 k1 k2 k3 k5 lk tl=>?_;have hcl:(PySem.W.clsIn K C).isSome=Bw:=by unfold PySem.W.clsIn;rw[lk];rfl
  obtain⟨cd,hc⟩:=BQ.mp hcl;unfold gv;rw[hc,bZ,ha,bZ];simp [hn,htk]
 unfold getAttr? getAttrBy?;refine sN (wpAny_mkText (sN (Au (zdN (s:={ s with toks:=s.toks+1 }) X xc J ?_))));have L0:=J.type (M:=model prog w);have L1:=PySem.W.looks_find (M:=model prog w) X J hf;unfold Builtin.«object.__getattribute__»;refine sN (sP (sN (sP (sN (L0.here (s:={ s with toks:=s.toks+1 }) (sN (L1.here (s:={ s with toks:=s.toks+1 }) ?_)))))));show tm _ _ (holding [.builtin "object.__class__"] (call (.builtin "getset_descriptor.__get__") [.builtin "object.__class__",.ref x,.ref C]) >>= ret) _ _ _;refine sN (tQ (Al (PySem.W.class_get (s:={ s with toks:=s.toks+1 }) X J hm ?_)));refine sP ?_;show tm _ _ (handedOut (.ref C)) _ _ _;rw[PySem.W.handedOut_of rfl];exact sP (sP h)
end
structure XI(K:sV)(C:sX):Prop extends XC K C where
 ca:ag K (.ref C) "__class__" = Bu (Bu (.builtin "object.__class__"))
 cg:cF K (.builtin "object.__class__") "__get__" = Bu (Bu (.builtin "getset_descriptor.__get__"))
 ct:dP K (.builtin "object.__class__")=Bu Bw
 mo:bF K C (.type "object")=Bu Bw
def zeB{h:tE}{x C t:sX}{tb c:sY}{k:Bool}(ob:h.get? x=Bu (xog C Bv t tb c k)):PySem.W.InstAt h x (xog C Bv t tb c k) C Bv:=#[ob,rfl,rfl,trivial]
def zfM{K:sV}{x C:sX}{dx:Option sX}(xi:XI K C):PySem.W.KitX K (.ref x) (.ref C) (λh=>(∃t tb c k,h.get? x=Bu (xog C dx t tb c k))/\∀d,dx=Bu d->∃o,h.get? d=Bu o) where
 ty:=λM h X ⟨⟨t,tb,c,k',ob⟩,_⟩=>(PySem.W.Looks.ld ob).andThen .now
 it:=λM h X _=>by
  refine ZJ (xi.ok) λbm N nm qn bs sn sub ab col dd k0 k1 k2 k3 k5 lk tl=>?_;intro A' Q' E' s' k q;unfold isType loadHead;exact sN (AO (k _ _ (X _ _ lk)) (sP q))
 ne:=λh tp dd its n sl X htp=>by
  refine ZJ (xi.ok) λbm N nm qn bs sn sub ab col dd k0 k1 k2 k3 k5 lk tl=>?_;refine BX.mpr λq=>?_;have e:C=tp:=Value.ref.inj (beq_iff_eq.mp q);subst e;have z:=congrArg (λo:Option tR=>o.map λo=>match o.data with | .cls _=>Bw | _=>Bx) ((X _ _ lk).symm.trans htp);exact y4 (show Bw=Bx from Option.some.inj z) ∅
 ca:=λ{prog w A E Q s} X ⟨⟨t,tb,c,k',ob⟩,hd⟩ k=>by
  cases dx with
  | none=>exact zaH X xi.toXC (zeB ob) xi.ca xi.cg xi.ct xi.mo k
  | some d =>
   obtain⟨o,e⟩:=hd d rfl;exact zaH (od:=Bu o) X xi.toXC #[ob,rfl,rfl,e] xi.ca xi.cg xi.ct xi.mo k
section
variable{X:Cx}
def XAt(H:Hp)(x C:sX)(dx:Option sX)(fs:List (tw × V)):Prop:=H x=Bu (XT x C dx)/\((dx=Bv/\fs=[])\/∃d,dx=Bu d/\H d=Bu (.xd fs))
def Qj:wK X (.builtin "isinstance") (λxs H Q=>∃x C dx fs c u b,xs=[.ref x,c]/\cV c=Bu u/\XAt H x C dx fs/\XI X.K C/\aQ X.K (.ref C) u=Bu b/\Q (.bl b) H):=by
 intros xs us Q I r h;obtain⟨x,C,dx,fs,c,u,b,rfl,hc,⟨hx,hd⟩,xi,e,q⟩:=h;obtain⟨v,w',rfl,rx,rc⟩:=X6 r;cases rx
 have:w'=u:=by
  cases c with
  | ty n=>cases hc;exact rc
  | ref a=>cases hc;exact rc
  | _=>cases hc
 subst this;refine bg (zfM (dx:=dx) xi) I.kIn #[zfu (I.hok _ _ hx),λd z=>?_] e (λz=>nomatch z) λtk=>#[.bl b,H,I.tok tk,rfl,q];rcases hd with ⟨z',_⟩ | ⟨d',z',hd'⟩
 ·rw[z']at z;cases z
 ·rw[z']at z;cases z;obtain⟨mA,⟨o,es,ep,ho,_⟩,_⟩:=I.hok _ _ hd';exact#[o,ho]
end
structure Df(P:tu)(w:tz)(K:sV)(mg:tw->Option sY)(base:tE)(CX:CXT)(k:Nat)(nm:tw)(ps:List tw)(ds:List sY)(sp:Sp):Prop where
 ex:∃f fd,zY P w K mg base CX k f fd ps sp/\mg nm=Bu (.ref f)/\aI K (.ref f)=Bw/\Binds K fd ps ds
structure Bt(mg:tw->Option sY):Prop where
 len:mg "len" = Bv
 range:mg "range" = Bv
 isi:mg "isinstance" = Bv
 str:mg "str" = Bv
 int:mg "int" = Bv
 tuple:mg "tuple" = Bv
 list:mg "list" = Bv
 bool:mg "bool" = Bv
 enum:mg "enumerate" = Bv
 all:mg "all" = Bv
 verr:mg "ValueError" = Bv
 max:mg "max" = Bv
 rev:mg "reversed" = Bv
 zip:mg "zip" = Bv
 sum:mg "sum" = Bv
 sorted:mg "sorted" = Bv
section
variable{X:Cx}{CX:CXT}{k:Nat}{ps:List tw}{sp:Sp}{ds:List sY}{dvs:List V}{E:XK}{x:tw}{p pos:Ad}{e:tD}{es:List tD}{t:TA}
def cl0{j:Nat}(D:Df X.prog X.w X.K X.mg X.base CX0 k x ps ds sp)(hr:Room j X.A)(hd:Vals dvs ds)(hg:Gl X x)(ha:PA X (e::es) t)(hdb:(x ==("__debug__" : tw))=Bx:=by decide)(he:sS (e::es) X.env=(Bx,eval e X.env)::sS es X.env:=by rfl)(hpl:(tK pos (sS es X.env)).any (·.1)=Bx:=by rfl) (hj:k<=j:=by decide):PE X (.Call (.Name x p) (e::es) [] pos) (wL sp dvs E0 t):=by obtain⟨f,fd,F,hm,hk,hb⟩:=D.ex;exact UQ F (hr.mono hj) hg hm hk hb hd XR ha hdb he hpl
def clX{j:Nat}(D:Df X.prog X.w X.K X.mg X.base (CXx X.prog X.w) k x ps ds sp)(hr:Room j X.A)(hd:Vals dvs ds)(hg:Gl X x)(ha:PA X.nox (e::es) t)(hdb:(x ==("__debug__" : tw))=Bx:=by decide)(he:sS (e::es) X.env=(Bx,eval e X.env)::sS es X.env:=by rfl)(hpl:(tK pos (sS es X.env)).any (·.1)=Bx:=by rfl) (hj:k<=j:=by decide):PEX X (.Call (.Name x p) (e::es) [] pos) (λσ H Q E=>t σ H λvs H1=>sp (vs ++ dvs) H1 Q E):=by obtain⟨f,fd,F,hm,hk,hb⟩:=D.ex;exact KM F (hr.mono hj) hg hm hk hb hd ha hdb he hpl
def clP{j:Nat}(hx:XE X E)(D:Df X.prog X.w X.K X.mg X.base (CXx X.prog X.w) k x ps ds sp)(hr:Room j X.A)(hd:Vals dvs ds)(hg:Gl X x)(ha:PA X (e::es) t)(hdb:(x ==("__debug__" : tw))=Bx:=by decide)(he:sS (e::es) X.env=(Bx,eval e X.env)::sS es X.env:=by rfl)(hpl:(tK pos (sS es X.env)).any (·.1)=Bx:=by rfl) (hj:k<=j:=by decide):PE X (.Call (.Name x p) (e::es) [] pos) (wL sp dvs E t):=by obtain⟨f,fd,F,hm,hk,hb⟩:=D.ex;exact UQ F (hr.mono hj) hg hm hk hb hd (WT hx) ha hdb he hpl
end
def TyX(K:sV)(H:Hp)(x:V)(t:sY):Prop:=WS K H x t\/(∃a C dx fs,x=.ref a/\t=.ref C/\XAt H a C dx fs/\XI K C)\/(∃a xs,x=.ref a/\t=.type "list"/\SqL K H a xs)\/∃a xs,x=.ref a/\t=.type "tuple"/\SqT K H a xs
def ze4(K:sV):List V->Hp->VK->Prop:=λxs H Q=>∃x c u t b,xs=[x,c]/\cV c=Bu u/\TyX K H x t/\aQ K t u=Bu b/\Q (.bl b) H
def zfy{X:Cx}:wK X (.builtin "isinstance") (ze4 X.K):=by
 intros xs us Q I r h;obtain⟨x,c,u,t,b,rfl,hc,ty,e,q⟩:=h;rcases ty with ty | ⟨a,C,dx,fs,rfl,rfl,ha,xi⟩ | ⟨a,ys,rfl,rfl,hq⟩ | ⟨a,ys,rfl,rfl,hq⟩
 ·exact K3 By s σ H _ us Q I r #[x,c,u,t,b,rfl,hc,ty,e,q]
 ·exact Qj By s σ H _ us Q I r #[a,C,dx,fs,c,u,b,rfl,hc,ha,xi,e,q]
 all_goals
  obtain⟨v,w',rfl,rx,rc⟩:=X6 r
  have:w'=u:=by
   cases c with
   | ty n=>cases hc;exact rc
   | ref a=>cases hc;exact rc
   | _=>cases hc
  subst this;cases rx
 ·obtain⟨its,_,p,_⟩:=I.list hq;obtain⟨o,h1,h2,_⟩:=p.isList;exact bg eL I.kIn #[o,h1,h2] e (λz=>nomatch z) λtk=>#[.bl b,H,I.tok tk,rfl,q]
 ·obtain⟨its,_,p,_⟩:=I.tuple hq;obtain⟨o,h1,h2,_⟩:=p;exact bg gd I.kIn #[o,h1,h2] e (λz=>nomatch z) λtk=>#[.bl b,H,I.tok tk,rfl,q]
def yN{X:Cx}{e:tD}{te:TE}{c:tw}{n:String}{p q pos:Ad}(h1:Gl X "isinstance")(h2:X.mg "isinstance" = Bv)(he:PE X e te)(hg:Gl X c)(hm:X.mg c=Bv)(hv:tS c=Bu (.type n))(hn:c≠"__name__":=by decide)(hd:(c ==("__debug__" : tw))=Bx:=by decide)(hs1:sS [e,.Name c q] X.env=(Bx,eval e X.env)::sS [.Name c q] X.env:=by rfl) (hs3:sS [.Name c q] X.env=(Bx,eval (.Name c q) X.env)::sS [] X.env:=by rfl) (hs2:(tK pos (sS [.Name c q] X.env)).any (·.1)=Bx:=by rfl):PE X (.Call (.Name "isinstance" p) [e,.Name c q] [] pos) (tCB (ze4 X.K) (zL te (zL (tC (.ty n)) xx))) :=
 yu zfy h1 h2 boot_isinstance (za he (za (zcZ hg hm hv rfl hn hd) ze hs3) hs1) (he:=hs1) (hpl:=hs2)
def zaN{a:sX}:cV (.ref a)=Bu (.ref a):=rfl
def zea{n:String}:cV (.ty n)=Bu (.type n):=rfl
def zfR{P w K mg base N q sc f cd A o s H}:(cxH P w K mg base N q sc f cd A o s H).K=K:=rfl
def Vj:V->List V->Hp->VK->Prop:=λx xs H Q=>∃z y,x=.str z/\xs=[.str y]/\Q (.int (Txt.count z y)) H
def QG{X:Cx}:MtR X "str.count" Vj:=Ko
def Jy:V->List V->Hp->VK->Prop:=λx xs H Q=>∃z y,x=.str z/\xs=[.str y]/\Q (.int (Txt.find z y)) H
def zaG{X:Cx}:MtR X "str.find" Jy:=UN
theorem XX(l:())(c:Nat):Txt.count (tx l) (tx [c])=(l.count c:Int):=by
 have h:∀l:(),cnt c l=(l.count c:Int):=λl=>by
  induction l with
  | nil=>rfl
  | cons n r ih =>
   rw[cnt_cons,ih,List.count_cons];by_cases e:n=c
   ·subst e;simp;lia
   ·have:(n == c)=Bx:=by simpa using e
    simp [e,this]
 exact (PyProof.Rows.count_is (tx l) c).trans (h l)
def lt1{a b:Nat}:([a]:()) < [b] ↔ a<b:=by rw[List.cons_lt_cons_iff];exact#[λh=>h.elim id λ⟨_,q⟩=>y4 q (List.not_lt_nil _),.inl]
def QB{l:()}{k v:Nat}(h:l[k]? = Bu v):(v::(l.take k ++ l.drop (k+1))).Perm l:=by
 obtain⟨hk,e⟩:=BB.mp h
 have e2:l.take k ++ (v::l.drop (k+1))=l:=by
  rw[<- e,<- aV hk,aZ]
 exact (List.perm_middle.symm.trans (by rw[e2]))
def Wp(K:sV):List V->Hp->VK->Prop:=λxs H Q=>match xs with
 | [.str z]=>z.length<=sU/\Q (.int z.length) H
 | [.ref a]=>∃n:Nat,((∃xs,SqL K H a xs/\n=xs.length)\/∃xs,SqT K H a xs/\n=xs.length)/\Q (.int n) H
 | xs=>∃x n,xs=[x]/\zd1 K x H n/\Q (.int n) H
def rLen_is{K:sV}{xs:List V}{H:Hp}{Q:VK}:Wp K xs H Q=∃x n,xs=[x]/\zd1 K x H n/\Q (.int n) H:=by
 unfold Wp;split
 ·exact propext #[λh=>#[_,_,rfl,#[h.1,rfl],h.2],λ⟨_,_,e,h,q⟩=>by cases e;obtain⟨h,rfl⟩:=h;exact#[h,q]]
 ·exact propext #[λ⟨n,h,q⟩=>#[_,n,rfl,h,q],λ⟨_,n,e,h,q⟩=>by cases e;exact#[n,h,q]]
 ·rfl
def zgf{X:Cx}:wK X (.builtin "len") (Wp X.K):=λBy s σ H xs us Q I r h=>JU By s σ H xs us Q I r (rLen_is.mp h)
def ForR(lo:Int)(n:Nat)(g:TG)(tb:TS)(D:uf)(σ:St)(H:Hp):Prop:=∃W:Nat->Nat->St->Hp->Prop,(∃m,W 0 m σ H)/\∀i m σ H,W i m σ H ->
 ((Itr lo n).stop i H/\D.nx σ H)\/((Itr lo n).go i H/\∃N:St->Hp->Prop,(∀σ' H',N σ' H'->∃m',m'<m/\W (i+1) m' σ' H')/\∀x H',(Itr lo n).yld i H x H'->g x σ H' λσ2 H2=>tb { D with nx:=N,ct:=N,bk:=D.nx } σ2 H2)
def zds{ta:TA}{g:TG}{tb:TS}{D:uf}{σ:St}{H:Hp}:Kw (zcN ta) g tb D σ H=ta σ H λvs H1=>∃j:Int,vs=[.int j]/\-(2 ^ 62)<=j/\j<2 ^ 62/\ForR 0 j.toNat g tb D σ H1:=rfl
def zef{ta:TA}{g:TG}{tb:TS}{D:uf}{σ:St}{H:Hp}:Kw (zeg ta) g tb D σ H=ta σ H λvs H1=>∃i j:Int,vs=[.int i,.int j]/\(-(2 ^ 62)<=i/\i<2 ^ 62/\-(2 ^ 62)<=j/\j<2 ^ 62)/\ForR i (j - i).toNat g tb D σ H1:=rfl
def ForR.by{lo:Int}{n:Nat}{g:TG}{tb:TS}{D:uf}{σ:St}{H:Hp}(Pv:Nat->St->Hp->Prop)(h0:Pv 0 σ H)(hs:∀i σ H,i<n->Pv i σ H->g (.int (lo+i)) σ H λσ2 H2=>tb { D with nx:=Pv (i+1),ct:=Pv (i+1),bk:=D.nx } σ2 H2) (hd:∀σ H,Pv n σ H->D.nx σ H):ForR lo n g tb D σ H:=Jg Pv h0 hs hd
def ForL(K:sV)(a:sX)(g:TG)(tb:TS)(D:uf)(σ:St)(H:Hp):Prop:=∃W:Nat->Nat->St->Hp->Prop,(∃m,W 0 m σ H)/\∀i m σ H,W i m σ H ->
 ((Itl K a).stop i H/\D.nx σ H)\/((Itl K a).go i H/\∃N:St->Hp->Prop,(∀σ' H',N σ' H'->∃m',m'<m/\W (i+1) m' σ' H')/\∀x H',(Itl K a).yld i H x H'->g x σ H' λσ2 H2=>tb { D with nx:=N,ct:=N,bk:=D.nx } σ2 H2)
def zgN{K:sV}{tl:TE}{g:TG}{tb:TS}{D:uf}{σ:St}{H:Hp}:Kw (zcn K tl) g tb D σ H=tl σ H λx H1=>∃a,x=.ref a/\(∃xs,SqL K H1 a xs)/\ForL K a g tb D σ H1:=rfl
def ForS(x:tw)(g:TG)(tb:TS)(D:uf)(σ:St)(H:Hp):Prop:=∃W:Nat->Nat->St->Hp->Prop,(∃m,W 0 m σ H)/\∀i m σ H,W i m σ H ->
 ((Its x).stop i H/\D.nx σ H)\/((Its x).go i H/\∃N:St->Hp->Prop,(∀σ' H',N σ' H'->∃m',m'<m/\W (i+1) m' σ' H')/\∀v H',(Its x).yld i H v H'->g v σ H' λσ2 H2=>tb { D with nx:=N,ct:=N,bk:=D.nx } σ2 H2)
def zgr{tl:TE}{g:TG}{tb:TS}{D:uf}{σ:St}{H:Hp}:Kw (zfQ tl) g tb D σ H=tl σ H λv H1=>∃x,v=.str x/\ForS x g tb D σ H1:=rfl
def ForS.by{l:()}{g:TG}{tb:TS}{D:uf}{σ:St}{H:Hp}(Pv:Nat->St->Hp->Prop)(h0:Pv 0 σ H)(hs:∀i c σ H,l[i]? = Bu c->Pv i σ H->g (.str (tx [c])) σ H λσ2 H2=>tb { D with nx:=Pv (i+1),ct:=Pv (i+1),bk:=D.nx } σ2 H2) (hd:∀σ H,Pv l.length σ H->D.nx σ H):ForS (tx l) g tb D σ H:=zcP Pv h0 hs hd
def zgR(x:tw)(g:TG)(tb:TS)(D:uf)(σ:St)(H:Hp):Prop:=∃W:Nat->Nat->St->Hp->Prop,(∃m,W 0 m σ H)/\∀i m σ H,W i m σ H ->
 ((Ite x).stop i H/\D.nx σ H)\/((Ite x).go i H/\∃N:St->Hp->Prop,(∀σ' H',N σ' H'->∃m',m'<m/\W (i+1) m' σ' H')/\∀v H',(Ite x).yld i H v H'->g v σ H' λσ2 H2=>tb { D with nx:=N,ct:=N,bk:=D.nx } σ2 H2)
def zgH{ta:TA}{g:TG}{tb:TS}{D:uf}{σ:St}{H:Hp}:Kw (zfZ ta) g tb D σ H=ta σ H λvs H1=>∃x,vs=[.str x]/\zgR x g tb D σ H1:=rfl
theorem qu{α:Type}(l:List α){k:Int}(h:0<=k):cut l Bv (Bu k)=l.take k.toNat:=by
 obtain⟨n,rfl⟩:=bJ h;unfold cut;rw[HT.sIx_none,HT.sIx_nat,et,Nat.sub_zero];by_cases q:n<=l.length
 ·rw[cp q];rfl
 ·rw[dc ⋯,aJ,bc (by simp;lia)]
theorem xK{α:Type}(l:List α){k:Int}(h:0<=k):cut l (Bu k) Bv=l.drop k.toNat:=by
 obtain⟨n,rfl⟩:=bJ h;unfold cut;rw[HT.sIx_none,HT.sIx_nat];by_cases q:n<=l.length
 ·rw[cp q];rw[bc (by rw[aS] <;> lia)];rfl
 ·rw[dc ⋯,dN,ba (by simp;lia)];simp
theorem jD{α:Type}{xs:List α}{i:Int}(h0:0<=i)(h1:i<xs.length):∃v,atI xs i=Bu v/\xs[i.toNat]? = Bu v:=by obtain⟨n,rfl⟩:=bJ h0;have hn:n<xs.length:=⋯;exact#[xs[n],wX (ah hn),ah hn]
end in def alpha:():=[97,98,99,100,101,102,103,104,105,106,107,108,109,110,111,112,113,114,115,116,117,118,119,120,121,122]
def Qe:(("abcdefghijklmnopqrstuvwxyz" : tw))=tx alpha:=by symm
def zW:(sU:Nat)=16777216:=tP
def cxK{CX P w K mg base N q sc f cd A o s H E}:(qS CX P w K mg base N q sc f cd A o s H E).K=K:=rfl
def cxP{CX P w K mg base N q sc f cd A o s H E}:(qS CX P w K mg base N q sc f cd A o s H E).prog=P:=rfl
def cxW{CX P w K mg base N q sc f cd A o s H E}:(qS CX P w K mg base N q sc f cd A o s H E).w=w:=rfl
def zej{a b:Int}:JL (.int a) (.int b)=Bw:=rfl
def zdI{a b:tw}:JL (.str a) (.str b)=Bw:=rfl
def zeT{a b:Bool}:JL (.bl a) (.bl b)=Bw:=rfl
def zeD{b:tw}:JL .non (.str b)=Bw:=rfl
def zd4{b:tw}:JL (.str b) .non=Bw:=rfl
def zd{H:Hp}{p:sX}{o:HO}(h:H p=Bv):Same H (upd H p o):=λb u e=>by
 rw[zq (zI e h)];exact e
def zV{α:Type}{l:List α}{i:Nat}{c:α}(h:l[i]? = Bu c):l.take (i+1)=l.take i ++ [c]:=by rw[List.take_add_one,h];rfl
structure FunD(K:sV)(x qual:tw)(st:tF)(dV:sY)(f:sX)(fd:tj):Prop where
 ex:∃(oc:sY) (od:Option sX) (kV doc pm:sY) (an:Option sX) (cdv ct:sY) (osl:Array (Option sY)),
  fd=bu x qual (yZ st) (yq st) (zh st) dV kV doc pm an cdv ct/\K.lookup f=Bu #[oc,od,.func fd,osl]/\bU K cdv qual=Bw
def FunD.okX{P:tu}{w:tz}{K:sV}{mg:tw->Option sY}{base:tE}{x qual:tw}{st:tF}{dV:sY}{f:sX}{fd:tj}{N ps:List tw}{k:Nat}{sp:Sp}(F:FunD K x qual st dV f fd)(S:zm N ps (zh st))(len:∀vs H Q E,sp vs H Q E->vs.length=ps.length)(hbody:∀(cdv:sY) (A:tB) (outer:List AK) (s:sZ) (H:Hp) (vs:List V) (Q:VK) (E:XK),Room k (A.deeper (Ax qual (zh st) s⁻¹ f cdv))->XE (qS (CXx P w) P w K mg base N qual (zh st) f cdv A outer s H E) E->sp vs H Q E ->
   ∃t,PSs (qS (CXx P w) P w K mg base N qual (zh st) f cdv A outer s H E) (yq st) t/\t { nx:=λ_ H'=>Q .non H',rt:=Q } (start N vs) H):zY P w K mg base (CXx P w) (k+1) f fd ps sp:=by obtain⟨oc,od,kV,doc,pm,an,cdv,ct,osl,rfl,lk,hcd⟩:=F.ex;exact J9 lk hcd S len λA outer s H vs Q E hr hsp=>hbody cdv A outer s H vs Q E hr zdz hsp
def uu(C:sX)(f:tw):Sp:=λvs H Q _=>∃x v,vs=[.ref x,v]/\H x=Bu (XN x C Bv)/\∀dx,H dx=Bv->Q .non (upd (upd H dx (.xd [(f,v)])) x (XN x C (Bu dx)))
def zfi(H:Hp)(d:sX)(f:tw)(v:V)(H':Hp):Prop:=H d=Bv/\Same H H'/\H' d=Bu (.xd [(f,v)])
def Qk{E:XK}{C:sX}{f:tw}{v:V}{H:Hp}(h:∀d H',zfi H d f v H'->E (.ref C) (Bu d) H'):∀x,H x=Bv->uu C f [.ref x,v] (upd H x (XN x C Bv)) (λu H2=>u=.non/\∃dx,H2 x=Bu (XN x C dx)/\E (.ref C) dx (del H2 x)) E0:=by
 intro x hx;refine#[x,v,rfl,zc,λdx hd=>#[rfl,Bu dx,zc,h dx _ #[?_,?_,?_]]]
 ·by_cases e:dx=x
  ·rw[e];exact hx
  ·rw[zq e]at hd;exact hd
 ·have hne:dx≠x:=λe=>by rw[e,zc]at hd;cases hd
  rw[zq hne]at hd;intro b o q;have b1:b≠x:=zI q hx;have b2:b≠dx:=zI q hd;rw[V6 b1,zq b1,zq b2,zq b1];exact q
 ·have hne:dx≠x:=λe=>by rw[e,zc]at hd;cases hd
  rw[V6 hne,zq hne,zc]
section
variable{X:Cx}
def zfa:R2:=λx y H Q=>∃c l,x=.str (tx [c])/\y=.str (tx l)/\Q (.bl (!decide (c ∈ l))) H
def zde:OpR X (tG .NotIn) zfa:=by intros x y v u Q I rx ry h;obtain⟨c,l,rfl,rfl,q⟩:=h;refine YW By s σ H _ _ v u Q I rx ry #[_,_,rfl,rfl,?_];rw[zdB];exact q
def zgu:R2:=λx y H Q=>match y with | .non=>Q (.bl (decide (x=.non))) H | _=>False
theorem op_isN':OpR X (tG .Is) zgu:=λBy s σ H x y v u Q I rx ry h=>by
 cases y with
 | non=>exact zeL By s σ H x .non v u Q I rx ry #[rfl,h]
 | _=>exact h.elim
def zdV:R2:=λx y H Q=>match y with | .non=>Q (.bl (!decide (x=.non))) H | _=>False
theorem op_notN':OpR X (tG .IsNot) zdV:=λBy s σ H x y v u Q I rx ry h=>by
 cases y with
 | non=>exact zct By s σ H x .non v u Q I rx ry #[rfl,h]
 | _=>exact h.elim
def zaa:List V->Hp->VK->Prop:=λxs H Q=>match xs with | [.int i,.int j]=>Q (.int (if j > i then j else i)) H | _=>False
def Uy(hc:X.calm=Bw):wK X (.builtin "max") zaa:=λBy s σ H xs us Q I r h=>by
 unfold zaa at h;split at h
 ·exact JI hc By s σ H _ us Q I r #[_,_,rfl,h]
 ·exact h.elim
def rGe:R2:=λx y H Q=>onInt x λi=>onInt y λj=>Q (.bl (decide (j<=i))) H
def op_ge':OpR X (tG .GtE) rGe:=zfN
end
def qL:tS "max" = Bu (.builtin "max"):=by symm
def zbi(ls l:())(m:Int)(k:Nat):Prop:=∃c,l[k]? = Bu c/\(m<=k\/c ∉ ls)
def FB(ls l:())(m:Int)(k:Nat):Prop:=zbi ls l m k/\∀j<k,¬ zbi ls l m j
def NB(ls l:())(m:Int):Prop:=∀j,¬ zbi ls l m j
def FB.nb{ls l:()}{m:Int}{k:Nat}(h:FB ls l m k)(n:NB ls l m):False:=n k h.1
inductive D where
 | non | bl (b:Bool) | int (i:Int) | str (x:tw) | lst (l:List D) | tup (l:List D)
mutual
def Is(K:sV)(H:Hp):D->V->Prop
 | .non,v=>v=.non
 | .bl b,v=>v=.bl b
 | .int i,v=>v=.int i
 | .str x,v=>v=.str x
 | .lst l,v=>∃a xs,v=.ref a/\SqL K H a xs/\Iss K H l xs
 | .tup l,v=>∃a xs,v=.ref a/\SqT K H a xs/\Iss K H l xs
def Iss(K:sV)(H:Hp):List D->List V->Prop
 | [],vs=>vs=[]
 | d::l,vs=>∃v r,vs=v::r/\Is K H d v/\Iss K H l r
end
mutual
noncomputable def eqD:D->D->Bool
 | .non,.non=>Bw
 | .bl a,.bl b=>a == b
 | .bl a,.int b=>(if a then 1 else 0) == b
 | .int a,.bl b=>a ==(if b then 1 else 0)
 | .int a,.int b=>a == b
 | .str a,.str b=>a == b
 | .lst l,.lst m=>uA l m
 | .tup l,.tup m=>uA l m
 | _,_=>Bx
noncomputable def uA:List D->List D->Bool
 | [],[]=>Bw
 | d::l,e::m=>eqD d e && uA l m
 | _,_=>Bx
end
mutual
noncomputable def dpD:D->Nat
 | .lst l=>vG l+1
 | .tup l=>vG l+1
 | _=>0
noncomputable def vG:List D->Nat
 | []=>0
 | d::l=>max (dpD d) (vG l)
end
theorem zbM:∀{l:List D} {j:Nat} {d:D},l[j]? = Bu d->dpD d<=vG l
 | d::l,0,_,h=>by
  cases h
  erw[vG]
  lia
 | d::l,j+1,e,h=>by
  have:=zbM (l:=l) (j:=j) (d:=e) h
  erw[vG]
  lia
mutual
theorem Ze:∀d:D,eqD d d=Bw
 | .non=>rfl
 | .bl b=>by simp [eqD]
 | .int i=>by simp [eqD]
 | .str x=>by simp [eqD]
 | .lst l=>by erw[eqD];exact wf l
 | .tup l=>by erw[eqD];exact wf l
theorem wf:∀l:List D,uA l l=Bw
 | []=>rfl
 | d::l=>by erw[uA,Ze d,wf l,Bool.and_self]
end
theorem Iss.len{K:sV}{H:Hp}:∀{l:List D} {vs:List V},Iss K H l vs->vs.length=l.length
 | [],vs,h=>by erw[Iss]at h;rw[h];rfl
 | d::l,vs,h=>by
  erw[Iss]at h
  obtain⟨v,r,rfl,_,h2⟩:=h
  erw[aL,Iss.len h2]
theorem Iss.at{K:sV}{H:Hp}:∀{l:List D} {vs:List V} {j:Nat} {d:D},Iss K H l vs->l[j]? = Bu d->∃v,vs[j]? = Bu v/\Is K H d v
 | d::l,vs,0,_,h,q=>by
  cases q
  erw[Iss]at h
  obtain⟨v,r,rfl,h1,_⟩:=h;exact#[v,rfl,h1]
 | d::l,vs,j+1,e,h,q=>by
  erw[Iss]at h
  obtain⟨v,r,rfl,_,h2⟩:=h;exact Iss.at (j:=j) h2 q
theorem Iss.append{K:sV}{H:Hp}:∀{l m:List D} {vs us:List V},Iss K H l vs->Iss K H m us->Iss K H (l ++ m) (vs ++ us)
 | [],m,vs,us,h,g=>by erw[Iss]at h;rw[h];exact g
 | d::l,m,vs,us,h,g=>by
  erw[Iss]at h
  obtain⟨v,r,rfl,h1,h2⟩:=h
  erw[bv,Iss]
  exact#[v,r ++ us,rfl,h1,Iss.append h2 g]
theorem Iss.ints{K:sV}{H:Hp}:∀(l:List Int),Iss K H (l.map D.int) (l.map V.int)
 | []=>by erw[aO,Iss]
 | i::l=>by
  erw[av,Iss,Is]
  exact#[_,_,rfl,rfl,Iss.ints l]
def zo{K:sV}{H H':Hp}{a:sX}{xs:List V}(e:Same H H')(h:SqT K H a xs):SqT K H' a xs:=by
 rcases h with (h | ⟨o,h⟩) | h
 ·exact .inl (.inl (e _ _ h))
 ·exact .inl (.inr #[o,e _ _ h])
 ·exact .inr h
mutual
theorem Is.same{K:sV}{H H':Hp}(e:Same H H'):∀(d:D) (v:V),Is K H d v->Is K H' d v
 | .non,v,h=>by erw[Is]at h ⊢;exact h
 | .bl b,v,h=>by erw[Is]at h ⊢;exact h
 | .int b,v,h=>by erw[Is]at h ⊢;exact h
 | .str b,v,h=>by erw[Is]at h ⊢;exact h
 | .lst l,v,h=>by
  erw[Is]at h ⊢
  obtain⟨a,xs,e1,e2,e3⟩:=h;exact#[a,xs,e1,e.seq e2,Iss.same e l xs e3]
 | .tup l,v,h=>by
  erw[Is]at h ⊢
  obtain⟨a,xs,e1,e2,e3⟩:=h;exact#[a,xs,e1,zo e e2,Iss.same e l xs e3]
theorem Iss.same{K:sV}{H H':Hp}(e:Same H H'):∀(l:List D) (vs:List V),Iss K H l vs->Iss K H' l vs
 | [],vs,h=>by erw[Iss]at h ⊢;exact h
 | d::l,vs,h=>by
  erw[Iss]at h ⊢
  obtain⟨v,r,e1,e2,e3⟩:=h;exact#[v,r,e1,Is.same e d v e2,Iss.same e l r e3]
end
theorem xP:∀(l m:List D),uA l m=((aN (min l.length m.length)).all (λj=>eqD (l.getD j .non) (m.getD j .non)) && l.length == m.length)
 | [],[]=>rfl
 | [],e::m=>by simp [uA]
 | d::l,[]=>by simp [uA]
 | d::l,e::m=>by
  erw[uA,xP l m,aL]
  have h1:min (l.length+1) (m.length+1)=min l.length m.length+1:=⋯;rw[h1,dH,fV,List.all_map]
  have h2:(l.length+1 == m.length+1)=(l.length == m.length):=by
   rw[di,beq_iff_eq,beq_iff_eq];lia
  rw[h2]
  erw[List.getD_cons_zero,Bool.and_assoc]
  rfl
section
variable{X:Cx}{By:List (sX × tR)}{σ:St}{H:Hp}{s:sZ}
def Yp{a:sX}{xs ys:List V}(I:Inv X By σ H s)(h:SqL X.K H a xs)(g:SqT X.K H a ys):False:=by obtain⟨its,r,⟨o,n,e,c,_,d⟩,_⟩:=I.list h;obtain⟨its',r',⟨o',e',c',n',d'⟩,_⟩:=I.tuple g;rw[e]at e';cases e';rw[c]at c';exact y4 (Value.type.inj c') ∅
mutual
theorem Qr(I:Inv X By σ H s):∀(d e:D) (v:V),Is X.K H d v->Is X.K H e v->d=e
 | .lst l,.lst m,v,h,g=>by
  erw[Is]at h g
  obtain⟨a,xs,rfl,h1,h2⟩:=h;obtain⟨b,ys,e,g1,g2⟩:=g;cases e;have:=I.list_inj h1 g1;subst this;rw[XS I l m xs h2 g2]
 | .tup l,.tup m,v,h,g=>by
  erw[Is]at h g
  obtain⟨a,xs,rfl,h1,h2⟩:=h;obtain⟨b,ys,e,g1,g2⟩:=g;cases e;have:=I.tuple_inj h1 g1;subst this;rw[XS I l m xs h2 g2]
 | .lst l,.tup m,v,h,g=>by
  erw[Is]at h g
  obtain⟨a,xs,rfl,h1,h2⟩:=h;obtain⟨b,ys,e,g1,g2⟩:=g;cases e;exact (Yp I h1 g1).elim
 | .tup l,.lst m,v,h,g=>by
  erw[Is]at h g
  obtain⟨a,xs,rfl,h1,h2⟩:=h;obtain⟨b,ys,e,g1,g2⟩:=g;cases e;exact (Yp I g1 h1).elim
 | .lst l,.non,v,h,g=>by erw[Is]at h g;obtain⟨a,xs,rfl,_⟩:=h;cases g
 | .lst l,.bl _,v,h,g=>by erw[Is]at h g;obtain⟨a,xs,rfl,_⟩:=h;cases g
 | .lst l,.int _,v,h,g=>by erw[Is]at h g;obtain⟨a,xs,rfl,_⟩:=h;cases g
 | .lst l,.str _,v,h,g=>by erw[Is]at h g;obtain⟨a,xs,rfl,_⟩:=h;cases g
 | .tup l,.non,v,h,g=>by erw[Is]at h g;obtain⟨a,xs,rfl,_⟩:=h;cases g
 | .tup l,.bl _,v,h,g=>by erw[Is]at h g;obtain⟨a,xs,rfl,_⟩:=h;cases g
 | .tup l,.int _,v,h,g=>by erw[Is]at h g;obtain⟨a,xs,rfl,_⟩:=h;cases g
 | .tup l,.str _,v,h,g=>by erw[Is]at h g;obtain⟨a,xs,rfl,_⟩:=h;cases g
 | .non,e,v,h,g=>by
  erw[Is]at h
  subst h;cases e <;> erw[Is]at g
  all_goals first | rfl | (obtain⟨a,xs,q,_⟩:=g;cases q) | cases g
 | .bl _,e,v,h,g=>by
  erw[Is]at h
  subst h;cases e <;> erw[Is]at g
  all_goals first | (cases g;rfl) | (obtain⟨a,xs,q,_⟩:=g;cases q) | cases g
 | .int _,e,v,h,g=>by
  erw[Is]at h
  subst h;cases e <;> erw[Is]at g
  all_goals first | (cases g;rfl) | (obtain⟨a,xs,q,_⟩:=g;cases q) | cases g
 | .str _,e,v,h,g=>by
  erw[Is]at h
  subst h;cases e <;> erw[Is]at g
  all_goals first | (cases g;rfl) | (obtain⟨a,xs,q,_⟩:=g;cases q) | cases g
theorem XS(I:Inv X By σ H s):∀(l m:List D) (vs:List V),Iss X.K H l vs->Iss X.K H m vs->l=m
 | [],[],_,_,_=>rfl
 | [],e::m,vs,h,g=>by
  erw[Iss]at h g
  subst h;obtain⟨_,_,q,_⟩:=g;cases q
 | d::l,[],vs,h,g=>by
  erw[Iss]at h g
  subst g;obtain⟨_,_,q,_⟩:=h;cases q
 | d::l,e::m,vs,h,g=>by
  erw[Iss]at h g
  obtain⟨v,r,rfl,h1,h2⟩:=h;obtain⟨v',r',q,g1,g2⟩:=g;cases q;rw[Qr I d e v h1 g1,XS I l m r h2 g2]
end
theorem xR:∀{xs:List V} {us:List sY} {j:Nat} {x:V},Vals xs us->xs[j]? = Bu x->∃u,us[j]? = Bu u/\RelV x u
 | _,_,0,_,.cons r t,h=>by cases h;exact#[_,rfl,r]
 | _,_,j+1,_,.cons r t,h=>xR (j:=j) t h
theorem xL{l m:List D}{xs ys:List V}{its its':List sY}{A:tB}{n:Nat}(hl:Iss X.K H l xs)(hm:Iss X.K H m ys)(r:Vals xs its)(r':Vals ys its')(hn:vG l<n)(ih:∀(d e:D) (x y:V) (u v:sY),dpD d<n->Is X.K H d x->Is X.K H e y->RelV x u->RelV y v->SeqAt.EqAt A s u v (eqD d e)) :
  ∀j (h1:j<its.toArray.size) (h2:j<its'.toArray.size),SeqAt.EqAt A s its.toArray[j] its'.toArray[j] (eqD (l.getD j .non) (m.getD j .non)):=by
 intro j h1 h2;rw[ak]at h1 h2;have e1:=hl.len;have e2:=hm.len;have e3:=r.length;have e4:=r'.length;have g1:l[j]? = Bu l[j]:=ah ⋯;have g2:m[j]? = Bu m[j]:=ah ⋯;generalize l[j]=d at g1;generalize m[j]=e at g2;obtain⟨x,hx,ix⟩:=hl.at g1;obtain⟨y,hy,iy⟩:=hm.at g2;obtain⟨u,hu,ru⟩:=xR r hx;obtain⟨v,hv,rv⟩:=xR r' hy
 have q1:its.toArray[j]=u:=by
  have:=(BB.mp hu).2;simpa using this
 have q2:its'.toArray[j]=v:=by
  have:=(BB.mp hv).2;simpa using this
 rw[q1,q2,af,af,g1,g2];exact ih d e x y u v (cN (zbM g1) hn) ix iy ru rv
theorem jT(I:Inv X By σ H s):∀(n:Nat) (A:tB) (d e:D) (x y:V) (u v:sY),A.units+n<cLine->dpD d<n->Is X.K H d x->Is X.K H e y->RelV x u->RelV y v->SeqAt.EqAt A s u v (eqD d e):=by
 intro n
 induction n with
 | zero=>intro A d e x y u v _ h;exact y4 h (bX _)
 | succ n ih =>
  intro A d e x y u v hu hd hx hy rx ry;have hu1:A.units<cLine:=⋯;have huA:A.in1.units+n<cLine:=by show A.units+1+n<cLine;lia
  cases d with
  | lst l =>
   erw[Is]at hx
   obtain⟨a,xs,rfl,h1,h2⟩:=hx;cases rx;obtain⟨its,r,p,_⟩:=I.list h1
   cases e with
   | non=>erw[Is]at hy;subst hy;cases ry;exact SeqAt.EqAt.list_none p.isList hu1
   | bl b=>erw[Is]at hy;subst hy;cases ry;exact SeqAt.EqAt.list_bool b p.isList hu1
   | int b=>erw[Is]at hy;subst hy;obtain⟨t,rfl⟩:=ry;exact SeqAt.EqAt.list_int b t p.isList hu1
   | str b=>erw[Is]at hy;subst hy;obtain⟨t,rfl⟩:=ry;exact SeqAt.EqAt.list_str b t p.isList hu1
   | tup m =>
    erw[Is]at hy
    obtain⟨b,ys,rfl,g1,g2⟩:=hy;cases ry;obtain⟨its',r',p',_⟩:=I.tuple g1;exact SeqAt.EqAt.list_tuple p.isList p' hu1
   | lst m =>
    have hy':=hy
    erw[Is]at hy
    obtain⟨b,ys,rfl,g1,g2⟩:=hy;cases ry;obtain⟨its',r',p',_⟩:=I.list g1
    erw[dpD]at hd
    by_cases hab:a=b
    ·subst hab;have:=Qr I (.lst l) (.lst m) (.ref a) (by erw[Is];exact#[a,xs,rfl,h1,h2]) hy';rw[this,Ze];exact SeqAt.EqAt.same _
    ·refine .of_refs hab ?_
     erw[eqD]
     have L1:=h2.len;have L2:=g2.len;have L3:=r.length;have L4:=r'.length;by_cases hl:l.length=m.length
     ·have:=SeqAt.RcAt.lists (A:=A) p.isList p'.isList (by erw[ak];lia) hu1 (xL h2 g2 r r' (n:=n) ⋯ λd e x y u v q1 q2 q3 q4 q5=>ih A.in1 d e x y u v huA q1 q2 q3 q4 q5);rw[xP,hl,eQ,beq_self_eq_true,eJ];have e1:its.toArray.size=m.length:=by erw[ak];lia
      rw[e1]at this;exact this
     ·rw[xP,beq_eq_false_iff_ne.mpr hl,eh];exact SeqAt.RcAt.lists_lengths p.isList p'.isList (by rw[bne_iff_ne];erw[ak];lia) hu1
  | tup l =>
   erw[Is]at hx
   obtain⟨a,xs,rfl,h1,h2⟩:=hx;cases rx;obtain⟨its,r,p,_⟩:=I.tuple h1
   cases e with
   | non=>erw[Is]at hy;subst hy;cases ry;exact SeqAt.EqAt.tuple_none p hu1
   | bl b=>erw[Is]at hy;subst hy;cases ry;exact SeqAt.EqAt.tuple_bool b p hu1
   | int b=>erw[Is]at hy;subst hy;obtain⟨t,rfl⟩:=ry;exact SeqAt.EqAt.tuple_int b t p hu1
   | str b=>erw[Is]at hy;subst hy;obtain⟨t,rfl⟩:=ry;exact SeqAt.EqAt.tuple_str b t p hu1
   | lst m =>
    erw[Is]at hy
    obtain⟨b,ys,rfl,g1,g2⟩:=hy;cases ry;obtain⟨its',r',p',_⟩:=I.list g1;exact SeqAt.EqAt.tuple_list p p'.isList hu1
   | tup m =>
    have hy':=hy
    erw[Is]at hy
    obtain⟨b,ys,rfl,g1,g2⟩:=hy;cases ry;obtain⟨its',r',p',_⟩:=I.tuple g1
    erw[dpD]at hd
    by_cases hab:a=b
    ·subst hab;have:=Qr I (.tup l) (.tup m) (.ref a) (by erw[Is];exact#[a,xs,rfl,h1,h2]) hy';rw[this,Ze];exact SeqAt.EqAt.same _
    ·refine .of_refs hab ?_
     erw[eqD]
     have L1:=h2.len;have L2:=g2.len;have L3:=r.length;have L4:=r'.length;have:=SeqAt.RcAt.tuples (A:=A) p p' hu1 (xL h2 g2 r r' (n:=n) ⋯ λd e x y u v q1 q2 q3 q4 q5=>ih A.in1 d e x y u v huA q1 q2 q3 q4 q5);rw[xP]
     erw[ak]at this
     rw[<- L1,<- L2,L3,L4];exact this
  | non =>
   erw[Is]at hx
   subst hx
   cases e with
   | lst m =>
    erw[Is]at hy
    obtain⟨b,ys,rfl,g1,g2⟩:=hy;cases rx;cases ry;obtain⟨its',r',p',_⟩:=I.list g1;exact SeqAt.EqAt.none_list p'.isList hu1
   | tup m =>
    erw[Is]at hy
    obtain⟨b,ys,rfl,g1,g2⟩:=hy;cases rx;cases ry;obtain⟨its',r',p',_⟩:=I.tuple g1;exact SeqAt.EqAt.none_tuple p' hu1
   | _=>erw[Is]at hy;subst hy;exact WV rx ry rfl rfl
  | bl c =>
   erw[Is]at hx
   subst hx
   cases e with
   | lst m =>
    erw[Is]at hy
    obtain⟨b,ys,rfl,g1,g2⟩:=hy;cases rx;cases ry;obtain⟨its',r',p',_⟩:=I.list g1;exact SeqAt.EqAt.bool_list _ p'.isList hu1
   | tup m =>
    erw[Is]at hy
    obtain⟨b,ys,rfl,g1,g2⟩:=hy;cases rx;cases ry;obtain⟨its',r',p',_⟩:=I.tuple g1;exact SeqAt.EqAt.bool_tuple _ p' hu1
   | _=>erw[Is]at hy;subst hy;exact WV rx ry rfl rfl
  | int c =>
   erw[Is]at hx
   subst hx
   cases e with
   | lst m =>
    erw[Is]at hy
    obtain⟨b,ys,rfl,g1,g2⟩:=hy;obtain⟨t,rfl⟩:=rx;cases ry;obtain⟨its',r',p',_⟩:=I.list g1;exact SeqAt.EqAt.int_list _ _ p'.isList hu1
   | tup m =>
    erw[Is]at hy
    obtain⟨b,ys,rfl,g1,g2⟩:=hy;obtain⟨t,rfl⟩:=rx;cases ry;obtain⟨its',r',p',_⟩:=I.tuple g1;exact SeqAt.EqAt.int_tuple _ _ p' hu1
   | _=>erw[Is]at hy;subst hy;exact WV rx ry rfl rfl
  | str c =>
   erw[Is]at hx
   subst hx
   cases e with
   | lst m =>
    erw[Is]at hy
    obtain⟨b,ys,rfl,g1,g2⟩:=hy;obtain⟨t,rfl⟩:=rx;cases ry;obtain⟨its',r',p',_⟩:=I.list g1;exact SeqAt.EqAt.str_list _ _ p'.isList hu1
   | tup m =>
    erw[Is]at hy
    obtain⟨b,ys,rfl,g1,g2⟩:=hy;obtain⟨t,rfl⟩:=rx;cases ry;obtain⟨its',r',p',_⟩:=I.tuple g1;exact SeqAt.EqAt.str_tuple _ _ p' hu1
   | _=>erw[Is]at hy;subst hy;exact WV rx ry rfl rfl
def zgz(K:sV):R2:=λx y H Q=>∃l m,((Is K H (.lst l) x/\Is K H (.lst m) y)\/(Is K H (.tup l) x/\Is K H (.tup m) y))/\vG l<50/\Q (.bl (uA l m)) H
def zgt(K:sV):R2:=λx y H Q=>∃l m,((Is K H (.lst l) x/\Is K H (.lst m) y)\/(Is K H (.tup l) x/\Is K H (.tup m) y))/\vG l<50/\Q (.bl (!uA l m)) H
theorem U1(hu:X.A.units+100<cLine):OpR X (tG .Eq) (zgz X.K):=by
 intros x y v u Q I rx ry h;obtain⟨l,m,hh,hd,q⟩:=h;have hu1:X.A.units<cLine:=⋯;have huA:X.A.in1.units+50<cLine:=by show X.A.units+1+50<cLine;lia
 rcases hh with ⟨hx,hy⟩ | ⟨hx,hy⟩
 ·erw[Is]at hx hy
  obtain⟨a,xs,rfl,h1,h2⟩:=hx;obtain⟨b,ys,rfl,g1,g2⟩:=hy;cases rx;cases ry;obtain⟨its,r,p,_⟩:=I.list h1;obtain⟨its',r',p',_⟩:=I.list g1;have L1:=h2.len;have L2:=g2.len;have L3:=r.length;have L4:=r'.length;by_cases hl:l.length=m.length
  ·have:=SeqAt.RcAt.lists (A:=X.A) p.isList p'.isList (by erw[ak];lia) hu1 (xL h2 g2 r r' (n:=50) hd λd e x y u v q1 q2 q3 q4 q5=>jT I 50 X.A.in1 d e x y u v huA q1 q2 q3 q4 q5);have e1:its.toArray.size=m.length:=by erw[ak];lia
   rw[e1]at this;rw[xP,hl,eQ,beq_self_eq_true,eJ]at q;exact this X.prog X.w X.xe _ #[.bl _,H,I,rfl,q]
  ·rw[xP,beq_eq_false_iff_ne.mpr hl,eh]at q;exact SeqAt.RcAt.lists_lengths p.isList p'.isList (by rw[bne_iff_ne];erw[ak];lia) hu1 X.prog X.w X.xe _ #[.bl _,H,I,rfl,q]
 ·erw[Is]at hx hy
  obtain⟨a,xs,rfl,h1,h2⟩:=hx;obtain⟨b,ys,rfl,g1,g2⟩:=hy;cases rx;cases ry;obtain⟨its,r,p,_⟩:=I.tuple h1;obtain⟨its',r',p',_⟩:=I.tuple g1;have L1:=h2.len;have L2:=g2.len;have L3:=r.length;have L4:=r'.length;have:=SeqAt.RcAt.tuples (A:=X.A) p p' hu1 (xL h2 g2 r r' (n:=50) hd λd e x y u v q1 q2 q3 q4 q5=>jT I 50 X.A.in1 d e x y u v huA q1 q2 q3 q4 q5)
  erw[ak]at this
  rw[xP,<- L1,<- L2,L3,L4]at q;exact this X.prog X.w X.xe _ #[.bl _,H,I,rfl,q]
theorem zdF(hu:X.A.units+100<cLine):OpR X (tG .NotEq) (zgt X.K):=by
 intros x y v u Q I rx ry h;obtain⟨l,m,hh,hd,q⟩:=h;have hu1:X.A.units<cLine:=⋯;have huA:X.A.in1.units+50<cLine:=by show X.A.units+1+50<cLine;lia
 rcases hh with ⟨hx,hy⟩ | ⟨hx,hy⟩
 ·erw[Is]at hx hy
  obtain⟨a,xs,rfl,h1,h2⟩:=hx;obtain⟨b,ys,rfl,g1,g2⟩:=hy;cases rx;cases ry;obtain⟨its,r,p,_⟩:=I.list h1;obtain⟨its',r',p',_⟩:=I.list g1;have L1:=h2.len;have L2:=g2.len;have L3:=r.length;have L4:=r'.length;by_cases hl:l.length=m.length
  ·have:=SeqAt.RcNeAt.lists (A:=X.A) p.isList p'.isList (by erw[ak];lia) hu1 (xL h2 g2 r r' (n:=50) hd λd e x y u v q1 q2 q3 q4 q5=>jT I 50 X.A.in1 d e x y u v huA q1 q2 q3 q4 q5);have e1:its.toArray.size=m.length:=by erw[ak];lia
   rw[e1]at this;rw[xP,hl,eQ,beq_self_eq_true,eJ]at q;exact this X.prog X.w X.xe _ #[.bl _,H,I,rfl,q]
  ·rw[xP,beq_eq_false_iff_ne.mpr hl,eh]at q;exact SeqAt.RcNeAt.lists_lengths p.isList p'.isList (by rw[bne_iff_ne];erw[ak];lia) hu1 X.prog X.w X.xe _ #[.bl _,H,I,rfl,q]
 ·erw[Is]at hx hy
  obtain⟨a,xs,rfl,h1,h2⟩:=hx;obtain⟨b,ys,rfl,g1,g2⟩:=hy;cases rx;cases ry;obtain⟨its,r,p,_⟩:=I.tuple h1;obtain⟨its',r',p',_⟩:=I.tuple g1;have L1:=h2.len;have L2:=g2.len;have L3:=r.length;have L4:=r'.length;have:=SeqAt.RcNeAt.tuples (A:=X.A) p p' hu1 (xL h2 g2 r r' (n:=50) hd λd e x y u v q1 q2 q3 q4 q5=>jT I 50 X.A.in1 d e x y u v huA q1 q2 q3 q4 q5)
  erw[ak]at this
  rw[xP,<- L1,<- L2,L3,L4]at q;exact this X.prog X.w X.xe _ #[.bl _,H,I,rfl,q]
end
theorem YN(l m:List Int):uA (l.map D.int) (m.map D.int)=decide (l=m):=by
 induction l generalizing m with
 | nil=>cases m <;> simp [uA]
 | cons a l ih =>
  cases m with
  | nil=>simp [uA]
  | cons b m =>
   erw[av,uA,eqD,ih m]
   by_cases h1:a=b
   ·subst h1;by_cases h2:l=m
    ·simp [h2]
    ·simp [h2]
   ·simp [h1]
theorem Z3(l:List Int):vG (l.map D.int)=0:=by
 induction l with
 | nil=>rfl
 | cons a l ih=>erw[av,vG,dpD,ih];rfl
abbrev CNx(n i:Nat)(Pv:Nat->List V->Hp->Prop)(BA:List V)(H:Hp):Prop:=∃m',m'<n - i/\(m'=n - (i+1)/\i+1<=n/\Pv (i+1) BA H)
theorem CNx.mk{n i:Nat}{Pv:Nat->List V->Hp->Prop}{BA:List V}{H:Hp}(hi:i<n)(h:Pv (i+1) BA H):CNx n i Pv BA H:=#[n - (i+1),⋯,rfl,hi,h]
def YM(J:It)(g:TG)(tt:TT)(te:TE)(own:Nat)(ix:())(σ:St)(H1:Hp)(Q:VK)(D:sX):Prop:=∃W:Nat->Nat->List V->Hp->Prop,(∃m,W 0 m [] (upd H1 D (.lst []))) /\
 ∀i m BA H',W i m BA H'->(J.stop i H'/\Q (.ref D) H')\/(J.go i H'/\∀x H2,J.yld i H' x H2->g x (vx σ own ix) H2 λσ3 H3=>xf (vx σ own ix) σ3/\tt σ3 H3 λb H4=>if b=Bw then
  te σ3 H4 λv H5=>H5 D=Bu (.lst BA)/\BA.length<sU/\∃m',m'<m/\W (i+1) m' (BA ++ [v]) (upd H5 D (.lst (BA ++ [v])))
  else ∃m',m'<m/\W (i+1) m' BA H4)
def CompR(lo:Int)(n:Nat)(g:TG)(tt:TT)(te:TE)(own:Nat)(ix:())(σ:St)(H1:Hp)(Q:VK)(D:sX):Prop:=YM (Itr lo n) g tt te own ix σ H1 Q D
def CompL(K:sV)(a:sX)(g:TG)(tt:TT)(te:TE)(own:Nat)(ix:())(σ:St)(H1:Hp)(Q:VK)(D:sX):Prop:=YM (Itl K a) g tt te own ix σ H1 Q D
def CompS(x:tw)(g:TG)(tt:TT)(te:TE)(own:Nat)(ix:())(σ:St)(H1:Hp)(Q:VK)(D:sX):Prop:=YM (Its x) g tt te own ix σ H1 Q D
def zau{ta:TA}{g:TG}{tt:TT}{te:TE}{own:Nat}{ix:()}{σ:St}{H:Hp}{Q:VK}:jy (zcN ta) g tt te own ix σ H Q=ta σ H λvs H1=>∃j:Int,vs=[.int j]/\-(2 ^ 62)<=j/\j<2 ^ 62/\∀D,H1 D=Bv->CompR 0 j.toNat g tt te own ix σ H1 Q D:=rfl
def zel{K:sV}{tl:TE}{g:TG}{tt:TT}{te:TE}{own:Nat}{ix:()}{σ:St}{H:Hp}{Q:VK}:jy (zcn K tl) g tt te own ix σ H Q=tl σ H λx H1=>∃a,x=.ref a/\(∃xs,SqL K H1 a xs)/\∀D,H1 D=Bv->CompL K a g tt te own ix σ H1 Q D:=rfl
def zdi{tl:TE}{g:TG}{tt:TT}{te:TE}{own:Nat}{ix:()}{σ:St}{H:Hp}{Q:VK}:jy (zfQ tl) g tt te own ix σ H Q=tl σ H λv H1=>∃x,v=.str x/\∀D,H1 D=Bv->CompS x g tt te own ix σ H1 Q D:=rfl
section
variable{g:TG}{tt:TT}{te:TE}{own:Nat}{ix:()}{σ:St}{H1:Hp}{Q:VK}{D:sX}
theorem CompR.by{lo:Int}{n:Nat}(Pv:Nat->List V->Hp->Prop)(h0:Pv 0 [] (upd H1 D (.lst [])))(hs:∀i BA H',i<n->Pv i BA H'->g (.int (lo+i)) (vx σ own ix) H' λσ3 H3=>xf (vx σ own ix) σ3/\tt σ3 H3 λb H4=>if b=Bw then
   te σ3 H4 λv H5=>H5 D=Bu (.lst BA)/\BA.length<sU/\CNx n i Pv (BA ++ [v]) (upd H5 D (.lst (BA ++ [v])))else CNx n i Pv BA H4)(hd:∀BA H',Pv n BA H'->Q (.ref D) H'):CompR lo n g tt te own ix σ H1 Q D:=by
 refine#[λi m BA H=>m=n - i/\i<=n/\Pv i BA H,#[n,by simp,aG _,h0],?_];rintro i m BA H' ⟨rfl,hi,p⟩;by_cases hlt:i<n
 ·refine .inr #[hlt,λx H2 y=>?_];obtain⟨e,y⟩:=y;subst e y;exact hs i BA _ hlt p
 ·have e:i=n:=⋯;subst e;exact .inl #[al _,hd BA H' p]
theorem CompL.by{K:sV}{a:sX}{xs:List V}(Pv:Nat->List V->Hp->Prop)(h0:Pv 0 [] (upd H1 D (.lst [])))(hl:∀i BA H',i<=xs.length->Pv i BA H'->SqL K H' a xs)(hs:∀i x BA H',xs[i]? = Bu x->Pv i BA H'->g x (vx σ own ix) H' λσ3 H3=>xf (vx σ own ix) σ3/\tt σ3 H3 λb H4=>if b=Bw then
   te σ3 H4 λv H5=>H5 D=Bu (.lst BA)/\BA.length<sU/\CNx xs.length i Pv (BA ++ [v]) (upd H5 D (.lst (BA ++ [v])))else CNx xs.length i Pv BA H4)(hd:∀BA H',Pv xs.length BA H'->Q (.ref D) H'):CompL K a g tt te own ix σ H1 Q D:=by
 refine#[λi m BA H=>m=xs.length - i/\i<=xs.length/\Pv i BA H,#[xs.length,by simp,aG _,h0],?_];rintro i m BA H' ⟨rfl,hi,p⟩;have q:=hl i BA H' hi p;by_cases hlt:i<xs.length
 ·refine .inr #[#[xs,xs[i],q,by simp [hlt]],λx H2 y=>?_];obtain⟨e,y⟩:=y;subst e;exact hs i x BA _ (y xs q) p
 ·have e:i=xs.length:=⋯;subst e;exact .inl #[#[xs,q,al _],hd BA H' p]
theorem CompS.by{l:()}(Pv:Nat->List V->Hp->Prop)(h0:Pv 0 [] (upd H1 D (.lst [])))(hs:∀i c BA H',l[i]? = Bu c->Pv i BA H'->g (.str (tx [c])) (vx σ own ix) H' λσ3 H3=>xf (vx σ own ix) σ3/\tt σ3 H3 λb H4=>if b=Bw then
   te σ3 H4 λv H5=>H5 D=Bu (.lst BA)/\BA.length<sU/\CNx l.length i Pv (BA ++ [v]) (upd H5 D (.lst (BA ++ [v])))else CNx l.length i Pv BA H4)(hd:∀BA H',Pv l.length BA H'->Q (.ref D) H'):CompS (tx l) g tt te own ix σ H1 Q D:=by
 refine#[λi m BA H=>m=l.length - i/\i<=l.length/\Pv i BA H,#[l.length,by simp,aG _,h0],?_];rintro i m BA H' ⟨rfl,hi,p⟩;by_cases hlt:i<l.length
 ·refine .inr #[hlt,λv H2 y=>?_];obtain⟨e,c,hc,ev⟩:=y;subst e ev;exact hs i c BA _ hc p
 ·have e:i=l.length:=⋯;subst e;exact .inl #[rfl,hd BA H' p]
end
theorem yH{x:V}{r:St}:xf (Bv::r) (Bu x::r):=#[rfl,λi v h=>by
 cases i with
 | zero=>cases h
 | succ i=>exact h]
def zM{X:Cx}{scope sc:tU}{own caps:List tw}{ix:()}(h1:scope.kind=.function)(h2:scope.names.all (λy=>y.2 != .cell)=Bw)(h3:scope.names.all (λy=>y.2 != .local || scope.names.lookup y.1 == Bu .local)=Bw)(h4:scope.names.all (λy=>y.2 != .free || sc.names.lookup y.1 == Bu .cell)=Bw) (hsc:X.env.scope=sc) (h5:own.all (λy=>scope.names.lookup y == Bu .local)=Bw) (h6:caps.all (λy=>scope.names.lookup y == Bu .free)=Bw) (h7:ix.map (λi=>X.N[i]?)=caps.map Bu):kE X scope own caps ix:=by
 refine#[h1,λy hy=>?_,λy hy e=>?_,λy hy=>?_,λy hy=>?_,λy hy=>?_,h7]
 ·have:=BN.mp h2 y hy;simpa using this
 ·have:=BN.mp h3 y hy;rw[e]at this;simpa using this
 ·have:=BN.mp h4 _ hy;have:=by simpa using this
  refine .inl ?_;show X.env.scope.names.lookup y=Bu .cell;rw[hsc];exact this
 ·have:=BN.mp h5 y hy;simpa using this
 ·have:=BN.mp h6 y hy;simpa using this
theorem Xd{α:Type}(l:List α){a b:Int}(h0:0<=a)(h1:a<=b)(h2:b<=l.length):cut l (Bu a) (Bu b)=(l.drop a.toNat).take (b - a).toNat:=by obtain⟨m,rfl⟩:=bJ h0;obtain⟨n,rfl⟩:=bJ (by lia:0<=b);unfold cut;rw[HT.sIx_nat,HT.sIx_nat,cp ⋯,cp ⋯];have:((n:Int) - (m:Int)).toNat=n - m:=⋯;rw[this];rfl
theorem vV{k:Nat}{A:tB}(r:Room k A):A.units+100<cLine:=by have:=r.un;lia
def Xj{K:sV}{x y:V}{H:Hp}{Q:VK}{l m:List D}(h:(Is K H (.lst l) x/\Is K H (.lst m) y)\/(Is K H (.tup l) x/\Is K H (.tup m) y))(hd:vG l<50)(q:Q (.bl (uA l m)) H):zgz K x y H Q:=#[l,m,h,hd,q]
def zbH{K:sV}{x y:V}{H:Hp}{Q:VK}{l m:List D}(h:(Is K H (.lst l) x/\Is K H (.lst m) y)\/(Is K H (.tup l) x/\Is K H (.tup m) y))(hd:vG l<50)(q:Q (.bl (!uA l m)) H):zgt K x y H Q:=#[l,m,h,hd,q]
def zfJ(t u:TS):TS:=λD σ H=>∃R:St->Hp->Prop,t { D with nx:=R } σ H/\∀σ' H',R σ' H'->u D σ' H'
theorem zi{X:Cx}{st:tF}{rest:List tF}{t u:TS}(h1:PS X st t)(h2:PSs X rest u):PSs X (st::rest) (zfJ t u):=by
 intros D I h;obtain⟨R,h,hr⟩:=h;refine Am (thn (h1 By s σ H { D with nx:=R } I h) λf s1 q=>?_)
 cases f with
 | next =>
  obtain⟨σ',H',I',q⟩:=q;exact h2 By s1 σ' H' D I' (hr _ _ q)
 | ret v=>exact q
 | brk=>exact q
 | cont=>exact q
def kT{t u:TS}{D:uf}{σ:St}{H:Hp}(R:St->Hp->Prop)(h:t { D with nx:=R } σ H)(hr:∀σ' H',R σ' H'->u D σ' H'):zfJ t u D σ H:=#[R,h,hr]
def zj{t u:TS}{D:uf}{σ:St}{H:Hp}(R:St->Hp->Prop)(h:t { D with nx:=R } σ H)(hr:∀G:St->Hp->Prop,G=u D->∀σ' H',R σ' H'->G σ' H'):zfJ t u D σ H:=#[R,h,hr _ rfl]
def nm4{α β γ δ:Type}{P R:α->β->γ->δ->Prop}{B:α->β->γ->δ->Prop}(h:∀G:α->β->γ->δ->Prop,G=B->∀a b c d,P a b c d->R a b c d->G a b c d):∀a b c d,P a b c d->R a b c d->B a b c d:=h _ rfl
def nm3{α β γ:Type}{P R:α->β->γ->Prop}{B:α->β->γ->Prop}(h:∀G:α->β->γ->Prop,G=B->∀a b c,P a b c->R a b c->G a b c):∀a b c,P a b c->R a b c->B a b c:=h _ rfl
def zE{H H':Hp}{a:sX}{o:HO}(h:Same H H')(e:H a=Bv):Same H (upd H' a o):=λb u q=>by
 rw[zq (zI q e)];exact h b u q
def ForL.by{K:sV}{a:sX}{xs:List V}{g:TG}{tb:TS}{D:uf}{σ:St}{H:Hp}(Pv:Nat->St->Hp->Prop)(h0:Pv 0 σ H)(hl:∀i σ H,i<=xs.length->Pv i σ H->SqL K H a xs)(hs:∀i x σ H,xs[i]? = Bu x->Pv i σ H->g x σ H λσ2 H2=>tb { D with nx:=Pv (i+1),ct:=Pv (i+1),bk:=D.nx } σ2 H2) (hd:∀σ H,Pv xs.length σ H->D.nx σ H):ForL K a g tb D σ H:=KO Pv h0 hl hs hd
def ZY{A B:Prop}(h:B):if Bw=Bx then A else B:=by rw[y9 ∅];exact h
def CompV(K:sV)(a:sX)(n:Nat)(g:TG)(tt:TT)(te:TE)(own:Nat)(ix:())(σ:L2.St)(H1:Hp)(Q:VK)(D:sX):Prop:=YM (Irv K a n) g tt te own ix σ H1 Q D
def zdP{K:sV}{ta:TA}{g:TG}{tt:TT}{te:TE}{own:Nat}{ix:()}{σ:L2.St}{H:Hp}{Q:VK}:jy (zgx K ta) g tt te own ix σ H Q=ta σ H λvs H1=>∃a xs,vs=[.ref a]/\SqL K H1 a xs/\∀D,H1 D=Bv->CompV K a xs.length g tt te own ix σ H1 Q D:=rfl
theorem CompV.by{K:sV}{a:sX}{xs:List V}{g:TG}{tt:TT}{te:TE}{own:Nat}{ix:()}{σ:L2.St}{H1:Hp}{Q:VK}{D:sX}(Pv:Nat->List V->Hp->Prop)(h0:Pv 0 [] (upd H1 D (.lst [])))(hl:∀i BA H',i<=xs.length->Pv i BA H'->SqL K H' a xs)(hs:∀i x BA H',xs.reverse[i]? = Bu x->Pv i BA H'->g x (vx σ own ix) H' λσ3 H3=>xf (vx σ own ix) σ3/\tt σ3 H3 λb H4=>if b=Bw then
   te σ3 H4 λv H5=>H5 D=Bu (.lst BA)/\BA.length<sU/\CNx xs.length i Pv (BA ++ [v]) (upd H5 D (.lst (BA ++ [v])))else CNx xs.length i Pv BA H4)(hd:∀BA H',Pv xs.length BA H'->Q (.ref D) H'):CompV K a xs.length g tt te own ix σ H1 Q D:=by
 refine#[λi m BA H=>m=xs.length - i/\i<=xs.length/\Pv i BA H,#[xs.length,by simp,aG _,h0],?_];rintro i m BA H' ⟨rfl,hi,p⟩;have q:=hl i BA H' hi p;by_cases hlt:i<xs.length
 ·refine .inr #[#[xs,q,rfl,hlt],λx H2 y=>?_];obtain⟨e,y⟩:=y;subst e;refine hs i x BA _ ?_ p;rw[bz hlt];exact y xs q rfl
 ·have e:i=xs.length:=⋯;subst e;exact .inl #[rfl,hd BA H' p]
def zfP{v:V}{σ:L2.St}{H:Hp}{Q:VK}:z6 0 (Bu v::σ) H Q=Q v H:=rfl
def zfY{a0:Option V}{v:V}{σ:L2.St}{H:Hp}{Q:VK}:z6 1 (a0::Bu v::σ) H Q=Q v H:=rfl
def zgn{a0 a1:Option V}{v:V}{σ:L2.St}{H:Hp}{Q:VK}:z6 2 (a0::a1::Bu v::σ) H Q=Q v H:=rfl
def zga{a0 a1 a2:Option V}{v:V}{σ:L2.St}{H:Hp}{Q:VK}:z6 3 (a0::a1::a2::Bu v::σ) H Q=Q v H:=rfl
def zf0{a0 a1 a2 a3:Option V}{v:V}{σ:L2.St}{H:Hp}{Q:VK}:z6 4 (a0::a1::a2::a3::Bu v::σ) H Q=Q v H:=rfl
def zfK{a0 a1 a2 a3 a4:Option V}{v:V}{σ:L2.St}{H:Hp}{Q:VK}:z6 5 (a0::a1::a2::a3::a4::Bu v::σ) H Q=Q v H:=rfl
def zfw{a0 a1 a2 a3 a4 a5:Option V}{v:V}{σ:L2.St}{H:Hp}{Q:VK}:z6 6 (a0::a1::a2::a3::a4::a5::Bu v::σ) H Q=Q v H:=rfl
def zgb{a0 a1 a2 a3 a4 a5 a6:Option V}{v:V}{σ:L2.St}{H:Hp}{Q:VK}:z6 7 (a0::a1::a2::a3::a4::a5::a6::Bu v::σ) H Q=Q v H:=rfl
def zf3{a0 a1 a2 a3 a4 a5 a6 a7:Option V}{v:V}{σ:L2.St}{H:Hp}{Q:VK}:z6 8 (a0::a1::a2::a3::a4::a5::a6::a7::Bu v::σ) H Q=Q v H:=rfl
def zfF{a0 a1 a2 a3 a4 a5 a6 a7 a8:Option V}{v:V}{σ:L2.St}{H:Hp}{Q:VK}:z6 9 (a0::a1::a2::a3::a4::a5::a6::a7::a8::Bu v::σ) H Q=Q v H:=rfl
def zcl{a0 a1 a2 a3 a4 a5 a6 a7 a8 a9:Option V}{v:V}{σ:L2.St}{H:Hp}{Q:VK}:z6 10 (a0::a1::a2::a3::a4::a5::a6::a7::a8::a9::Bu v::σ) H Q=Q v H:=rfl
def zbl{a0 a1 a2 a3 a4 a5 a6 a7 a8 a9 a10:Option V}{v:V}{σ:L2.St}{H:Hp}{Q:VK}:z6 11 (a0::a1::a2::a3::a4::a5::a6::a7::a8::a9::a10::Bu v::σ) H Q=Q v H:=rfl
def zdr{b:Bool}{p:Bool->Prop}:(∃k,V.bl b=V.bl k/\p k)=p b:=propext #[λ⟨_,h,q⟩=>by cases h;exact q,λq=>#[_,rfl,q]]
def zav{b:Int}{p:Int->Prop}:(∃k,V.int b=V.int k/\p k)=p b:=propext #[λ⟨_,h,q⟩=>by cases h;exact q,λq=>#[_,rfl,q]]
def zao{b:tw}{p:tw->Prop}:(∃k,V.str b=V.str k/\p k)=p b:=propext #[λ⟨_,h,q⟩=>by cases h;exact q,λq=>#[_,rfl,q]]
def za2{b:sX}{p:sX->Prop}:(∃k,V.ref b=V.ref k/\p k)=p b:=propext #[λ⟨_,h,q⟩=>by cases h;exact q,λq=>#[_,rfl,q]]
def zfk{i:Int}{p:Int->Prop}:onInt (.int i) p=p i:=rfl
def zfC{i:tw}{p:tw->Prop}:onStr (.str i) p=p i:=rfl
def zfm{i:Bool}{p:Bool->Prop}:onBl (.bl i) p=p i:=rfl
def zfO{i:sX}{p:sX->Prop}:onRef (.ref i) p=p i:=rfl
def zgc{K:sV}{b:Bool}{H:Hp}{p:Bool->Prop}:zfD K (.bl b) H p=p b:=rfl
def zaV{x:V}{p:Int->Prop}:onInt x p=∃k,x=.int k/\p k:=propext #[onInt.of,onInt.to]
def zat{x:V}{p:tw->Prop}:onStr x p=∃k,x=.str k/\p k:=propext #[onStr.of,onStr.to]
def zaD{x:V}{p:Bool->Prop}:onBl x p=∃k,x=.bl k/\p k:=propext #[onBl.of,onBl.to]
def zaX{x:V}{p:sX->Prop}:onRef x p=∃k,x=.ref k/\p k:=propext #[onRef.of,onRef.to]
def UC{i:Nat}{σ:L2.St}{H:Hp}{Q:VK}:z6 i σ H Q=∃v,σ[i]? = Bu (Bu v)/\Q v H:=propext #[onSl.of,λ⟨v,h,q⟩=>by erw[z6,onSl,h];exact q]
def zbm{a b:Int}{H:Hp}{Q:VK}:rEq (.int a) (.int b) H Q=Q (.bl (decide (a=b))) H:=rfl
def zcp{a b:tw}{H:Hp}{Q:VK}:rEq (.str a) (.str b) H Q=Q (.bl (decide (a=b))) H:=rfl
def zbV{a b:Int}{H:Hp}{Q:VK}:rNe (.int a) (.int b) H Q=Q (.bl (!decide (a=b))) H:=rfl
def zb4{a b:tw}{H:Hp}{Q:VK}:rNe (.str a) (.str b) H Q=Q (.bl (!decide (a=b))) H:=rfl
def zce{a:Int}{y:V}{H:Hp}{Q:VK}:Y1 (.int a) y H Q=onInt y λj=>Q (.int (a+j)) H:=rfl
def zcG{a:tw}{y:V}{H:Hp}{Q:VK}:Y1 (.str a) y H Q=onStr y λj=>a.length+j.length<=sU/\Q (.str (a ++ j)) H:=rfl
def zbk{a:sX}{y:V}{H:Hp}{Q:VK}:Y1 (.ref a) y H Q=zc4 (.ref a) y H Q:=rfl
def zc3{a:Int}{y:V}{H:Hp}{Q:VK}:JV (.int a) y H Q=onInt y λj=>CMul a j/\Q (.int (a * j)) H:=rfl
def zc0{z:tw}{y:V}{H:Hp}{Q:VK}:JV (.str z) y H Q=onInt y λn=>0<=n/\n<=1000/\z.length<=1000/\Q (.str (tx (aP n.toNat (cs z)).flatten)) H:=rfl
def zfh{a:Int}{y:V}{H:Hp}{Q:VK}:ze6 (.int a) y H Q=onInt y λj=>Q (.bl (decide (a<j))) H:=rfl
def zfE{a:tw}{y:V}{H:Hp}{Q:VK}:ze6 (.str a) y H Q=onStr y λj=>Q (.bl (decide (cs a<cs j))) H:=rfl
def zgj{a:Int}{y:V}{H:Hp}{Q:VK}:ze7 (.int a) y H Q=onInt y λj=>Q (.bl (decide (a<=j))) H:=rfl
def zfH{a:tw}{y:V}{H:Hp}{Q:VK}:ze7 (.str a) y H Q=onStr y λj=>Q (.bl (!(decide (cs j<cs a)))) H:=rfl
def zfx{a:Int}{y:V}{H:Hp}{Q:VK}:zfe (.int a) y H Q=onInt y λj=>Q (.bl (decide (j<a))) H:=rfl
def zgg{a:tw}{y:V}{H:Hp}{Q:VK}:zfe (.str a) y H Q=onStr y λj=>Q (.bl (decide (cs j<cs a))) H:=rfl
def zfp{K:sV}{a:sX}{y:V}{H:Hp}{Q:VK}:rIx K (.ref a) y H Q=onInt y λi=>(∃xs,SqL K H a xs/\∃v,atI xs i=Bu v/\Q v H)\/∃xs,SqT K H a xs/\∃v,atI xs i=Bu v/\Q v H:=rfl
def zfS{K:sV}{z:tw}{y:V}{H:Hp}{Q:VK}:rIx K (.str z) y H Q=zbS (.str z) y H Q:=rfl
def zcF{K:sV}{z:tw}{lo hi:Option Int}{H:Hp}{Q:VK}:zez K (.str z) lo hi H Q=(z.length<=sU/\Q (.str (tx (cut (cs z) lo hi))) H):=rfl
def zb8{K:sV}{a:sX}{lo hi:Option Int}{H:Hp}{Q:VK}:zez K (.ref a) lo hi H Q=(∃xs,SqL K H a xs/\∀p,H p=Bv->Q (.ref p) (upd H p (.lst (Kl xs lo hi)))):=rfl
def zc1{K:sV}{z:tw}{H:Hp}{Q:VK}:Wp K [.str z] H Q=(z.length<=sU/\Q (.int z.length) H):=rfl
def zbR{K:sV}{a:sX}{H:Hp}{Q:VK}:Wp K [.ref a] H Q=(∃n:Nat,((∃xs,SqL K H a xs/\n=xs.length)\/∃xs,SqT K H a xs/\n=xs.length)/\Q (.int n) H):=rfl
def zcW{x:V}{H:Hp}{Q:VK}:zgu x .non H Q=Q (.bl (decide (x=.non))) H:=rfl
def zbv{x:V}{H:Hp}{Q:VK}:zdV x .non H Q=Q (.bl (!decide (x=.non))) H:=rfl
def zcu{i j:Int}{H:Hp}{Q:VK}:zaa [.int i,.int j] H Q=Q (.int (if j > i then j else i)) H:=rfl
def zbf{a:sX}{y:V}{H:Hp}{Q:VK}:UE (.ref a) [y] H Q=(∃xs,H a=Bu (.lst xs)/\xs.length<sU/\Q .non (upd H a (.lst (xs ++ [y])))):=rfl
def zgy{K:sV}{z:tw}{H:Hp}{p:Prop}:(tyV K "str" (.str z) H/\p)=p:=propext #[λh=>h.2,λh=>#[rfl,h]]
section
variable{X:Cx}{a b e:tD}{ta tb te:TE}{pos p:Ad}
theorem zC(i:Nat){x:tw}{pos':Ad}(hN:X.N.Nodup)(he:PE X e te)(hi:X.N[i]? = Bu x:=by rfl)(hx:Loc X.env.scope x:=by exact .inl rfl)(hs:swapsWith e (Bu (.Name x pos')) pos.line X.env=pure Bx:=by rfl)(hf:X.fn x=Bw\/X.env.scope.names.lookup x=Bu .local:=by first | exact .inl rfl | exact .inr rfl | assumption) :
  PS X (.Assign [.Name x pos'] e pos) (zc5 te (yK i)):=jF hN hi hx he hs hf
def zk{r:R2}(hr:IxR X r)(ha:PE X a ta)(hb:PE X b tb)(hs:QY b:=by exact λ_ _=>rfl):PE X (.Subscript a b pos) (tOp r ta tb):=zfv hr ha hb hs
def zB(hm:X.mg "len" = Bv)(he:PE X e te)(hg:Gl X "len":=by rfl)(h1:sS [e] X.env=(Bx,eval e X.env)::sS [] X.env:=by rfl)(h2:(tK pos (sS [] X.env)).any (·.1)=Bx:=by rfl):PE X (.Call (.Name "len" p) [e] [] pos) (tCB (Wp X.K) (zL te xx)) :=
 yu zgf hg hm PySem.boot_len (za he ze h1) (he:=h1) (hpl:=h2)
end
section
variable{X:Cx}
theorem V8:∀{ys:List tw} {its:List sY},Vals (ys.map V.str) its->∃l:List (tw × Ay),its=strValues l/\l.map (·.1)=ys
 | [],_,.nil=>#[[],rfl,rfl]
 | y::ys,_,.cons r t=>by
  obtain⟨tk,rfl⟩:=r;obtain⟨l,e1,e2⟩:=V8 t;exact#[(y,tk)::l,by rw[e1];rfl,by rw[av,e2]]
def zfs(K:sV):V->List V->Hp->VK->Prop:=λx xs H Q=>∃z p ys,x=.str z/\xs=[.ref p]/\SqL K H p (ys.map V.str)/\JoinOk z ys=Bw/\Q (.str (Txt.join z ys)) H
def zd7:MtR X "str.join" (zfs X.K):=by intros x xs v us Q I rx rv h;obtain⟨z,p,ys,rfl,rfl,hS,hok,q⟩:=h;obtain⟨t,rfl⟩:=rx;obtain⟨u,rfl,ru⟩:=wx rv;cases ru;obtain⟨its,r,pl,_⟩:=I.list hS;obtain⟨l,rfl,e⟩:=V8 r;exact PySem.SC.join pl.isList e hok λt' k=>#[.str _,H,I.tok _,#[_,rfl],q]
theorem Zr:∀{bs:List Bool} {its:List sY} {i:Nat} {v:sY},Vals (bs.map V.bl) its->its[i]? = Bu v->v=.bool (bs.getD i Bx)
 | [],_,_,_,.nil,h=>by cases h
 | b::bs,_,0,v,.cons r t,h=>by
  cases r;cases h;rfl
 | b::bs,_,i+1,v,.cons r t,h=>Zr (bs:=bs) (i:=i) t h
theorem QA(bs:List Bool):(aN bs.length).all (λi=>bs.getD i Bx)=bs.all id:=by
 induction bs with
 | nil=>rfl
 | cons b bs ih =>
  rw[aL,dH,fV,List.all_map,fV,<- ih];rfl
def zg2(K:sV):List V->Hp->VK->Prop:=λxs H Q=>∃(p:sX) (bs:List Bool),xs=[.ref p]/\SqL K H p (bs.map V.bl)/\Q (.bl (bs.all id)) H
def zcH(hc:X.calm=Bw):wK X (.builtin "all") (zg2 X.K):=by
 intros xs us Q I r h;obtain⟨p,bs,rfl,hS,q⟩:=h;obtain⟨u,rfl,ru⟩:=wx r;cases ru;obtain⟨its,rv,pl,hz⟩:=I.list hS
 have hlen:its.length=bs.length:=by
  have:=rv.length;rw[ac]at this;exact this.symm
 have hh:X.A.in1.handled=Bv:=I.ok.hd hc
 have hne:p≠s⁻¹:=by
  obtain⟨o,n,e,_⟩:=pl;exact aB (aq e)
 obtain⟨f0,f1,f2,f3,f4,f5⟩:=I.fpOk (H':=H) (al _) (I.hok.fresh (al _));have I1:=I.kept (t':=s.toks) (h':=s.heap.push { cls:=.type "list_iterator",data:=.fields (u9 [.ref p,.int 0 0]) }) λb o e=>aa _ e;refine call_all_walk (Ap pl.isList ?_);refine#[s⁻¹,_,_,_,_,_,λi=>bs.getD i Bx,rfl,Walks.list hh s⁻¹ p hne its.toArray,#[#[_,ay _ rfl,rfl,rfl],?_],?_,?_]
 ·obtain⟨o,n,e,c,d,dt⟩:=pl;exact#[o,aa _ e,c,n,dt]
 ·intro i v s' Q' E' hv hq;have:=Zr rv (i:=i) (v:=v) (by simpa using hv);rw[this];exact tI hq
 ·intro h' tk hk
  have e:(aN its.toArray.size).all (λi=>bs.getD i Bx)=bs.all id:=by
   rw[ak,hlen,QA]
  rw[e];refine#[.bl _,H,?_,rfl,q];exact I1.turned (t':=tk) (it:=s⁻¹) (λb o hb q=>hk b o (by simpa using hb) q) f0 f1 f3 f4 f5
end
section
variable{M:Bd}{A:tB}{E:sY->sZ->Prop}{s:sZ}{base:tE}{env env0:AK}{outer:List AK}{L x t C:sX}{dx:Option sX}
def zdh{tb:sY}{Q:Unit->sZ->Prop}(hfr:A.frames=Bu (env0::outer))(hl:s.heap.FunFrames base (env0::outer))(hf:env0.frame=Bu L)(he:env.frame=Bu L)(hx:s.heap.get? x=Bu (xob C dx t tb)) (htb:zcO s.heap x tb)(h:∀h' T oT ts,h'.get? x=Bu (xob C dx t (.ref T))->T≠x->(tb=.ref T\/s⁻¹<=T)->h'.get? T=Bu oT->oT.data=.fields ts->3<ts.size ->
   (∀b o,b≠x->tb≠.ref b->b ∉ frs (env0::outer)->s.heap.get? b=Bu o->h'.get? b=Bu o)->(∀b o,b≠x->tb≠.ref b->s.heap.get? b=Bu o->∃sl,h'.get? b=Bu { o with slots:=sl })->Q Unit.unit { s with heap:=h' }) :
  tm M A (noteFrame (.ref x) env) Q E s:=by
 have land:∀(h1:tE) (T:sX) (oT:tR) (ts:Array sY),h1.get? x=Bu (xob C dx t (.ref T))->T≠x->(tb=.ref T\/s⁻¹<=T)->h1.get? T=Bu oT->oT.data=.fields ts->3<ts.size ->
   (∀b o,b≠x->tb≠.ref b->b ∉ frs (env0::outer)->s.heap.get? b=Bu o->h1.get? b=Bu o)->(∀b o,b≠x->tb≠.ref b->s.heap.get? b=Bu o->∃sl,h1.get? b=Bu { o with slots:=sl }) ->
   Q Unit.unit { s with heap:=h1 }:=λh1 T oT ts e1 nT oldT e2 d2 z2 k1 k2=>h h1 T oT ts e1 nT oldT e2 d2 z2 k1 k2
 unfold noteFrame
 erw[he]
 refine sN (tL hx rfl (x:=tb) rfl ?_);rcases htb with rfl | ⟨T,oT,ts,rfl,nT,e2,d2,z2⟩
 ·rw[y9 ∅];refine ZF hfr hl hf he hx λh' oT ts e1 ne e2 d2 z2 k1 k2=>land h' _ oT ts e1 ne (.inr (al _)) e2 d2 z2 (λb o hb _ hbf e=>k1 b o hb hbf e) λb o hb _ e=>k2 b o hb e
 ·rw[y6 (show (u6 T != u5)=Bw from by simp)];obtain⟨y,hy⟩:∃y,ts[3]? = Bu y:=#[ts[3],by simp [z2]];refine sN (tL e2 d2 (x:=y) hy ?_);by_cases c:(y == rawInt L)=Bw
  ·rw[y6 c];exact sP (land s.heap T oT ts hx nT (.inl rfl) e2 d2 z2 (λb o _ _ _ e=>e) λb o _ _ e=>#[o.slots,e])
  ·rw[y9 c];refine sN (Af e2 d2 z2 ?_);have oth:∀b,b≠T->(s.heap.update T (Obj.mapFields (·.setIfInBounds 3 u5))).get? b=s.heap.get? b:=λb hb=>aC _ _ (Ne.symm hb);have hl1:(s.heap.update T (Obj.mapFields (·.setIfInBounds 3 u5))).FunFrames base (env0::outer):=hl.of_keeps λb o hb hnf=>#[o,(oth b λq=>by rw[q,e2]at hb;cases hb;exact hnf ts d2).trans hb,rfl];have hsz:(s.heap.update T (Obj.mapFields (·.setIfInBounds 3 u5))).objs.size=s⁻¹:=dM ..;refine ZF (s:={ s with heap:=s.heap.update T (Obj.mapFields (·.setIfInBounds 3 u5)) }) hfr hl1 hf he ((oth x (Ne.symm nT)).trans hx) λh' oT' ts' e1 ne e2' d2' z2' k1 k2=>?_;refine land h' _ oT' ts' e1 ne (.inr (by rw[hsz];exact al _)) e2' d2' z2' (λb o hb hbt hbf e=>k1 b o hb hbf ((oth b λq=>hbt (by rw[q])).trans e)) λb o hb hbt e=>k2 b o hb ((oth b λq=>hbt (by rw[q])).trans e)
end
section
variable{X:Cx}{By:List (sX × tR)}{σ:St}{H1:Hp}{s1:sZ}
def Inv.noted{h':tE}{x T:sX}{tb:sY}(I1:Inv X By σ H1 s1)(hst:X.stack=X.env::X.outer)(fx:wz X By H1 x)(fT:∀T,tb=.ref T->wz X By H1 T)(fT':wz X By H1 T)(k1:∀b o,b≠x->tb≠.ref b->b ∉ frs (X.env::X.outer)->s1.heap.get? b=Bu o->h'.get? b=Bu o) (k2:∀b o,b≠x->tb≠.ref b->s1.heap.get? b=Bu o->∃sl,h'.get? b=Bu { o with slots:=sl }):Inv X By σ H1 { s1 with heap:=h' }:=by
 have tbs:∀b,tb=.ref b->H1 b=Bv:=λb hb=>(fT b hb).1
 have nch:∀b o,s1.heap.get? b=Bu o->b ∉ (x::T::tbL tb)->b≠x/\tb≠.ref b:=λb o _ hb=>by
  refine#[λz=>hb (by simp [z]),λz=>hb ?_];rw[z];simp [tbL]
 have un:Un (frs X.stack) (x::T::tbL tb) H1 H1 s1.heap h':=by
  rw[hst];refine#[λb o e n hb hc=>?_,λb o e n hb hc=>?_,λb o e n _=>n,λb o e hc=>?_,λb xs e=>e,λb o u e=>e,λb ps e=>#[#[],by rw[e];simp]]
  ·obtain⟨a1,a2⟩:=nch b o e hc;exact k1 b o a1 a2 hb e
  ·obtain⟨a1,a2⟩:=nch b o e hc;exact k2 b o a1 a2 e
  ·obtain⟨a1,a2⟩:=nch b o e hc;obtain⟨sl,q⟩:=k2 b o a1 a2 e;exact#[_,q]
 have hok:HOk X.prog X.w H1 h':=λb u e=>by
  refine (I1.hok b u e).stay (λc v hc q=>k1 c v ?_ ?_ ?_ q) (λ_ q=>q) λ_ _ q=>q
  ·rintro rfl;rcases hc with rfl | hc
   ·rw[fx.1]at e;cases e
   ·rw[fx.1]at hc;cases hc
  ·intro z;have:=tbs c z;rcases hc with rfl | hc
   ·rw[this]at e;cases e
   ·rw[this]at hc;cases hc
  ·intro z;rw[<- hst]at z;have:=I1.stkFree c z;rcases hc with rfl | hc
   ·rw[this]at e;cases e
   ·rw[this]at hc;cases hc
 exact I1.call' (s':={ s1 with heap:=h' }) rfl un hok I1.bare λb hb=>by
  have fb:wz X By H1 b:=by
   rcases BE.mp hb with z | z
   ·rw[z];exact fx
   ·rcases BE.mp z with z | z
    ·rw[z];exact fT'
    ·cases tb with
     | ref b' =>
      have:b=b':=by simpa [tbL] using z
      rw[this];exact fT b' rfl
     | _=>simp [tbL]at z
  obtain⟨_,a1,_,a3,a4,a5⟩:=fb;exact#[a3,a1,a4,a5]
end
section
variable{X:Cx}{scope:tU}{own caps:List tw}{ix:()}{cl:List (tw × sX)}
def Jj{N:List tw}{EX:XK}{By:List (sX × tR)}{σ:St}{H3:Hp}{s3:sZ}{fp:List sX}{xe:sY->sZ->Prop}{e:sY}{s1:sZ}{RE:sY->sZ->Prop}(hst:X.stack=X.env::X.outer/\X.env.frame=Bu X.env.locals)(hxe:XE X EX)(hc1:∀y c,cl.lookup y=Bu c->X.env.cells.lookup y=Bu c) (I3:Inv X By σ H3 s3) (f3:∀b ∈ fp,wz X By H3 b) (fl:zd8 (yG X scope cl s3⁻¹ N By s3 H3 fp xe) EX e s1)(hRE:∀m s' x,s'.heap.Ns s3⁻¹ m->(∀h',Heap.SameBut s3⁻¹ s'.heap h'->∀cenv:AK,cenv.locals=s3⁻¹->tm (model X.prog X.w) X.A (ge "comprehension.variables-let-go" x cenv:Bl sY) (λ_ _=>False) X.xe { s' with heap:=h' })->RE x s') :
  notedBy (model X.prog X.w) X.A (compEnvC scope cl s3⁻¹ X.env) RE e s1:=by
 obtain⟨pins',σ',H1,x,C,t,dx,tb,rfl,I1,ob,tr,fx,fT,q⟩:=fl
 have IX:Inv X By σ H1 s1:=I3.call' (s':=s1) I1.os I1.base I1.hok I1.bare λb hb=>by
  obtain⟨_,a1,a2,a3,a4,a5⟩:=f3 b hb;exact#[a3,a1,a4,a5]
 have up:∀b,wz (yG X scope cl s3⁻¹ N By s3 H3 fp xe) pins' H1 b->wz X By H1 b:=λb hb=>by
  obtain⟨a0,a1,a2,a3,a4,a5⟩:=hb;rcases a3 with a3 | a3
  ·exact#[a0,(f3 b a3).2]
  ·exact I3.fpOk a3 a0
 have fx':=up x fx;have fT':∀T,tb=.ref T->wz X By H1 T:=λT h=>up T (fT T h);have fr:X.A.frames=Bu (X.env::X.outer):=by rw[<- hst.1];exact IX.ok.frames
 have ff:s1.heap.FunFrames X.base (X.env::X.outer):=by rw[<- hst.1];exact IX.stack
 obtain⟨m,hm,_⟩:=I1.loc;have fC:wz X By H1 s3⁻¹:=I3.fpOk (al _) I1.free;refine zdh fr ff hst.2 hst.2 ob tr λh' T oT ts e1 nT oldT e2 d2 z2 k1 k2=>?_
 have fT2:wz X By H1 T:=by
  rcases oldT with z | z
  ·exact fT' T z
  ·exact IX.fpOk z (IX.hok.fresh z)
 have I2:Inv X By σ H1 { s1 with heap:=h' }:=Inv.noted IX hst.1 fx' fT' fT2 k1 k2;have hCx:s3⁻¹≠x:=λz=>fx.2.1 z.symm;have hCtb:tb≠.ref s3⁻¹:=λz=>(fT _ z).2.1 rfl;obtain⟨oC,es,ep,hoC,rC⟩:=hm
 have hCT:T≠s3⁻¹:=by
  rcases oldT with z | z
  ·exact (fT T z).2.1
  ·exact bR (ax (aq hoC) z)
 have hCf:s3⁻¹ ∉ frs (X.env::X.outer):=λz=>by
  rw[<- hst.1]at z;rcases BE.mp (IX.stkSub _ z)with y | y
  ·exact fC.2.1 y
  ·exact fC.2.2.1 y
 refine hRE m _ _ #[oC,es,ep,k1 _ _ hCx hCtb hCf hoC,rC] λh2 sb cenv hcenv=>?_;have I3':Inv X By σ H1 { s1 with heap:=h2 }:=I2.turned (t':=s1.toks) (λb o hb e=>(sb.2 b hb).trans e) fC.1 fC.2.1 fC.2.2.2.1 fC.2.2.2.2.1 fC.2.2.2.2.2;have ob2:h2.get? x=Bu (xob C dx t (.ref T)):=(sb.2 x (Ne.symm hCx)).trans e1;have oT2:h2.get? T=Bu oT:=(sb.2 T hCT).trans e2;unfold ge;refine sN (tL (s:={ s1 with heap:=h2 }) ob2 rfl (x:=.ref T) rfl ?_);rw[y9 (show ¬ (u6 T == u5)=Bw from by simp)];unfold setFlight;refine sN (sN (tL (s:={ s1 with heap:=h2 }) ob2 rfl (x:=.ref T) rfl ?_));rw[y6 (show (u6 T != u5)=Bw from by simp)];refine Af (s:={ s1 with heap:=h2 }) oT2 d2 z2 (wpAny_throw (hxe _ _ ?_));have d3:=Obj.data_mapFields d2 (·.setIfInBounds 3 (cenv.frame.elim u5 λf=>rawInt f))
 have I4:Inv X By σ H1 { s1 with heap:=h2.update T (Obj.mapFields (·.setIfInBounds 3 (cenv.frame.elim u5 λf=>rawInt f))) } :=
  I3'.turned (t':=s1.toks) (λb o hb e=>(aC _ _ (Ne.symm hb)).trans e) fT2.1 fT2.2.1 fT2.2.2.2.1 fT2.2.2.2.2.1 fT2.2.2.2.2.2
 exact#[By,σ,H1,x,C,t,dx,.ref T,rfl,I4,(aC _ _ nT).trans ob2,.inr #[T,_,_,rfl,nT,ce _ oT2 (Obj.isFreed_of_fields d3),d3,by simpa using z2],fx',λT' z=>by cases z;exact fT2,q]
end
section
variable{X:Cx}{scope:tU}{own caps:List tw}{ix:()}{elt tg iter:tD}{ifs:List tD}{pos:Ad}{wi:TI}{g:TG}{tt:TT}{te:TE}
end
open PySem.AutoSeq1 (wpAny_loadPart')
open MeetsSeq MeetsSeq2 MeetsSeq3 SeqRoads2 SeqAt
def jq(op:As)(A:tB)(s:sZ)(y x:sY)(b:Bool):Prop :=
 ∀(prog:tu) (w:tz) (E:sY->sZ->Prop) (Q:sY->sZ->Prop),Q (.bool b) s->tm (model prog w) A (richCompare op y x) Q E s
end in abbrev LtAt:=jq .Lt
end in def zdl:As->Nat->Nat->Bool
 | .Gt,m,n=>decide (n<m)
 | _,m,n=>decide (m<n)
end in def zgB:As->Int
 | .Gt=>4
 | _=>0
def LG(op:As):Prop:=op=.Lt\/op=.Gt
def uL(op:As)(e t r:Nat->Bool)(m n:Nat):Prop:=∀i,i<=m->i<=n->r i=if i<m/\i<n then (if e i=Bw then r (i+1)else t i)else zdl op m n
end in abbrev zgl:=uL .Lt
variable{op:As}
theorem U2(ho:LG op)(l b:sX)(items Bz:Array sY)(n n2:Nat)(dd dd2:Option sX)(sl sl2:Array (Option sY))(e t r:Nat->Bool)(hr:uL op e t r items.size Bz.size)(k:Nat) :
  ∀i:Nat,i<=items.size->i<=Bz.size->items.size - i=k->Meets (Builtin.«list.__eq__.loop» #[[.ref l,.ref b,rawInt i,rawInt (zgB op)],[]]) (λA R s=>s.heap.get? l=Bu { cls:=.type "list",dict:=dd,data:=.seq items n,slots:=sl }/\s.heap.get? b=Bu { cls:=.type "list",dict:=dd2,data:=.seq Bz n2,slots:=sl2 } /\
    (∀j (h1:j<items.size) (h2:j<Bz.size),EqAt A.in1 s items[j] Bz[j] (e j))/\(∀j (h1:j<items.size) (h2:j<Bz.size),e j=Bx->jq op A.in1 s items[j] Bz[j] (t j)) /\
    R (.ok (.ret (.bool (r i)))) s):=by
 rcases ho with rfl | rfl <;> erw[zgB] <;> erw[uL,zdl]at hr
 all_goals
  induction k with
  | zero =>
   intro i b1 b2 hk prog w A R s h;obtain⟨hp,g,d,tk,os⟩:=s;obtain⟨hl,hb,he,ht,h⟩:=h;have hri:=hr i b1 b2;rw[y9 ⋯]at hri;rw[hri]at h
   wp_walk using wpAny_loadPart' hl,wpAny_loadPart' hb
   have hi1:items[((i:Nat):Int).toNat]? = Bv:=by simp;lia
   rw[hi1]
   wp_walk using wpAny_loadPart' hl,wpAny_loadPart' hb
   exact h
  | succ k ih =>
   intro i b1 b2 hk prog w A R s h;obtain⟨hp,g,d,tk,os⟩:=s;obtain⟨hl,hb,he,ht,h⟩:=h;have hlt:i<items.size:=⋯;have hi1:items[((i:Nat):Int).toNat]? = Bu items[i]:=by simp [hlt]
   have hc:((i:Int)+1)=((i+1:Nat):Int):=by push_cast;rfl
   have hri:=hr i b1 b2;by_cases hlt2:i<Bz.size
   ·rw[y6 #[hlt,hlt2]]at hri;rw[hri]at h;have hi2:Bz[((i:Nat):Int).toNat]? = Bu Bz[i]:=by simp [hlt2]
    wp_walk using wpAny_loadPart' hl,wpAny_loadPart' hb
    rw[hi1,hi2];refine sN (he i hlt hlt2 prog w _ _ ?_)
    cases hb':e i with
    | true =>
     rw[hb',y6 rfl]at h
     wp_walk
     rw[hc]
     exact#[plainId_quiet plain_eq_loop _,tX entry_eq_loop (by
      rw[Around.under_plainId plain_eq_loop _]
      exact ih (i+1) ⋯ ⋯ ⋯ prog w A R _ #[hl,hb,he,ht,h])]
    | false =>
     rw[hb',y9 aD]at h
     wp_walk using wpAny_loadPart' hl,wpAny_loadPart' hb
     rw[hi1,hi2];refine sN (ht i hlt hlt2 hb' prog w _ _ ?_)
     wp_walk
     exact h
   ·rw[y9 ⋯]at hri;rw[hri]at h;have hi2:Bz[((i:Nat):Int).toNat]? = Bv:=by simp;lia
    wp_walk using wpAny_loadPart' hl,wpAny_loadPart' hb
    rw[hi1,hi2]
    wp_walk using wpAny_loadPart' hl,wpAny_loadPart' hb
    exact h
def YQ(ho:LG op)(l b:sX)(items Bz:Array sY)(n n2:Nat)(dd dd2:Option sX)(sl sl2:Array (Option sY))(e t r:Nat->Bool)(hr:uL op e t r items.size Bz.size) :
  Meets ((match op with | .Gt=>Builtin.«list.__gt__» | _=>Builtin.«list.__lt__») ⟨[.ref l,.ref b],[]⟩) (λA R s=>s.heap.get? l=Bu { cls:=.type "list",dict:=dd,data:=.seq items n,slots:=sl }/\s.heap.get? b=Bu { cls:=.type "list",dict:=dd2,data:=.seq Bz n2,slots:=sl2 } /\
    (∀j (h1:j<items.size) (h2:j<Bz.size),EqAt A.in1 s items[j] Bz[j] (e j))/\(∀j (h1:j<items.size) (h2:j<Bz.size),e j=Bx->jq op A.in1 s items[j] Bz[j] (t j)) /\
    R (.ok (.ret (.bool (r 0)))) s):=by
 rcases id ho with rfl | rfl
 all_goals
  intro prog w A R s h;obtain⟨hp,g,d,tk,os⟩:=s;obtain⟨hl,hb,he,ht,h⟩:=h;have f3:=AutoSeq1.sub_list_list
  wp_walk using wpAny_loadPart' hl,wpAny_loadPart' hb
  exact#[plainId_quiet plain_eq_loop _,tX entry_eq_loop (by
   rw[Around.under_plainId plain_eq_loop _]
   exact U2 ho l b items Bz n n2 dd dd2 sl sl2 e t r hr _ 0 (aG _) (aG _) rfl prog w A R _ #[hl,hb,he,ht,h])]
theorem kC(ho:LG op)(l b:sX)(items Bz:Array sY)(n n2:Nat)(dd dd2:Option sX)(sl sl2:Array (Option sY))(e t r:Nat->Bool)(hr:uL op e t r items.size Bz.size) :
  Meets ((match op with | .Gt=>Builtin.«tuple.__gt__» | _=>Builtin.«tuple.__lt__») ⟨[.ref l,.ref b],[]⟩) (λA R s=>s.heap.get? l=Bu { cls:=.type "tuple",dict:=dd,data:=.seq items n,slots:=sl }/\s.heap.get? b=Bu { cls:=.type "tuple",dict:=dd2,data:=.seq Bz n2,slots:=sl2 } /\
    (∀j (h1:j<items.size) (h2:j<Bz.size),EqAt A.in1 s items[j] Bz[j] (e j))/\(∀j (h1:j<items.size) (h2:j<Bz.size),e j=Bx->jq op A.in1 s items[j] Bz[j] (t j)) /\
    R (.ok (.ret (.bool (r 0)))) s):=by
 rcases ho with rfl | rfl <;> erw[uL,zdl]at hr
 all_goals
  refine .of_wp λprog w A R s h=>?_;obtain⟨hp,g,d,tk,os⟩:=s;obtain⟨hl,hb,he,ht,h⟩:=h;have f2:=AutoSeq1.sub_tuple_tuple;have hZ:(items.toList.zip Bz.toList).length=min items.size Bz.size:=by simp
  wp_walk using wpAny_loadPart' hl,wpAny_loadPart' hb,wpAny_forIn_list _ (λrest b s'=>b.1=Bv/\s'=#[hp,g,d,tk,os]/\∃i,i<=min items.size Bz.size/\rest=(items.toList.zip Bz.toList).drop i /\
   R (.ok (.ret (.bool (r i)))) #[hp,g,d,tk,os]) _
  case turn =>
   rintro⟨y,x⟩ rest b s' ⟨hb',rfl,i,hi,hz,hR⟩
   have hlt:i<(items.toList.zip Bz.toList).length:=by
    rcases dU i (items.toList.zip Bz.toList).length with h' | h'
    ·exact h'
    ·rw[ba h']at hz;cases hz
   have hm:i<min items.size Bz.size:=hZ ▸ hlt;have h1:i<items.size:=ax hm (Nat.min_le_left _ _);have h2:i<Bz.size:=ax hm (Nat.min_le_right _ _);rw[aV hlt]at hz;injection hz with hyx hrest;have hy:y=items[i]:=by have:=congrArg Prod.fst hyx;simpa using this
   have hx:x=Bz[i]:=by have:=congrArg Prod.snd hyx;simpa using this
   subst hy hx;have hri:=hr i ⋯ ⋯;rw[y6 #[h1,h2]]at hri;rw[hri]at hR;refine sN (he i h1 h2 prog w _ _ ?_)
   cases hy:e i with
   | true =>
    rw[hy,y6 rfl]at hR
    wp_walk
    exact#[rfl,rfl,i+1,⋯,hrest,hR]
   | false =>
    rw[hy,y9 aD]at hR
    erw[fH,if_true]
    refine sN (AG ?_);refine sN (ht i h1 h2 hy prog w _ _ ?_)
    wp_walk
    exact#[_,rfl,hR]
  case fin =>
   rintro⟨b1,b2⟩ s' ⟨hb',rfl,i,hi,hz,hR⟩;simp only at hb';subst hb'
   have hge:min items.size Bz.size<=i:=by
    rcases dU i (items.toList.zip Bz.toList).length with h' | h'
    ·rw[aV h']at hz;cases hz
    ·exact hZ ▸ h'
   have hri:=hr i ⋯ ⋯;rw[y9 ⋯]at hri;rw[hri]at hR
   wp_walk
   exact#[_,rfl,hR]
  case h =>
   exact#[rfl,rfl,0,aG _,rfl,h]
def LtAt.lists(ho:LG op){A:tB}{s:sZ}{l b:sX}{items Bz:Array sY}{e t r:Nat->Bool}(hl:s.heap.IsList l items)(hb:s.heap.IsList b Bz)(hr:uL op e t r items.size Bz.size)(hu:A.units<cLine)(he:∀j (h1:j<items.size) (h2:j<Bz.size),EqAt A.in1 s items[j] Bz[j] (e j)) (ht:∀j (h1:j<items.size) (h2:j<Bz.size),e j=Bx->jq op A.in1 s items[j] Bz[j] (t j)):jq op A s (.ref l) (.ref b) (r 0):=λprog w E Q h=>by
 obtain⟨⟨cls,dd,data,sl⟩,h1,hc,n,hd⟩:=id hl;obtain⟨⟨cls2,dd2,data2,sl2⟩,h2,hc2,n2,hd2⟩:=id hb;simp only at hc hd hc2 hd2;subst hc hd hc2 hd2;have z:Value.bool (r 0)≠Value.notImplemented/\Q (.bool (r 0)) s:=#[(λx=>nomatch x),h];rcases id ho with rfl | rfl
 ·exact richCompare_meets_room #[_,h1,rfl] #[_,h2,rfl] F.slot_list_lt F.entry_list_lt (F.args_list_lt_2 _ _) (YQ ho l b items Bz n n2 dd dd2 sl sl2 e t r hr) #[h1,h2,he,ht,z] hu
 ·exact richCompare_meets_room #[_,h1,rfl] #[_,h2,rfl] F.slot_list_gt F.entry_list_gt (F.args_list_gt_2 _ _) (YQ ho l b items Bz n n2 dd dd2 sl sl2 e t r hr) #[h1,h2,he,ht,z] hu
def LtAt.tuples(ho:LG op){A:tB}{s:sZ}{l b:sX}{items Bz:Array sY}{e t r:Nat->Bool}(hl:s.heap.IsTuple l items)(hb:s.heap.IsTuple b Bz)(hr:uL op e t r items.size Bz.size)(hu:A.units<cLine)(he:∀j (h1:j<items.size) (h2:j<Bz.size),EqAt A.in1 s items[j] Bz[j] (e j)) (ht:∀j (h1:j<items.size) (h2:j<Bz.size),e j=Bx->jq op A.in1 s items[j] Bz[j] (t j)):jq op A s (.ref l) (.ref b) (r 0):=λprog w E Q h=>by
 obtain⟨⟨cls,dd,data,sl⟩,h1,hc,n,hd⟩:=id hl;obtain⟨⟨cls2,dd2,data2,sl2⟩,h2,hc2,n2,hd2⟩:=id hb;simp only at hc hd hc2 hd2;subst hc hd hc2 hd2;have z:Value.bool (r 0)≠Value.notImplemented/\Q (.bool (r 0)) s:=#[(λx=>nomatch x),h];rcases id ho with rfl | rfl
 ·exact richCompare_meets_room #[_,h1,rfl] #[_,h2,rfl] F.slot_tuple_lt F.entry_tuple_lt (F.args_tuple_lt_2 _ _) (kC ho l b items Bz n n2 dd dd2 sl sl2 e t r hr) #[h1,h2,he,ht,z] hu
 ·exact richCompare_meets_room #[_,h1,rfl] #[_,h2,rfl] F.slot_tuple_gt F.entry_tuple_gt (F.args_tuple_gt_2 _ _) (kC ho l b items Bz n n2 dd dd2 sl sl2 e t r hr) #[h1,h2,he,ht,z] hu
mutual
def okD:D->D->Prop
 | .int _,.int _=>True
 | .lst l,.lst m=>jY l m
 | .tup l,.tup m=>jY l m
 | _,_=>False
def jY:List D->List D->Prop
 | d::l,e::m=>okD d e/\jY l m
 | _,_=>True
end
mutual
noncomputable def ltD:D->D->Bool
 | .int a,.int b=>decide (a<b)
 | .lst l,.lst m=>ug l m
 | .tup l,.tup m=>ug l m
 | _,_=>Bx
noncomputable def ug:List D->List D->Bool
 | d::l,e::m=>if eqD d e=Bw then ug l m else ltD d e
 | [],_::_=>Bw
 | _,[]=>Bx
end
theorem Qu(l m:List D):zgl (λj=>eqD (l.getD j .non) (m.getD j .non)) (λj=>ltD (l.getD j .non) (m.getD j .non)) (λi=>ug (l.drop i) (m.drop i)) l.length m.length:=by
 intro i b1 b2
 erw[zdl]
 by_cases h:i<l.length/\i<m.length
 ·rw[y6 h,aV h.1,aV h.2,ug];rw[af,af,ah h.1,ah h.2];rfl
 ·rw[y9 h];by_cases h1:i<l.length
  ·have h2:¬ i<m.length:=λz=>h #[h1,z];rw[aV h1,ba (db h2),ug]
   ·simp;lia
   all_goals simp
  ·rw[ba (db h1)];by_cases h2:i<m.length
   ·rw[aV h2,ug];simp;lia
   ·rw[ba (db h2),ug]
    ·simp;lia
    all_goals simp
mutual
theorem Wd:∀d e:D,eqD d e=eqD e d
 | .lst l,e=>by cases e <;> erw[eqD];exact jK l _
 | .tup l,e=>by cases e <;> erw[eqD];exact jK l _
 | .int _,e=>by cases e <;> erw[eqD] <;> exact fW
 | .str _,e=>by cases e <;> erw[eqD] <;> exact fW
 | .bl _,e=>by cases e <;> erw[eqD] <;> exact fW
 | .non,e=>by cases e <;> erw[eqD]
theorem jK:∀l m:List D,uA l m=uA m l
 | [],[]=>rfl
 | [],_::_=>by erw[uA]
 | _::_,[]=>by erw[uA]
 | d::l,e::m=>by erw[uA,Wd d e,jK l m]
end
end in def cm:As->D->D->Bool
 | .Gt,d,e=>ltD e d
 | _,d,e=>ltD d e
end in def cms:As->List D->List D->Bool
 | .Gt,d,e=>ug e d
 | _,d,e=>ug d e
def QJ{op:As}(ho:LG op)(l m:List D):uL op (λj=>eqD (l.getD j .non) (m.getD j .non)) (λj=>cm op (l.getD j .non) (m.getD j .non)) (λi=>cms op (l.drop i) (m.drop i)) l.length m.length:=by
 rcases ho with rfl | rfl
 ·exact Qu l m
 ·intro i b1 b2;have h:=Qu m l i b2 b1
  erw[zdl,cm,cms]at h ⊢
  rw[h,Wd (m.getD i .non)];by_cases q:i<l.length/\i<m.length
  ·rw[y6 q,y6 q.symm]
  ·rw[y9 q,y9 λz=>q z.symm]
theorem zdD:∀{l m:List D} {j:Nat} {d e:D},jY l m->l[j]? = Bu d->m[j]? = Bu e->okD d e
 | d::l,e::m,0,_,_,h,q1,q2=>by
  cases q1;cases q2
  erw[jY]at h
  exact h.1
 | d::l,e::m,j+1,_,_,h,q1,q2=>by
  erw[jY]at h
  exact zdD (j:=j) h.2 q1 q2
section
variable{X:Cx}{By:List (sX × tR)}{σ:St}{H:Hp}{s:sZ}
theorem Wh{op:As}{l m:List D}{xs ys:List V}{its its':List sY}{A:tB}{n:Nat}(hl:Iss X.K H l xs)(hm:Iss X.K H m ys)(r:Vals xs its)(r':Vals ys its')(hn:vG l<n)(ok:jY l m)(ih:∀(d e:D) (x y:V) (u v:sY),dpD d<n->okD d e->Is X.K H d x->Is X.K H e y->RelV x u->RelV y v->jq op A s u v (cm op d e)) :
  ∀j (h1:j<its.toArray.size) (h2:j<its'.toArray.size),jq op A s its.toArray[j] its'.toArray[j] (cm op (l.getD j .non) (m.getD j .non)):=by
 intro j h1 h2;rw[ak]at h1 h2;have e1:=hl.len;have e2:=hm.len;have e3:=r.length;have e4:=r'.length;have g1:l[j]? = Bu l[j]:=ah ⋯;have g2:m[j]? = Bu m[j]:=ah ⋯;generalize l[j]=d at g1;generalize m[j]=e at g2;obtain⟨x,hx,ix⟩:=hl.at g1;obtain⟨y,hy,iy⟩:=hm.at g2;obtain⟨u,hu,ru⟩:=xR r hx;obtain⟨v,hv,rv⟩:=xR r' hy
 have q1:its.toArray[j]=u:=by
  have:=(BB.mp hu).2;simpa using this
 have q2:its'.toArray[j]=v:=by
  have:=(BB.mp hv).2;simpa using this
 rw[q1,q2,af,af,g1,g2];exact ih d e x y u v (cN (zbM g1) hn) (zdD ok g1 g2) ix iy ru rv
theorem zbL{op:As}(ho:LG op)(I:Inv X By σ H s):∀(n:Nat) (A:tB) (d e:D) (x y:V) (u v:sY),A.units+n<cLine->dpD d<n->okD d e->Is X.K H d x->Is X.K H e y->RelV x u->RelV y v->jq op A s u v (cm op d e):=by
 intro n
 induction n with
 | zero=>intro A d e x y u v _ h;exact y4 h (bX _)
 | succ n ih =>
  intro A d e x y u v hu hd ok hx hy rx ry;have hu1:A.units<cLine:=⋯;have huA:A.in1.units+n<cLine:=by show A.units+1+n<cLine;lia
  cases d with
  | int a =>
   cases e with
   | int b =>
    erw[Is]at hx hy
    subst hx hy;obtain⟨t,rfl⟩:=rx;obtain⟨t',rfl⟩:=ry;rcases ho with rfl | rfl
    ·exact λprog w E Q h=>lt_int h
    ·exact λprog w E Q h=>gt_int h
   | _=>erw[okD]at ok
  | lst l =>
   cases e with
   | lst m =>
    erw[Is]at hx hy
    obtain⟨a,xs,rfl,h1,h2⟩:=hx;obtain⟨b,ys,rfl,g1,g2⟩:=hy;cases rx;cases ry;obtain⟨its,r,p,_⟩:=I.list h1;obtain⟨its',r',p',_⟩:=I.list g1
    erw[dpD]at hd
    erw[okD]at ok
    have L1:=h2.len;have L2:=g2.len;have L3:=r.length;have L4:=r'.length;have st:=QJ ho l m;rw[show l.length=its.toArray.size by erw[ak];lia,show m.length=its'.toArray.size by erw[ak];lia]at st
    have r0:=LtAt.lists ho (A:=A) p.isList p'.isList st hu1 (xL h2 g2 r r' (n:=n) ⋯ λd e x y u v q1 q2 q3 q4 q5=>jT I n A.in1 d e x y u v huA q1 q2 q3 q4 q5)
     (λj h1 h2 _=>Wh (n:=n) (A:=A.in1) ‹_› g2 r r' ⋯ ok (λd e x y u v q1 q2 q3 q4 q5 q6=>ih A.in1 d e x y u v huA q1 q2 q3 q4 q5 q6) j h1 h2)
    rcases id ho with rfl | rfl <;> exact r0
   | _=>erw[okD]at ok
  | tup l =>
   cases e with
   | tup m =>
    erw[Is]at hx hy
    obtain⟨a,xs,rfl,h1,h2⟩:=hx;obtain⟨b,ys,rfl,g1,g2⟩:=hy;cases rx;cases ry;obtain⟨its,r,p,_⟩:=I.tuple h1;obtain⟨its',r',p',_⟩:=I.tuple g1
    erw[dpD]at hd
    erw[okD]at ok
    have L1:=h2.len;have L2:=g2.len;have L3:=r.length;have L4:=r'.length;have st:=QJ ho l m;rw[show l.length=its.toArray.size by erw[ak];lia,show m.length=its'.toArray.size by erw[ak];lia]at st
    have r0:=LtAt.tuples ho (A:=A) p p' st hu1 (xL h2 g2 r r' (n:=n) ⋯ λd e x y u v q1 q2 q3 q4 q5=>jT I n A.in1 d e x y u v huA q1 q2 q3 q4 q5)
     (λj h1 h2 _=>Wh (n:=n) (A:=A.in1) ‹_› g2 r r' ⋯ ok (λd e x y u v q1 q2 q3 q4 q5 q6=>ih A.in1 d e x y u v huA q1 q2 q3 q4 q5 q6) j h1 h2)
    rcases id ho with rfl | rfl <;> exact r0
   | _=>erw[okD]at ok
  | non=>cases e <;> erw[okD]at ok
  | bl _=>cases e <;> erw[okD]at ok
  | str _=>cases e <;> erw[okD]at ok
def UZ(I:Inv X By σ H s):∀(n:Nat) (A:tB) (d e:D) (x y:V) (u v:sY),A.units+n<cLine->dpD d<n->okD d e->Is X.K H d x->Is X.K H e y->RelV x u->RelV y v->LtAt A s u v (ltD d e):=zbL (.inl rfl) I
def zfc(K:sV):R2:=λx y H Q=>∃d e,Is K H d x/\Is K H e y/\dpD d<50/\okD d e/\Q (.bl (ltD d e)) H
theorem zaT(hu:X.A.units+100<cLine):OpR X (tG .Lt) (zfc X.K):=by intros x y v u Q I rx ry h;obtain⟨d,e,hx,hy,hd,ok,q⟩:=h;exact UZ I 50 X.A d e x y v u ⋯ hd ok hx hy rx ry X.prog X.w X.xe _ #[.bl _,H,I,rfl,q]
end
def Jq{K:sV}{x y:V}{H:Hp}{Q:VK}{d e:D}(h1:Is K H d x)(h2:Is K H e y)(h3:dpD d<50)(h4:okD d e)(q:Q (.bl (ltD d e)) H):zfc K x y H Q:=#[d,e,h1,h2,h3,h4,q]
end in def ltI:List Int->List Int->Bool
 | a::l,b::m=>if a=b then ltI l m else decide (a<b)
 | [],_::_=>Bw
 | _,[]=>Bx
theorem uq:∀(l m:List Int),jY (l.map D.int) (m.map D.int)
 | [],_=>by erw[aO,jY]
 | _::_,[]=>by erw[aO,av,jY]
 | a::l,b::m=>by erw[av,jY,okD,true_and];exact uq l m
theorem Yk:∀(l m:List Int),ug (l.map D.int) (m.map D.int)=ltI l m
 | [],[]=>by erw[aO,ug,ltI]
 | [],_::_=>by erw[aO,av,ug,ltI]
 | _::_,[]=>by erw[aO,av,ug,ltI]
 | a::l,b::m=>by
  erw[av,ug,ltI,eqD,ltD,Yk l m,beq_iff_eq]
mutual
def xB:D->Prop
 | .lst _=>False
 | .tup l=>z8 l
 | _=>True
def z8:List D->Prop
 | []=>True
 | d::l=>xB d/\z8 l
end
def Vo{K:sV}{H:Hp}{a p:sX}{xs ys zs:List V}(hp:H p=Bu (.lst ys))(h:SqT K H a xs):SqT K (upd H p (.lst zs)) a xs:=by
 rcases h with (h | ⟨o,h⟩) | h
 ·refine .inl (.inl ?_);rw[zq (λe=>by rw[e,hp]at h;cases h)];exact h
 ·refine .inl (.inr #[o,?_]);rw[zq (λe=>by rw[e,hp]at h;cases h)];exact h
 ·exact .inr h
mutual
theorem Is.updL{K:sV}{H:Hp}{p:sX}{ys zs:List V}(hp:H p=Bu (.lst ys)):∀(d:D) (v:V),xB d->Is K H d v->Is K (upd H p (.lst zs)) d v
 | .non,v,_,h=>by erw[Is]at h ⊢;exact h
 | .bl b,v,_,h=>by erw[Is]at h ⊢;exact h
 | .int b,v,_,h=>by erw[Is]at h ⊢;exact h
 | .str b,v,_,h=>by erw[Is]at h ⊢;exact h
 | .lst l,v,f,h=>by erw[xB]at f
 | .tup l,v,f,h=>by
  erw[Is]at h ⊢
  erw[xB]at f
  obtain⟨a,xs,e1,e2,e3⟩:=h;exact#[a,xs,e1,Vo hp e2,Iss.updL hp l xs f e3]
theorem Iss.updL{K:sV}{H:Hp}{p:sX}{ys zs:List V}(hp:H p=Bu (.lst ys)):∀(l:List D) (vs:List V),z8 l->Iss K H l vs->Iss K (upd H p (.lst zs)) l vs
 | [],vs,_,h=>by erw[Iss]at h ⊢;exact h
 | d::l,vs,f,h=>by
  erw[Iss]at h ⊢
  erw[z8]at f
  obtain⟨v,r,e1,e2,e3⟩:=h;exact#[v,r,e1,Is.updL hp d v f.1 e2,Iss.updL hp l r f.2 e3]
end
theorem ve:∀{l:List D},(∀d ∈ l,xB d)->z8 l
 | [],_=>by erw[z8]
 | d::l,h=>by erw[z8];exact#[h d (by simp),ve λe he=>h e (by simp [he])]
theorem ZZ{n:Nat}:∀{l:List D},(∀d ∈ l,dpD d<=n)->vG l<=n
 | [],_=>by erw[vG];lia
 | d::l,h=>by
  have h1:=h d (by simp);have h2:=ZZ (n:=n) (l:=l) λe he=>h e (by simp [he])
  erw[vG]
  lia
def LsA(K:sV)(H:Hp)(a:sX)(ds:List D):Prop:=∃xs,H a=Bu (.lst xs)/\Iss K H ds xs
def LsA.same{K:sV}{H H':Hp}{a:sX}{ds:List D}(h:LsA K H a ds)(e:Same H H'):LsA K H' a ds:=let #[xs,h1,h2]:=h; #[xs,e _ _ h1,Iss.same e _ _ h2]
def LsA.is{K:sV}{H:Hp}{a:sX}{ds:List D}(h:LsA K H a ds):Is K H (.lst ds) (.ref a):=by
 obtain⟨xs,h1,h2⟩:=h
 erw[Is]
 exact#[a,xs,rfl,SqL.of h1,h2]
def LsA.nil{K:sV}{H:Hp}{a:sX}:LsA K (upd H a (.lst [])) a []:=#[[],zc,by erw[Iss]]
def LsA.snoc{K:sV}{H:Hp}{a:sX}{ds:List D}{d:D}{xs:List V}{v:V}(h1:H a=Bu (.lst xs))(h2:Iss K H ds xs)(f:z8 ds)(fd:xB d)(hv:Is K H d v):LsA K (upd H a (.lst (xs ++ [v]))) a (ds ++ [d]) :=
 #[_,zc,Iss.append (Iss.updL h1 _ _ f h2) (by erw[Iss];exact#[v,[],rfl,Is.updL h1 _ _ fd hv,rfl])]
def Is.tup{K:sV}{H:Hp}{p:sX}{vs:List V}{ds:List D}(hp:H p=Bv)(h:Iss K H ds vs):Is K (upd H p (.tup vs)) (.tup ds) (.ref p):=by
 erw[Is]
 exact#[p,vs,rfl,SqT.of zc,Iss.same (zd hp) _ _ h]
end in abbrev dS(l:()):D:=.str (tx l)
end in abbrev zu:=() × ()
end in def dR(r:zu):D:=.tup [dS r.1,dS r.2]
def zeS{K:sV}{H:Hp}{r:zu}{v:V}(h:Is K H (dR r) v):∃p,v=.ref p/\SqT K H p [.str (tx r.1),.str (tx r.2)]:=by
 erw[dR,Is,Iss]at h
 obtain⟨a,xs,e,hs,v1,r1,rfl,rfl,v2,r2,rfl,rfl,rfl⟩:=h;exact#[a,e,hs]
def zfW{K:sV}{H:Hp}{p:sX}{l m:()}(h:SqT K H p [.str (tx l),.str (tx m)]):Is K H (dR (l,m)) (.ref p):=by
 erw[dR,Is,Iss]
 exact#[p,_,rfl,h,_,_,rfl,rfl,_,_,rfl,rfl,rfl]
def zbq(r:zu):xB (dR r):=by erw[dR,xB,z8,and_self]
theorem zft(r:zu):dpD (dR r)<=1:=by erw[dR,dpD,vG];lia
def Zx(rs:List zu):z8 (rs.map dR):=ve λd h=>by obtain⟨r,_,rfl⟩:=BC.mp h;exact zbq r
def zdp(rs:List zu):vG (rs.map dR)<=1:=ZZ λd h=>by obtain⟨r,_,rfl⟩:=BC.mp h;exact zft r
end in abbrev N3:=Nat × Nat × Nat
end in def d3(t:N3):D:=.tup [.int (t.1:Nat),.int (t.2.1:Nat),.int (t.2.2:Nat)]
def zfG{K:sV}{H:Hp}{t:N3}{v:V}(h:Is K H (d3 t) v):∃p,v=.ref p/\SqT K H p [.int (t.1:Nat),.int (t.2.1:Nat),.int (t.2.2:Nat)]:=by
 erw[d3,Is,Iss]at h
 obtain⟨a,xs,e,hs,v1,r1,rfl,rfl,v2,r2,rfl,rfl,v3,r3,rfl,rfl,rfl⟩:=h;exact#[a,e,hs]
def zdn{K:sV}{H:Hp}{i j k:Nat}:Iss K H [.int (i:Nat),.int (j:Nat),.int (k:Nat)] [.int (i:Nat),.int (j:Nat),.int (k:Nat)]:=by
 erw[Iss,Is]
 exact#[_,_,rfl,rfl,_,_,rfl,rfl,_,_,rfl,rfl,rfl]
def zcE(t:N3):xB (d3 t):=by erw[d3,xB,z8,and_self]
def Vi(rs:List N3):z8 (rs.map d3):=ve λd h=>by obtain⟨r,_,rfl⟩:=BC.mp h;exact zcE r
theorem Iss.get{K:sV}{H:Hp}{l:List D}{vs:List V}{j:Nat}{v:V}(h:Iss K H l vs)(q:vs[j]? = Bu v):∃d,l[j]? = Bu d/\Is K H d v:=by have hj:=(BB.mp q).1;have hl:=h.len;have g1:l[j]? = Bu l[j]:=ah ⋯;obtain⟨x,hx,ix⟩:=h.at g1;rw[q]at hx;cases hx;exact#[_,g1,ix]
def Iss.getR{K:sV}{H:Hp}{rs:List zu}{vs:List V}{j:Nat}{v:V}(h:Iss K H (rs.map dR) vs)(q:vs[j]? = Bu v):∃r p,rs[j]? = Bu r/\v=.ref p/\SqT K H p [.str (tx r.1),.str (tx r.2)]:=by obtain⟨d,e,i⟩:=h.get q;rw[ar]at e;obtain⟨r,hr,rfl⟩:=BH.mp e;obtain⟨p,e1,e2⟩:=zeS i;exact#[r,p,hr,e1,e2]
def Iss.get3{K:sV}{H:Hp}{rs:List N3}{vs:List V}{j:Nat}{v:V}(h:Iss K H (rs.map d3) vs)(q:vs[j]? = Bu v):∃r p,rs[j]? = Bu r/\v=.ref p/\SqT K H p [.int (r.1:Nat),.int (r.2.1:Nat),.int (r.2.2:Nat)]:=by obtain⟨d,e,i⟩:=h.get q;rw[ar]at e;obtain⟨r,hr,rfl⟩:=BH.mp e;obtain⟨p,e1,e2⟩:=zfG i;exact#[r,p,hr,e1,e2]
theorem QZ{α:Type}(l:List α){a b:Int}(h0:0<=a)(h1:a<=b):cut l (Bu a) (Bu b)=(l.drop a.toNat).take (b - a).toNat:=by
 by_cases h2:b<=l.length
 ·exact Xd l h0 h1 h2
 ·obtain⟨m,rfl⟩:=bJ h0;obtain⟨n,rfl⟩:=bJ (by lia:0<=b);unfold cut;rw[HT.sIx_nat,HT.sIx_nat,dc (by lia:l.length<=n)];have e:(((n:Nat):Int) - ((m:Nat):Int)).toNat=n - m:=⋯;have e2:((m:Nat):Int).toNat=m:=rfl;rw[e,e2,bc (l:=l.drop m) (by rw[aS];lia)];by_cases hm:m<=l.length
  ·rw[cp hm,bc (by rw[aS];lia)]
  ·rw[dc ⋯,ba (al _),ba ⋯,List.take_nil]
def U3(ns:List Int){a b:Int}(h0:0<=a)(h1:a<=b):Kl (ns.map V.int) (Bu a) (Bu b)=((ns.drop a.toNat).take (b - a).toNat).map V.int:=by have e:Kl (ns.map V.int) (Bu a) (Bu b)=cut (ns.map V.int) (Bu a) (Bu b):=rfl;rw[e,QZ _ h0 h1,List.map_take,List.map_drop]
open Classical in
section
variable{X:Cx}{By:List (sX × tR)}{σ:L2.St}{H:Hp}{s:sZ}
open Classical in
end
structure DM(P:tu)(w:tz)(K:sV)(mg:tw->Option sY)(base:tE)(CX:CXT)(k:Nat)(C:sX)(m:tw)(ps:List tw)(sp:Sp):Prop where
 ex:∃f fd,zdZ K C m f/\zY P w K mg base CX k f fd ps sp/\Binds K fd ps []
structure DMk(P:tu)(w:tz)(K:sV)(mg:tw->Option sY)(base:tE)(CX:CXT)(k:Nat)(C:sX)(ps:List tw)(sp:Sp):Prop where
 ex:∃f fd,Mk K C f/\zY P w K mg base CX k f fd ps sp/\Binds K fd ps []
section
variable{X:Cx}{k j:Nat}{C:sX}{m:tw}{ps:List tw}{sp:Sp}{o e:tD}{es:List tD}{ta:TE}{t:TA}{apos pos p:Ad}{x:tw}{E:XK}
def me0(D:DM X.prog X.w X.K X.mg X.base CX0 k C m ps sp)(c:Cls X.K C)(hr:Room j X.A)(he:PE X o ta){pl:Bl Bool}(ht:eval (.Call (.Attribute o m apos) [] [] pos) X.env=(do
      let ov <- eval o X.env
      standAt apos.atName
      let (f,first) <- holding [ov] (getMethod ov m pl)
      callWith pos f first (tK pos (sS [] X.env)) (tT pos (tH [] X.env))):=by rfl) (hj:k<=j:=by decide):PE X (.Call (.Attribute o m apos) [] [] pos) (Z1 C m sp [] E0 ta xx):=by obtain⟨f,fd,hm,F,hb⟩:=D.ex;exact KI he c hm F (hr.mono hj) hb .nil XR ht
def me1(D:DM X.prog X.w X.K X.mg X.base CX0 k C m ps sp)(c:Cls X.K C)(hr:Room j X.A)(he:PE X o ta)(ha:PA X (e::es) t){pl:Bl Bool}(hst:sS (e::es) X.env=(Bx,eval e X.env)::sS es X.env:=by rfl) (hpl:(tK pos (sS es X.env)).any (·.1)=Bx:=by rfl)(ht:eval (.Call (.Attribute o m apos) (e::es) [] pos) X.env=(do
      let ov <- eval o X.env
      standAt apos.atName
      let (f,first) <- holding [ov] (getMethod ov m pl)
      callWith pos f first (tK pos (sS (e::es) X.env)) (tT pos (tH [] X.env))):=by rfl) (hj:k<=j:=by decide):PE X (.Call (.Attribute o m apos) (e::es) [] pos) (Z1 C m sp [] E0 ta t):=by obtain⟨f,fd,hm,F,hb⟩:=D.ex;exact zb2 he c hm F (hr.mono hj) hb .nil XR ha hst hpl ht
def mkC(D:DMk X.prog X.w X.K X.mg X.base CX0 k C ps sp)(hr:Room j X.A)(hg:Gl X x)(hm:X.mg x=Bu (.ref C))(ha:PA X (e::es) t)(hdb:(x ==("__debug__" : tw))=Bx:=by decide)(he:sS (e::es) X.env=(Bx,eval e X.env)::sS es X.env:=by rfl)(hpl:(tK pos (sS es X.env)).any (·.1)=Bx:=by rfl) (hj:k+1<=j:=by decide):PE X (.Call (.Name x p) (e::es) [] pos) (U8 C sp [] E0 t):=by obtain⟨f,fd,M,F,hb⟩:=D.ex;exact U7 M F (hr.mono hj) hg hm hb .nil XR ha hdb he hpl
end
section
variable{X:Cx}
end
section
variable{X:Cx}{k j:Nat}{C:sX}{m:tw}{ps:List tw}{sp:Sp}{o e:tD}{es:List tD}{ta:TE}{t:TA}{apos pos p:Ad}
end
def zw(Fam:sX->Prop)(m:tw)(sp:sX->Sp)(dvs:List V)(E:XK)(ta:TE)(t:TA):TE:=λσ H Q=>ta σ H λx H1=>∃C a dx fs,Fam C/\x=.ref a/\H1 a=Bu (.ins C dx fs)/\fs.lookup m=Bv /\
 t σ H1 λvs H2=>sp C (x::(vs ++ dvs)) H2 Q E
structure DMF(P:tu)(w:tz)(K:sV)(mg:tw->Option sY)(base:tE)(CX:CXT)(k:Nat)(Fam:sX->Prop)(m:tw)(ps:List tw)(sp:sX->Sp):Prop where
 ex:∀C,Fam C->Cls K C/\DM P w K mg base CX k C m ps (sp C)
section
variable{X:Cx}{k j:Nat}{Fam:sX->Prop}{m:tw}{ps:List tw}{sp:sX->Sp}{o e:tD}{es:List tD}{ta:TE}{t:TA}{apos pos p:Ad}{x:tw}{E:XK}
def zg7(D:DMF X.prog X.w X.K X.mg X.base CX0 k Fam m ps sp)(hr:Room j X.A)(he:PE X o ta){pl:Bl Bool}(ht:eval (.Call (.Attribute o m apos) [] [] pos) X.env=(do
      let ov <- eval o X.env
      standAt apos.atName
      let (f,first) <- holding [ov] (getMethod ov m pl)
      callWith pos f first (tK pos (sS [] X.env)) (tT pos (tH [] X.env))):=by rfl) (hj:k<=j:=by decide):PE X (.Call (.Attribute o m apos) [] [] pos) (zw Fam m sp [] E0 ta xx):=by intros Q I h;refine cb (pl:=pl) (thn (he By s σ H _ I h) λu s1=>el5 λx H1 I1 rx q_z=>?_) ht;obtain⟨C,a,dx,fs,fam,ex,ea,l,q⟩:=q_z;subst ex;obtain rfl:u=u6 a:=rx;obtain⟨c,⟨f,fd,hm,F,hb⟩⟩:=D.ex C fam;refine wl I1 ea c hm l ?_;exact fZ (first:=[.ref a]) I1.kIn hm.kp (kD (us:=[.ref a]) (vs:=[.ref a]) F (hr.mono hj) hb .nil XR I1 (.cons rfl .nil) q)
def zda(D:DMF X.prog X.w X.K X.mg X.base CX0 k Fam m ps sp)(hr:Room j X.A)(he:PE X o ta)(ha:PA X (e::es) t){pl:Bl Bool}(hst:sS (e::es) X.env=(Bx,eval e X.env)::sS es X.env:=by rfl) (hpl:(tK pos (sS es X.env)).any (·.1)=Bx:=by rfl)(ht:eval (.Call (.Attribute o m apos) (e::es) [] pos) X.env=(do
      let ov <- eval o X.env
      standAt apos.atName
      let (f,first) <- holding [ov] (getMethod ov m pl)
      callWith pos f first (tK pos (sS (e::es) X.env)) (tT pos (tH [] X.env))):=by rfl) (hj:k<=j:=by decide):PE X (.Call (.Attribute o m apos) (e::es) [] pos) (zw Fam m sp [] E0 ta t):=by intros Q I h;refine cb (pl:=pl) (thn (he By s σ H _ I h) λu s1=>el5 λx H1 I1 rx q_z=>?_) ht;obtain⟨C,a,dx,fs,fam,ex,ea,l,q⟩:=q_z;subst ex;obtain rfl:u=u6 a:=rx;obtain⟨c,⟨f,fd,hm,F,hb⟩⟩:=D.ex C fam;refine wl I1 ea c hm l ?_;refine bT (first:=[.ref a]) (h₀:=X.base) I.ok.mod.kin hm.kp (thn (ha pos By s1 σ H1 _ I1 q) λus s2=>el5 λvs H2 I2 r q2=>#[I2.kIn,?_]) hst hpl;exact kD (us:=.ref a::us) (vs:=.ref a::vs) F (hr.mono hj) hb .nil XR I2 (.cons rfl r) q2
end
section
variable{X:Cx}
theorem X7:∀{ns:List Int} {its:List sY},Vals (ns.map V.int) its->Be its ns
 | [],_,.nil=>.nil
 | n::ns,_,.cons r t=>by
  obtain⟨tk,rfl⟩:=r;exact .cons n tk (X7 t)
def yk(K:sV):List V->Hp->VK->Prop:=λxs H Q=>∃(p:sX) (ns:List Int),xs=[.ref p]/\SqL K H p (ns.map V.int)/\Q (.int ns.sum) H
def zdE(hc:X.calm=Bw):wK X (.builtin "sum") (yk X.K):=by
 intros xs us Q I r h;obtain⟨p,ns,rfl,hS,q⟩:=h;obtain⟨u,rfl,ru⟩:=wx r;cases ru;obtain⟨its,rv,pl,hz⟩:=I.list hS;have hh:X.A.handled=Bv:=I.ok.hd hc;have ia:=X7 rv;obtain⟨ps,e⟩:=ia.allInts.items
 have en:ps.toList.map (·.1)=ns:=by
  rw[<- nums_intItems,<- e];exact ia.numsOf
 refine sum_intListG hh (by rw[<- e];exact pl.isList) λh' tk t' hk=>?_;rw[preSum_eq,bc (by simp),en];exact#[.int ns.sum,H,I.kept hk,#[_,rfl],q]
end
theorem VN(l:()):((r8 Bv Bv (-1) (tx l).length).filterMap ((tx l).cps[·]?))=l.reverse:=by
 rw[zK,picked_rev];have e:(tx l).cps=l.toArray:=rfl;rw[e];apply eM;intro i
 have h:((aN l.length).map λk=>l.length - 1 - k).filterMap (l.toArray[·]?)=(aN l.length).map λk=>l.getD (l.length - 1 - k) 0:=by
  rw[filterMap_get,du]
  ·refine cz λk _=>?_;show l.toArray.getD (l.length - 1 - k) 0=_;simp [fR,List.getD];split <;> simp_all
  ·intro i hi;obtain⟨k,hk,rfl⟩:=BC.mp hi;have:=BK.mp hk;show _<l.toArray.size;rw[ak];lia
 rw[h];by_cases hi:i<l.length
 ·rw[bz hi,ar,d9 hi];show Bu (l.getD (l.length - 1 - i) 0)=_;rw[af,ah ⋯];rfl
 ·rw[bh (by simp;lia),bh (by simp;lia)]
def yl(te ts:TE):TE:=λσ H Q=>te σ H λx H1=>ts σ H1 λy H2=>y=.int (-1)/\∃l:(),x=.str (tx l)/\l.length<=sU/\Q (.str (tx l.reverse)) H2
section
variable{X:Cx}{e st:tD}{te ts:TE}{pos p2:Ad}
def zbg(he:PE X e te)(hs:PE X st ts):PE X (.Subscript e (.Slice Bv Bv (Bu st) p2) pos) (yl te ts):=by
 intros Q I h;refine Bo (thn (he By s σ H _ I h) λv s1=>el5 λx H1 I1 r1 q1=>?_);refine wpAny_Slice ?_;rw[evalPart_none];refine sP (sP ?_);rw[evalPart_some];refine thn (hs By s1 σ H1 _ I1 q1) λu s2=>el5 λy H2 I2 r2 q_z=>?_;obtain⟨ey,l,ex,hl,q2⟩:=q_z;subst ey ex;obtain⟨t,rfl⟩:=r1;obtain⟨tk,rfl⟩:=r2;have I4:Inv X By σ H2 { s2 with heap:=s2.heap.push { cls:=.type "slice",data:=.fields (u9 [.none,.none,.int (-1) tk]) } }:=I2.kept (t':=s2.toks) λb ob q=>aa _ q;show tm (model X.prog X.w) X.A (AW e (.Slice Bv Bv (Bu st) p2) (.str (tx l) t) (.ref s2⁻¹)) (EP X By σ Q) X.xe { s2 with heap:=s2.heap.push { cls:=.type "slice",data:=.fields (u9 [.none,.none,.int (-1) tk]) } };refine tail_any (ops:=[.ref s2⁻¹,.str (tx l) t]) (typeIs_str _ (tx l) t) slot_str_getitem.lookup ?_ (by with_unfolding_all rfl);refine AE (l:=Bv) (u:=Bv) (st:=Bu (-1,tk)) (Heap.IsSliceOf.new ..) rfl ?_;unfold sliceMade slicePicked
 have hc':¬ (((Bu ((-1:Int),tk)).map (·.1)).getD 1 == 1 && (r8 ((Bv:Option (Int × Ay)).map (·.1)) ((Bv:Option (Int × Ay)).map (·.1)) (((Bu ((-1:Int),tk)).map (·.1)).getD 1) (tx l).length).length ==(tx l).length)=Bw:=by
  have:(((Bu ((-1:Int),tk)).map (·.1)).getD 1 == 1)=Bx:=rfl;rw[this];simp
 rw[y9 hc']
 have e:Str.mk ((r8 Bv Bv (-1) (tx l).length).filterMap ((tx l).cps[·]?)).toArray=tx l.reverse:=by
  rw[VN]
 show (Str.mk ((r8 Bv Bv (-1) (tx l).length).filterMap ((tx l).cps[·]?)).toArray).length<=sU/\_;rw[e];refine#[by rw[zK,bE];exact hl,?_]
 exact#[.str (tx l.reverse),H2,I4.tok _,#[_,by
  show Value.str (Str.mk ((r8 Bv Bv (-1) (tx l).length).filterMap ((tx l).cps[·]?)).toArray) _=_
  rw[e]],q2]
end
structure zgU(K:sV)(C:sX)(m:tw)(f:sX):Prop where
 sg:cF K (.ref C) "__getattribute__" = Bu (Bu (.builtin "type.__getattribute__"))
 rd:gw K C (.type "type")=Bw
 fc:gx K (.ref C) (.type "type") m=Bu (.val (.ref f))
 kp:aI K (.ref f)=Bw
structure DC(P:tu)(w:tz)(K:sV)(mg:tw->Option sY)(base:tE)(CX:CXT)(k:Nat)(C:sX)(m:tw)(ps:List tw)(sp:Sp):Prop where
 ex:∃f fd,zgU K C m f/\zY P w K mg base CX k f fd ps sp/\Binds K fd ps []
section
variable{X:Cx}{k j:Nat}{C:sX}{m x:tw}{ps:List tw}{sp:Sp}{e:tD}{es:List tD}{t:TA}{apos pos p:Ad}
def zbU(D:DC X.prog X.w X.K X.mg X.base CX0 k C m ps sp)(hr:Room j X.A)(hg:Gl X x)(hm:X.mg x=Bu (.ref C))(ha:PA X (e::es) t){pl:Bl Bool}(hdb:(x ==("__debug__" : tw))=Bx:=by decide)(hst:sS (e::es) X.env=(Bx,eval e X.env)::sS es X.env:=by rfl) (hpl:(tK pos (sS es X.env)).any (·.1)=Bx:=by rfl)(ht:eval (.Call (.Attribute (.Name x p) m apos) (e::es) [] pos) X.env=(do
      let ov <- eval (.Name x p) X.env
      standAt apos.atName
      let (f,first) <- holding [ov] (getMethod ov m pl)
      callWith pos f first (tK pos (sS (e::es) X.env)) (tT pos (tH [] X.env))):=by rfl) (hj:k<=j:=by decide):PE X (.Call (.Attribute (.Name x p) m apos) (e::es) [] pos) (wL sp [] E0 t):=by obtain⟨f,fd,cm,F,hb⟩:=D.ex;have hn:PE X (.Name x p) (tC (.ref C)):=yC hg hm rfl hdb;intros Q I h;refine cb (pl:=pl) (thn (hn By s σ H (λy H1=>y=.ref C/\H1=H) I #[rfl,rfl]) λu s1=>el5 λy H1 I1 ry q_z=>?_) ht;obtain⟨ey,eH⟩:=q_z;subst ey eH;obtain rfl:u=u6 C:=ry;refine PySem.W.method_cls I1.kIn cm.sg (PySem.W.cls_value I1.kIn cm.rd cm.fc rfl ?_);refine bT (first:=[]) (h₀:=X.base) I.ok.mod.kin cm.kp (thn (ha pos By _ σ H1 _ (I1.tok _) h) λus s2=>el5 λvs H2 I2 r q2=>#[I2.kIn,?_]) hst hpl;exact kD (us:=us) (vs:=vs) F (hr.mono hj) hb .nil XR I2 r q2
def zv:V->List V->Hp->VK->Prop:=λx xs H Q=>∃(z y:tw) (i:Nat),x=.str z/\xs=[.str y]/\PySem.Txt.find z y=(i:Int)/\Q (.int (i:Nat)) H
theorem JB:MtR X "str.index" zv:=by
 intros x xs v us Q I rx rv h;obtain⟨z,y,i,rfl,rfl,hf,q⟩:=h;obtain⟨t,rfl⟩:=rx;obtain⟨u,rfl,t',rfl⟩:=wx rv;unfold PySem.Txt.find at hf
 cases ho:Builtin.Str.occurrences z y 0 z.length 1 with
 | nil=>rw[ho]at hf;dsimp only at hf;lia
 | cons a r =>
  rw[ho]at hf;have:a=i:=by dsimp only at hf;lia
  subst this;exact PySem.SC.index ho #[.int _,H,I.tok _,#[_,rfl],q]
end
section
variable{prog:tu}{w:tz}{A:tB}{E:sY->sZ->Prop}{s:sZ}
def vt{h h':tE}{a:sX}{ty:String}{x:tw}{t:Ay}{i:Nat}(y:h.IsStrIter a ty x t i)(e:∀o,h.get? a=Bu o->h'.get? a=Bu o):h'.IsStrIter a ty x t i:=let #[o,ho,r]:=y; #[o,e o ho,r]
def uw{h h':tE}{a t:sX}{i:Nat}(y:h.IsTupleIter a t i)(e:∀o,h.get? a=Bu o->h'.get? a=Bu o):h'.IsTupleIter a t i:=let #[o,ho,r]:=y; #[o,e o ho,r]
def zaY{h h':tE}{a:sX}{xs:Array sY}(y:h.IsTuple a xs)(e:∀o,h.get? a=Bu o->h'.get? a=Bu o):h'.IsTuple a xs:=let #[o,ho,r]:=y; #[o,e o ho,r]
def sit(x:tw):tM x="str_ascii_iterator"\/tM x="str_iterator":=by
 unfold tM;split
 ·exact .inl rfl
 ·exact .inr rfl
def jj{it:sX}{x:tw}{t:Ay}{i c:Nat}{Q:sY->sZ->Prop}(hit:s.heap.IsStrIter it (tM x) x t i)(hx:x.cps[i]? = Bu c)(hQ:∀h',h'.IsStrIter it (tM x) x t (i+1)->Heap.SameBut it s.heap h'->Q (.str ⟨#[c]⟩ s.toks) { s with heap:=h',toks:=s.toks+1 }) :
  tm (model prog w) A (Builtin.SmallTypes.nextOf (.ref it)) Q E s:=by
 rcases sit x with e | e
 ·rw[e]at hit hQ;exact wpAny_nextOf_ascii_item hit hx hQ
 ·rw[e]at hit hQ;exact wpAny_nextOf_wide_item hit hx hQ
def j7{it:sX}{x:tw}{t:Ay}{i:Nat}{Q:sY->sZ->Prop}(hh:A.handled=Bv)(hit:s.heap.IsStrIter it (tM x) x t i)(hx:x.cps[i]? = Bv)(hE:∀h' e,Heap.ExtBut it s.heap h'->(∃o,h'.get? e=Bu o/\o.cls=.type "StopIteration")->E (.ref e) { s with heap:=h' }) :
  tm (model prog w) A (Builtin.SmallTypes.nextOf (.ref it)) Q E s:=by
 rcases sit x with e | e
 ·rw[e]at hit;exact wpAny_nextOf_ascii_end hh hit hx hE
 ·rw[e]at hit;exact wpAny_nextOf_wide_end hh hit hx hE
def jV{it t:sX}{i:Nat}{items:Array sY}{x:sY}{Q:sY->sZ->Prop}(hit:s.heap.IsTupleIter it t i)(ht:s.heap.IsTuple t items)(hx:items[i]? = Bu x)(hQ:∀h',h'.IsTupleIter it t (i+1)->Heap.SameBut it s.heap h'->Q x { s with heap:=h' }) :
  tm (model prog w) A (Builtin.SmallTypes.nextOf (.ref it)) Q E s:=by
 obtain⟨o,ho,hc,hd⟩:=id hit;obtain⟨ol,hol,_,nl,hdl⟩:=ht;unfold Builtin.SmallTypes.nextOf
 refine sN (wpAny_callSpecial?_slot (name:=bK "__next__") hit.typeIs F.slot_tuple_iterator_next
  (AF F.slot_tuple_iterator_next hit.typeIs F.entry_tuple_iterator_next ?_ (F.args_tuple_iterator_next_1 _)))
 show tm _ _ (field (.ref it) 0 >>= _) _ _ s;refine sN (tL ho hd (x:=.ref t) rfl ?_);show tm _ _ (if (u6 t == u5)=Bw then _ else _) _ _ s;rw[y9 (show ¬ ((u6 t == u5)=Bw)from aD)];show tm _ _ (field (.ref it) 1 >>= _) _ _ s;refine sN (tL ho hd (x:=.int i 0) rfl ?_);show tm _ _ (seqItems? (.ref t) >>= _) _ _ s;refine sN (tN hol hdl ?_)
 erw[az,hx]
 refine sN (Af ho hd (by simp) (sP #[x,rfl,sP (hQ _ ?_ (Heap.SameBut.update ..))]))
 exact#[_,ce _ ho (Obj.isFreed_of_fields (Obj.data_mapFields hd _)),(Obj.cls_mapFields ..).trans hc,by
  rw[Obj.data_mapFields hd];simp [rawInt]]
structure zeR(z TI TO i1 i2 l2:sX):Prop extends zax z TI TO i1 i2 where
 l2z:l2≠z
 l2TO:l2≠TO
 l2i1:l2≠i1
 l2i2:l2≠i2
def KJ{z TI TO i1 i2 l2:sX}{k c:Nat}{X:tw}{tx:Ay}{ys:Array sY}{y a b:sY}{Q:sY->sZ->Prop}(D:zeR z TI TO i1 i2 l2)(hz:AB s.heap z TI TO .none) (hTI:tZ s.heap TI (.ref i1) (.ref i2)) (hTO:tZ s.heap TO a b)(h1:s.heap.IsStrIter i1 (tM X) X tx k) (h2:s.heap.IsTupleIter i2 l2 k) (hl2:s.heap.IsTuple l2 ys) (hx:X.cps[k]? = Bu c) (hy:ys[k]? = Bu y)(hQ:∀h' t',AB h' z TI TO (rawInt s⁻¹)->tZ h' TO (.str ⟨#[c]⟩ t') y->h'.IsStrIter i1 (tM X) X tx (k+1)->h'.IsTupleIter i2 l2 (k+1)->tZ h' s⁻¹ (.str ⟨#[c]⟩ t') y->h'.objs.size=s⁻¹+1 ->
   (∀c o,c≠z->c≠TO->c≠i1->c≠i2->s.heap.get? c=Bu o->h'.get? c=Bu o)->Q (.ref s⁻¹) { s with heap:=h',toks:=s.toks+1 }) :
  tm (model prog w) A (Builtin.«zip.__next__» #[[.ref z],[]]) (λfin s'=>∃v,fin=.done (.ret v)/\Q v s') E s:=by
 show tm _ _ (field (.ref z) 2 >>= _) _ _ _;refine sN (tL hz rfl (x:=.bool Bx) rfl ?_);show tm _ _ (field (.ref z) 3 >>= _) _ _ _;refine sN (tL hz rfl (x:=.ref TI) rfl ?_);refine sN (tN hTI rfl ?_);show tm _ _ (Builtin.SmallTypes.ownedTupleIsFree (.ref z) >>= _) _ _ _;refine sN ?_;unfold Builtin.SmallTypes.ownedTupleIsFree;refine sN (tL hz rfl (x:=.none) rfl (sP ?_))
 erw[if_true]
 refine sN (AG ?_);refine sN (tL hz rfl (x:=.ref TO) rfl ?_);refine sN (Ah hz (by simp) λh₁ hz₁ hs₁=>?_)
 replace hz₁:AB h₁ z TI TO .ellipsis:=hz₁
 refine sN ?_
 erw[List.zipIdx_cons,List.zipIdx_nil,dk,fG]
 refine sN (sN (AU ?_));show tm _ _ (Builtin.SmallTypes.nextOf (.ref i1) >>= _) _ _ _;refine sN (jj (s:={ s with heap:=h₁ }) (vt h1 λo e=>hs₁.extBut _ _ D.i1z e) hx λh₂ h1₂ hs₂=>sP ?_);have hTO₂:tZ h₂ TO a b:=hs₂.extBut _ _ D.TOi1 (hs₁.extBut _ _ D.TOz hTO);refine sN (tN hTO₂ rfl ?_);refine sN (AL hTO₂ λh₃ hTO₃ hs₃=>?_)
 replace hTO₃:tZ h₃ TO (.str ⟨#[c]⟩ s.toks) b:=hTO₃
 refine sN (tY (sP ?_));refine sN (sN (AU ?_));show tm _ _ (Builtin.SmallTypes.nextOf (.ref i2) >>= _) _ _ _;have up3:∀d o,d≠z->d≠i1->d≠TO->s.heap.get? d=Bu o->h₃.get? d=Bu o:=λd o d1 d2 d3 e=>hs₃.extBut _ _ d3 (hs₂.extBut _ _ d2 (hs₁.extBut _ _ d1 e));refine sN (jV (uw h2 λo e=>up3 _ o D.i2z D.i12.symm D.TOi2.symm e) (zaY hl2 λo e=>up3 _ o D.l2z D.l2i1 D.l2TO e) hy λh₄ h2₄ hs₄=>sP ?_);have hTO₄:tZ h₄ TO (.str ⟨#[c]⟩ s.toks) b:=hs₄.extBut _ _ D.TOi2 hTO₃;refine sN (tN hTO₄ rfl ?_);refine sN (AL hTO₄ λh₅ hTO₅ hs₅=>?_)
 replace hTO₅:tZ h₅ TO (.str ⟨#[c]⟩ s.toks) y:=hTO₅
 refine sN (tY (sP (sP ?_)));refine sN (tN hTO₅ rfl ?_);refine sN (wpAny_newTuple ?_);have hsz:h₅.objs.size=s⁻¹:=by rw[hs₅.1,hs₄.1,hs₃.1,hs₂.1,hs₁.1]
 have hz₅:AB h₅ z TI TO .ellipsis:=hs₅.extBut _ _ D.TOz.symm (hs₄.extBut _ _ D.i2z.symm (hs₃.extBut _ _ D.TOz.symm (hs₂.extBut _ _ D.i1z.symm hz₁)))
 have hk₅:∀c o,c≠z->c≠TO->c≠i1->c≠i2->s.heap.get? c=Bu o->h₅.get? c=Bu o:=λc o c1 c2 c3 c4 e =>
  hs₅.extBut _ _ c2 (hs₄.extBut _ _ c4 (up3 _ _ c1 c3 c2 e))
 have h1₅:h₅.IsStrIter i1 (tM X) X tx (k+1):=vt h1₂ λo e=>hs₅.extBut _ _ D.TOi1.symm (hs₄.extBut _ _ D.i12 (hs₃.extBut _ _ D.TOi1.symm e));have h2₅:h₅.IsTupleIter i2 l2 (k+1):=uw h2₄ λo e=>hs₅.extBut _ _ D.TOi2.symm e;have hzlt:z<h₅.objs.size:=aq hz₅;show tm _ _ (Builtin.SmallTypes.ownedTupleHandOut (.ref z) (.ref h₅.objs.size) >>= _) _ _ _;refine sN ?_;unfold Builtin.SmallTypes.ownedTupleHandOut;have hz₆:AB (h₅.push { cls:=.type "tuple",data:=.seq (u9 [.str ⟨#[c]⟩ s.toks,y]) }) z TI TO .ellipsis:=aa _ hz₅;refine sN (Ah hz₆ (by simp) λh₇ hz₇ hs₇=>?_)
 replace hz₇:AB h₇ z TI TO (rawInt h₅.objs.size):=hz₇
 refine Ah hz₇ (by simp) λh₈ hz₈ hs₈=>?_
 replace hz₈:AB h₈ z TI TO (rawInt h₅.objs.size):=hz₈
 have up:∀c o,c≠z->h₅.get? c=Bu o->h₈.get? c=Bu o:=λc o c1 e=>hs₈.extBut _ _ c1 (hs₇.extBut _ _ c1 (aa _ e));have hT₈:tZ h₈ h₅.objs.size (.str ⟨#[c]⟩ s.toks) y:=hs₈.extBut _ _ (bR hzlt) (hs₇.extBut _ _ (bR hzlt) (ay _ rfl));have hz8:h₈.objs.size=h₅.objs.size+1:=by rw[hs₈.1,hs₇.1,bG]
 rw[hsz]at hz₈ hT₈ hz8;refine sP #[_,rfl,?_];show Q (.ref h₅.objs.size) _;rw[hsz];exact hQ h₈ s.toks hz₈ (up _ _ D.TOz hTO₅) (vt h1₅ λo e=>up _ o D.i1z e) (uw h2₅ λo e=>up _ o D.i2z e) hT₈ hz8 λc o c1 c2 c3 c4 e=>up c o c1 (hk₅ c o c1 c2 c3 c4 e)
def zbG{z TI TO i1 i2 l2:sX}{k:Nat}{X:tw}{tx:Ay}{a b:sY}{Q:Fin->sZ->Prop}(hh:A.handled=Bv)(D:zeR z TI TO i1 i2 l2)(hz:AB s.heap z TI TO .none) (hTI:tZ s.heap TI (.ref i1) (.ref i2)) (hTO:tZ s.heap TO a b)(h1:s.heap.IsStrIter i1 (tM X) X tx k) (hx:X.cps[k]? = Bv)(hE:∀h' e,(∀c o,c≠z->c≠TO->c≠i1->c≠i2->s.heap.get? c=Bu o->h'.get? c=Bu o)->(∃o,h'.get? e=Bu o/\o.cls=.type "StopIteration")->E (.ref e) { s with heap:=h' }) :
  tm (model prog w) A (Builtin.«zip.__next__» #[[.ref z],[]]) Q E s:=by
 show tm _ _ (field (.ref z) 2 >>= _) _ _ _;refine sN (tL hz rfl (x:=.bool Bx) rfl ?_);show tm _ _ (field (.ref z) 3 >>= _) _ _ _;refine sN (tL hz rfl (x:=.ref TI) rfl ?_);refine sN (tN hTI rfl ?_);show tm _ _ (Builtin.SmallTypes.ownedTupleIsFree (.ref z) >>= _) _ _ _;refine sN ?_;unfold Builtin.SmallTypes.ownedTupleIsFree;refine sN (tL hz rfl (x:=.none) rfl (sP ?_))
 erw[if_true]
 refine sN (AG ?_);refine sN (tL hz rfl (x:=.ref TO) rfl ?_);refine sN (Ah hz (by simp) λh₁ hz₁ hs₁=>?_)
 replace hz₁:AB h₁ z TI TO .ellipsis:=hz₁
 refine sN ?_
 erw[List.zipIdx_cons,List.zipIdx_nil,dk,fG]
 refine sN (sN (AU ?_));show tm _ _ (Builtin.SmallTypes.nextOf (.ref i1) >>= _) _ _ _;refine sN (j7 (s:={ s with heap:=h₁ }) hh (vt h1 λo e=>hs₁.extBut _ _ D.i1z e) hx λh₂ e hs₂ he=>?_);obtain⟨oe,hoe,hce⟩:=he;have hz₂:AB h₂ z TI TO .ellipsis:=hs₂ _ _ D.i1z.symm hz₁;have hez:e≠z:=λx=>by subst x;rw[hz₂]at hoe;cases hoe;simp at hce
 refine Ah hz₂ (by simp) λh₃ _ hs₃=>hE h₃ e (λc o c1 _ c3 _ x=>hs₃.extBut _ _ c1 (hs₂ _ _ c3 (hs₁.extBut _ _ c1 x))) #[oe,hs₃.extBut _ _ hez hoe,hce]
def jB{z TI TO i1 i2 l2:sX}{k c:Nat}{X:tw}{tx:Ay}{ys:Array sY}{y a b:sY}{Q:Option sY->sZ->Prop}(D:zeR z TI TO i1 i2 l2)(hz:AB s.heap z TI TO .none) (hTI:tZ s.heap TI (.ref i1) (.ref i2)) (hTO:tZ s.heap TO a b)(h1:s.heap.IsStrIter i1 (tM X) X tx k) (h2:s.heap.IsTupleIter i2 l2 k) (hl2:s.heap.IsTuple l2 ys) (hx:X.cps[k]? = Bu c) (hy:ys[k]? = Bu y)(hQ:∀h' t',AB h' z TI TO (rawInt s⁻¹)->tZ h' TO (.str ⟨#[c]⟩ t') y->h'.IsStrIter i1 (tM X) X tx (k+1)->h'.IsTupleIter i2 l2 (k+1)->tZ h' s⁻¹ (.str ⟨#[c]⟩ t') y->h'.objs.size=s⁻¹+1 ->
   (∀c o,c≠z->c≠TO->c≠i1->c≠i2->s.heap.get? c=Bu o->h'.get? c=Bu o)->Q (Bu (.ref s⁻¹)) { s with heap:=h',toks:=s.toks+1 }) :
  tm (model prog w) A (pyNext (.ref z)) Q E s:=by
 have hT:s.TypeIs (.ref z) "zip":=#[_,hz,rfl];unfold pyNext
 exact sN (Au (wpAny_callSpecial?_slot (name:=bK "__next__") hT F.slot_zip_next
  (AF F.slot_zip_next hT F.entry_zip_next
   (KJ D hz hTI hTO h1 h2 hl2 hx hy λh' t' a1 a2 a3 a4 a5 a6 a7=>sP (hQ h' t' a1 a2 a3 a4 a5 a6 a7)) (F.args_zip_next_1 _))))
def j5{z TI TO i1 i2 l2:sX}{k:Nat}{X:tw}{tx:Ay}{a b:sY}{Q:Option sY->sZ->Prop}(hh:A.handled=Bv)(D:zeR z TI TO i1 i2 l2)(hz:AB s.heap z TI TO .none) (hTI:tZ s.heap TI (.ref i1) (.ref i2)) (hTO:tZ s.heap TO a b)(h1:s.heap.IsStrIter i1 (tM X) X tx k) (hx:X.cps[k]? = Bv)(hQ:∀h',(∀c o,c≠z->c≠TO->c≠i1->c≠i2->s.heap.get? c=Bu o->h'.get? c=Bu o)->Q Bv { s with heap:=h' }):tm (model prog w) A (pyNext (.ref z)) Q E s:=by
 have hT:s.TypeIs (.ref z) "zip":=#[_,hz,rfl];unfold pyNext
 refine sN (Au (wpAny_callSpecial?_slot (name:=bK "__next__") hT F.slot_zip_next
  (AF F.slot_zip_next hT F.entry_zip_next (zbG hh D hz hTI hTO h1 hx λh' e hk he=>?_) (F.args_zip_next_1 _))))
 obtain⟨o,ho,hc⟩:=he;refine sN (wpAny_isInstance (T:="StopIteration") (b:=Bw) #[o,ho,hc] isSubtype_stop ?_);exact sP (hQ _ hk)
end
end in abbrev ze2(h:tE)(x:tw)(t:Ay):tE:=h.push { cls:=.type (tM x),data:=.fields (u9 [.str x t,.int 0 0]) }
end in abbrev ze8(h:tE)(x:tw)(t:Ay)(l2:sX):tE:=(ze2 h x t).push { cls:=.type "tuple_iterator",data:=.fields (u9 [.ref l2,.int 0 0]) }
end in abbrev zeZ(h:tE)(x:tw)(t:Ay)(l2:sX):tE:=(ze8 h x t l2).push { cls:=.type "tuple",data:=.seq (u9 [.ref h.objs.size,.ref (ze2 h x t).objs.size]) }
end in abbrev ze1(h:tE)(x:tw)(t:Ay)(l2:sX):tE:=(zeZ h x t l2).push { cls:=.type "tuple",data:=.seq (u9 [.none,.none]) }
end in abbrev zbD(h:tE)(x:tw)(t:Ay)(l2:sX):tE:=(ze1 h x t l2).push { cls:=.type "zip",data:=.fields (u9 [.none,.bool Bx,.bool Bx,.ref (ze8 h x t l2).objs.size,.ref (zeZ h x t l2).objs.size]) }
def ZS(x:tw)(t:Ay)(l2:sX)(ys:Array sY) :
  Meets (Builtin.«zip.__new__» #[[.type "zip",.str x t,.ref l2],[]]) (λ_ R s=>s.heap.IsTuple l2 ys /\
   R (.ok (.ret (.ref (ze1 s.heap x t l2).objs.size))) { s with heap:=zbD s.heap x t l2 }) :=
 .of_wp λprog w A R s h=>by
  obtain⟨hp,g,d,tk,os⟩:=s;obtain⟨hl2,h⟩:=h;have hsub:=sub_zip;have hL2:Heap.IsTuple (Shared.heap #[hp.push { cls:=.type (tM x),data:=.fields (u9 [.str x t,.int 0 0]) },g,d,tk,os]) l2 ys:=zaY hl2 λo e=>aa _ e
  wp_walk using wpAny_pyIter_strU (s:=#[hp,g,d,tk,os]) (x:=x) (t:=t),AA hL2
  exact#[_,rfl,h]
section
variable{prog:tu}{w:tz}{A:tB}{E:sY->sZ->Prop}{s:sZ}
def KW{x:tw}{t:Ay}{l2:sX}{ys:Array sY}{Q:sY->sZ->Prop}(hl2:s.heap.IsTuple l2 ys)(h:∀h',AB h' (s⁻¹+4) (s⁻¹+2) (s⁻¹+3) .none->tZ h' (s⁻¹+2) (.ref s⁻¹) (.ref (s⁻¹+1)) ->
   tZ h' (s⁻¹+3) .none .none->h'.IsStrIter s⁻¹ (tM x) x t 0->h'.IsTupleIter (s⁻¹+1) l2 0->h'.objs.size=s⁻¹+5 ->
   (∀c o,s.heap.get? c=Bu o->h'.get? c=Bu o)->Q (.ref (s⁻¹+4)) { s with heap:=h' }) :
  tm (model prog w) A (call (.type "zip") [.str x t,.ref l2]) Q E s:=by
 refine callType_new F.called_zip ∅ (F.typeCall_zip_2 _ _) (F.newCall_zip_2 _ _) (λobj=>F.args_object_init_3 obj _ _) F.entry_zip_new
  (ZS x t l2 ys) #[hl2,?_]
 have z1:(ze2 s.heap x t).objs.size=s⁻¹+1:=bG ..;have z2:(ze8 s.heap x t l2).objs.size=s⁻¹+2:=by rw[bG,z1]
 have z3:(zeZ s.heap x t l2).objs.size=s⁻¹+3:=by rw[bG,z2]
 have z4:(ze1 s.heap x t l2).objs.size=s⁻¹+4:=by rw[bG,z3]
 have z5:(zbD s.heap x t l2).objs.size=s⁻¹+5:=by rw[bG,z4]
 have g5:(zbD s.heap x t l2).get? (ze1 s.heap x t l2).objs.size=Bu _:=ay _ rfl;have g4:(zbD s.heap x t l2).get? (zeZ s.heap x t l2).objs.size=Bu _:=aa _ (ay _ rfl);have g3:(zbD s.heap x t l2).get? (ze8 s.heap x t l2).objs.size=Bu _:=aa _ (aa _ (ay _ rfl));have g2:(zbD s.heap x t l2).get? (ze2 s.heap x t).objs.size=Bu _:=aa _ (aa _ (aa _ (ay _ rfl)));have g1:(zbD s.heap x t l2).get? s⁻¹=Bu _:=aa _ (aa _ (aa _ (aa _ (ay _ rfl))));show _/\_;rw[z2,z3,z4]at g5;rw[z1,z2]at g3;rw[z3]at g4;rw[z1]at g2;rw[z4]
 exact#[#[_,g5,rfl],h _ g5 g3 g4 #[_,g1,rfl,rfl] #[_,g2,rfl,rfl] z5 λc o x =>
  aa _ (aa _ (aa _ (aa _ (aa _ x))))]
end
end in def Izs(K:sV)(l:())(b:sX):It:=#[λi H=>∃ys y,SqT K H b ys/\i<l.length/\ys[i]? = Bu y,λi H v H'=>∃p c y,H p=Bv/\l[i]? = Bu c/\(∀ys,SqT K H b ys->ys[i]? = Bu y)/\v=.ref p/\H'=upd H p (.tup [.str (tx [c]),y]),λi H=>i=l.length]
def ZSt(z TI TO i1 i2:sX)(X:tw)(t:Ay)(l2:sX)(i:Nat)(h:tE):Prop:=AB h z TI TO .none/\tZ h TI (.ref i1) (.ref i2)/\(∃a b,tZ h TO a b)/\h.IsStrIter i1 (tM X) X t i/\h.IsTupleIter i2 l2 i
theorem Kr{P:tu}{w:tz}{K:sV}{elts:List tD}{x1:Nat}{tpos:Ad}(z TI TO i1 i2 l2:sX)(l:())(t:Ay)(D:zeR z TI TO i1 i2 l2) :
  JN P w K (.Tuple elts x1 tpos) (Izs K l l2) [z,TI,TO,i1,i2] z (λi h=>ZSt z TI TO i1 i2 (tx l) t l2 i h) where
 mem:=by simp
 obj:=λi h st b hb=>by
  obtain⟨hz,hTI,⟨a,c,hTO⟩,⟨o1,e1,c1,d1⟩,⟨o2,e2,c2,d2⟩⟩:=st
  erw[dL,eR,or_false]at hb
  rcases hb with rfl | rfl | rfl | rfl | rfl
  ·exact#[_,hz,λv q=>by have q':Data.fields _=Data.cell v:=q;cases q']
  ·exact#[_,hTI,λv q=>by have q':Data.seq _ _=Data.cell v:=q;cases q']
  ·exact#[_,hTO,λv q=>by have q':Data.seq _ _=Data.cell v:=q;cases q']
  ·exact#[o1,e1,λv q=>by rw[d1]at q;cases q]
  ·exact#[o2,e2,λv q=>by rw[d2]at q;cases q]
 keep:=λi h h' st k=>by
  obtain⟨hz,hTI,⟨a,c,hTO⟩,h1,h2⟩:=st;exact#[k z (by simp) _ hz,k TI (by simp) _ hTI,#[a,c,k TO (by simp) _ hTO],vt h1 λo e=>k i1 (by simp) o e,uw h2 λo e=>k i2 (by simp) o e]
 item:=by
  intro X hP hw hK hc i By s σ H E I hf st hg;subst hP hw hK;obtain⟨ys,y,hqy,hi,hy⟩:=hg;obtain⟨its2,rv2,p2,_⟩:=I.tuple hqy;obtain⟨u2,hu2,ru2⟩:=rv2.get hy;obtain⟨hz,hTI,⟨a,b,hTO⟩,h1,h2⟩:=st;have hl2:s.heap.IsTuple l2 its2.toArray:=p2
  have hx:(tx l).cps[i]? = Bu l[i]:=by
   show l.toArray[i]? = _;simp [hi]
  refine jB D hz hTI hTO h1 h2 hl2 hx (y:=u2) (by simpa using hu2) λh' t' a1 a2 a3 a4 a5 a6 hk=>?_;refine#[_,rfl,wpAny_letOwnedTupleGo_zip (s:={ s with heap:=h',toks:=s.toks+1 }) a1 λh2' hz2 sb=>?_];have zlt:z<s⁻¹:=aq hz;have TIlt:TI<s⁻¹:=aq hTI;have TOlt:TO<s⁻¹:=aq hTO;have i1lt:i1<s⁻¹:=by obtain⟨o,e,_⟩:=h1;exact aq e
  have i2lt:i2<s⁻¹:=by obtain⟨o,e,_⟩:=h2;exact aq e
  have I1:Inv X By σ H { s with heap:=h2',toks:=s.toks+1 }:=Inv.turns (fp:=[z,TI,TO,i1,i2]) I (λb o hb q=>by
   have hb':b≠z/\b≠TI/\b≠TO/\b≠i1/\b≠i2:=by simpa using hb
   exact (sb.2 b hb'.1).trans (hk b o hb'.1 hb'.2.2.1 hb'.2.2.2.1 hb'.2.2.2.2 q)) hf
  have hp:H s⁻¹=Bv:=I.hok.fresh (al _);have hT2:h2'.get? s⁻¹=Bu { cls:=.type "tuple",data:=.seq (u9 [.str ⟨#[l[i]]⟩ t',u2]) }:=(sb.2 _ (bR zlt)).trans a5;have ru1:RelV (.str (tx [l[i]])) (.str ⟨#[l[i]]⟩ t'):=#[t',rfl]
  have I2:Inv X By σ (upd H s⁻¹ (.tup [.str (tx [l[i]]),y])) { s with heap:=h2',toks:=s.toks+1 } :=
   Inv.track I1 (I.fpOk (al _) hp) #[by show 2<=sU;decide,[.str ⟨#[l[i]]⟩ t',u2],.cons ru1 (.cons ru2 .nil),#[_,hT2,rfl,_,rfl]]
  refine#[.ref s⁻¹,_,I2,rfl,#[s⁻¹,l[i],y,hp,by simp [hi],λzs hz'=>by rw[I.tuple_inj hz' hqy];exact hy,rfl,rfl],#[hz2,(sb.2 _ D.TIz).trans (hk _ _ D.TIz D.TITO D.TIi1 D.TIi2 hTI),#[_,_,(sb.2 _ D.TOz).trans a2],vt a3 λo e=>(sb.2 _ D.i1z).trans e,uw a4 λo e=>(sb.2 _ D.i2z).trans e],λb hb=>?_];rw[zq]
  ·exact (hf b hb).1
  ·erw[dL,eR,or_false]at hb
   rcases hb with rfl | rfl | rfl | rfl | rfl <;> exact aB (by assumption)
 done:=by
  intro X hP hw hK hc i By s σ H E I hf st hg;subst hP hw hK;have hi:i=l.length:=hg;obtain⟨hz,hTI,⟨a,b,hTO⟩,h1,h2⟩:=st;refine j5 (I.ok.hd hc) D hz hTI hTO h1 ?_ λh' hk=>#[rfl,?_]
  ·show l.toArray[i]? = Bv;simp [hi]
  ·exact Inv.turns (fp:=[z,TI,TO,i1,i2]) (t':=s.toks) I (λb o hb q=>by
    have hb':b≠z/\b≠TI/\b≠TO/\b≠i1/\b≠i2:=by simpa using hb
    exact hk b o hb'.1 hb'.2.2.1 hb'.2.2.2.1 hb'.2.2.2.2 q) hf
 self:=λA i s Q E st h=>Bg st.1 h
section
variable{X:Cx}
def iZs(K:sV)(ta:TA):TI:=λσ H R=>ta σ H λvs H1=>∃l b,vs=[.str (tx l),.ref b]/\(∃ys,SqT K H1 b ys)/\R (Izs K l b) H1
def zdW{a b:tD}{ta:TA}{p pos tpos:Ad}{elts:List tD}{x1:Nat}(hg:Gl X "zip")(hm:X.mg "zip" = Bv)(ha:PA X [a,b] ta)(hs:sS [a,b] X.env=(Bx,eval a X.env)::sS [b] X.env:=by rfl)(hpl:(tK pos (sS [b] X.env)).any (·.1)=Bx:=by rfl):PI X (.Tuple elts x1 tpos) (.Call (.Name "zip" p) [a,b] [] pos) (iZs X.K ta):=by
 intros R I h;refine Bs (vq I hg hm PyProof.Rows.boot_zip (bw (thn (ha pos By s σ H _ I h) λus s1=>el5 λvs H1 I1 r1 q1=>?_) hs hpl));obtain⟨l,l2,e,⟨ys,hqy⟩,q⟩:=q1;subst e;obtain⟨u1,u2,rfl,ru1,ru2⟩:=X6 r1;obtain⟨t,rfl⟩:=ru1;cases ru2;obtain⟨its2,rv2,p2,_⟩:=I1.tuple hqy;have hl2:s1.heap.IsTuple l2 its2.toArray:=p2;have l2lt:l2<s1⁻¹:=by obtain⟨o,e,_⟩:=hl2;exact aq e
 have ne:∀a b:Nat,a≠b->s1⁻¹+a≠s1⁻¹+b:=λa b h e=>h (Nat.add_left_cancel e);have nl:∀a:Nat,l2≠s1⁻¹+a:=λa=>aB (ax l2lt (cB _ _));refine KW hl2 λh' hz hTI hTO h1 h2 hsz kk=>?_;have I2:Inv X By σ H1 { s1 with heap:=h' }:=I1.kept (t':=s1.toks) kk;refine Bg (s:={ s1 with heap:=h' }) hz ?_;refine#[s1⁻¹+4,[s1⁻¹+4,s1⁻¹+2,s1⁻¹+3,s1⁻¹,s1⁻¹+1],_,_,H1,rfl,I2,Kr (s1⁻¹+4) (s1⁻¹+2) (s1⁻¹+3) s1⁻¹ (s1⁻¹+1) l2 l t #[#[ne 2 4 ∅,ne 3 4 ∅,ne 0 4 ∅,ne 1 4 ∅,ne 2 3 ∅,ne 2 0 ∅,ne 2 1 ∅,ne 3 0 ∅,ne 3 1 ∅,ne 0 1 ∅],nl 4,nl 3,nl 0,nl 1],#[hz,hTI,#[_,_,hTO],h1,h2],λb hb=>?_,q]
 have hb':s1⁻¹<=b:=by
  erw[dL,eR,or_false]at hb
  rcases hb with e | e | e | e | e
  ·rw[e];exact cB _ _
  ·rw[e];exact cB _ _
  ·rw[e];exact cB _ _
  ·rw[e];exact al _
  ·rw[e];exact cB _ _
 exact I1.fpOk hb' (I1.hok.fresh hb')
end
def CompZ(K:sV)(l:())(b:sX)(g:TG)(tt:TT)(te:TE)(own:Nat)(ix:())(σ:L2.St)(H1:Hp)(Q:VK)(D:sX):Prop:=YM (Izs K l b) g tt te own ix σ H1 Q D
def zH{K:sV}{ta:TA}{g:TG}{tt:TT}{te:TE}{own:Nat}{ix:()}{σ:L2.St}{H:Hp}{Q:VK}:jy (iZs K ta) g tt te own ix σ H Q=ta σ H λvs H1=>∃l b,vs=[.str (tx l),.ref b]/\(∃ys,SqT K H1 b ys)/\∀D,H1 D=Bv->CompZ K l b g tt te own ix σ H1 Q D:=rfl
section
variable{g:TG}{tt:TT}{te:TE}{own:Nat}{ix:()}{σ:L2.St}{H1:Hp}{Q:VK}{D:sX}
theorem CompZ.by{K:sV}{l:()}{b:sX}{ys:List V}(Pv:Nat->List V->Hp->Prop)(hlen:l.length=ys.length)(h0:Pv 0 [] (upd H1 D (.lst [])))(hl:∀i BA H',i<=l.length->Pv i BA H'->SqT K H' b ys)(hs:∀i c y BA H' p,l[i]? = Bu c->ys[i]? = Bu y->Pv i BA H'->H' p=Bv->g (.ref p) (vx σ own ix) (upd H' p (.tup [.str (tx [c]),y])) λσ3 H3=>xf (vx σ own ix) σ3/\tt σ3 H3 λb H4=>if b=Bw then
   te σ3 H4 λv H5=>H5 D=Bu (.lst BA)/\BA.length<sU/\CNx l.length i Pv (BA ++ [v]) (upd H5 D (.lst (BA ++ [v])))else CNx l.length i Pv BA H4)(hd:∀BA H',Pv l.length BA H'->Q (.ref D) H'):CompZ K l b g tt te own ix σ H1 Q D:=by
 refine#[λi m BA H=>m=l.length - i/\i<=l.length/\Pv i BA H,#[l.length,by simp,aG _,h0],?_];rintro i m BA H' ⟨rfl,hi,p⟩;have q:=hl i BA H' hi p;by_cases hlt:i<l.length
 ·refine .inr #[#[ys,ys[i],q,hlt,by simp [<- hlen,hlt]],λx H2 y=>?_];obtain⟨p',c,y,hp,hc,hy,ev,eH⟩:=y;subst ev eH;exact hs i c y BA H' p' hc (hy ys q) p hp
 ·have e:i=l.length:=⋯;subst e;exact .inl #[rfl,hd BA H' p]
end
section
variable{X:Cx}{k1 k2 k3 j:Nat}{C1 C2 C3:sX}{m:tw}{ps:List tw}{s1 s2 s3:Sp}{o e:tD}{es:List tD}{ta:TE}{t:TA}{apos pos p:Ad}{E:XK}
def yh(t1 t2:TE):TE:=λσ H Q=>t1 σ H Q\/t2 σ H Q
def zaS{t1 t2:TE}(h1:PE X e t1)(h2:PE X e t2):PE X e (yh t1 t2):=by
 intros Q I h;rcases h with h | h
 ·exact h1 By s σ H Q I h
 ·exact h2 By s σ H Q I h
def zeK(D1:DM X.prog X.w X.K X.mg X.base CX0 k1 C1 m ps s1)(D2:DM X.prog X.w X.K X.mg X.base CX0 k2 C2 m ps s2)(D3:DM X.prog X.w X.K X.mg X.base CX0 k3 C3 m ps s3)(c1:Cls X.K C1)(c2:Cls X.K C2)(c3:Cls X.K C3)(hr:Room j X.A)(he:PE X o ta)(ha:PA X (e::es) t){pl:Bl Bool}(hst:sS (e::es) X.env=(Bx,eval e X.env)::sS es X.env:=by rfl) (hpl:(tK pos (sS es X.env)).any (·.1)=Bx:=by rfl)(ht:eval (.Call (.Attribute o m apos) (e::es) [] pos) X.env=(do
      let ov <- eval o X.env
      standAt apos.atName
      let (f,first) <- holding [ov] (getMethod ov m pl)
      callWith pos f first (tK pos (sS (e::es) X.env)) (tT pos (tH [] X.env))):=by rfl) (h1:k1<=j:=by decide) (h2:k2<=j:=by decide) (h3:k3<=j:=by decide) :
    PE X (.Call (.Attribute o m apos) (e::es) [] pos) (yh (Z1 C1 m s1 [] E0 ta t) (yh (Z1 C2 m s2 [] E0 ta t) (Z1 C3 m s3 [] E0 ta t))) :=
  zaS (me1 (pl:=pl) D1 c1 hr he ha hst hpl ht h1) (zaS (me1 (pl:=pl) D2 c2 hr he ha hst hpl ht h2) (me1 (pl:=pl) D3 c3 hr he ha hst hpl ht h3))
end
section
variable{X:Cx}
end
open PySem PySem.Spec PyProof.Rows L2 PySem.W PySem.Calls
def qE(n:Int):Prop:=Builtin.Int.intBits n<=1048576
theorem zaJ:∀(ns:List Int),WData.weightAll (ns.map WData.int)<=1048576->∀n ∈ ns,qE n
 | [],_,n,h=>nomatch h
 | m::ns,hw,n,h=>by
  rw[av,WData.weightAll]at hw;rcases BE.mp h with rfl | h
  ·have e:WData.weight (.int n)=Builtin.Int.intBits n:=by
    rw[WData.weight];rfl
   unfold qE;lia
  ·exact zaJ ns ⋯ n h
section
variable{X:Cx}
theorem KD{i j:Int}(hi:qE i)(hj:qE j):IntMulOk i j:=by unfold IntMulOk Builtin.Int.intTooBig;unfold qE at hi hj;have:(bitsLine:Nat)=134217728:=rfl;simp;intro _ _;lia
def KS:OpR X (binaryOp .Mult) (rI (λi j=>qE i/\qE j) λi j=>.int (i * j)):=opI λ_ _ _ _ _ _ _ hc q=>mul_int q (KD hc.1 hc.2)
end
def YT{l:OpenLaw}{n:Nat}{q:tu}{loose:List tw}{XP:(tw->Option sY)->tE->Prop}{YP:tz->tE->Prop}{d:DefRec}(hn:l.most=Bu n) (hdf:d.params.defaults=[])(call:∀(w:tz) (s₀ s₁:sZ) (mg mb:tw->Option sY) (fa:sX) (o:tR) (pm cd doc:sY) (a:sX) (vs:List sY) (ns:List Int),
   Ground q loose [] XP w s₀ mg mb s₁.heap->YP w s₁.heap ->
   s₁.heap.get? fa=Bu o->o.data=.func (docDef d.name d.params d.body d.scope pm cd doc)->s₁.heap.CodeRec cd d.name->mg d.name=Bu (.ref fa) ->
   s₁.heap.get? a=Bu { cls:=.type "list",data:=.seq vs.toArray }->Be vs ns->ns.length<=n->(∀z ∈ ns,qE z)->s₁.gens=#[] ->
   Ae (model l.prog w) callerA (.call (.ref fa) #[[.ref a],[]]) (λr s'=>r=.ok (.ret (.bool Bw))/\OldK s₁.heap s'.heap/\s'.os=s₁.os/\Az s'.gens) s₁) :
  WalkO q loose XP YP l.row.toRowW d [] (λf vs=>gy f vs):=by
 intro w s₀ s₁ mg mb G Y fa o pm cd doc dV kV ho hd hcd hD hmg hg args vals as hpre hlay hrd hwl hlo;obtain rfl:dV=.none:=Dflts.none hD hdf;obtain rfl:kV=.none:=Dflts.noKw hD;obtain⟨a,vs,ns,rfl,rfl,hobj,hints,hlen⟩:=Att.script_of hn hpre hwl
 have hb:∀z ∈ ns,qE z:=by
  refine zaJ ns ?_
  have h1:WData.layable (WData.list (ns.map WData.int))=Bw:=by
   have:=hlay;unfold WData.layableAll at this;simpa using this
  unfold WData.layable at h1
  erw[cA,decide_eq_true_eq]at h1
  have h2:=h1.2;rw[WData.weight]at h2;exact h2
 refine enter_call (An (call w s₀ s₁ mg mb fa o pm cd doc a vs ns G Y ho (fd_plain hd) hcd hmg hobj hints hlen hb hg) λr s' hq=>?_);obtain⟨rfl,h2,h3,h4⟩:=hq;exact#[.inl #[.bool Bw,.bool Bw,[],rfl,λ_=>rfl,.bool Bw,Att.post_true l _,λ_=>#[List.Pairwise.nil,λ_ hm=>(nomatch hm)]],h2,h3,h4]
section
variable{X:Cx}{k j:Nat}{C:sX}{x f':tw}{ps:List tw}{sp:Sp}{e:tD}{es:List tD}{t:TA}{te:TX}{pos p:Ad}
end
section
variable{X:Cx}{k j:Nat}{C:sX}{m x:tw}{ps:List tw}{sp:Sp}{e:tD}{es:List tD}{t:TA}{apos pos p:Ad}{E:XK}
end
section
variable{prog:tu}{w:tz}{A:tB}{E:sY->sZ->Prop}{s:sZ}{env:AK}
end
def XEg.xe{X:Cx}{E:XK}(h:XEg X E):XE X E:=λe s hz=>by
 obtain⟨By,σ,H,x,C,t,dx,tb,q⟩:=hz;exact h e s #[.none,Bx,By,σ,H,x,C,t,dx,tb,q]
section
variable{X:Cx}{k:Nat}{ps:List tw}{sp:Sp}{ds:List sY}{dvs:List V}{E:XK}{x:tw}{p pos:Ad}{e:tD}{es:List tD}{t:TA}
end
section
variable{X:Cx}{o e:tD}{to:TE}{te:TX}{name:tw}{apos cpos:Ad}{T id:String}{r:V->List V->Hp->VK->Prop}
end
section
variable{X:Cx}
end
section
variable{X:Cx}{k j:Nat}{C:sX}{ps:List tw}{sp:Sp}{e:tD}{es:List tD}{t:TA}{pos p:Ad}{x:tw}
end
theorem Xp(x y:tw)(i j:Int)(t u v v':Ay):Gives (Builtin.«str.find» #[[.str x t,.str y u,.int i v,.int j v'],[]]) (.int (match Builtin.Str.occurrences x y (fromIndex x.length i) (min (fromIndex x.length j) x.length) 1 with | k::_=>(k:Int) | []=>-1)):=by
 show Gives (match Builtin.Str.occurrences x y (fromIndex x.length i) (min (fromIndex x.length j) x.length) 1 with | k::_=>retInt k | []=>(do rule "str.find.not-found";retInt (-1))) _
 cases Builtin.Str.occurrences x y (fromIndex x.length i) (min (fromIndex x.length j) x.length) 1 with
 | nil=>exact .rule (.of_eq rfl)
 | cons k _=>exact .of_eq rfl
theorem Xs(x y:tw)(lo hi:Nat) :
  (Builtin.Str.occurrences x y lo hi 1=[]/\∀i,lo<=i->¬ StrLaws.At x y hi i) \/
  ∃i r,Builtin.Str.occurrences x y lo hi 1=i::r/\lo<=i/\StrLaws.At x y hi i/\∀k,lo<=k->k<i->¬ StrLaws.At x y hi k:=by
 rw[StrLaws.occ_eq];rcases StrLaws.occ_first x y hi 1 (al 1) (List.range' lo (hi+1 - lo)) lo (λi hm=>(List.mem_range'_1.mp hm).1)with ⟨e,no⟩ | ⟨pre,a,post,e,e0,at_a,no⟩
 ·exact .inl #[by rw[e],λi h1 h2=>no i (by have:=h2.1;rw[List.mem_range'_1];lia) h2]
 ·have sp:=StrLaws.range'_split_from e;generalize (forIn (List.range' lo (hi+1 - lo)) ((#[]:Array Nat),lo) (StrLaws.occBody x y hi 1)).run.fst=z at e0 ⊢;obtain⟨zs⟩:=z
  cases zs with
  | nil=>simp at e0
  | cons b r =>
   have:b=a:=by simpa using e0
   subst this;exact .inr #[b,r,rfl,sp.1,at_a,λk h1 h2=>no k (sp.2 k h1 h2)]
def zdT(l p:())(hi i:Nat):StrLaws.At (tx l) (tx p) hi i ↔ i+p.length<=hi/\(l.drop i).take p.length=p:=by
 unfold StrLaws.At Builtin.Str.subAt;rw[zK,beq_iff_eq]
 have e1:((tx l).cps.extract i (i+p.length)).toList=(l.drop i).take p.length:=by
  show (l.toArray.extract i (i+p.length)).toList=_;simp [eN]
 have e2:((tx l).cps.extract i (i+p.length)=(tx p).cps) ↔ (l.drop i).take p.length=p:=by
  constructor
  ·intro h;rw[<- e1,h]
  ·intro h;apply Array.toList_inj.mp;rw[e1,h]
 rw[e2]
def zaC:V->List V->Hp->VK->Prop:=λx xs H Q=>∃(l p:()) (lo hi:Int),x=.str (tx l)/\xs=[.str (tx p),.int lo,.int hi]/\0<=lo/\0<=hi/\∀r:Int,((r=-1/\∀q:Nat,lo<=q->(q:Int)+p.length<=hi->q+p.length<=l.length->(l.drop q).take p.length≠p)\/∃k:Nat,r=k/\lo<=k/\(k:Int)+p.length<=hi/\k+p.length<=l.length/\(l.drop k).take p.length=p/\∀q:Nat,lo<=q->q<k->(l.drop q).take p.length≠p)->Q (.int r) H
theorem zcL{X:Cx}:MtR X "str.find" zaC:=by
 intros x xs v us Q I rx rv h;obtain⟨l,p,lo,hi,rfl,rfl,h0,h1,q⟩:=h;obtain⟨t,rfl⟩:=rx
 cases rv with
 | cons r1 r2 =>
  cases r2 with
  | cons r2 r3 =>
   obtain⟨w3,rfl,t3,rfl⟩:=wx r3;obtain⟨t1,rfl⟩:=r1;obtain⟨t2,rfl⟩:=r2;have f0:fromIndex (tx l).length lo=lo.toNat:=by unfold fromIndex;rw[y9 ⋯];lia
   have f1:fromIndex (tx l).length hi=hi.toNat:=by unfold fromIndex;rw[y9 ⋯];lia
   refine call_gives F.slot_str_find (typeIs_str _ _ _) F.entry_str_find (F.args_str_find_4 _ _ _ _) (Xp _ _ lo hi t t1 t2 t3) ?_;refine#[.int _,H,I.tok _,#[_,rfl],q _ ?_];rw[f0,f1];have hm:∀k:Nat,k+p.length<=min hi.toNat (tx l).length ↔ (k:Int)+p.length<=hi/\k+p.length<=l.length:=λk=>by rw[zK];lia
   rcases Xs (tx l) (tx p) lo.toNat (min hi.toNat (tx l).length)with ⟨e,no⟩ | ⟨i,r,e,hl,ha,no⟩
   ·rw[e];exact .inl #[rfl,λk k1 k2 k3 k4=>no k ⋯ ((zdT l p _ k).mpr #[(hm k).mpr #[k2,k3],k4])]
   ·rw[e];obtain⟨a1,a2⟩:=(zdT l p _ i).mp ha;obtain⟨b1,b2⟩:=(hm i).mp a1;exact .inr #[i,rfl,⋯,b1,b2,a2,λk k1 k2 k4=>no k ⋯ k2 ((zdT l p _ k).mpr #[(hm k).mpr #[⋯,⋯],k4])]
end L3
set_option linter.unusedVariables false
namespace L3
def ze5(l p:())(r:Int):Prop:=(r=-1/\∀q:Nat,¬ (q+p.length<=l.length/\(l.drop q).take p.length=p))\/∃q:Nat,r=(q:Int)/\q+p.length<=l.length/\(l.drop q).take p.length=p
def zgQ:V->List V->Hp->VK->Prop:=λx xs H Q=>∃l p:(),x=.str (tx l)/\xs=[.str (tx p)]/\∀r:Int,ze5 l p r->Q (.int r) H
section
variable{X:Cx}
def zcD:MtR X "str.find" zgQ:=by
 intros x xs v us Q I rx rv h;obtain⟨l,p,rfl,rfl,q⟩:=h;refine UN By s σ H _ _ v us Q I rx rv #[_,_,rfl,rfl,q _ ?_];rcases find_whole (tx l) (tx p)with ⟨h1,h2⟩ | ⟨e,h1,h2,_⟩
 ·exact .inl #[h1,λq hq=>h2 q ((zdT l p _ q).mpr (by rw[zK];exact hq))]
 ·refine .inr #[e,h1,?_];have:=(zdT l p _ e).mp h2;rw[zK]at this;exact this
end
section
variable{prog:tu}{w:tz}{A:tB}{R:AR->sZ->Prop}{I l S:sX}
theorem Jn(hh:A.handled=Bv)(hlI:l≠I)(hSI:S≠I)(hSl:S≠l)(xs:Array sY)(val:Nat->Int)(hv:∀i v,xs[i]? = Bu v->∃t,v=Value.int (val i) t)(d:sY) :
  ∀(k j:Nat) (z:Int) (t:Ay) (s:sZ) (c:Nat),xs.size - j=k->j<=xs.size->(∀i,i<j->val i<=z)->s.heap.IsListIter I l j->s.heap.IsList l xs->s.heap.get? S=Bu (tJ "list" (u9 [.int z t,.int z t]) c) ->
   (∀z' t' h' tk,(∀i,i<xs.size->val i<=z')->(∀b o,b≠I->b≠S->s.heap.get? b=Bu o->h'.get? b=Bu o)->R (.ok (.ret (.int z' t'))) { s with heap:=h',toks:=tk }) ->
   Ae (model prog w) A (.builtin "max.loop" #[[.ref I,.none,.ref S],[(bK "default",d)]]) R s:=by
 have nm:(toString "max" ++ toString ".loop" : String)="max.loop":=∅;have W:=Walks.list (prog:=prog) (w:=w) (A:=A.in1) hh I l hlI xs;intro k
 induction k with
 | zero =>
  intro j z t s c hk hj hz hit hl hS hR;have e:j=xs.size:=⋯;refine tX (b:=Builtin.«max.loop») dI ?_;rw[Around.under_plainId (id:="max.loop") bL _];show tm _ A.in1 (seqItems? (u6 S) >>= _) _ _ s;refine sN (tN (items:=(u9 [.int z t,.int z t])) hS rfl ?_);show tm _ A.in1 (tryCatch (pyNext (u6 I)) _ >>= _) _ _ s;refine sN (tV (W.done s _ _ #[e ▸ hit,hl] λh' tk kp=>?_));have hS':=kp S _ (by simpa using hSI) hS;show tm _ A.in1 (updateSeq S (λ_=>(#[]:Array sY)) >>= _) _ _ _;refine sN (Ai hS' rfl (sN (tY (sP ?_))));exact hR z t _ tk (λi hi=>hz i ⋯) λb o hb hb' q=>(aC _ _ (Ne.symm hb')).trans (kp b o (by simpa using hb) q)
 | succ k ih =>
  intro j z t s c hk hj hz hit hl hS hR;refine tX (b:=Builtin.«max.loop») dI ?_;rw[Around.under_plainId (id:="max.loop") bL _];show tm _ A.in1 (seqItems? (u6 S) >>= _) _ _ s;refine sN (tN (items:=(u9 [.int z t,.int z t])) hS rfl ?_);show tm _ A.in1 (tryCatch (pyNext (u6 I)) _ >>= _) _ _ s;refine sN (tV (W.item j s _ _ ⋯ #[hit,hl] λv h' tk hP st kp=>?_));obtain⟨t2,rfl⟩:=hv j v hP;have hS':=kp S _ (by simpa using hSI) hS;show tm _ A.in1 (tryCatch (holding [Value.int (val j) t2,Value.int (val j) t2] (richCompare .Gt (.int (val j) t2) (.int z t) >>= _)) _ >>= _) _ _ _;refine sN (tV (tQ (sN (CmpOf.ints_gt (prog:=prog) (w:=w) (A:=A.in1) (P:=λi v=>∃t,v=Value.int (if i=0 then val j else z) t) (λi=>if i=0 then val j else z) (λi v h=>h) 0 1 _ _ _ _ _ #[t2,rfl] #[t,rfl] ?_))));refine sN (tQ (tI (sN (tY (sP ?_)))));by_cases g:val j > z
  ·erw[if_true,Nat.one_ne_zero,if_false,g,decide_true]
   refine sN (Ai hS' rfl (sN (tY ?_)));rw[nm];refine sP #[plainId_quiet bL _,ih (j+1) (val j) t2 _ _ ⋯ ⋯ (λi hi=>?_) (W.frame _ _ _ st λb hb o q=>?_).1 (W.frame _ _ _ st λb hb o q=>?_).2 (get?_update_seq hS' _) λz' t' h'' tk'' a1 a2=>hR z' t' h'' tk'' a1 λb o hb hb' q=>a2 b o hb hb' ((aC _ _ (Ne.symm hb')).trans (kp b o (by simpa using hb) q))]
   ·by_cases e:i=j
    ·rw[e];exact eC _
    ·have:=hz i ⋯;lia
   all_goals
    refine (aC _ _ (λe:S=b=>?_)).trans q;subst e;rcases BE.mp hb with e | e
    ·exact hSI e
    ·exact hSl (BF.mp e)
  ·erw[if_true,Nat.one_ne_zero,if_false,g,decide_false,bB]
   refine sN (tY ?_);rw[nm];refine sP #[plainId_quiet bL _,ih (j+1) z t _ _ ⋯ ⋯ (λi hi=>?_) st.1 st.2 hS' λz' t' h'' tk'' a1 a2=>hR z' t' h'' tk'' a1 λb o hb hb' q=>a2 b o hb hb' (kp b o (by simpa using hb) q)];by_cases e:i=j
   ·rw[e];lia
   ·exact hz i ⋯
def UW(a v:sY):argsOk "max" #[[a],[(bK "default",v)]]:=by unfold argsOk;kernel_rfl
theorem Jd{E:sY->sZ->Prop}{s:sZ}{Q:sY->sZ->Prop}(hh:A.handled=Bv)(xs:Array sY)(val:Nat->Int)(hv:∀i v,xs[i]? = Bu v->∃t,v=Value.int (val i) t)(hl:s.heap.IsList l xs)(d:sY)(h:∀v h' tk,(xs.size=0->v=d)->(0<xs.size->∃z t,v=Value.int z t/\∀i,i<xs.size->val i<=z)->(∀b o,s.heap.get? b=Bu o->h'.get? b=Bu o)->Q v { s with heap:=h',toks:=tk }) :
  tm (model prog w) A (call (.builtin "max") [.ref l] [(bK "default",d)]) Q E s:=by
 have nm:(toString "max" ++ toString ".loop" : String)="max.loop":=∅;have hlt:l<s⁻¹:=by obtain⟨_,e,_⟩:=hl;exact aq e
 refine kmb_tree PySem.F.kind_max PySem.F.plain_max PySem.F.entry_max (UW _ _) ?_;show tm _ A.in1 (Builtin.Builtins.bindParams "max" ["key","default"] 0 #[[],[(bK "default",d)]] >>= _) _ _ s;refine sN (wpAny_of_eq (show Builtin.Builtins.bindParams "max" ["key","default"] 0 #[[],[(bK "default",d)]]=pure [Bv,Bu d]from rfl) (sN (sP ?_)));refine sN (Ap hl (sN (AV ?_ (aG _))));rw[nm];refine sP #[plainId_quiet bL _,?_];have gI:(s.heap.push { cls:=.type "list_iterator",data:=.fields (u9 [.ref l,.int 0 0]) }).IsListIter s⁻¹ l 0:=#[_,ay _ rfl,rfl,rfl];have gl:=hl.push { cls:=.type "list_iterator",data:=.fields (u9 [.ref l,.int 0 0]) };have kp0:∀b o,s.heap.get? b=Bu o->(s.heap.push { cls:=.type "list_iterator",data:=.fields (u9 [.ref l,.int 0 0]) }).get? b=Bu o:=λb o q=>aa _ q;have hsz:(s.heap.push { cls:=.type "list_iterator",data:=.fields (u9 [.ref l,.int 0 0]) }).objs.size=s⁻¹+1:=bG _ _;have hold:∀b o,s.heap.get? b=Bu o->b<s⁻¹:=λb o q=>aq q;have hlI:l≠s⁻¹:=aB hlt;generalize s.heap.push { cls:=.type "list_iterator",data:=.fields (u9 [.ref l,.int 0 0]) }=h1 at *;generalize hIe:s⁻¹=I at *;have W:=Walks.list (prog:=prog) (w:=w) (A:=A.in1) hh I l hlI xs;have gS:(h1.push { cls:=.type "list",data:=.seq ([]:List sY).toArray }).get? h1.objs.size=Bu (tJ "list" #[] 0):=ay _ rfl;have st0:=W.frame 0 _ (h1.push { cls:=.type "list",data:=.seq ([]:List sY).toArray }) #[gI,gl] λb _ o q=>aa _ q;have kp1:∀b o,s.heap.get? b=Bu o->(h1.push { cls:=.type "list",data:=.seq ([]:List sY).toArray }).get? b=Bu o:=λb o q=>aa _ (kp0 b o q);have hSI:h1.objs.size≠I:=by rw[hsz];exact Nat.succ_ne_self I
 have hSl:h1.objs.size≠l:=by rw[hsz];exact bR (cS hlt)
 have hSb:∀b o,s.heap.get? b=Bu o->b≠I/\b≠h1.objs.size:=λb o q=>#[aB (hold b o q),by rw[hsz];exact aB (cS (hold b o q))];generalize h1.push { cls:=.type "list",data:=.seq ([]:List sY).toArray }=h2 at *;generalize h1.objs.size=S at *;refine tX (b:=Builtin.«max.loop») dI ?_;rw[Around.under_plainId (id:="max.loop") bL _];show tm _ A.in1 (seqItems? (u6 S) >>= _) _ _ _;refine sN (tN (items:=#[]) gS rfl ?_);show tm _ A.in1 (tryCatch (pyNext (u6 I)) _ >>= _) _ _ _;by_cases hz:xs.size=0
 ·refine sN (tV (W.done _ _ _ (by rw[hz];exact st0) λh' tk kp=>?_));show tm _ A.in1 (rule _ >>= λ_=>_) _ _ _;refine sN (AG (sP ?_));exact h d h' tk (λ_=>rfl) (λq=>y4 q ⋯) λb o q=>kp b o (by simpa using (hSb b o q).1) (kp1 b o q)
 ·refine sN (tV (W.item 0 _ _ _ ⋯ st0 λv h' tk hP st kp=>?_));obtain⟨t,rfl⟩:=hv 0 v hP;have hS':=kp S _ (by simpa using hSI) gS;show tm _ A.in1 (updateSeq S (λ_=>(u9 [Value.int (val 0) t,Value.int (val 0) t])) >>= _) _ _ _;refine sN (Ai hS' rfl ?_);rw[nm]
  have st':=W.frame _ _ (h'.update S (Obj.mapSeq λ_=>(u9 [Value.int (val 0) t,Value.int (val 0) t]))) st λb hb o q=>by
   refine (aC _ _ (λe:S=b=>?_)).trans q;subst e;rcases BE.mp hb with e | e
   ·exact hSI e
   ·exact hSl (BF.mp e)
  refine sP #[plainId_quiet bL _,Jn hh hlI hSI hSl xs val hv d _ 1 (val 0) t _ _ rfl ⋯ (λi hi=>?_) st'.1 st'.2 (get?_update_seq hS' _) λz' t' h'' tk'' a1 a2=>?_]
  ·have:i=0:=⋯;rw[this];exact eC _
  ·exact h _ h'' tk'' (λq=>y4 q hz) (λ_=>#[z',t',rfl,a1]) λb o q=>a2 b o (hSb b o q).1 (hSb b o q).2 ((aC _ _ (Ne.symm (hSb b o q).2)).trans (kp b o (by simpa using (hSb b o q).1) (kp1 b o q)))
end
section
variable{X:Cx}{id:String}{x:tw}{e:tD}{es:List tD}{kws:List Bm}{ks:List tw}{p pos:Ad}{t tk:TA}
def zaq(X:Cx)(id:String)(ks:List tw)(r:List V->List V->Hp->VK->Prop):Prop :=
 ∀(By:List (sX × tR)) (s:sZ) (σ:L2.St) (H:Hp) (vs zs:List V) (us ws:List sY) (Q:VK),Inv X By σ H s->Vals vs us->Vals zs ws->r vs zs H Q->tm (model X.prog X.w) X.A (call (.builtin id) us (ks.zip ws)) (EP X By σ Q) X.xe s
def zgK(r:List V->List V->Hp->VK->Prop)(t tk:TA):TE:=λσ H Q=>t σ H λvs H1=>tk σ H1 λzs H2=>r vs zs H2 Q
def JA{r:List V->List V->Hp->VK->Prop}(hc:zaq X id ks r)(hg:Gl X x)(hm:X.mg x=Bv)(hv:tS x=Bu (.builtin id))(ha:PA X (e::es) t)(hk:PK X kws tk)(hks:(tT pos (tH kws X.env)).filterMap (·.1)=ks:=by rfl)(hn:x≠"__name__":=by decide)(hdb:(x ==("__debug__" : tw))=Bx:=by decide)(he:tK pos (sS (e::es) X.env)=(Bx,eval e X.env)::tK pos (sS es X.env):=by rfl) (hpl:(tK pos (sS (e::es) X.env)).any (·.1)=Bx:=by rfl)(hall:(tT pos (tH kws X.env)).all (·.1.isSome)=Bw:=by rfl) (hkw:(tT pos (tH kws X.env)).any (·.1.isNone)=Bx:=by rfl):PE X (.Call (.Name x p) (e::es) kws pos) (zgK r t tk):=by intros Q I h;refine tO (vq I hg hm hv ?_ hn hdb);refine callWith_kw (thn (ha pos By s σ H _ I h) λus s1=>el5 λvs H1 I1 r1 q1=>thn (hk pos By s1 σ H1 _ I1 q1) λws s2=>el5 λzs H2 I2 r2 q2=>?_) he hpl hall hkw;rw[hks];exact hc By s2 σ H2 vs zs us ws Q I2 r1 r2 q2
def zfl(K:sV):List V->List V->Hp->VK->Prop:=λvs zs H Q=>∃(a:sX) (ns:List Int) (d:Int),vs=[.ref a]/\zs=[.int d]/\SqL K H a (ns.map V.int)/\∀z:Int,(ns=[]->z=d)->(∀n ∈ ns,n<=z)->Q (.int z) H
theorem zeN(hc:X.calm=Bw):zaq X "max" [bK "default"] (zfl X.K):=by
 intros vs zs us ws Q I r1 r2 h;obtain⟨a,ns,d,rfl,rfl,hS,q⟩:=h;obtain⟨u,rfl,ru⟩:=wx r1;cases ru;obtain⟨w',rfl,td,rfl⟩:=wx r2;obtain⟨its,rv,pl,hz⟩:=I.list hS;have hlen:=rv.length;rw[ac]at hlen
 have hat:∀(i:Nat) (v:sY),its.toArray[i]? = Bu v->∃t,v=Value.int (ns.getD i 0) t:=λi v hi=>by
  have hi':its[i]? = Bu v:=by simpa using hi
  have hil:=(BB.mp hi').1;obtain⟨u,hu,t,rfl⟩:=xR rv (j:=i) (x:=.int (ns.getD i 0)) (by rw[ar,af,ah ⋯];rfl);rw[hi']at hu;cases hu;exact#[t,rfl]
 refine Jd (I.ok.hd hc) its.toArray (λi=>ns.getD i 0) hat pl.isList (.int d td) λv h' tk h0 h1 kp=>?_;by_cases hn:ns=[]
 ·have:=h0 (by rw[ak,<- hlen,hn];rfl);subst this;exact#[.int d,H,I.kept kp,#[_,rfl],q d (λ_=>rfl) (λn hm=>by rw[hn]at hm;cases hm)]
 ·obtain⟨z,t,rfl,hzz⟩:=h1 (by rw[ak,<- hlen];exact BR.mpr hn);refine#[.int z,H,I.kept kp,#[_,rfl],q z (λe=>y4 e hn) λn hm=>?_];obtain⟨i,hi,rfl⟩:=List.getElem_of_mem hm;have:=hzz i (by rw[ak,<- hlen];exact hi);rw[af,ah hi]at this;exact this
end
section
variable{prog:tu}{w:tz}{A:tB}{R:AR->sZ->Prop}{I l S:sX}
end
section
variable{X:Cx}
end
section
variable{prog:tu}{w:tz}{A:tB}{R:AR->sZ->Prop}{I S:sX}{fp wr:List sX}{P:Nat->sY->Prop}{St:Nat->tE->Prop}
def WR:(toString "min" ++ toString ".loop" : String)="min.loop":=∅
def Wo(W:Walks prog w A.in1 I fp wr 2 P St)(hw:S ∉ wr){v:sY}{c:Nat}{s:sZ}(st:St 2 s.heap)(hS:s.heap.get? S=Bu (tJ "list" (u9 [v,v]) c))(hR:∀h' tk,(∀b o,b ∉ wr->b≠S->s.heap.get? b=Bu o->h'.get? b=Bu o)->R (.ok (.ret v)) { s with heap:=h',toks:=tk }):Ae (model prog w) A (.builtin "min.loop" #[[.ref I,.none,.ref S],[]]) R s:=by refine tX (b:=Builtin.«min.loop») dJ ?_;rw[Around.under_plainId (id:="min.loop") bM _];show tm _ A.in1 (seqItems? (u6 S) >>= _) _ _ s;refine sN (tN (items:=(u9 [v,v])) hS rfl ?_);show tm _ A.in1 (tryCatch (pyNext (u6 I)) _ >>= _) _ _ s;refine sN (tV (W.done s _ _ st λh' tk kp=>?_));have hS':=kp S _ hw hS;show tm _ A.in1 (updateSeq S (λ_=>(#[]:Array sY)) >>= _) _ _ _;refine sN (Ai hS' rfl (sN (tY (sP ?_))));exact hR _ tk λb o hb hb' q=>(aC _ _ (Ne.symm hb')).trans (kp b o hb q)
theorem VF(W:Walks prog w A.in1 I fp wr 2 P St)(hf:S ∉ fp){a b:sY}{bt:Bool}{c:Nat}{s:sZ}(hb:∀v,P 1 v->v=b)(st:St 1 s.heap)(hS:s.heap.get? S=Bu (tJ "list" (u9 [a,a]) c))(hc:∀h' tk,(∀b o,b ∉ wr->b≠S->s.heap.get? b=Bu o->h'.get? b=Bu o)->LtAt A.in1 { s with heap:=h',toks:=tk } b a bt)(hR:∀h' tk,(∀b o,b ∉ wr->b≠S->s.heap.get? b=Bu o->h'.get? b=Bu o)->R (.ok (.ret (if bt=Bw then b else a))) { s with heap:=h',toks:=tk }):Ae (model prog w) A (.builtin "min.loop" #[[.ref I,.none,.ref S],[]]) R s:=by
 have hw:S ∉ wr:=λh=>hf (W.sub _ h);refine tX (b:=Builtin.«min.loop») dJ ?_;rw[Around.under_plainId (id:="min.loop") bM _];show tm _ A.in1 (seqItems? (u6 S) >>= _) _ _ s;refine sN (tN (items:=(u9 [a,a])) hS rfl ?_);show tm _ A.in1 (tryCatch (pyNext (u6 I)) _ >>= _) _ _ s;refine sN (tV (W.item 1 s _ _ ∅ st λv h' tk hP st' kp=>?_));obtain rfl:=hb v hP;have hS':=kp S _ hw hS;show tm _ A.in1 (tryCatch (holding [v,v] (richCompare .Lt v a >>= _)) _ >>= _) _ _ _;refine sN (tV (tQ (sN (hc h' tk (λb o q _ e=>kp b o q e) prog w _ _ ?_))));refine sN (tQ (tI (sN (tY (sP ?_)))))
 cases bt with
 | true =>
  erw[if_true]
  refine sN (Ai hS' rfl (sN (tY ?_)));rw[WR];refine sP #[plainId_quiet bM _,Wo W hw (W.frame _ _ _ st' λb hbf o e=>?_) (get?_update_seq hS' _) λh'' tk'' k2=>?_]
  ·exact (aC _ _ (λz:S=b=>hf (by rw[z];exact hbf))).trans e
  ·exact hR h'' tk'' λb o q1 q2 e=>k2 b o q1 q2 ((aC _ _ (Ne.symm q2)).trans (kp b o q1 e))
 | false =>
  erw[bB,if_false]
  refine sN (tY ?_);rw[WR];refine sP #[plainId_quiet bM _,Wo W hw st' hS' λh'' tk'' k2=>?_];exact hR h'' tk'' λb o q1 q2 e=>k2 b o q1 q2 (kp b o q1 e)
def UF(W:Walks prog w A.in1 I fp wr 2 P St)(hf:S ∉ fp){a b:sY}{bt:Bool}{c:Nat}{s:sZ}(ha:∀v,P 0 v->v=a)(hb:∀v,P 1 v->v=b)(st:St 0 s.heap)(hS:s.heap.get? S=Bu (tJ "list" #[] c))(hc:∀h' tk,(∀b o,b ∉ wr->b≠S->s.heap.get? b=Bu o->h'.get? b=Bu o)->LtAt A.in1 { s with heap:=h',toks:=tk } b a bt)(hR:∀h' tk,(∀b o,b ∉ wr->b≠S->s.heap.get? b=Bu o->h'.get? b=Bu o)->R (.ok (.ret (if bt=Bw then b else a))) { s with heap:=h',toks:=tk }):Ae (model prog w) A (.builtin "min.loop" #[[.ref I,.none,.ref S],[]]) R s:=by
 have hw:S ∉ wr:=λh=>hf (W.sub _ h);refine tX (b:=Builtin.«min.loop») dJ ?_;rw[Around.under_plainId (id:="min.loop") bM _];show tm _ A.in1 (seqItems? (u6 S) >>= _) _ _ s;refine sN (tN (items:=#[]) hS rfl ?_);show tm _ A.in1 (tryCatch (pyNext (u6 I)) _ >>= _) _ _ s;refine sN (tV (W.item 0 s _ _ ∅ st λv h' tk hP st' kp=>?_));obtain rfl:=ha v hP;have hS':=kp S _ hw hS;show tm _ A.in1 (updateSeq S (λ_=>(u9 [v,v])) >>= _) _ _ _;refine sN (Ai hS' rfl ?_);rw[WR];have k1:∀b o,b ∉ wr->b≠S->s.heap.get? b=Bu o->(h'.update S (Obj.mapSeq λ_=>(u9 [v,v]))).get? b=Bu o:=λb o q1 q2 e=>(aC _ _ (Ne.symm q2)).trans (kp b o q1 e);refine sP #[plainId_quiet bM _,VF (a:=v) (bt:=bt) W hf hb (W.frame _ _ _ st' λb hbf o e=>?_) (get?_update_seq hS' _) (λh'' tk'' k2=>?_) λh'' tk'' k2=>?_]
 ·exact (aC _ _ (λz:S=b=>hf (by rw[z];exact hbf))).trans e
 ·exact hc h'' tk'' λb o q1 q2 e=>k2 b o q1 q2 (k1 b o q1 q2 e)
 ·exact hR h'' tk'' λb o q1 q2 e=>k2 b o q1 q2 (k1 b o q1 q2 e)
def zae{a b:sY}{bt:Bool}{E:sY->sZ->Prop}{s:sZ}{Q:sY->sZ->Prop}(hh:A.handled=Bv)(hc:∀h' tk,(∀b o,s.heap.get? b=Bu o->h'.get? b=Bu o)->LtAt A.in1 { s with heap:=h',toks:=tk } b a bt)(h:∀h' tk,(∀b o,s.heap.get? b=Bu o->h'.get? b=Bu o)->Q (if bt=Bw then b else a) { s with heap:=h',toks:=tk }):tm (model prog w) A (call (.builtin "min") [a,b]) Q E s:=by
  refine kmb_tree PySem.F.kind_min PySem.F.plain_min PySem.F.entry_min (PySem.F.args_min2 _ _) ?_;show tm _ A.in1 (Builtin.Builtins.bindParams "min" ["key","default"] 0 #[[],[]] >>= _) _ _ s;refine sN (wpAny_of_eq (show Builtin.Builtins.bindParams "min" ["key","default"] 0 #[[],[]]=pure [Bv,Bv]from rfl) ?_);show tm _ A.in1 (newTuple [a,b] >>= _) _ _ s;refine sN (Aq ?_);have hT:(s.heap.push { cls:=.type "tuple",data:=.seq (u9 [a,b]) }).IsTuple s⁻¹ (u9 [a,b]):=#[_,ay _ rfl,rfl,0,rfl];have hz:(s.heap.push { cls:=.type "tuple",data:=.seq (u9 [a,b]) }).objs.size=s⁻¹+1:=bG ..;have k0:∀b' o,s.heap.get? b'=Bu o->(s.heap.push { cls:=.type "tuple",data:=.seq (u9 [a,b]) }).get? b'=Bu o:=λb' o q=>aa _ q;have hold:∀b o,s.heap.get? b=Bu o->b<s⁻¹:=λb o q=>aq q;refine sN (AA hT (sN (Aq ?_)));rw[WR];refine sP #[plainId_quiet bM _,?_];generalize s.heap.push { cls:=.type "tuple",data:=.seq (u9 [a,b]) }=h1 at *;generalize hTe:s⁻¹=T at *;have gI:(h1.push { cls:=.type "tuple_iterator",data:=.fields (u9 [.ref T,.int 0 0]) }).IsTupleIter h1.objs.size T 0:=#[_,ay _ rfl,rfl,rfl];have gT:=hT.push { cls:=.type "tuple_iterator",data:=.fields (u9 [.ref T,.int 0 0]) };have k1:∀b' o,s.heap.get? b'=Bu o->(h1.push { cls:=.type "tuple_iterator",data:=.fields (u9 [.ref T,.int 0 0]) }).get? b'=Bu o:=λb' o q=>aa _ (k0 b' o q);have hz1:(h1.push { cls:=.type "tuple_iterator",data:=.fields (u9 [.ref T,.int 0 0]) }).objs.size=h1.objs.size+1:=bG ..;generalize h1.push { cls:=.type "tuple_iterator",data:=.fields (u9 [.ref T,.int 0 0]) }=h2 at *;generalize h1.objs.size=I at *;have a1:Nat.lt T I:=by rw[hz];exact da _
  have a2:Nat.lt I h2.objs.size:=by rw[hz1];exact da _
  have W:=Walks.tuple (prog:=prog) (w:=w) (A:=A.in1) hh I T (aB a1) (u9 [a,b]);refine UF (S:=h2.objs.size) (a:=a) (b:=b) (bt:=bt) W (λq=>?_) (λv q=>?_) (λv q=>?_) (W.frame 0 _ _ #[gI,gT] λb _ o q=>aa _ q) (ay _ rfl) (λh' tk kp=>hc h' tk λb o q=>?_) λh' tk kp=>h h' tk λb o q=>?_
  . rcases BE.mp q with e | q
    . exact bR a2 e
    . exact bR (gf a1 a2) (BF.mp q)
  . cases q;rfl
  . cases q;rfl
  all_goals
    have b1:=gf (hold b o q) a1;exact kp b o (λz=>aB b1 (BF.mp z)) (aB (gf b1 a2)) (aa _ (k1 b o q))
end
section
variable{X:Cx}
def zgh(K:sV):List V->Hp->VK->Prop:=λxs H Q=>∃(p r:sX) (i j k m:Int),xs=[.ref p,.ref r]/\SqT K H p [.int i,.int j]/\SqT K H r [.int k,.int m]/\Q (if k<i\/(k=i/\m<j)then .ref r else .ref p) H
def zci(i j k m:Int):ltD (.tup [.int k,.int m]) (.tup [.int i,.int j])=decide (k<i\/(k=i/\m<j)):=by
 erw[ltD,ug,eqD]
 by_cases h1:k=i
 ·subst h1;by_cases h2:m=j
  ·subst h2;simp
  ·simp [h2]
 ·simp [h1]
theorem zeO(hc:X.calm=Bw)(hu:X.A.units+100<cLine):wK X (.builtin "min") (zgh X.K):=by
 intros xs us Q I r h;obtain⟨p,q,i,j,k,m,rfl,hp,hq,hQ⟩:=h;obtain⟨u,v,rfl,r1,r2⟩:=X6 r;have d1:Is X.K H (.tup [.int i,.int j]) (.ref p):=by erw[Is,Iss];exact#[p,_,rfl,hp,_,_,rfl,rfl,_,_,rfl,rfl,rfl]
 have d2:Is X.K H (.tup [.int k,.int m]) (.ref q):=by erw[Is,Iss];exact#[q,_,rfl,hq,_,_,rfl,rfl,_,_,rfl,rfl,rfl]
 refine zae (bt:=decide (k<i\/(k=i/\m<j))) (I.ok.hd hc) (λh' tk kp=>?_) λh' tk kp=>#[_,H,I.kept kp,?_,hQ]
 ·rw[<- zci];exact UZ (I.kept kp) 50 X.A.in1 _ _ _ _ _ _ (by show X.A.units+1+50<cLine;lia) (by erw[dpD,vG];decide) (by erw[okD,jY,and_self]) d2 d1 r2 r1
 ·by_cases g:k<i\/(k=i/\m<j)
  ·rw[y6 g,y6 (w9 g)];exact r2
  ·rw[y9 g,y9 (by simpa using g)];exact r1
end
section
variable{X:Cx}{k j:Nat}{C:sX}{m:tw}{ps:List tw}{sp:Sp}{o e:tD}{es:List tD}{ta:TE}{t:TA}{apos pos p:Ad}{x:tw}{E:XK}
end
def zfj(y l:())(e:Nat):Prop:=e+y.length<=l.length/\(l.drop e).take y.length=y
end in instance (y l:()) (e:Nat):Decidable (zfj y l e):=by unfold zfj;infer_instance
end in def zgY(y l:()):Option (() × ()):=((aN (l.length+1)).find? λe=>decide (zfj y l e)).map λe=>(l.take e,l.drop (e+y.length))
section
variable{X:Cx}
theorem kW{cn:tw}{np hpos:Ad}{b0:tF}{suite:List tF}{hs:List AX}{D:sX}{th:TS}(hg:Gl X cn)(hm:X.mg cn=Bu (.ref D))(hdb:(cn ==("__debug__" : tw))=Bx)(xc:Zk X.K D=Bw)(hsu:∀e,PSs (Cx.suite X e) (b0::suite) th){By:List (sX × tR)} {s:sZ} {σ:St} {H:Hp} {Dd:uf} {x C T:sX} {dx:Option sX} (I:Inv X By σ H s) (hob:∃t cx kx,s.heap.get? x=Bu (xog C dx t (.ref T) cx kx)) (hoT:∃oT ts,s.heap.get? T=Bu oT/\oT.data=.fields ts/\3<ts.size) (fT:wz X By H T)(hb:df X.K (.ref C) (.ref D)=Bu Bw) (q:th Dd σ H):tm (model X.prog X.w) X.A (handleBy (.ref x) X.env (.ExceptHandler (Bu (.Name cn np)) Bv (b0::suite) hpos::hs)) (SP X By Dd) X.xe s:=by
 obtain⟨t,cx,kx,ob⟩:=hob;obtain⟨oT,ts,eT,dT,zT⟩:=hoT;have I':=Inv.suite I (.ref x);refine wpAny_handleBy_cons (codeAny_handlers_test (v0 (X:=Cx.suite X (.ref x)) I' hg hm (zeI I.kIn xc ob hb ?_) hdb)) (by intro q;cases q);refine codeAny_handlers_suite ?_;unfold setFlight;refine sN (tL ob rfl (x:=.ref T) rfl ?_);rw[y6 (show (u6 T != u5)=Bw from by simp)];refine Af eT dT zT ?_;obtain⟨f0,f1,f2,f3,f4,f5⟩:=fT
 have I2:Inv X By σ H { s with heap:=s.heap.update T (Obj.mapFields (·.setIfInBounds 3 ((Bv:Option sX).elim u5 λf=>rawInt f))) } :=
  I.turned (t':=s.toks) (λb o hb e=>(aC _ _ (Ne.symm hb)).trans e) f0 f1 f3 f4 f5
 refine Ac (thn (hsu _ By _ σ H _ (Inv.suite I2 (.ref x)) q) λfl s4 q4=>?_)
 cases fl with
 | next =>
  obtain⟨σ4,H4,I4,n4⟩:=q4;exact#[_,_,Inv.unsuite I I4,n4]
 | brk =>
  obtain⟨σ4,H4,I4,n4⟩:=q4;exact#[_,_,Inv.unsuite I I4,n4]
 | cont =>
  obtain⟨σ4,H4,I4,n4⟩:=q4;exact#[_,_,Inv.unsuite I I4,n4]
 | ret v =>
  obtain⟨y,σ4,H4,I4,r4,n4⟩:=q4;exact#[y,_,_,Inv.unsuite I I4,r4,n4]
def zaW(K:sV)(i:Nat)(D:sX)(te:TX)(th:TS):TS:=λDd σ H=>te σ H (λv H1=>Dd.nx (σ.set i (Bu v)) H1) λcls dx H1=>∃C,cls=.ref C/\df K (.ref C) (.ref D)=Bu Bw/\∀x,H1 x=Bv->th Dd σ (upd H1 x (XT x C dx))
def J5{i:Nat}{y:tw}{yp apos pos np hpos:Ad}{e:tD}{te:TX}{cn:tw}{b0:tF}{suite:List tF}{hs:List AX}{D:sX}{th:TS}(hN:X.N.Nodup) (hy:X.N[i]? = Bu y) (hly:Loc X.env.scope y) (hf:X.fn y=Bw\/X.env.scope.names.lookup y=Bu .local) (hst:X.stack=X.env::X.outer/\X.env.frame=Bu X.env.locals) (he:PEX X e te) (hg:Gl X cn) (hm:X.mg cn=Bu (.ref D)) (xc:Zk X.K D=Bw) (hsu:∀e,PSs (Cx.suite X e) (b0::suite) th) (hdb:(cn ==("__debug__" : tw))=Bx:=by decide) (hsw:swapsWith e (Bu (.Name y yp)) apos.line X.env=pure Bx:=by rfl) :
  PS X (.Try [.Assign [.Name y yp] e apos] (.ExceptHandler (Bu (.Name cn np)) Bv (b0::suite) hpos::hs) [] [] pos) (zaW X.K i D te th):=by
 intros D I hq;refine Bj (Am (Bc (Ak (he By s σ H _ _ I hq) (λv s1=>el5 λz H1 I1 r1 q1=>?_) λe s1 fl=>?_) hsw))
 ·exact ZK I1 hN hy hly r1 (λs2 I2=>Aj (Aj #[_,H1,I2,q1])) hf
 ·obtain⟨cx,kx,H1,x,C,t,dx,tb,rfl,I1,ob,tr,fx,fT,C',ec,hsb,q1⟩:=fl;cases ec;have fr:X.A.frames=Bu (X.env::X.outer):=by rw[<- hst.1];exact I1.ok.frames
  have ff:s1.heap.FunFrames X.base (X.env::X.outer):=by rw[<- hst.1];exact I1.stack
  refine kY fr ff hst.2 hst.2 ob tr λh' T oT ts e1 nT oldT e2 d2 z2 k1 k2=>?_
  have fT':wz X By H1 T:=by
   rcases oldT with z | z
   ·exact fT T z
   ·exact I1.fpOk z (I1.hok.fresh z)
  have tbs:∀b,tb=.ref b->H1 b=Bv:=λb hb=>(fT b hb).1
  have nch:∀b o,s1.heap.get? b=Bu o->b ∉ (x::T::tbL tb)->b≠x/\tb≠.ref b:=λb o _ hb=>by
   refine#[λz=>hb (by simp [z]),λz=>hb ?_];rw[z];simp [tbL]
  have un:Un (frs X.stack) (x::T::tbL tb) H1 H1 s1.heap h':=by
   rw[hst.1];refine#[λb o e n hb hc=>?_,λb o e n hb hc=>?_,λb o e n _=>n,λb o e hc=>?_,λb xs e=>e,λb o u e=>e,λb ps e=>#[#[],by rw[e];simp]]
   ·obtain⟨a1,a2⟩:=nch b o e hc;exact k1 b o a1 a2 hb e
   ·obtain⟨a1,a2⟩:=nch b o e hc;exact k2 b o a1 a2 e
   ·obtain⟨a1,a2⟩:=nch b o e hc;obtain⟨sl,q⟩:=k2 b o a1 a2 e;exact#[_,q]
  have hok:HOk X.prog X.w H1 h':=λb u e=>by
   refine (I1.hok b u e).stay (λc v hc q=>k1 c v ?_ ?_ ?_ q) (λ_ q=>q) λ_ _ q=>q
   ·rintro rfl;rcases hc with rfl | hc
    ·rw[fx.1]at e;cases e
    ·rw[fx.1]at hc;cases hc
   ·intro z;have:=tbs c z;rcases hc with rfl | hc
    ·rw[this]at e;cases e
    ·rw[this]at hc;cases hc
   ·intro z;rw[<- hst.1]at z;have:=I1.stkFree c z;rcases hc with rfl | hc
    ·rw[this]at e;cases e
    ·rw[this]at hc;cases hc
  have I2:Inv X By σ H1 { s1 with heap:=h' }:=I1.call' (s':={ s1 with heap:=h' }) rfl un hok I1.bare λb hb=>by
   have fb:wz X By H1 b:=by
    rcases BE.mp hb with z | z
    ·rw[z];exact fx
    ·rcases BE.mp z with z | z
     ·rw[z];exact fT'
     ·cases tb with
      | ref b' =>
       have:b=b':=by simpa [tbL] using z
       rw[this];exact fT b' rfl
      | _=>simp [tbL]at z
   obtain⟨_,a1,_,a3,a4,a5⟩:=fb;exact#[a3,a1,a4,a5]
  have I3:Inv X By σ (upd H1 x (XT x C dx)) { s1 with heap:=h' }:=Inv.track I2 fx (zdq e1);exact kW hg hm hdb xc hsu I3 #[t,_,_,e1] #[oT,ts,e2,d2,z2] #[by rw[zq nT];exact fT'.1,fT'.2] hsb (q1 x fx.1)
def Jt(K:sV)(D:sX)(te:TX)(th:TS):TS:=λDd σ H=>te σ H (λz H1=>Dd.rt z H1) λcls dx H1=>∃C,cls=.ref C/\df K (.ref C) (.ref D)=Bu Bw/\∀x,H1 x=Bv->th Dd σ (upd H1 x (XT x C dx))
def WG{apos pos np hpos:Ad}{e:tD}{te:TX}{cn:tw}{b0:tF}{suite:List tF}{hs:List AX}{D:sX}{th:TS}(hst:X.stack=X.env::X.outer/\X.env.frame=Bu X.env.locals) (he:PEX X e te) (hg:Gl X cn) (hm:X.mg cn=Bu (.ref D)) (xc:Zk X.K D=Bw) (hsu:∀e,PSs (Cx.suite X e) (b0::suite) th) (hdb:(cn ==("__debug__" : tw))=Bx:=by decide) :
  PS X (.Try [.Return (Bu e) apos] (.ExceptHandler (Bu (.Name cn np)) Bv (b0::suite) hpos::hs) [] [] pos) (Jt X.K D te th):=by
 intros D I hq;refine Bj (Am (Bb (Ak (he By s σ H _ _ I hq) (λv s1=>el5 λz H1 I1 r1 q1=>?_) λe s1 fl=>?_)))
 ·exact#[z,σ,H1,I1,r1,q1]
 ·obtain⟨cx,kx,H1,x,C,t,dx,tb,rfl,I1,ob,tr,fx,fT,C',ec,hsb,q1⟩:=fl;cases ec;have fr:X.A.frames=Bu (X.env::X.outer):=by rw[<- hst.1];exact I1.ok.frames
  have ff:s1.heap.FunFrames X.base (X.env::X.outer):=by rw[<- hst.1];exact I1.stack
  refine kY fr ff hst.2 hst.2 ob tr λh' T oT ts e1 nT oldT e2 d2 z2 k1 k2=>?_
  have fT':wz X By H1 T:=by
   rcases oldT with z | z
   ·exact fT T z
   ·exact I1.fpOk z (I1.hok.fresh z)
  have tbs:∀b,tb=.ref b->H1 b=Bv:=λb hb=>(fT b hb).1
  have nch:∀b o,s1.heap.get? b=Bu o->b ∉ (x::T::tbL tb)->b≠x/\tb≠.ref b:=λb o _ hb=>by
   refine#[λz=>hb (by simp [z]),λz=>hb ?_];rw[z];simp [tbL]
  have un:Un (frs X.stack) (x::T::tbL tb) H1 H1 s1.heap h':=by
   rw[hst.1];refine#[λb o e n hb hc=>?_,λb o e n hb hc=>?_,λb o e n _=>n,λb o e hc=>?_,λb xs e=>e,λb o u e=>e,λb ps e=>#[#[],by rw[e];simp]]
   ·obtain⟨a1,a2⟩:=nch b o e hc;exact k1 b o a1 a2 hb e
   ·obtain⟨a1,a2⟩:=nch b o e hc;exact k2 b o a1 a2 e
   ·obtain⟨a1,a2⟩:=nch b o e hc;obtain⟨sl,q⟩:=k2 b o a1 a2 e;exact#[_,q]
  have hok:HOk X.prog X.w H1 h':=λb u e=>by
   refine (I1.hok b u e).stay (λc v hc q=>k1 c v ?_ ?_ ?_ q) (λ_ q=>q) λ_ _ q=>q
   ·rintro rfl;rcases hc with rfl | hc
    ·rw[fx.1]at e;cases e
    ·rw[fx.1]at hc;cases hc
   ·intro z;have:=tbs c z;rcases hc with rfl | hc
    ·rw[this]at e;cases e
    ·rw[this]at hc;cases hc
   ·intro z;rw[<- hst.1]at z;have:=I1.stkFree c z;rcases hc with rfl | hc
    ·rw[this]at e;cases e
    ·rw[this]at hc;cases hc
  have I2:Inv X By σ H1 { s1 with heap:=h' }:=I1.call' (s':={ s1 with heap:=h' }) rfl un hok I1.bare λb hb=>by
   have fb:wz X By H1 b:=by
    rcases BE.mp hb with z | z
    ·rw[z];exact fx
    ·rcases BE.mp z with z | z
     ·rw[z];exact fT'
     ·cases tb with
      | ref b' =>
       have:b=b':=by simpa [tbL] using z
       rw[this];exact fT b' rfl
      | _=>simp [tbL]at z
   obtain⟨_,a1,_,a3,a4,a5⟩:=fb;exact#[a3,a1,a4,a5]
  have I3:Inv X By σ (upd H1 x (XT x C dx)) { s1 with heap:=h' }:=Inv.track I2 fx (zdq e1);exact kW hg hm hdb xc hsu I3 #[t,_,_,e1] #[oT,ts,e2,d2,z2] #[by rw[zq nT];exact fT'.1,fT'.2] hsb (q1 x fx.1)
theorem Ue(bs:List Bool):(aN bs.length).any (λi=>bs.getD i Bx)=bs.any id:=by
 induction bs with
 | nil=>rfl
 | cons b bs ih =>
  rw[aL,dH,List.any_cons,List.any_map,List.any_cons,<- ih];rfl
def zgS(K:sV):List V->Hp->VK->Prop:=λxs H Q=>∃(p:sX) (bs:List Bool),xs=[.ref p]/\SqL K H p (bs.map V.bl)/\Q (.bl (bs.any id)) H
def zdK(hc:X.calm=Bw):wK X (.builtin "any") (zgS X.K):=by
 intros xs us Q I r h;obtain⟨p,bs,rfl,hS,q⟩:=h;obtain⟨u,rfl,ru⟩:=wx r;cases ru;obtain⟨its,rv,pl,hz⟩:=I.list hS
 have hlen:its.length=bs.length:=by
  have:=rv.length;rw[ac]at this;exact this.symm
 have hh:X.A.in1.handled=Bv:=I.ok.hd hc
 have hne:p≠s⁻¹:=by
  obtain⟨o,n,e,_⟩:=pl;exact aB (aq e)
 obtain⟨f0,f1,f2,f3,f4,f5⟩:=I.fpOk (H':=H) (al _) (I.hok.fresh (al _));have I1:=I.kept (t':=s.toks) (h':=s.heap.push { cls:=.type "list_iterator",data:=.fields (u9 [.ref p,.int 0 0]) }) λb o e=>aa _ e;refine call_any_walk (Ap pl.isList ?_);refine#[s⁻¹,_,_,_,_,_,λi=>bs.getD i Bx,rfl,Walks.list hh s⁻¹ p hne its.toArray,#[#[_,ay _ rfl,rfl,rfl],?_],?_,?_]
 ·obtain⟨o,n,e,c,d,dt⟩:=pl;exact#[o,aa _ e,c,n,dt]
 ·intro i v s' Q' E' hv hq;have:=Zr rv (i:=i) (v:=v) (by simpa using hv);rw[this];exact tI hq
 ·intro h' tk hk
  have e:(aN its.toArray.size).any (λi=>bs.getD i Bx)=bs.any id:=by
   rw[ak,hlen,Ue]
  rw[e];refine#[.bl _,H,?_,rfl,q];exact I1.turned (t':=tk) (it:=s⁻¹) (λb o hb q=>hk b o (by simpa using hb) q) f0 f1 f3 f4 f5
end
def CompEL(K:sV)(a:sX)(g:TG)(tt:TT)(te:TE)(own:Nat)(ix:())(σ:L2.St)(H1:Hp)(Q:VK)(D:sX):Prop:=YM (Iel K a) g tt te own ix σ H1 Q D
def zd0{K:sV}{ta:TA}{g:TG}{tt:TT}{te:TE}{own:Nat}{ix:()}{σ:L2.St}{H:Hp}{Q:VK}:jy (U6 K ta) g tt te own ix σ H Q=ta σ H λvs H1=>∃a,vs=[.ref a]/\(∃xs,SqL K H1 a xs)/\∀D,H1 D=Bv->CompEL K a g tt te own ix σ H1 Q D:=rfl
section
variable{g:TG}{tt:TT}{te:TE}{own:Nat}{ix:()}{σ:L2.St}{H1:Hp}{Q:VK}{D:sX}
theorem CompEL.by{K:sV}{a:sX}{xs:List V}(Pv:Nat->List V->Hp->Prop)(h0:Pv 0 [] (upd H1 D (.lst [])))(hl:∀i BA H',i<=xs.length->Pv i BA H'->SqL K H' a xs)(hs:∀i x BA H' p,xs[i]? = Bu x->Pv i BA H'->H' p=Bv->g (.ref p) (vx σ own ix) (upd H' p (.tup [.int (i:Nat),x])) λσ3 H3=>xf (vx σ own ix) σ3/\tt σ3 H3 λb H4=>if b=Bw then
   te σ3 H4 λv H5=>H5 D=Bu (.lst BA)/\BA.length<sU/\CNx xs.length i Pv (BA ++ [v]) (upd H5 D (.lst (BA ++ [v])))else CNx xs.length i Pv BA H4)(hd:∀BA H',Pv xs.length BA H'->Q (.ref D) H'):CompEL K a g tt te own ix σ H1 Q D:=by
 refine#[λi m BA H=>m=xs.length - i/\i<=xs.length/\Pv i BA H,#[xs.length,by simp,aG _,h0],?_];rintro i m BA H' ⟨rfl,hi,p⟩;have q:=hl i BA H' hi p;by_cases hlt:i<xs.length
 ·refine .inr #[#[xs,xs[i],q,by simp [hlt]],λv H2 y=>?_];obtain⟨p',x,hp,hx,ev,eH⟩:=y;subst ev eH;exact hs i x BA H' p' (hx xs q) p hp
 ·have e:i=xs.length:=⋯;subst e;exact .inl #[#[xs,q,rfl],hd BA H' p]
end
section
variable{X:Cx}
end
open PySem PySem.W PyProof.Rows
end in def JM(lt:Nat->Nat->Bool){α:Type}:Br α->α
 | .ret a=>a
 | .ask i j k=>JM lt (k (lt i j))
def Kok(lt:Nat->Nat->Bool)(n:Nat){α:Type}:Br α->(α->Prop)->Prop
 | .ret a,Q=>Q a
 | .ask i j k,Q=>i<n/\j<n/\Kok lt n (k (lt i j)) Q
section
variable{lt:Nat->Nat->Bool}{n:Nat}{α β:Type}
theorem Kok.mono{Q Q':α->Prop}(hq:∀a,Q a->Q' a):∀(t:Br α),Kok lt n t Q->Kok lt n t Q'
 | .ret a,h=>hq a h
 | .ask _ _ k,h=>#[h.1,h.2.1,Kok.mono hq (k _) h.2.2]
theorem Kok.bind{f:α->Br β}{Q:β->Prop}:∀(t:Br α),Kok lt n t (λa=>Kok lt n (f a) Q)->Kok lt n (t.bind f) Q
 | .ret _,h=>h
 | .ask _ _ k,h=>#[h.1,h.2.1,Kok.bind (k _) h.2.2]
theorem Kok.run{Q:α->Prop}:∀(t:Br α),Kok lt n t Q->Q (JM lt t)
 | .ret _,h=>h
 | .ask _ _ k,h=>Kok.run (k _) h.2.2
theorem Kok.same{Q:α->Prop}:∀(t:Br α),Kok lt n t Q->Kok lt n t (λa=>a=JM lt t)
 | .ret _,h=>rfl
 | .ask _ _ k,h=>#[h.1,h.2.1,Kok.same (k _) h.2.2]
theorem Kok.wp{cmp:Nat->Nat->(Bool->sZ->Prop)->sZ->Prop}{I:sZ->Prop}(hc:∀i j C s,i<n->j<n->I s->(∀s',I s'->C (lt i j) s')->cmp i j C s){Q:α->Prop}{R:α->sZ->Prop}(hR:∀a s,Q a->I s->R a s):∀(t:Br α) (s:sZ),I s->Kok lt n t Q->t.kasWp cmp R s
 | .ret a,s,hI,h=>hR a s h hI
 | .ask i j k,s,hI,h=>hc i j _ s h.1 h.2.1 hI λs' hI'=>Kok.wp hc hR (k _) s' hI' h.2.2
end
structure Wk(lt:Nat->Nat->Bool):Prop where
 asym:∀a b,lt a b=Bw->lt b a=Bx
 ntr:∀a b c,lt b a=Bx->lt c b=Bx->lt c a=Bx
section
variable{lt:Nat->Nat->Bool}{n:Nat}
abbrev Lq(lt:Nat->Nat->Bool)(a b:Nat):Prop:=lt b a=Bx
theorem Wk.refl(W:Wk lt)(a:Nat):Lq lt a a:=by
 cases h:lt a a with
 | false=>exact h
 | true=>exact y4 h (by rw[W.asym a a h];decide)
end in abbrev pg(p:Array Nat)(i:Nat):Nat:=p.getD i 0
def VI(p:Array Nat)(i:Nat):pg p i=(p[i]?).getD 0:=by simp [pg,Array.getD_eq_getD_getElem?]
def Up(lt:Nat->Nat->Bool)(p:Array Nat)(m:Nat):Prop:=∀i j,i<j->j<m->Lq lt (pg p i) (pg p j)
def Dn(lt:Nat->Nat->Bool)(p:Array Nat)(m:Nat):Prop:=∀i j,i<j->j<m->Lq lt (pg p j) (pg p i)
def Rg(n:Nat)(p:Array Nat):Prop:=p.toList.Perm (aN n)
def Rg.size{p:Array Nat}(h:Rg n p):p.size=n:=by have:=h.length_eq;simpa using this
theorem Rg.bd{p:Array Nat}(h:Rg n p){i:Nat}(hi:i<n):pg p i<n:=by
 have hs:=h.size;have hi':i<p.size:=⋯;have e:pg p i=p[i]:=by simp [pg,fR,hi']
 rw[e];have hm:p[i] ∈ p.toList:=Array.mem_toList_iff.mpr (Array.getElem_mem hi');exact BK.mp (h.mem_iff.mp hm)
def vN{p:Array Nat}{i j:Nat}(hj:j<=p.size)(k:Nat):pg (kas_rev p i j) k=if i<=k/\k<j then pg p (i+j - 1 - k)else pg p k:=by rw[VI,kas_rev,getElem?_mirror_all hj];split <;> rw[VI]
def Rg.rev{p:Array Nat}(h:Rg n p)(i j:Nat):Rg n (kas_rev p i j):=(Array.perm_iff_toList_perm.mp (mirror_perm p i j _)).trans h
def Rg.bub{p:Array Nat}(h:Rg n p)(i j:Nat):Rg n (bubble p i j):=(Array.perm_iff_toList_perm.mp (bubble_perm p i j)).trans h
theorem Um(W:Wk lt){p:Array Nat}(hp:Rg n p):∀(f k:Nat),1<=k->k+f<=n->Up lt p k->Kok lt n (kas_asc p f k) (λm=>k<=m/\m<=k+f/\Up lt p m/\(m=k+f\/lt (pg p m) (pg p (m - 1))=Bw))
 | 0,k,h1,h2,hu=>#[⋯,⋯,hu,Or.inl ⋯]
 | f+1,k,h1,h2,hu=>by
  refine#[hp.bd ⋯,hp.bd ⋯,?_];rcases cq (lt (pg p k) (pg p (k - 1)))with hc | hc
  ·show Kok lt n (if lt (pg p k) (pg p (k - 1))=Bw then .ret k else _) _;rw[y6 hc];exact#[⋯,⋯,hu,Or.inr hc]
  ·show Kok lt n (if lt (pg p k) (pg p (k - 1))=Bw then .ret k else _) _;rw[y9 (by rw[hc];decide)];refine (Um W hp f (k+1) ⋯ ⋯ λi j hij hj=>?_).mono (λm hm=>#[⋯,⋯,hm.2.2.1,?_]) _
   ·by_cases e:j=k
    ·subst e;by_cases e2:i=j - 1
     ·subst e2;exact hc
     ·exact W.ntr _ _ _ (hu i (j - 1) ⋯ ⋯) hc
    ·exact hu i j hij ⋯
   ·rcases hm.2.2.2 with h | h
    ·exact Or.inl ⋯
    ·exact Or.inr h
def Ev(lt:Nat->Nat->Bool)(p:Array Nat)(a b:Nat):Prop:=∀i j,a<=i->i<b->a<=j->j<b->Lq lt (pg p i) (pg p j)
theorem zal{p:Array Nat}{m q:Nat}(hm:m<=p.size)(hq:q+1<=m)(hd:Dn lt p m)(he:Ev lt p (m - (q+1)) m):Dn lt (kas_rev p (m - (q+1)) m) m:=by
 intro i j hij hj;rw[vN hm,vN hm];by_cases h1:m - (q+1)<=i
 ·rw[y6 (show m - (q+1)<=i/\i<m by lia),y6 (show m - (q+1)<=j/\j<m by lia)];exact he _ _ ⋯ ⋯ ⋯ ⋯
 ·rw[y9 (show ¬ (m - (q+1)<=i/\i<m) by lia)];split
  ·exact hd _ _ ⋯ ⋯
  ·exact hd _ _ ⋯ ⋯
theorem k9(W:Wk lt):∀(f:Nat) (p:Array Nat) (k q:Nat),Rg n p->1<=k->k+f<=n->q+1<=k->Dn lt p k->Ev lt p (k - (q+1)) k ->
  Kok lt n (kas_desc f p k q) (λr=>Rg n r.1/\k<=r.2.1/\r.2.1<=k+f/\r.2.2+1<=r.2.1/\Dn lt r.1 r.2.1/\Ev lt r.1 (r.2.1 - (r.2.2+1)) r.2.1)
 | 0,p,k,q,hp,h1,h2,hq,hd,he=>#[hp,al _,cB _ _,hq,hd,he]
 | f+1,p,k,q,hp,h1,h2,hq,hd,he=>by
  have hps:=hp.size;refine#[hp.bd ⋯,hp.bd ⋯,?_]
  have one:∀(p:Array Nat),Ev lt p (k+1 - (0+1)) (k+1):=λp i j a b c d=>by
   have:i=j:=⋯;subst this;exact W.refl _
  rcases cq (lt (pg p k) (pg p (k - 1)))with hc | hc
  ·show Kok lt n (if lt (pg p k) (pg p (k - 1))=Bw then _ else _) _;rw[y6 hc];have hle:Lq lt (pg p k) (pg p (k - 1)):=W.asym _ _ hc;split
   ·rename_i hq0;refine (k9 W f _ (k+1) 0 (hp.rev _ _) ⋯ ⋯ ⋯ (λi j hij hj=>?_) (one _)).mono (λr hr=>#[hr.1,⋯,⋯,hr.2.2.2]) _;by_cases e:j=k
    ·subst e;rw[vN ⋯,vN ⋯,y9 ⋯];split
     ·exact W.ntr _ _ _ hle (he _ _ ⋯ ⋯ ⋯ ⋯)
     ·exact W.ntr _ _ _ hle (hd _ _ ⋯ ⋯)
    ·exact zal ⋯ hq hd he i j hij ⋯
   ·refine (k9 W f _ (k+1) 0 hp ⋯ ⋯ ⋯ (λi j hij hj=>?_) (one _)).mono (λr hr=>#[hr.1,⋯,⋯,hr.2.2.2]) _;by_cases e:j=k
    ·subst e;by_cases e2:i=j - 1
     ·subst e2;exact hle
     ·exact W.ntr _ _ _ hle (hd i (j - 1) ⋯ ⋯)
    ·exact hd i j hij ⋯
  ·show Kok lt n (if lt (pg p k) (pg p (k - 1))=Bw then _ else _) _;rw[y9 (by rw[hc];decide)];refine#[hp.bd ⋯,hp.bd ⋯,?_];rcases cq (lt (pg p (k - 1)) (pg p k))with hd2 | hd2
   ·show Kok lt n (if lt (pg p (k - 1)) (pg p k)=Bw then _ else _) _;rw[y6 hd2];exact#[hp,al _,cB _ _,hq,hd,he]
   ·show Kok lt n (if lt (pg p (k - 1)) (pg p k)=Bw then _ else _) _;rw[y9 (by rw[hd2];decide)];refine (k9 W f _ (k+1) (q+1) hp ⋯ ⋯ ⋯ (λi j hij hj=>?_) (λi j a b c d=>?_)).mono (λr hr=>#[hr.1,⋯,⋯,hr.2.2.2]) _
    ·by_cases e:j=k
     ·subst e;by_cases e2:i=j - 1
      ·subst e2;exact hd2
      ·exact W.ntr _ _ _ hd2 (hd i (j - 1) ⋯ ⋯)
     ·exact hd i j hij ⋯
    ·have b1:∀i,k+1 - (q+1+1)<=i->i<k->Lq lt (pg p i) (pg p (k - 1))/\Lq lt (pg p (k - 1)) (pg p i):=λi a b=>#[he _ _ ⋯ ⋯ ⋯ ⋯,he _ _ ⋯ ⋯ ⋯ ⋯];by_cases e:j=k
     ·subst e;by_cases e3:i=j
      ·subst e3;exact W.refl _
      ·exact W.ntr _ _ _ (b1 i ⋯ ⋯).1 hc
     ·by_cases e3:i=k
      ·subst e3;exact W.ntr _ _ _ hd2 (b1 j ⋯ ⋯).2
      ·exact he _ _ ⋯ ⋯ ⋯ ⋯
theorem Vh(W:Wk lt){p:Array Nat}{m:Nat}(hp:Rg n p)(h1:1<=m)(hm:m<=n)(hd:Dn lt p m):Kok lt n (kas_tail3 m n p) (λr=>Rg n r.2/\1<=r.1/\r.1<=n/\Up lt r.2 r.1):=by have hps:=hp.size;unfold kas_tail3;refine Kok.bind _ ((Um W (hp.rev 0 m) (n - m) m h1 ⋯ λi j hij hj=>?_).mono (λk hk=>#[hp.rev 0 m,by show 1<=k;lia,by show k<=n;lia,hk.2.2.1]) _);rw[vN ⋯,vN ⋯,y6 ⋯,y6 ⋯];exact hd _ _ ⋯ ⋯
theorem jm(W:Wk lt){p:Array Nat}{m:Nat}(hp:Rg n p)(h1:1<=m)(hm:m+1<=n)(hd:Dn lt p (m+1)):Kok lt n (kas_descPart m n p) (λr=>Rg n r.2/\1<=r.1/\r.1<=n/\Up lt r.2 r.1):=by
 unfold kas_descPart;refine Kok.bind _ ((k9 W (n - (m+1)) p (m+1) 0 hp ⋯ ⋯ ⋯ hd λi j a b c d=>?_).mono (λr hr=>?_) _)
 ·have:i=j:=⋯;subst this;exact W.refl _
 ·obtain⟨r1,r2,r3,r4,r5,r6⟩:=hr;have hs:=r1.size
  (try dsimp only)
  split
  ·exact Vh W (r1.rev _ _) ⋯ ⋯ (zal ⋯ r4 r5 r6)
  ·exact Vh W r1 ⋯ ⋯ r5
theorem zaf(W:Wk lt){p:Array Nat}(hp:Rg n p)(hn:1<=n):Kok lt n (kas_count n p) (λr=>Rg n r.2/\1<=r.1/\r.1<=n/\Up lt r.2 r.1):=by
 have hps:=hp.size;unfold kas_count;refine Kok.bind _ ((Um W hp (n - 1) 1 (al _) ⋯ λi j hij hj=>by lia).mono (λm hm=>?_) _);obtain⟨m1,m2,mu,ms⟩:=hm;by_cases e:(m == n)=Bw
 ·rw[y6 e];exact#[hp,by show 1<=m;lia,by show m<=n;lia,mu]
 ·rw[y9 e];have hne:m≠n:=λh=>e (by rw[h];exact beq_self_eq_true _)
  have hlt:lt (pg p m) (pg p (m - 1))=Bw:=by
   rcases ms with h | h
   ·lia
   ·exact h
  have hle:Lq lt (pg p m) (pg p (m - 1)):=W.asym _ _ hlt;by_cases h1:m > 1
  ·rw[y6 h1];refine#[hp.bd ⋯,hp.bd ⋯,?_];rcases cq (lt (pg p 0) (pg p (m - 1)))with hc | hc
   ·show Kok lt n (if lt (pg p 0) (pg p (m - 1))=Bw then _ else _) _;rw[y6 hc];exact#[hp,by show 1<=m;lia,by show m<=n;lia,mu]
   ·show Kok lt n (if lt (pg p 0) (pg p (m - 1))=Bw then _ else _) _;rw[y9 (by rw[hc];decide)]
    have u0:∀i,i<m->Lq lt (pg p 0) (pg p i):=λi hi=>by
     by_cases h:i=0
     ·subst h;exact W.refl _
     ·exact mu 0 i ⋯ hi
    have ul:∀i,i<m->Lq lt (pg p i) (pg p (m - 1)):=λi hi=>by
     by_cases h:i=m - 1
     ·subst h;exact W.refl _
     ·exact mu i (m - 1) ⋯ ⋯
    have ev:∀i j,i<m->j<m->Lq lt (pg p i) (pg p j):=λi j hi hj=>W.ntr _ _ _ (ul i hi) (W.ntr _ _ _ hc (u0 j hj));refine jm W (hp.rev 0 m) ⋯ ⋯ λi j hij hj=>?_;by_cases h:j=m
    ·subst h;rw[vN ⋯,vN ⋯,y9 ⋯,y6 ⋯];exact W.ntr _ _ _ hle (ev _ _ ⋯ ⋯)
    ·rw[vN ⋯,vN ⋯,y6 ⋯,y6 ⋯];exact ev _ _ ⋯ ⋯
  ·rw[y9 h1];refine jm W hp ⋯ ⋯ λi j hij hj=>?_;have h0:i=m - 1:=⋯;have h1:j=m:=⋯;subst h0 h1;exact hle
theorem Z0(W:Wk lt){p:Array Nat}(hp:Rg n p){k:Nat}(hk:k<n)(hu:Up lt p k):∀(f l r:Nat),l<=r->r<=k->r - l<=f->(∀i,i<l->Lq lt (pg p i) (pg p k))->(∀i,r<=i->i<k->Lq lt (pg p k) (pg p i)) ->
  Kok lt n (kas_place p k f l r) (λm=>m<=k/\(∀i,i<m->Lq lt (pg p i) (pg p k))/\(∀i,m<=i->i<k->Lq lt (pg p k) (pg p i)))
 | 0,l,r,hl,hr,hf,h1,h2=>by
  have:l=r:=⋯;subst this;exact#[hr,h1,h2]
 | f+1,l,r,hl,hr,hf,h1,h2=>by
  unfold kas_place;by_cases e:l ≥ r
  ·rw[y6 e];have:l=r:=⋯;subst this;exact#[hr,h1,h2]
  ·rw[y9 e];refine#[hp.bd hk,hp.bd ⋯,?_];rcases cq (lt (pg p k) (pg p ((l+r) / 2)))with hc | hc
   ·show Kok lt n (if lt (pg p k) (pg p ((l+r) / 2))=Bw then _ else _) _;rw[y6 hc];refine Z0 W hp hk hu f l ((l+r) / 2) ⋯ ⋯ ⋯ h1 λi hi hik=>?_;by_cases e2:i=(l+r) / 2
    ·subst e2;exact W.asym _ _ hc
    ·exact W.ntr _ _ _ (W.asym _ _ hc) (hu _ _ ⋯ hik)
   ·show Kok lt n (if lt (pg p k) (pg p ((l+r) / 2))=Bw then _ else _) _;rw[y9 (by rw[hc];decide)];refine Z0 W hp hk hu f ((l+r) / 2+1) r ⋯ hr ⋯ (λi hi=>?_) h2;by_cases e2:i=(l+r) / 2
    ·subst e2;exact hc
    ·exact W.ntr _ _ _ (hu i ((l+r) / 2) ⋯ ⋯) hc
theorem zas{p:Array Nat}{k l:Nat}(hk:k<p.size)(hl:l<=k)(i:Nat):pg (bubble p k (k - l)) i=if i=l then pg p k else if l<i/\i<=k then pg p (i - 1)else pg p i:=by
 have e:k - (k - l)=l:=⋯;rw[VI,getElem?_bubble hk (k - l) ⋯,e];by_cases h:i=l
 ·rw[y6 h,y6 h];exact (VI p k).symm
 ·rw[y9 h,y9 h];by_cases h':l<i/\i<=k
  ·rw[y6 h',y6 h'];exact (VI p (i - 1)).symm
  ·rw[y9 h',y9 h'];exact (VI p i).symm
theorem zaw(W:Wk lt):∀(f:Nat) (p:Array Nat) (k:Nat),Rg n p->k+f=n->Up lt p k->Kok lt n (kas_bin f p k) (λp'=>Rg n p'/\Up lt p' n)
 | 0,p,k,hp,hk,hu=>by
  have:k=n:=⋯;subst this;exact#[hp,hu]
 | f+1,p,k,hp,hk,hu=>by
  have hps:=hp.size;refine Kok.bind _ ((Z0 W hp ⋯ hu k 0 k ⋯ ⋯ ⋯ (λi hi=>by lia) (λi h1 h2=>by lia)).mono (λl hl=>?_) _);obtain⟨l1,l2,l3⟩:=hl;refine zaw W f _ (k+1) (hp.bub _ _) ⋯ λi j hij hj=>?_;rw[zas ⋯ l1,zas ⋯ l1];by_cases h1:i=l
  ·rw[y6 h1,y9 ⋯,y6 ⋯];exact l3 _ ⋯ ⋯
  ·rw[y9 h1];by_cases h2:j=l
   ·rw[y6 h2,y9 ⋯];exact l2 _ ⋯
   ·rw[y9 h2];by_cases h3:l<i/\i<=k
    ·rw[y6 h3,y6 ⋯];exact hu _ _ ⋯ ⋯
    ·rw[y9 h3];by_cases h4:l<j/\j<=k
     ·rw[y6 h4];by_cases h5:i=j - 1
      ·lia
      ·exact hu _ _ ⋯ ⋯
     ·rw[y9 h4];exact hu _ _ ⋯ ⋯
theorem XA(W:Wk lt)(hn:1<=n):Kok lt n (kas_sort n) (λp=>Rg n p/\Up lt p n):=by
 unfold kas_sort;refine Kok.bind _ ((zaf W (p:=be (aN n)) (by unfold Rg;exact List.Perm.refl _) hn).mono (λr hr=>?_) _);obtain⟨r1,r2,r3,r4⟩:=hr
 (try dsimp only)
 split
 ·have:max r.1 1=r.1:=⋯;rw[this];exact zaw W _ _ _ r1 ⋯ r4
 ·have:r.1=n:=⋯;rw[this]at r4;exact#[r1,r4]
end
end in def srt{α:Type}(lt:α->α->Bool)(d:α)(xs:List α):List α :=
 if xs.length<2 then xs else (JM (λi j=>lt (xs.getD i d) (xs.getD j d)) (kas_sort xs.length)).toList.map λi=>xs.getD i d
structure WkO{α:Type}(lt:α->α->Bool):Prop where
 asym:∀a b,lt a b=Bw->lt b a=Bx
 ntr:∀a b c,lt b a=Bx->lt c b=Bx->lt c a=Bx
theorem Kt{α:Type}{lt:α->α->Bool}(W:WkO lt)(d:α)(xs:List α):(srt lt d xs).Perm xs/\(srt lt d xs).Pairwise λa b=>lt b a=Bx:=by
 unfold srt;split
 ·rename_i h;refine#[List.Perm.refl _,?_]
  match xs,h with
  | [],_=>exact List.Pairwise.nil
  | [a],_=>exact fg _ _
  | _::_::_,h=>exact y4 h (by simp)
 ·rename_i h;have W':Wk (λi j=>lt (xs.getD i d) (xs.getD j d)):=#[λa b=>W.asym _ _,λa b c=>W.ntr _ _ _];obtain⟨h1,h2⟩:=Kok.run _ (XA (n:=xs.length) W' ⋯);generalize JM (λi j=>lt (xs.getD i d) (xs.getD j d)) (kas_sort xs.length)=p at h1 h2
  have e:(aN xs.length).map (λi=>xs.getD i d)=xs:=by
   refine List.ext_getElem (by simp) λi a b=>?_;have hb:i<xs.length:=by simpa using b
   simp [hb]
  refine#[(h1.map (λi=>xs.getD i d)).trans (by rw[e]),?_];rw[List.pairwise_map,List.pairwise_iff_getElem];intro i j hi hj hij;have hs:=h1.size;have hi':i<p.size:=by simpa using hi
  have hj':j<p.size:=by simpa using hj
  have q:=h2 i j hij ⋯;have ei:pg p i=p.toList[i]:=by simp [pg,fR,hi']
  have ej:pg p j=p.toList[j]:=by simp [pg,fR,hj']
  rw[ei,ej]at q;exact q
theorem Qa{lt lt':Nat->Nat->Bool}{n:Nat}{α:Type}{Q:α->Prop}(h:∀i j,i<n->j<n->lt i j=lt' i j):∀t:Br α,Kok lt n t Q->JM lt t=JM lt' t
 | .ret _,_=>rfl
 | .ask i j k,q=>by
  show JM lt (k (lt i j))=JM lt' (k (lt' i j));rw[<- h i j q.1 q.2.1];exact Qa h _ q.2.2
theorem za1{α:Type}{lt lt':α->α->Bool}(W:WkO lt){d d':α}{xs:List α}(h:∀a ∈ xs,∀b ∈ xs,lt a b=lt' a b):srt lt d xs=srt lt' d' xs:=by
 have g:∀i,i<xs.length->∃a ∈ xs,xs.getD i d=a/\xs.getD i d'=a:=λi hi=>#[xs[i],eS hi,by rw[af,ah hi];rfl,by rw[af,ah hi];rfl];unfold srt;split
 ·rfl
 ·rename_i hl;have W':Wk (λi j=>lt (xs.getD i d) (xs.getD j d)):=#[λa b=>W.asym _ _,λa b c=>W.ntr _ _ _];have ok:=XA (n:=xs.length) W' ⋯
  have e:=Qa (lt':=λi j=>lt' (xs.getD i d') (xs.getD j d')) (λi j hi hj=>by
   obtain⟨a,ha,a1,a2⟩:=g i hi;obtain⟨b,hb,b1,b2⟩:=g j hj;show lt (xs.getD i d) (xs.getD j d)=lt' (xs.getD i d') (xs.getD j d');rw[a1,a2,b1,b2]
   exact h a ha b hb) _ ok
  rw[<- e];obtain⟨h1,_⟩:=Kok.run _ ok;refine cz λi hi=>?_;obtain⟨a,_,a1,a2⟩:=g i (BK.mp (h1.mem_iff.mp hi));rw[a1,a2]
def Qo{α β:Type}{lt:β->β->Bool}(f:α->β)(d:α)(xs:List α):srt lt (f d) (xs.map f)=(srt (λa b=>lt (f a) (f b)) d xs).map f:=by
 have e:∀i,(xs.map f).getD i (f d)=f (xs.getD i d):=λi=>by
  rw[af,af,ar];cases xs[i]? <;> rfl
 unfold srt;rw[ac];split
 ·rfl
 ·erw[e,du]
  rfl
end L3
namespace L3
structure KeyFam(α:Type) where
 dec:α->List D
 lt:α->α->Bool
 fst:Bool
 d0:α
structure KeyFam.Ok{α:Type}(F:KeyFam α):Prop where
 w:WkO F.lt
 eq:∀a b,ug (F.dec a) (F.dec b)=F.lt a b
 ok:∀a b,jY (F.dec a) (F.dec b)
 dp:∀a,vG (F.dec a)<40
 sh:∀a,∃d r,F.dec a=d::r/\((F.fst=Bw/\∃n,d=.int n)\/(F.fst=Bx/\∃l,d=.tup l))
section
variable{X:Cx}{By:List (sX × tR)}{σ:L2.St}{H:Hp}{s:sZ}
def Inv.repin{b:sX}{o o':tR}{h':tE}(I:Inv X (By ++ [(b,o)]) σ H s)(hs:X.s₀.heap.objs.size<=b)(hn:∀p ∈ X.pn ++ By,p.1≠b)(sb:Heap.SameBut b s.heap h')(ho:h'.get? b=Bu o')(hd:∀v,o'.data≠.cell v) :
  Inv X (By ++ [(b,o')]) σ H { s with heap:=h' }:=by
 have I1:Inv X By σ H s:=I.unpinned;obtain⟨p1,p2,p3,p4,p5⟩:=I.pin (b,o) (aF _ (aF _ (BF.mpr rfl)))
 have I2:Inv X By σ H { s with heap:=h' }:=Inv.turns I1 (fp:=[b]) (t':=s.toks) (λb' u hb e=>(sb.2 b' (by simpa using hb)).trans e) λb' hb=>by
  have e:b'=b:=by simpa using hb
  subst e;refine#[p2,p3,p4,.inr hs,λx c e z=>?_,hn];obtain⟨v,o1,ho1,hd1⟩:=I.cell x c e;subst z;rw[p1]at ho1;cases ho1;exact p5 v hd1
 exact I2.pins_of λp hp=>by
  rcases BD.mp hp with z | z
  ·exact I2.pin p (aF _ z)
  ·have e:p=(b,o'):=by simpa using z
   subst e;exact#[ho,p2,p3,p4,hd]
def Inv.newpin{b:sX}{o:tR}(I:Inv X By σ H s)(hf:wz X By H b)(ho:s.heap.get? b=Bu o)(hd:∀v,o.data≠.cell v):Inv X (By ++ [(b,o)]) σ H s :=
 I.pins_of λp hp=>by
  rcases BD.mp hp with z | z
  ·exact I.pin p (aF _ z)
  ·have e:p=(b,o):=by simpa using z
   subst e;exact#[ho,hf.1,hf.2.1,hf.2.2.1,hd]
theorem zeQ(I:Inv X By σ H s){A:tB}{b:Bool}{Q:Bool->sZ->Prop}(hu:A.units+50<cLine):∀(l m:List D) (xs ys:List V) (its its':List sY) (i:Nat),Iss X.K H l xs->Iss X.K H m ys->Vals xs its->Vals ys its'->jY l m->vG l<40 ->
  (b=Bw->i=0->(∃n r,l=.int n::r)/\∃n r,m=.int n::r)->Q (ug l m) s->PySem.W.KatLex X.prog X.w A b (decide (its.length<its'.length)) Q (its.zip its') i s
 | [],m,xs,ys,its,its',i,h1,h2,r1,r2,ok,hd,hb,q=>by
  erw[Iss]at h1
  subst h1;cases r1
  have e:ug [] m=decide (([]:List sY).length<its'.length):=by
   have e1:=h2.len;have e2:=r2.length;have e3:m.length=its'.length:=⋯;rw[<- e3]
   cases m with
   | nil=>simp [ug]
   | cons _ _=>simp [ug]
  rw[e]at q;rw[List.zip_nil_left];exact gz q
 | d::l,[],xs,ys,its,its',i,h1,h2,r1,r2,ok,hd,hb,q=>by
  erw[Iss]at h2
  subst h2;cases r2
  erw[ug]at q
  rw[List.zip_nil_right];exact gz (by simpa using q)
 | d::l,e::m,xs,ys,its,its',i,h1,h2,r1,r2,ok,hd,hb,q=>by
  erw[Iss]at h1 h2
  obtain⟨x,xr,rfl,hx,hxr⟩:=h1;obtain⟨y,yr,rfl,hy,hyr⟩:=h2
  cases r1 with | cons rx rxr =>
  cases r2 with | cons ry ryr =>
  erw[jY]at ok
  erw[vG]at hd
  rename_i u us v vs;rw[dv];refine PySem.W.kat_cons (jT I 45 A d e x y u v ⋯ ⋯ hx hy rx ry X.prog X.w _ _ ?_)
  cases he:eqD d e with
  | true =>
   refine PySem.W.kat_yes ?_;have:=zeQ I (b:=b) hu l m xr yr us vs (i+1) hxr hyr rxr ryr ok.2 ⋯ (λ_ z=>y4 z ⋯) (by simpa only[ug,he,if_true] using q);simpa using this
  | false =>
   refine PySem.W.kat_no ?_;have q':Q (ltD d e) s:=by simpa only[ug,he,bB,if_false] using q
   by_cases hbi:(b && i == 0)=Bw
   ·rw[hbi]
    erw[cA,beq_iff_eq]at hbi
    obtain⟨⟨n,r,e1⟩,n',r',e2⟩:=hb hbi.1 hbi.2;cases e1;cases e2
    erw[Is]at hx hy
    subst hx hy;obtain⟨t,rfl⟩:=rx;obtain⟨t',rfl⟩:=ry
    erw[ltD]at q'
    exact oneLt_int q'
   ·rw[show (b && i == 0)=Bx by simpa using hbi];exact PySem.W.kat_one _ _ (UZ I 45 A d e x y u v ⋯ ⋯ ok.1 hx hy rx ry X.prog X.w _ _ q')
def zbb(I:Inv X By σ H s){A:tB}{b:Bool}{Q:Bool->sZ->Prop}{E:sY->sZ->Prop}(hu:A.units+50<cLine){l m:List D}{x y:V}{u v:sY}(hx:Is X.K H (.tup l) x)(hy:Is X.K H (.tup m) y)(rx:RelV x u)(ry:RelV y v)(ok:jY l m) (hd:vG l<40) (hb:b=Bw->(∃n r,l=.int n::r)/\∃n r,m=.int n::r) (q:Q (ug l m) s):tm (model X.prog X.w) A (keyLt' (tuples' b) u v) Q E s:=by
 erw[Is]at hx hy
 obtain⟨a,xs,rfl,h1,h2⟩:=hx;obtain⟨c,ys,rfl,g1,g2⟩:=hy;cases rx;cases ry;obtain⟨its,r,⟨o,ho,hoc,n,hod⟩,_⟩:=I.tuple h1;obtain⟨its',r',⟨o',ho',hoc',n',hod'⟩,_⟩:=I.tuple g1;refine PySem.W.kat_lt ho hod ho' hod' ?_;have:=zeQ I (A:=A) (b:=b) (Q:=Q) hu l m xs ys its its' 0 h2 g2 r r' ok hd (λz _=>hb z) q;simpa using this
theorem zaK{α:Type}{F:KeyFam α}(FO:F.Ok)(I:Inv X By σ H s){M:Bd}:∀(rs:List α) (BA:List V) (ks:List sY),Iss X.K H (rs.map λa=>.tup (F.dec a)) BA->Vals BA ks ->
  ∃fs,PySem.W.KatTups s.heap ks fs/\fs.length=rs.length/\∀v ∈ fs,PySem.W.Looks M s.heap (typeOf v) (.type (if F.fst=Bw then "int" else "tuple"))
 | [],BA,ks,h,r=>by
  erw[aO,Iss]at h
  subst h;cases r;exact#[[],PySem.W.KatTups.nil,rfl,λv hv=>by cases hv]
 | a::rs,BA,ks,h,r=>by
  erw[av,Iss]at h
  obtain⟨x,xr,rfl,hx,hxr⟩:=h
  cases r with | cons rx rxr =>
  rename_i u us;obtain⟨fs,t1,t2,t3⟩:=zaK FO I (M:=M) rs xr us hxr rxr
  erw[Is]at hx
  obtain⟨c,xs,rfl,h1,h2⟩:=hx;cases rx;obtain⟨its,ri,⟨o,ho,hoc,n,hod⟩,_⟩:=I.tuple h1;obtain⟨d,dr,ed,hsh⟩:=FO.sh a;rw[ed]at h2
  erw[Iss]at h2
  obtain⟨y,yr,rfl,hy,_⟩:=h2
  cases ri with | cons ry rir =>
  rename_i v vs;refine#[v::fs,PySem.W.KatTups.cons ho hoc hod (by simp) t1,by simp [t2],λz hz=>?_];rcases BE.mp hz with e | hz
  ·subst e;rcases hsh with ⟨hf,n',rfl⟩ | ⟨hf,l,rfl⟩
   ·rw[y6 hf]
    erw[Is]at hy
    subst hy;obtain⟨t,rfl⟩:=ry;exact PySem.W.Looks.of_pure rfl
   ·rw[y9 (by rw[hf];decide)]
    erw[Is]at hy
    obtain⟨c',xs',rfl,g1,_⟩:=hy;cases ry;obtain⟨its',ri',⟨o',ho',hoc',n',hod'⟩,_⟩:=I.tuple g1;rw[<- hoc'];exact (PySem.W.Looks.ld ho').andThen .now
  ·exact t3 z hz
end
def Vy{α:Type}(K:sV)(F:KeyFam α)(xs:List V)(Q:VK):List V->Hp->Prop:=λBA H'=>∃rs:List α,Iss K H' (rs.map λa=>.tup (F.dec a)) BA /\
 ∀ys:List (α × V),ys=srt (λp q=>F.lt p.1 q.1) (F.d0,.non) (rs.zip xs)->∀D,H' D=Bv->Q (.ref D) (upd H' D (.lst (ys.map (·.2))))
section
variable{X:Cx}{By:List (sX × tR)}{σ:L2.St}{H:Hp}{s:sZ}
def Inv.fp_of_pin{b:sX}{o:tR}(I:Inv X (By ++ [(b,o)]) σ H s)(hs:X.s₀.heap.objs.size<=b)(hn:∀p ∈ X.pn ++ By,p.1≠b):wz X By H b:=by obtain⟨p1,p2,p3,p4,p5⟩:=I.pin (b,o) (aF _ (aF _ (BF.mpr rfl)));refine#[p2,p3,p4,.inr hs,λx c e z=>?_,hn];obtain⟨v,o1,ho1,hd1⟩:=I.cell x c e;subst z;rw[p1]at ho1;cases ho1;exact p5 v hd1
def Inv.at_pin{b:sX}{o:tR}(I:Inv X (By ++ [(b,o)]) σ H s):s.heap.get? b=Bu o:=(I.pin (b,o) (aF _ (aF _ (BF.mpr rfl)))).1
def we{c:String}{xs:Array sY}{n:Nat}:∀v,(tJ c xs n).data≠.cell v:=λv z=>by cases z
theorem zaZ{D kS:sX}{e e1:Nat}{st:SortSt}{ks out:List sY}{A:tB}{E:sY->sZ->Prop}{P:PySem.Fin->sZ->Prop}(I:Inv X ((By ++ [(D,tJ "list" #[] e1)]) ++ [(kS,tJ "list" (be ks) e)]) σ H s)(hD:X.s₀.heap.objs.size<=D) (hK:X.s₀.heap.objs.size<=kS) (nD:∀p ∈ X.pn ++ By,p.1≠D) (nK:∀p ∈ X.pn ++ (By ++ [(D,tJ "list" #[] e1)]),p.1≠kS) (hkz:ks.length<64)(hout:(arrOf st).map (·.2)=be out) (hoz:out.length<64) (hf:failedOf st=Bv) (h:∀s' c,Inv X (By ++ [(D,tJ "list" (be out) c)]) σ H s'->P (.done (.ret .none)) s') :
  tm (model X.prog X.w) A (ksk_tail D Bx e1 (.ref kS) st) P E s:=by
 have pk:=Inv.at_pin I;have s1:=Heap.SameBut.update s.heap kS (Obj.mapSeq λ_=>(#[]:Array sY));obtain⟨ck,hck⟩:∃ck,(s.heap.update kS (Obj.mapSeq λ_=>(#[]:Array sY))).get? kS=Bu (tJ "list" #[] ck):=#[_,get?_update_seq pk λ_=>#[]];have I2:=(Inv.repin I hK nK s1 hck we).unpinned;have pd:=Inv.at_pin I2;have s2:=Heap.SameBut.update (s.heap.update kS (Obj.mapSeq λ_=>(#[]:Array sY))) D (Obj.mapSeq λ_=>be out);obtain⟨c2,hc2⟩:∃c2,((s.heap.update kS (Obj.mapSeq λ_=>(#[]:Array sY))).update D (Obj.mapSeq λ_=>be out)).get? D=Bu (tJ "list" (be out) c2):=#[_,get?_update_seq pd λ_=>be out];have I3:=Inv.repin I2 hD nD s2 hc2 we;unfold ksk_tail
 (try dsimp only)
 rw[hout];refine sN (listUpdate_at pk rfl ?_ (by rw[ak,tP];lia) (aG _));refine sN (tY ?_);refine sN (seqEpoch_at pd rfl ?_);refine sN (listUpdate_at pd rfl ?_ (aG _) (by erw[bB,if_false];rw[ak,tP];lia));rw[hf]
 erw[bne_self_eq_false,bB,if_false]
 exact sP (h _ c2 I3)
theorem zgm{α:Type}{F:KeyFam α}(FO:F.Ok){D kS:sX}{e e1:Nat}{ks its:List sY}{BA xs:List V}{rs:List α}{A:tB}{E:sY->sZ->Prop}{P:PySem.Fin->sZ->Prop}(hu:A.units+50<cLine)(I:Inv X ((By ++ [(D,tJ "list" #[] e1)]) ++ [(kS,tJ "list" (be ks) e)]) σ H s)(hD:X.s₀.heap.objs.size<=D) (hK:X.s₀.heap.objs.size<=kS) (nD:∀p ∈ X.pn ++ By,p.1≠D) (nK:∀p ∈ X.pn ++ (By ++ [(D,tJ "list" #[] e1)]),p.1≠kS)(rk:Vals BA ks) (rv:Vals xs its) (hl:ks.length=its.length) (hz:its.length<64) (hR:Iss X.K H (rs.map λa=>.tup (F.dec a)) BA)(h:∀s' (ys:List (α × V)) (out:List sY) c,ys=srt (λp q=>F.lt p.1 q.1) (F.d0,.non) (rs.zip xs)->Vals (ys.map (·.2)) out->out.length<64->Inv X (By ++ [(D,tJ "list" (be out) c)]) σ H s'->P (.done (.ret .none)) s') :
  tm (model X.prog X.w) A (ksk_end D Bx its.toArray e1 (.ref kS) (be ks)) P E s:=by
 have L1:=hR.len;have L2:=rk.length;have L3:=rv.length;rw[ac]at L1;have lz:(rs.zip xs).length=its.length:=by rw[List.length_zip];lia
 unfold ksk_end
 erw[bB,if_false]
 by_cases h2:its.toArray.size<2
 ·rw[y6 h2,y6 h2];refine sN (sP ?_);rw[StateT.run_pure];refine sN (sP ?_)
  (try dsimp only)
  refine zaZ (out:=its) I hD hK nD nK ⋯ ?_ hz rfl λs' c I'=>h s' (rs.zip xs) its c ?_ ?_ hz I'
  ·show ((be ks).zip its.toArray).map (·.2)=_;apply Array.toList_inj.mp;rw[Array.toList_map,ksk_zip];exact List.map_snd_zip (by simp;lia)
  ·rw[ak]at h2;unfold srt;rw[y6 ⋯]
  ·rw[List.map_snd_zip ⋯];exact rv
 ·rw[y9 h2,y9 h2];rw[ak]at h2;obtain⟨fs,t1,t2,t3⟩:=zaK FO I (M:=model X.prog X.w) rs BA ks hR rk;refine sN (PySem.W.kat_kind t1 ⋯ t3 (by simp) ?_)
  have hfst:((Value.type (if F.fst=Bw then "int" else "tuple"):sY) != Value.type "tuple")=F.fst:=by
   cases hF:F.fst with
   | true=>rfl
   | false=>rfl
  rw[hfst];have W:Wk (λi j=>F.lt (rs.getD i F.d0) (rs.getD j F.d0)):=#[λa b=>FO.w.asym _ _,λa b c=>FO.w.ntr _ _ _];have ok:=XA (n:=its.length) W ⋯
  have lt_eq:(λi j=>F.lt (rs.getD i F.d0) (rs.getD j F.d0))=(λi j=>(λ(p q:α × V)=>F.lt p.1 q.1) ((rs.zip xs).getD i (F.d0,.non)) ((rs.zip xs).getD j (F.d0,.non))):=by
   have one:∀i,((rs.zip xs).getD i (F.d0,V.non)).1=rs.getD i F.d0:=λi=>by
    by_cases hi:i<its.length
    ·have a1:i<rs.length:=⋯;have a2:i<xs.length:=⋯;rw[af,af,ah ⋯,ah a1];simp
    ·rw[af,af,bh ⋯,bh ⋯];rfl
   funext i j
   erw[one]
  have wp:=Kok.wp (n:=its.length) (cmp:=gA X.prog X.w A (tuples' F.fst) ks) (I:=λs'=>Inv X ((By ++ [(D,tJ "list" #[] e1)]) ++ [(kS,tJ "list" (be ks) e)]) σ H s')
   (R:=λp s'=>p=JM (λi j=>F.lt (rs.getD i F.d0) (rs.getD j F.d0)) (PySem.W.kas_sort its.length)/\Inv X ((By ++ [(D,tJ "list" #[] e1)]) ++ [(kS,tJ "list" (be ks) e)]) σ H s')
   (λi j C s' hi hj I' hC=>?_) (λp s' hp I'=>#[hp,I']) _ s I (Kok.same _ ok)
  ·have run:=PySem.W.kat_run (E:=E) (vs:=its) (ks:=ks) (Q:=λst' s'=>∃p:Array Nat,p.size=its.length/\arrOf st'=p.map (PySem.W.kas_item (ks.toArray.zip its.toArray))/\failedOf st'=Bv/\_) hl ⋯ hz (λp' st' s' a1 a2 a3 a4=>#[p',a1,a2,a3,a4]) wp;refine sN (Ak run ?_ λ_ _ e=>e);rintro⟨⟨⟩,st'⟩ s' ⟨p,hp,har,hf,hpk,I'⟩
   (try dsimp only)
   have hout:=PySem.W.kat_snds (ks:=ks) (vs:=its) hl har;have hR1:Rg its.length p:=by rw[hpk];exact (Kok.run _ ok).1
   have g1:(p.toList.map λi=>(rs.zip xs).getD i (F.d0,.non))=srt (λp q=>F.lt p.1 q.1) (F.d0,.non) (rs.zip xs):=by
    unfold srt;rw[y9 ⋯,lz,<- lt_eq,<- hpk]
   have olen:(p.toList.map λi=>its.getD i u5).length=its.length:=by rw[ac,d7,hp]
   refine zaZ (out:=p.toList.map λi=>its.getD i u5) I' hD hK nD nK ⋯ hout ⋯ hf λs2 c I2=>h s2 _ _ c g1 ?_ ⋯ I2;rw[du]
   have all:∀(js:()),(∀j ∈ js,j<its.length)->Vals (js.map ((λx:α × V=>x.2) ∘ λi=>(rs.zip xs).getD i (F.d0,.non))) (js.map λi=>its.getD i u5):=by
    intro js
    induction js with
    | nil=>intro _;exact .nil
    | cons j js ih =>
     intro hj;refine .cons ?_ (ih λi hi=>hj i (am _ hi));have hjl:=hj j aA;have a1:j<xs.length:=⋯;obtain⟨u,hu1,ru⟩:=xR rv (j:=j) (x:=xs[j]) (ah a1)
     have e1:((rs.zip xs).getD j (F.d0,V.non)).2=xs[j]:=by
      rw[af,ah ⋯];simp
     have e2:its.getD j u5=u:=by rw[af,hu1];rfl
     show RelV ((rs.zip xs).getD j (F.d0,V.non)).2 (its.getD j u5);rw[e1,e2];exact ru
   exact all p.toList λj hj=>BK.mp (hR1.mem_iff.mp hj)
  ·have a1:i<rs.length:=⋯;have a2:j<rs.length:=⋯;have gi:(rs.map λa=>_root_.L3.D.tup (F.dec a))[i]? = Bu (.tup (F.dec rs[i])):=by rw[ar,ah a1];rfl
   have gj:(rs.map λa=>_root_.L3.D.tup (F.dec a))[j]? = Bu (.tup (F.dec rs[j])):=by rw[ar,ah a2];rfl
   obtain⟨x,hx,ix⟩:=hR.at gi;obtain⟨y,hy,iy⟩:=hR.at gj;obtain⟨u,hu1,ru⟩:=xR rk hx;obtain⟨v,hv1,rv1⟩:=xR rk hy;have e1:ks.getD i u5=u:=by rw[af,hu1];rfl
   have e2:ks.getD j u5=v:=by rw[af,hv1];rfl
   have e3:rs.getD i F.d0=rs[i]:=by rw[af,ah a1];rfl
   have e4:rs.getD j F.d0=rs[j]:=by rw[af,ah a2];rfl
   unfold gA;rw[e1,e2];refine zbb I' hu ix iy ru rv1 (FO.ok _ _) (FO.dp _) (λhb=>?_) ?_
   ·obtain⟨d,r,ed,hd⟩:=FO.sh rs[i];obtain⟨d',r',ed',hd'⟩:=FO.sh rs[j];rcases hd with ⟨_,n,rfl⟩ | ⟨z,_⟩
    ·rcases hd' with ⟨_,n',rfl⟩ | ⟨z,_⟩
     ·exact#[#[n,r,ed],n',r',ed']
     ·rw[hb]at z;cases z
    ·rw[hb]at z;cases z
   ·rw[FO.eq,<- e3,<- e4];exact hC s' I'
end
def qr(kc:V->Hp->VK->Prop):List V->List V->Hp->(List V->Hp->Prop)->Prop
 | [],BA,H,Q=>Q BA H
 | x::xs,BA,H,Q=>kc x H (λk H'=>qr kc xs (BA ++ [k]) H' Q)
section
variable{X:Cx}{By:List (sX × tR)}{σ:L2.St}{H:Hp}{s:sZ}
theorem zbw{α:Type}{F:KeyFam α}(FO:F.Ok){k:Nat}{q:sX}{kc:V->Hp->VK->Prop}(hr:Room (k+2) X.A)(hkc:∀(pins':List (sX × tR)) (s:sZ) (H:Hp) (x:V) (u:sY) (Q:VK),Inv X pins' σ H s->RelV x u->kc x H Q->tm (model X.prog X.w) X.A.in1.in1 (call (.ref q) [u]) (EP X pins' σ Q) (λ_ _=>False) s){D kS:sX} {e1:Nat} {its:List sY} {xs:List V} {E:sY->sZ->Prop} {P:PySem.Fin->sZ->Prop} {Q:VK}(I:Inv X ((By ++ [(D,tJ "list" #[] e1)]) ++ [(kS,tJ "list" #[] 0)]) σ H s)(hD:X.s₀.heap.objs.size<=D) (hK:X.s₀.heap.objs.size<=kS) (nD:∀p ∈ X.pn ++ By,p.1≠D) (nK:∀p ∈ X.pn ++ (By ++ [(D,tJ "list" #[] e1)]),p.1≠kS)(rv:Vals xs its) (hz:its.length<64)(ht:qr kc xs [] H (Vy X.K F xs Q))(hP:∀s',EP X By σ Q (.ref D) s'->P (.done (.ret .none)) s') :
  tm (model X.prog X.w) X.A.in1.in1 (ksk_rest D (.ref q) Bx its.toArray e1 (.ref kS)) P E s:=by
 unfold ksk_rest;refine sN (AG ?_);rw[List.forIn_toArray]
 refine sN (ksk_fold (λj s'=>∃BA ks e H',Inv X ((By ++ [(D,tJ "list" #[] e1)]) ++ [(kS,tJ "list" (be ks) e)]) σ H' s'/\Vals BA ks/\ks.length=j/\qr kc (xs.drop j) BA H' (Vy X.K F xs Q))
  its 0 s #[[],[],0,H,I,.nil,rfl,ht] (λj x s1 hx hJ=>?_) λs1 hJ=>?_)
 ·obtain⟨BA,ks,e,H1,I1,rk,hkl,tk⟩:=hJ;rw[dW]at hkl tk;have hjl:j<its.length:=(BB.mp hx).1;have L3:=rv.length;obtain⟨u,hu,ru⟩:=xR rv (j:=j) (x:=xs[j]) (ah ⋯);rw[hx]at hu;cases hu;rw[aV ⋯]at tk;refine sN (Au (Ak (hkc _ _ _ _ _ _ I1 ru tk) (λkv s2 hk=>?_) λ_ _ z=>z.elim));obtain⟨v,H2,I2,rv2,tk2⟩:=hk;have pk:=Inv.at_pin I2;have sb:=Heap.SameBut.update s2.heap kS (Obj.mapSeq (·.push kv));have ea:(be ks).push kv=be (ks ++ [kv]):=by simp
  obtain⟨c2,hc2⟩:∃c2,(s2.heap.update kS (Obj.mapSeq (·.push kv))).get? kS=Bu (tJ "list" (be (ks ++ [kv])) c2):=#[_,by rw[<- ea];exact get?_update_seq pk (·.push kv)];have I3:=Inv.repin I2 hK nK sb hc2 we
  (try dsimp only)
  refine sN (listUpdate_at pk rfl ?_ (by rw[ak,tP];lia) (by rw[Array.size_push,ak,tP];lia));refine sP #[rfl,BA ++ [v],ks ++ [kv],c2,H2,I3,rk.append (.cons rv2 .nil),by rw[aj,cT,hkl];lia,?_];rw[dW];exact tk2
 ·obtain⟨BA,ks,e,H1,I1,rk,hkl,tk⟩:=hJ;rw[dW]at hkl tk;have L3:=rv.length;rw[<- L3,dN]at tk;obtain⟨rs,hR,hq⟩:=tk
  (try dsimp only)
  refine sN (listItems_at (Inv.at_pin I1) rfl ?_);refine zgm FO (by have:=hr.in1.in1.un;lia) I1 hD hK nD nK rk rv hkl hz hR λs' ys out c p1 p3 p4 I'=>hP s' ?_;have fp:=Inv.fp_of_pin I' hD nD;refine#[.ref D,_,Inv.track I'.unpinned (a:=D) (o:=.lst (ys.map (·.2))) fp #[?_,out,c,p3,Inv.at_pin I'],rfl,hq ys p1 D fp.1];rw[p3.length,tP];lia
theorem UU{α:Type}{F:KeyFam α}(FO:F.Ok){k:Nat}{q l:sX}{xs:List V}{kc:V->Hp->VK->Prop}{Q:VK}(hr:Room (k+2) X.A)(hkc:∀(pins':List (sX × tR)) (s:sZ) (H:Hp) (x:V) (u:sY) (Q:VK),Inv X pins' σ H s->RelV x u->kc x H Q->tm (model X.prog X.w) X.A.in1.in1 (call (.ref q) [u]) (EP X pins' σ Q) (λ_ _=>False) s)(I:Inv X By σ H s) (hS:SqL X.K H l xs) (hz:xs.length<64) (ht:qr kc xs [] H (Vy X.K F xs Q)) :
  tm (model X.prog X.w) X.A (call (.builtin "sorted") [.ref l] [(bK "key",.ref q)]) (EP X By σ Q) X.xe s:=by
 obtain⟨its,rv,pl,_⟩:=I.list hS;have hlen:=rv.length;refine call_function_entry_kw kind_sorted plain_sorted entry_sorted (ksk_s1 _ _) ?_;unfold Builtin.«sorted»;refine sN (m:=checkCount "sorted" 1 1 _) (sP ?_);refine sN (collect_list pl.isList ?_ (by rw[tP];lia));refine sN (AV ?_ (by rw[tP];lia));generalize hh1:((s.heap.push (tJ "list" #[] 0)).update s⁻¹ (Obj.mapSeq (· ++ its.toArray)))=h1;have sz1:h1.objs.size=s⁻¹+1:=by rw[<- hh1,dM,size_push']
 have kp1:∀b o,s.heap.get? b=Bu o->h1.get? b=Bu o:=λb o e=>by
  have hlt:b<s⁻¹:=aq e;rw[<- hh1,Heap.get?_update_ne _ _ _ _ (aB hlt),Heap.get?_push_ne _ _ _ (aB hlt)];exact e
 have hoL:(h1.push (tJ "list" its.toArray 0)).get? h1.objs.size=Bu (tJ "list" its.toArray 0):=ay _ rfl;show tm _ _ _ _ _ { s with heap:=h1.push (tJ "list" its.toArray 0) };refine sN (tQ (wpAny_call_entry_kw slot_list_sort #[_,hoL,rfl] entry_list_sort ?body (ksk_l1 _ _)));show tm _ _ (Builtin.«list.sort» #[[.ref h1.objs.size],[(bK "key",.ref q)]]) _ _ _;rw[ksk_t1];generalize hh2:h1.push (tJ "list" its.toArray 0)=h2 at hoL;have sz2:h2.objs.size=h1.objs.size+1:=by rw[<- hh2,size_push']
 have kp2:∀b o,s.heap.get? b=Bu o->h2.get? b=Bu o:=λb o e=>by rw[<- hh2];exact aa _ (kp1 b o e)
 generalize hDD:h1.objs.size=D at hoL;obtain⟨e1,ho1⟩:∃e1,(h2.update D (Obj.mapSeq λ_=>(#[]:Array sY))).get? D=Bu (tJ "list" #[] e1):=#[_,get?_update_seq hoL λ_=>#[]];have hDs:s⁻¹<=D:=by rw[<- hDD,sz1];exact cQ _
 have sb:=Heap.SameBut.update h2 D (Obj.mapSeq λ_=>(#[]:Array sY));unfold ksk_tree;refine sN (listItems_at hoL rfl ?_);refine sN (listUpdate_at hoL rfl ?_ (by rw[ak,tP];lia) (aG _));refine sN (seqEpoch_at ho1 rfl ?_);refine sN (wpAny_newTuple ?_ (by show its.length<=_;rw[tP];lia));refine sN (AV ?_ (aG _));refine tQ ?_;generalize hh3:(h2.update D (Obj.mapSeq λ_=>(#[]:Array sY))).push (tJ "tuple" its.toArray 0)=h3;have sz3:h3.objs.size=s⁻¹+3:=by rw[<- hh3,size_push',dM,sz2,sz1]
 have hoK:(h3.push (tJ "list" #[] 0)).get? h3.objs.size=Bu (tJ "list" #[] 0):=ay _ rfl;have hoD:(h3.push (tJ "list" #[] 0)).get? D=Bu (tJ "list" #[] e1):=aa _ (by rw[<- hh3];exact aa _ ho1)
 have kp3:∀b o,s.heap.get? b=Bu o->(h3.push (tJ "list" #[] 0)).get? b=Bu o:=λb o e=>by
  have hlt:b<s⁻¹:=aq e;refine aa _ ?_;rw[<- hh3];exact aa _ ((sb.2 b (aB (ax hlt hDs))).trans (kp2 b o e))
 have I1:Inv X By σ H { s with heap:=h3.push (tJ "list" #[] 0) }:=I.kept (t':=s.toks) kp3;have fD:wz X By H D:=I.fpOk ⋯ (I.hok.fresh ⋯);have fK:wz X By H h3.objs.size:=I.fpOk ⋯ (I.hok.fresh ⋯);have I2:=Inv.newpin I1 fD hoD we
 have nK:∀p ∈ X.pn ++ (By ++ [(D,tJ "list" #[] e1)]),p.1≠h3.objs.size:=λp hp=>by
  rcases BD.mp hp with z | z
  ·exact fK.2.2.2.2.2 p (bn _ z)
  ·rcases BD.mp z with z | z
   ·exact fK.2.2.2.2.2 p (aF _ z)
   ·have e:p=(D,tJ "list" #[] e1):=by simpa using z
    subst e;show D≠_;lia
 have I3:=Inv.newpin I2 (b:=h3.objs.size) #[fK.1,fK.2.1,fK.2.2.1,fK.2.2.2.1,fK.2.2.2.2.1,nK] hoK we;have hsz:=I.sz;have hK0:X.s₀.heap.objs.size<=h3.objs.size:=⋯;exact zbw FO hr hkc I3 ⋯ hK0 fD.2.2.2.2.2 nK rv ⋯ ht λs' hE=>#[_,rfl,sP #[_,rfl,hE]]
end
end in def Q7(X:Cx)(N:List tw)(s:sZ)(H:Hp)(qual:tw)(scope:tU)(f:sX)(cd:sY)(cl:List (tw × sX)):Cx where
 prog:=X.prog
 w:=X.w
 K:=X.K
 mg:=X.mg
 base:=X.base
 A:=X.A.in1.in1.deeper (eU qual scope s⁻¹ f cd cl)
 N:=N
 s₀:=s
 H₀:=H
 env:=eU qual scope s⁻¹ f cd cl
 outer:=X.stack
 stack:=eU qual scope s⁻¹ f cd cl::X.stack
 ex:=[]
 calm:=Bw
 fn:=λ_=>Bx
 pn:=[]
 xe:=λ_ _=>False
structure zcS(p y:tw)(scope:tU):Prop where
 kind:scope.kind=.function
 co:scope.isCoroutine=Bx
 gen:scope.isGenerator=Bx
 nocell:∀z ∈ scope.names,z.2≠.cell
 par:scope.names.lookup p=Bu .local
 fre:scope.names.lookup y=Bu .free
 one:∀q ∈ scope.names,q.2=.free->q.1=y
 ne:p≠y
section
variable{X:Cx}{By:List (sX × tR)}{σ:L2.St}{H:Hp}{s:sZ}{p y name qual:tw}{scope:tU}{params:Ag}{body:tD}{f c' c:sX}{pm ctv cv:sY}{k iy:Nat}{vy x:V}{u:sY}{Q:VK}{t:TE}
def zch(S:zcS p y scope)(hd:X.A.in1.in1.handled=Bv)(I:Inv X By σ H s)(hy:X.N[iy]? = Bu y)(hσ:σ[iy]? = Bu (Bu vy))(hvis:X.env.scope.names.lookup y=Bu .cell)(hc:X.env.cells.lookup y=Bu c)(rx:RelV x u){h₁:tE}{tk:Nat}(hns:h₁.Ns s⁻¹ (λz=>[(p,u)].reverse.lookup z)) (hk₁:∀b o,s.heap.get? b=Bu o->h₁.get? b=Bu o) :
  Inv (Q7 X [p,y] s H qual scope f cv [(y,c)]) [] [Bu x,Bu vy] H { s with heap:=h₁,toks:=tk }:=by
 obtain⟨m,hn,hl⟩:=I.loc;obtain⟨uy,ry,lk⟩:=hl iy y vy hy hσ (.inr (.inl hvis))
 have hcell:s.heap.IsCell c (Bu uy):=by
  rcases lk with ⟨z,_⟩ | ⟨_,c2,e2,z⟩
  ·have z':X.env.scope.names.lookup y=Bu .local:=z;rw[hvis]at z';cases z'
  ·rw[hc]at e2;cases e2;exact z
 have hcell':h₁.IsCell c (Bu uy):=by
  obtain⟨o,e,d⟩:=hcell;exact#[o,hk₁ _ _ e,d]
 have e0:=I.env0;have noA:∀b:sX,b ∉ (Q7 X [p,y] s H qual scope f cv [(y,c)]).ex:=λb z=>y4 (show b ∈ ([]:List sX)from z) (by simp)
 have lkc:∀z d,bi z [(y,c)]=Bu d->z=y/\d=c:=λz d h=>by
  rw[aY]at h;by_cases hz:(z == y)=Bw
  ·rw[hz]at h;cases h;exact#[by simpa using hz,rfl]
  ·rw[show (z == y)=Bx by simpa using hz]at h;cases h
 have lky:bi y [(y,c)]=Bu c:=by rw[aY];simp
 refine#[#[e0.mod,S.kind,rfl,rfl,al _,λz z' d h1 h2=>?_,λz hz=>?_,λz d h _=>?_,λ_=>hd,Around.frames_deeper e0.frames,.inr #[rfl,rfl],λb z=>y4 z (noA b),e0.bs,e0.bsz,λb _ _=>noA b,λb z=>y4 z (noA b),e0.funs,e0.frf],
  rfl,e0.bare,Un.kept hk₁,#[_,hns,λi z v h1 h2 h3=>?_],λz d h=>?_,e0.hok.fresh (al _),λz d h=>?_,λq hq=>y4 (show q ∈ ([]:List (sX × tR))from hq) (by simp),e0.hok.kept hk₁,rfl]
 ·rw[(lkc _ _ h1).1,(lkc _ _ h2).1]
 ·have hz':scope.names.lookup z=Bu .cell\/scope.names.lookup z=Bu .free:=hz;rcases hz' with hz' | hz'
  ·exact y4 rfl (S.nocell _ (bY hz'))
  ·rw[show z=y from S.one _ (bY hz') rfl];exact#[c,lky]
 ·exact y4 (show (Bx:Bool)=Bw from h) ∅
 ·match i,h1,h2 with
  | 0,h1,h2 =>
   cases h1;cases h2;refine#[u,rx,.inl #[S.par,?_]];show bi p [(p,u)].reverse=Bu u;simp [bi]
  | 1,h1,h2 =>
   cases h1;cases h2;exact#[uy,ry,.inr #[.inr S.fre,c,lky,hcell']]
  | i+2,h1,h2=>simp at h2
 ·obtain⟨_,rfl⟩:=lkc z d h;exact#[_,hcell']
 ·obtain⟨_,rfl⟩:=lkc z d h;exact I.freeC y _ hc
def zab(S:zcS p y scope)(hr:Room (k+3) X.A)(hbind:bindArgs (cf name qual params body scope [(y,c)] pm cv ctv) #[[u],[]]=pure [(p,u)])(I:Inv X By σ H s)(ho:s.heap.get? f=Bu { cls:=.type "function",data:=.func (cf name qual params body scope [(y,c)] pm cv ctv) }) (hcd:s.heap.CodeRec cv qual) (hy:X.N[iy]? = Bu y) (hσ:σ[iy]? = Bu (Bu vy)) (hvis:X.env.scope.names.lookup y=Bu .cell) (hc:X.env.cells.lookup y=Bu c)(rx:RelV x u) (hb:PE (Q7 X [p,y] s H qual scope f cv [(y,c)]) body t) (h:t [Bu x,Bu vy] H Q) :
  tm (model X.prog X.w) X.A.in1.in1 (call (.ref f) [u]) (EP X By σ Q) (λ_ _=>False) s:=by
 have hr2:Room (k+1) X.A.in1.in1:=hr.in1.in1;refine Al (PySem.W.kla_callFunE hr2.depth ho rfl S.co S.gen rfl hcd ?_);rw[hbind];refine sP (AN S.nocell (λz hz=>?_) (λh₁ hns hsb=>?_) S.kind)
 ·have e:z=(p,u):=by simpa using hz
  subst e;exact S.par
 have hk₁:∀b o,s.heap.get? b=Bu o->h₁.get? b=Bu o:=λb o e=>hsb.extBut b o (aB (aq e)) (aa _ e);refine#[I.nolimit.keeps hk₁,?_];have I1:=zch (qual:=qual) (f:=f) (cv:=cv) (tk:=s.toks+1) S hr2.hd I hy hσ hvis hc rx hns hk₁;show Ae _ _ (.expr body (eU qual scope s⁻¹ f cv [(y,c)])) _ _;refine PySem.W.kla_codeExpr (Ak (hb [] _ _ H Q I1 h) (λv s' hv=>?_) λ_ _ z=>False.elim z);obtain⟨w',H',J,rw',q⟩:=hv;exact I.after #[w',H',J.os,J.bare,J.base,J.hok,rw',q]
end
end in def cdE(c':sX)(q:tw):HO:=.ext λh=>h.CodeRec (.ref c') q
end in def fnE(f:sX)(o:tR):HO:=.ext λh=>h.get? f=Bu o
def TabOk(H:Hp)(P:sX)(pos:Ad)(q:tw):Prop :=
 ∃ps:Array sY,H P=Bu (.tbl ps)/\Bp ps.toList/\(codeAmong pos ps.toList=Bv\/∃c',codeAmong pos ps.toList=Bu (.ref c')/\H c'=Bu (cdE c' q))
def SamT(P:sX)(H H':Hp):Prop:=∀b o,b≠P->H b=Bu o->H' b=Bu o
def LamAt(H:Hp)(f:sX)(name qual:tw)(params:Ag)(body:tD)(scope:tU)(cl:List (tw × sX)):Prop :=
 ∃(c':sX) (pm ctv:sY),H c'=Bu (cdE c' qual)/\H f=Bu (fnE f { cls:=.type "function",data:=.func (cf name qual params body scope cl pm (.ref c') ctv) })
def zdQ{P:tu}{w:tz}{H:Hp}{h:tE}{c':sX}{q:tw}(x:h.CodeRec (.ref c') q):ObjOk P w H h c' (cdE c' q):=by
 refine#[x,?_,λh1 h2 a k=>?_]
 ·obtain⟨c,o,vs,t,e,g,_⟩:=x;cases e;exact#[o,g]
 ·obtain⟨c,o,vs,t,e,g,r⟩:=a;cases e;exact#[_,o,vs,t,rfl,k o g,r]
def zaP{P:tu}{w:tz}{H:Hp}{h:tE}{f:sX}{o:tR}(x:h.get? f=Bu o):ObjOk P w H h f (fnE f o) :=
 #[x,#[o,x],λh1 h2 a k=>k o a]
section
variable{X:Cx}{By:List (sX × tR)}{σ:L2.St}{H:Hp}{s:sZ}
def Inv.grow{P c' f:sX}{ps more:Array sY}{o:tR}{q:tw}{h':tE}{tk:Nat}(I:Inv X By σ H s)(hP:H P=Bu (.tbl ps))(hk:∀b u,b≠P->s.heap.get? b=Bu u->h'.get? b=Bu u)(hP':h'.get? P=Bu { cls:=.none,data:=.fields (ps ++ more) })(hc:s⁻¹<=c') (hf:s⁻¹<=f) (hcf:c'≠f) (hcr:h'.CodeRec (.ref c') q) (hfo:h'.get? f=Bu o) :
  Inv X By σ (upd (upd (upd H P (.tbl (ps ++ more))) c' (cdE c' q)) f (fnE f o)) { s with heap:=h',toks:=tk }:=by
 have Pl:P<s⁻¹:=I.hok.lt hP;have hPc:P≠c':=aB (ax Pl hc);have hPf:P≠f:=aB (ax Pl hf)
 have old:∀b,b<s⁻¹->b≠P->(upd (upd (upd H P (.tbl (ps ++ more))) c' (cdE c' q)) f (fnE f o)) b=H b:=λb hb hbP=>by
  rw[zq (aB (ax hb hf)),zq (aB (ax hb hc)),zq hbP]
 have atP:(upd (upd (upd H P (.tbl (ps ++ more))) c' (cdE c' q)) f (fnE f o)) P=Bu (.tbl (ps ++ more)):=by
  rw[zq hPf,zq hPc,zc]
 have neP:∀b,H b=Bv->b≠P:=λb e z=>by rw[z,hP]at e;cases e
 refine I.un #[λb u e n _ _=>hk b u (neP b n) e,λb u e n _ _=>#[u.slots,hk b u (neP b n) e],λb u e n _=>?_,λb u e _=>?_,λb xs e=>?_,λb ob u e=>?_,λb qs e=>?_] λb u e=>?_
 ·rw[old b (aq e) (neP b n)];exact n
 ·by_cases hb:b=P
  ·subst hb;exact#[_,hP']
  ·exact#[u,hk b u hb e]
 ·rw[old b (I.hok.lt e) (λz=>by rw[z,hP]at e;cases e)];exact e
 ·rw[old b (I.hok.lt e) (λz=>by rw[z,hP]at e;cases e)];exact e
 ·by_cases hb:b=P
  ·subst hb;rw[hP]at e;cases e;exact#[more,atP]
  ·rw[old b (I.hok.lt e) hb];exact#[#[],by rw[e];simp]
 ·by_cases hbf:b=f
  ·subst hbf;rw[zc]at e;cases e;exact zaP hfo
  ·rw[zq hbf]at e;by_cases hbc:b=c'
   ·subst hbc;rw[zc]at e;cases e;exact zdQ hcr
   ·rw[zq hbc]at e;by_cases hbP:b=P
    ·subst hbP;rw[zc]at e;cases e;exact hP'
    ·rw[zq hbP]at e;refine (I.hok b u e).stay (λd v hd g=>hk d v ?_ g) (λd g=>?_) λd xs g=>?_
     ·rcases hd with z | z
      ·rw[z];exact hbP
      ·intro z';rw[z',hP]at z;cases z
     ·rw[old d (I.hok.lt g) (λz=>by rw[z,hP]at g;cases g)];exact g
     ·rw[old d (I.hok.lt g) (λz=>by rw[z,hP]at g;cases g)];exact g
end
theorem ql{a b:Int}{v:sY}:∀(l:List sY),Bp l->Bp (l ++ [rawInt a,rawInt b,v])
 | [],_=>trivial
 | .int _ _::.int _ _::_::rest,h=>ql rest h
def YL{h h':tE}{mg:tw->Option sY}{T:sX}(x:h.BuiltinsAt mg T)(k:∀b o,h.get? b=Bu o->h'.get? b=Bu o):h'.BuiltinsAt mg T:=by obtain⟨bm,o,b1,b2,b3,b4,b5,b6⟩:=x;exact#[bm,o,b1,b2,b3,b4,k _ _ b5,b6]
section
variable{X:Cx}{By:List (sX × tR)}{σ:L2.St}{H:Hp}{s:sZ}{cc P c:sX}{y:tw}{params:Ag}{body:tD}{scope:tU}{pos:Ad}{Q:VK}
def Kc(hcode:X.env.code=.ref cc)(hC:PySem.W.CodeHd X.base cc P)(hB:X.base.BuiltinsAt X.mg P)(hgP:sQ≠P)(hcl:closureFor scope X.env=pure [(y,c)])(hdef:defaultsOf params X.env=([],[]))(I:Inv X By σ H s)(hT:TabOk H P pos (X.env.qual ++ "<lambda>"))(h:∀f H',H f=Bv->LamAt H' f "<lambda>" (X.env.qual ++ "<lambda>") params body scope [(y,c)]->TabOk H' P pos (X.env.qual ++ "<lambda>")->SamT P H H'->Q (.ref f) H') :
  tm (model X.prog X.w) X.A (eval (.Lambda params body scope pos) X.env) (EP X By σ Q) X.xe s:=by
 refine PySem.W.kla_eval hdef ?_;obtain⟨ps,hP,ht,hh⟩:=hT;have hPo:s.heap.get? P=Bu (PySem.W.tabObj ps):=I.hok _ _ hP;have hg:=I.mod.glob.keeps I.bk;have Pl:P<s⁻¹:=I.hok.lt hP;rcases hh with hn | ⟨c',hit,hc'⟩
 ·refine PySem.W.kla_makeFunction (mg:=X.mg) hcl I.ok.glob hg hcode (hC.keeps I.bk) hPo ht hn hgP (YL hB I.bk) λc' ctv h' tk hx hge hlt hrec htb=>?_;have hsz:s⁻¹<=h'.objs.size:=dn (cN hge hlt)
  have I1:=Inv.grow (P:=P) (c':=c') (f:=h'.objs.size) (more:=(u9 [rawInt pos.line,rawInt pos.col,.ref c'])) (tk:=tk) (o:={ cls:=.type "function",data:=.func (cf "<lambda>" (X.env.qual ++ "<lambda>") params body scope [(y,c)] ((X.mg "__name__").getD .none) (.ref c') ctv) }) I hP
   (λb u hb e=>aa _ (hx b u hb e)) (aa _ htb) hge hsz (aB hlt) (hrec.push _) (ay _ rfl)
  have hPc:P≠c':=aB (ax Pl hge);have hPf:P≠h'.objs.size:=aB (ax Pl hsz)
  have atc:(upd (upd (upd H P (.tbl (ps ++ (u9 [rawInt pos.line,rawInt pos.col,.ref c'])))) c' (cdE c' (X.env.qual ++ "<lambda>"))) h'.objs.size (fnE h'.objs.size { cls:=.type "function",data:=.func (cf "<lambda>" (X.env.qual ++ "<lambda>") params body scope [(y,c)] ((X.mg "__name__").getD .none) (.ref c') ctv) })) c'=Bu (cdE c' (X.env.qual ++ "<lambda>")):=by
   rw[zq (aB hlt),zc]
  refine#[.ref h'.objs.size,_,I1,rfl,h _ _ (I.hok.fresh hsz) #[c',_,ctv,atc,zc] #[ps ++ (u9 [rawInt pos.line,rawInt pos.col,.ref c']),?_,?_,.inr #[c',?_,atc]] λb o hb e=>?_]
  ·rw[zq hPf,zq hPc,zc]
  ·rw[gc];exact ql _ ht
  ·rw[gc];exact codeAmong_snoc _ ht hn
  ·have hl:=I.hok.lt e;rw[zq (aB (ax hl hsz)),zq (aB (ax hl hge)),zq hb];exact e
 ·refine PySem.W.kla_makeFunctionHit (mg:=X.mg) hcl I.ok.glob hg hcode (hC.keeps I.bk) hPo ht hit (YL hB I.bk) λctv h' tk hk hsz=>?_;have hfr:H h'.objs.size=Bv:=I.hok.fresh hsz
  have I1:=I.laid (a:=h'.objs.size) (t':=tk) (h':=h'.push { cls:=.type "function",data:=.func (cf "<lambda>" (X.env.qual ++ "<lambda>") params body scope [(y,c)] ((X.mg "__name__").getD .none) (.ref c') ctv) })
   (o:=fnE h'.objs.size { cls:=.type "function",data:=.func (cf "<lambda>" (X.env.qual ++ "<lambda>") params body scope [(y,c)] ((X.mg "__name__").getD .none) (.ref c') ctv) })
   (λb u e=>aa _ (hk b u e)) hsz (zaP (ay _ rfl))
  have sm:=zd (o:=fnE h'.objs.size { cls:=.type "function",data:=.func (cf "<lambda>" (X.env.qual ++ "<lambda>") params body scope [(y,c)] ((X.mg "__name__").getD .none) (.ref c') ctv) }) hfr;exact#[.ref h'.objs.size,_,I1,rfl,h _ _ hfr #[c',_,ctv,sm _ _ hc',zc] #[ps,sm _ _ hP,ht,.inr #[c',hit,sm _ _ hc']] λb o _ e=>sm _ _ e]
end
def zf7(R:V->Hp->Prop):List V->Hp->Prop
 | [v],H=>R v H
 | _,_=>False
theorem UM{R:V->Hp->Prop}:∀{vs:List V} {H:Hp},zf7 R vs H->∃v,vs=[v]/\R v H
 | [v],_,h=>#[v,rfl,h]
def zgE(P:sX)(pos:Ad)(q:tw)(LA:Hp->sX->Prop):TE:=λσ H Q=>TabOk H P pos q/\∀f H',H f=Bv->LA H' f->TabOk H' P pos q->SamT P H H'->Q (.ref f) H'
def zaA{α:Type}(K:sV)(F:KeyFam α)(P:sX)(pos:Ad)(q:tw)(LA:Hp->sX->Prop)(iy:Nat)(te tb:TE):TE:=λσ H Q=>te σ H λv H1=>TabOk H1 P pos q /\
 ∀f H2,H1 f=Bv->LA H2 f->TabOk H2 P pos q->SamT P H1 H2->∃l xs vy,v=.ref l/\SqL K H2 l xs/\xs.length<64/\σ[iy]? = Bu (Bu vy)/\qr (λx H Q=>LA H f/\tb [Bu x,Bu vy] H Q) xs [] H2 (Vy K F xs Q)
section
variable{X:Cx}{cc P c:sX}{x p y:tw}{params:Ag}{body e:tD}{scope:tU}{lpos kpos pos pp:Ad}{k iy:Nat}{te tb:TE}
def zei(hcode:X.env.code=.ref cc)(hC:PySem.W.CodeHd X.base cc P)(hB:X.base.BuiltinsAt X.mg P)(hgP:sQ≠P)(hcl:closureFor scope X.env=pure [(y,c)])(hdef:defaultsOf params X.env=([],[])) :
  PE X (.Lambda params body scope lpos) (zgE P lpos (X.env.qual ++ "<lambda>") λH f=>LamAt H f "<lambda>" (X.env.qual ++ "<lambda>") params body scope [(y,c)]):=by intros Q I h;exact Kc hcode hC hB hgP hcl hdef I h.1 h.2
def Kx{α:Type}{F:KeyFam α}(FO:F.Ok)(S:zcS p y scope)(hr:Room (k+3) X.A)(hg:Gl X x)(hm:X.mg x=Bv)(hv:tS x=Bu (.builtin "sorted"))(ha:PA X [e] (zL te xx))(hcode:X.env.code=.ref cc) (hC:PySem.W.CodeHd X.base cc P) (hB:X.base.BuiltinsAt X.mg P) (hgP:sQ≠P) (hcl:closureFor scope X.env=pure [(y,c)]) (hdef:defaultsOf params X.env=([],[]))(hbind:∀(cv pm ctv u:sY),bindArgs (cf "<lambda>" (X.env.qual ++ "<lambda>") params body scope [(y,c)] pm cv ctv) #[[u],[]]=pure [(p,u)]) (hy:X.N[iy]? = Bu y) (hvis:X.env.scope.names.lookup y=Bu .cell) (hc:X.env.cells.lookup y=Bu c)(hb:∀(s:sZ) (H:Hp) (f:sX) (cv:sY),Room k (Q7 X [p,y] s H (X.env.qual ++ "<lambda>") scope f cv [(y,c)]).A->PE (Q7 X [p,y] s H (X.env.qual ++ "<lambda>") scope f cv [(y,c)]) body tb)(hn:x≠"__name__":=by decide) (hdb:(x ==("__debug__" : tw))=Bx:=by decide)(hks:(tT pos (tH [#[Bu "key",.Lambda params body scope lpos,kpos]] X.env)).filterMap (·.1)=[bK "key"]:=by rfl)(hst:tK pos (sS [e] X.env)=(Bx,eval e X.env)::tK pos (sS [] X.env):=by rfl) (hpl:(tK pos (sS [e] X.env)).any (·.1)=Bx:=by rfl)(hall:(tT pos (tH [#[Bu "key",.Lambda params body scope lpos,kpos]] X.env)).all (·.1.isSome)=Bw:=by rfl) (hkw:(tT pos (tH [#[Bu "key",.Lambda params body scope lpos,kpos]] X.env)).any (·.1.isNone)=Bx:=by rfl) :
  PE X (.Call (.Name x pp) [e] [#[Bu "key",.Lambda params body scope lpos,kpos]] pos) (zaA X.K F P lpos (X.env.qual ++ "<lambda>") (λH f=>LamAt H f "<lambda>" (X.env.qual ++ "<lambda>") params body scope [(y,c)]) iy te tb):=by
 intros Q I h;have hlam:PE X (.Lambda params body scope lpos) (zgE P lpos (X.env.qual ++ "<lambda>") λH f=>LamAt H f "<lambda>" (X.env.qual ++ "<lambda>") params body scope [(y,c)]):=zei hcode hC hB hgP hcl hdef;refine tO (vq I hg hm hv ?_ hn hdb)
 have h':(zL te xx) σ H (zf7 λv H1=>TabOk H1 P lpos (X.env.qual ++ "<lambda>")/\∀f H2,H1 f=Bv->LamAt H2 f "<lambda>" (X.env.qual ++ "<lambda>") params body scope [(y,c)]->TabOk H2 P lpos (X.env.qual ++ "<lambda>")->SamT P H1 H2 ->
   ∃l xs vy,v=.ref l/\SqL X.K H2 l xs/\xs.length<64/\σ[iy]? = Bu (Bu vy)/\qr (λx H Q=>LamAt H f "<lambda>" (X.env.qual ++ "<lambda>") params body scope [(y,c)]/\tb [Bu x,Bu vy] H Q) xs [] H2 (Vy X.K F xs Q)):=h
 refine callWith_kw (thn (ha pos By s σ H _ I h') λus s1=>el5 λvs H1 I1 r1 q1=>?_) hst hpl hall hkw;obtain⟨v,rfl,hT,q1⟩:=UM q1;obtain⟨u,rfl,ru⟩:=wx r1
 refine thn ((QF hlam za8:PK X [#[Bu "key",.Lambda params body scope lpos,kpos]] _) pos By s1 σ H1 (zf7 λkv H2=>∃f,kv=.ref f/\LamAt H2 f "<lambda>" (X.env.qual ++ "<lambda>") params body scope [(y,c)] /\
   ∃l xs vy,v=.ref l/\SqL X.K H2 l xs/\xs.length<64/\σ[iy]? = Bu (Bu vy)/\qr (λx H Q=>LamAt H f "<lambda>" (X.env.qual ++ "<lambda>") params body scope [(y,c)]/\tb [Bu x,Bu vy] H Q) xs [] H2 (Vy X.K F xs Q)) I1 #[hT,λf H2 a1 a2 a3 a4=>#[f,rfl,a2,q1 f H2 a1 a2 a3 a4]]) λws s2=>el5 λzs H2 I2 r2 q2=>?_
 obtain⟨kv,rfl,f,rfl,hLA,l,xs,vy,rfl,hS,hz,hσ,hk⟩:=UM q2;obtain⟨w',rfl,rw'⟩:=wx r2;cases rw';cases ru;rw[hks];show tm _ _ (call (.builtin "sorted") [.ref l] [(bK "key",.ref f)]) _ _ _;refine UU FO (k:=k+1) hr (λpins' s3 H3 x3 u3 Q3 I3 r3 h3=>?_) I2 hS hz hk;obtain⟨⟨c',pm,ctv,e1,e2⟩,h4⟩:=h3;have hcd:s3.heap.CodeRec (.ref c') (X.env.qual ++ "<lambda>"):=(I3.hok _ _ e1).1;have ho:=(I3.hok _ _ e2).1;exact zab (k:=k) S hr (hbind _ _ _ _) I3 ho hcd hy hσ hvis hc r3 (hb s3 H3 f (.ref c') (hr.in1.in1.deeper _)) h4
end
section
variable{K:sV}
def SamT.of{T:sX}{H H':Hp}(s:Same H H'):SamT T H H':=λb o _ e=>s b o e
def SamT.trans{T:sX}{H H' H'':Hp}(s:SamT T H H')(s':SamT T H' H''):SamT T H H'':=λb o n e=>s' b o n (s b o n e)
def SamT.at{T b:sX}{H H':Hp}{ps:Array sY}{o:HO}(s:SamT T H H')(hT:H T=Bu (.tbl ps))(e:H b=Bu o)(ho:∀qs,o≠.tbl qs):H' b=Bu o:=s b o (λz=>by rw[z,hT]at e;cases e;exact ho _ rfl) e
theorem SamT.free{T b:sX}{H H':Hp}{o:HO}(s:SamT T H H')(hT:H' T=Bu o)(h:H' b=Bv):H b=Bv:=by
 cases e:H b with
 | none=>rfl
 | some u =>
  by_cases hb:b=T
  ·rw[hb,hT]at h;cases h
  ·rw[s b u hb e]at h;cases h
def SamT.seqL{T a:sX}{H H':Hp}{ps:Array sY}{xs:List V}(s:SamT T H H')(hT:H T=Bu (.tbl ps))(h:SqL K H a xs):SqL K H' a xs:=by
 rcases h with (h | ⟨o,h⟩) | h
 ·exact .inl (.inl (s.at hT h λ_ z=>by cases z))
 ·exact .inl (.inr #[o,s.at hT h λ_ z=>by cases z])
 ·exact .inr h
def SamT.seqT{T a:sX}{H H':Hp}{ps:Array sY}{xs:List V}(s:SamT T H H')(hT:H T=Bu (.tbl ps))(h:SqT K H a xs):SqT K H' a xs:=by
 rcases h with (h | ⟨o,h⟩) | h
 ·exact .inl (.inl (s.at hT h λ_ z=>by cases z))
 ·exact .inl (.inr #[o,s.at hT h λ_ z=>by cases z])
 ·exact .inr h
mutual
theorem Is.samT{T:sX}{H H':Hp}{ps:Array sY}(s:SamT T H H')(hT:H T=Bu (.tbl ps)):∀(d:D) (v:V),Is K H d v->Is K H' d v
 | .non,v,h=>by erw[Is]at h ⊢;exact h
 | .bl b,v,h=>by erw[Is]at h ⊢;exact h
 | .int b,v,h=>by erw[Is]at h ⊢;exact h
 | .str b,v,h=>by erw[Is]at h ⊢;exact h
 | .lst l,v,h=>by
  erw[Is]at h ⊢
  obtain⟨a,xs,e1,e2,e3⟩:=h;exact#[a,xs,e1,s.seqL hT e2,Iss.samT s hT l xs e3]
 | .tup l,v,h=>by
  erw[Is]at h ⊢
  obtain⟨a,xs,e1,e2,e3⟩:=h;exact#[a,xs,e1,s.seqT hT e2,Iss.samT s hT l xs e3]
theorem Iss.samT{T:sX}{H H':Hp}{ps:Array sY}(s:SamT T H H')(hT:H T=Bu (.tbl ps)):∀(l:List D) (vs:List V),Iss K H l vs->Iss K H' l vs
 | [],vs,h=>by erw[Iss]at h ⊢;exact h
 | d::l,vs,h=>by
  erw[Iss]at h ⊢
  obtain⟨v,r,e1,e2,e3⟩:=h;exact#[v,r,e1,Is.samT s hT d v e2,Iss.samT s hT l r e3]
end
def LsA.samT{T a:sX}{H H':Hp}{ps:Array sY}{ds:List D}(h:LsA K H a ds)(s:SamT T H H')(hT:H T=Bu (.tbl ps)):LsA K H' a ds:=by obtain⟨xs,h1,h2⟩:=h;exact#[xs,s.at hT h1 (λ_ z=>by cases z),Iss.samT s hT _ _ h2]
def TabOk.same{H H':Hp}{T:sX}{pos:Ad}{q:tw}(h:TabOk H T pos q)(s:Same H H'):TabOk H' T pos q:=by
 obtain⟨ps,h1,h2,h3⟩:=h;refine#[ps,s _ _ h1,h2,?_];rcases h3 with h3 | ⟨c',h4,h5⟩
 ·exact .inl h3
 ·exact .inr #[c',h4,s _ _ h5]
def LamAt.same{H H':Hp}{f:sX}{name qual:tw}{params:Ag}{body:tD}{scope:tU}{cl:List (tw × sX)}(h:LamAt H f name qual params body scope cl)(s:Same H H'):LamAt H' f name qual params body scope cl:=by obtain⟨c',pm,ctv,h1,h2⟩:=h;exact#[c',pm,ctv,s _ _ h1,s _ _ h2]
end
section
variable{P:tu}{w:tz}{K:sV}{mg mb:tw->Option sY}{CX:CXT}{k:Nat}{fa a T cc:sX}{fd:tj}{x:tw}{sp:Sp}{s₁:sZ}{vs:List sY}{ns:List Int}{ps:Array sY}
def YO(KX:K.In s₁.heap)(hKT:K.lookup T=Bv)(hT:s₁.heap.get? T=Bu { cls:=.none,data:=.fields ps })(hTc:Bk s₁.heap T)(hns:s₁.heap.Ns sQ mg)(hb:s₁.heap.Ns builtinsNs mb)(hbb:∀x:tw,x≠"__name__"->mb x=tS x)(hlim:s₁.heap.NoLimit)(hg:s₁.gens=#[])(ha:s₁.heap.get? a=Bu { cls:=.type "list",data:=.seq vs.toArray }) (hr:Room k callerA)(hbm:s₁.heap.BuiltinsAt mg T) (hcd:PySem.W.CodeHd s₁.heap cc T) (F:∀base:tE,K.In base->base.Ns sQ mg->base.BuiltinsAt mg T->PySem.W.CodeHd base cc T->zY P w K mg base CX k fa fd [x] sp) (hbind:∀(s:sZ) (u:sY),AT s fd #[[u],[]] [(x,u)])(hCX:∀H e s',CX [] H s₁ (λ_ _ _=>False) e s'->False) (H:Hp) (h1:H T=Bu (.tbl ps)) (h2:∀b u,H b=Bu u->b=T\/(b=a/\K.lookup a=Bv/\u=.frz { cls:=.type "list",data:=.seq vs.toArray } (.lst (ns.map V.int))))(hok:HOk P w H s₁.heap) (hsp:sp [.ref a] H (λv _=>v=.bl Bw) λ_ _ _=>False) :
  Ae (model P w) callerA (.call (.ref fa) #[[.ref a],[]]) (λr s'=>r=.ok (.ret (.bool Bw))/\OldK s₁.heap s'.heap/\s'.os=s₁.os/\Az s'.gens) s₁:=by
 have stay:∀b o,s₁.heap.get? b=Bu o->(b≠T)->(b≠a)->(Ql s₁.heap H).get? b=Bu o:=λb o e n1 n2=>WA e (by
  cases q:H b with
  | none=>rfl
  | some u =>
   rcases h2 b u q with z | z
   ·exact y4 z n1
   ·exact y4 z.1 n2)
 have nsStay:∀(b:sX) (m:tw->Option sY),s₁.heap.Ns b m->(Ql s₁.heap H).Ns b m:=λb m hN=>by
  obtain⟨o,es,ep,e,d,rest⟩:=hN;refine#[o,es,ep,stay b o e (λz=>?_) (λz=>?_),d,rest]
  ·rw[z,hT]at e;cases e;cases d
  ·rw[z,ha]at e;cases e;cases d
 have kStay:K.In (Ql s₁.heap H):=λb o e=>by
  have g:=KX b o e;refine WA g ?_
  cases q:H b with
  | none=>rfl
  | some u =>
   rcases h2 b u q with z | z
   ·rw[z,hKT]at e;cases e
   ·rw[z.1,z.2.1]at e;cases e
 have bStay:(Ql s₁.heap H).BuiltinsAt mg T:=by
  obtain⟨bm,o,b1,b2,b3,b4,b5,b6,b7,b8⟩:=hbm;refine#[bm,o,b1,b2,b3,b4,stay bm o b5 b4 (λz=>?_),b6,b7,b8];rw[z,ha]at b5;cases b5;simp at b6
 have cStay:PySem.W.CodeHd (Ql s₁.heap H) cc T:=by
  obtain⟨o,vs',file,tf,flags,tg,inF,text,tt,c1,c2,c3,c4,c5,c6,c7,c8,c9,c10⟩:=hcd;refine#[o,vs',file,tf,flags,tg,inF,text,tt,stay cc o c1 c10 (λz=>?_),c2,c3,c4,c5,c6,c7,c8,c9,c10];rw[z,ha]at c1;cases c1;simp at c2
 obtain⟨mc,l1,l2⟩:=hlim;have M0:Mod K mg (Ql s₁.heap H):={ kin:=kStay,glob:=nsStay _ _ hns,blt:=#[mb,nsStay _ _ hb,hbb],nolimit:=#[mc,nsStay _ _ l1,l2] };have E0:Env0 P w K mg (Ql s₁.heap H) callerA [] s₁ H:={ frames:=rfl,mod:=M0,bs:=λb o e=>zbW e,bsz:=Nat.le_of_eq (UJ _ _),funs:=trivial,frf:=λb z=>(nomatch (show b ∈ ([]:List sX)from z)),hok:=hok,bare:=.of_eq hg };refine An ((F _ kStay (nsStay _ _ hns) bStay cStay).run callerA [] s₁ H #[[.ref a],[]] [.ref a] [.ref a] (λv _=>v=.bl Bw) (λ_ _ _=>False) hr E0 (hbind s₁ (.ref a)) (.cons rfl .nil) hsp) λr s' hq=>?_;rcases r with e | fl
 ·exact (hCX H e s' hq).elim
 rcases fl with _ | _ | _ | u
 all_goals first | exact False.elim hq | skip
 obtain⟨v,H',e1,e2,un,hok',rv,ev⟩:=hq;have ev':v=V.bl Bw:=ev;subst ev';have eu:u=Value.bool Bw:=rv;subst eu;obtain⟨more,hT2⟩:=un.tbls T ps h1;have hT3:s'.heap.get? T=Bu { cls:=.none,data:=.fields (ps ++ more) }:=hok' T _ hT2
 have each:∀b o,s₁.heap.get? b=Bu o->b≠T->s'.heap.get? b=Bu o:=λb o e n=>by
  cases q:H b with
  | none=>exact un.keep b o e q (λz=>(nomatch (show b ∈ ([]:List sX)from z))) (λz=>(nomatch z))
  | some ob =>
   rcases h2 b ob q with z | ⟨z,_,zz⟩
   ·exact y4 z n
   ·subst zz;have g:=(hok' b _ (un.frzs b _ _ q)).1;rw[z,ha]at e;cases e;exact g
 refine#[rfl,#[λb o e=>?_,λb o e=>?_],e1,e2]
 ·by_cases hbT:b=T
  ·subst hbT;rw[hT]at e;cases e;exact .inr (.inl #[hTc,rfl,ps,more,rfl,hT3])
  ·exact .inl (each b o e hbT)
 ·by_cases hbT:b=T
  ·subst hbT;exact#[_,hT3]
  ·exact#[o,each b o e hbT]
def Jx(KX:K.In s₁.heap)(hKT:K.lookup T=Bv)(hT:s₁.heap.get? T=Bu { cls:=.none,data:=.fields ps })(hTc:Bk s₁.heap T)(hns:s₁.heap.Ns sQ mg)(hb:s₁.heap.Ns builtinsNs mb)(hbb:∀x:tw,x≠"__name__"->mb x=tS x)(hlim:s₁.heap.NoLimit)(hg:s₁.gens=#[])(ha:s₁.heap.get? a=Bu { cls:=.type "list",data:=.seq vs.toArray }) (hi:Be vs ns) (hl:ns.length<=sU) (hr:Room k callerA)(hbm:s₁.heap.BuiltinsAt mg T) (hcd:PySem.W.CodeHd s₁.heap cc T) (F:∀base:tE,K.In base->base.Ns sQ mg->base.BuiltinsAt mg T->PySem.W.CodeHd base cc T->zY P w K mg base CX k fa fd [x] sp) (hbind:∀(s:sZ) (u:sY),AT s fd #[[u],[]] [(x,u)])(hCX:∀H e s',CX [] H s₁ (λ_ _ _=>False) e s'->False) (hsp:∀H:Hp,H T=Bu (.tbl ps)->SqL K H a (ns.map V.int)->sp [.ref a] H (λv _=>v=.bl Bw) λ_ _ _=>False) :
  Ae (model P w) callerA (.call (.ref fa) #[[.ref a],[]]) (λr s'=>r=.ok (.ret (.bool Bw))/\OldK s₁.heap s'.heap/\s'.os=s₁.os/\Az s'.gens) s₁:=by
 have rv:=Yo hi;have hlv:=hi.length
 have hTa:a≠T:=λz=>by
  rw[z,hT]at ha;cases ha
 rcases hk:K.lookup a with _ | o
 ·refine YO (ns:=ns) KX hKT hT hTc hns hb hbb hlim hg ha hr hbm hcd F hbind hCX (upd (upd (λ_=>Bv) T (.tbl ps)) a (.frz { cls:=.type "list",data:=.seq vs.toArray } (.lst (ns.map V.int)))) ?_ (λb u e=>?_) (λb u e=>?_) ?_
  ·rw[zq (Ne.symm hTa),zc]
  ·by_cases hba:b=a
   ·subst hba;rw[zc]at e;cases e;exact .inr #[rfl,hk,rfl]
   ·rw[zq hba]at e;by_cases hbT:b=T
    ·exact .inl hbT
    ·rw[zq hbT]at e;cases e
  ·by_cases hba:b=a
   ·subst hba;rw[zc]at e;cases e;exact#[ha,by rw[ac];exact hl,vs,_,rv,ha]
   ·rw[zq hba]at e;by_cases hbT:b=T
    ·subst hbT;rw[zc]at e;cases e;exact hT
    ·rw[zq hbT]at e;cases e
  ·exact hsp _ (by rw[zq (Ne.symm hTa),zc]) (.inl (.inr #[_,zc]))
 ·have e:=KX a o hk;rw[ha]at e;cases e;refine YO (ns:=ns) KX hKT hT hTc hns hb hbb hlim hg ha hr hbm hcd F hbind hCX (upd (λ_=>Bv) T (.tbl ps)) zc (λb u e=>?_) (λb u e=>?_) (hsp _ zc (.inr #[_,vs.toArray,_,hk,rfl,rfl,rfl,by rw[ak,hlv];exact hl,by simpa using rv]))
  ·by_cases hbT:b=T
   ·exact .inl hbT
   ·rw[zq hbT]at e;cases e
  ·by_cases hbT:b=T
   ·subst hbT;rw[zc]at e;cases e;exact hT
   ·rw[zq hbT]at e;cases e
end
end in def zcV(K:sV):Bool:=K.all λp=>match p.2 with
 | ⟨.none,_,.fields _,_⟩=>Bx
 | _=>Bw
theorem Vk{T:sX}{o:tR}:∀{K:sV},K.lookup T=Bu o->(T,o) ∈ K
 | [],h=>by cases h
 | p::K,h=>by
  rw[aY]at h;by_cases hp:T=p.1
  ·rw[show (T == p.1)=Bw by simpa using hp]at h;cases h;rw[hp];exact aA
  ·rw[show (T == p.1)=Bx by simpa using hp]at h;exact am _ (Vk h)
theorem J3{K:sV}{T:sX}{ps:Array sY}{h:tE}(e:zcV K=Bw)(X:K.In h)(hT:h.get? T=Bu { cls:=.none,data:=.fields ps }):K.lookup T=Bv:=by
 cases q:K.lookup T with
 | none=>rfl
 | some o =>
  have g:=X _ _ q;rw[hT]at g;cases g;have:=BN.mp e _ (Vk q);simp at this
def walk_ofT{l:PySem.W.OpenLaw}{n k:Nat}{q:tu}{loose:List tw}{XP:(tw->Option sY)->tE->Prop}{YP:tz->tE->Prop}{d din:DefRec}{K:Params->sV}{CX:tz->CXT}{sp:tz->sX->Sp}{x:tw}(hn:l.most=Bu n) (hn2:n<=sU) (hdf:d.params.defaults=[]) (hr:Room k callerA) (hdin:din ∈ recsOf q)(hY:∀(w:tz) (h:tE),YP w h->(K w.params).In h) (hno:∀w:tz,zcV (K w.params)=Bw)(F:∀(w:tz) (mg:tw->Option sY) (fa:sX) (h:tE) (cc T:sX),(K w.params).In h->h.Ns sQ mg->mg d.name=Bu (.ref fa)->(∃a o fd,mg din.name=Bu (.ref a)/\h.get? a=Bu o/\o.data=.func fd/\fd.code=.ref cc)->sQ≠T ->
   ∃fd:tj,(∀(s:sZ) (u:sY),AT s fd #[[u],[]] [(x,u)]) /\
    ∀base:tE,(K w.params).In base->base.Ns sQ mg->base.BuiltinsAt mg T->PySem.W.CodeHd base cc T->zY l.prog w (K w.params) mg base (CX w) k fa fd [x] (sp w T))(hsp:∀(w:tz) (H:Hp) (a:sX) (ns:List Int) (T:sX),ns.length<=n->(∀z ∈ ns,qE z)->H T=Bu (.tbl #[])->SqL (K w.params) H a (ns.map V.int)->sp w T [.ref a] H (λv _=>v=.bl Bw) λ_ _ _=>False)(hCX:∀(w:tz) (H:Hp) (s:sZ) (e:sY) (s':sZ),CX w [] H s (λ_ _ _=>False) e s'->False) :
  PySem.W.WalkO q loose XP YP l.row.toRowW d [] (λf vs=>gy f vs):=by
 refine YT hn hdf λw s₀ s₁ mg mb fa o pm cd doc a vs ns G Y ho hd hcd hmg hobj hints hlen hb' hg=>?_;have X0:=hY w _ Y;obtain⟨ai,oi,fdi,cc,T,m1,m2,m3,m4,m5,m6⟩:=G.T.tab din hdin;have hcd':PySem.W.CodeHd s₁.heap cc T:=PySem.W.CodeHd.of m5 m6;have hTo:s₁.heap.get? T=Bu { cls:=.none,data:=.fields #[] }:=m6.2;have hTc:Bk s₁.heap T:=m6.isCodeTable
 have hgT:sQ≠T:=λz=>by
  obtain⟨o,es,ep,e,hd',_⟩:=G.T.g;rw[z,hTo]at e;cases e;cases hd'
 have hbm:s₁.heap.BuiltinsAt mg T:=by
  obtain⟨bm,ob,b1,b2,b3,b4,b5,b6⟩:=G.T.bmain;refine#[bm,ob,b1,b2,λz=>?_,λz=>?_,b3,b4,b5,b6]
  ·obtain⟨o,es,ep,e,hd',_⟩:=G.T.g;rw[z,e]at b3;cases b3;rw[hd']at b6;cases b6
  ·rw[z,hTo]at b3;cases b3;cases b4
 obtain⟨fd,hbd,hF⟩:=F w mg fa _ cc T X0 G.T.g hmg #[ai,oi,fdi,m1,m2,m3,m4] hgT;exact Jx (T:=T) (ps:=#[]) X0 (J3 (hno w) X0 hTo) hTo hTc G.T.g G.T.b G.T.builtins G.T.nolimit hg hobj hints (aK hlen hn2) hr hbm hcd' hF hbd (λH e s'=>hCX w H s₁ e s') λH h1 h2=>hsp w H a ns T hlen hb' h1 h2
def zcI{P:tu}{w:tz}{K:sV}{mg:tw->Option sY}{base:tE}{x qual:tw}{st:tF}{f cc:sX}{fd:tj}{N ps:List tw}{k:Nat}{sp:Sp}(F:Fun K x qual st f fd)(hcc:fd.code=.ref cc)(S:zm N ps (zh st))(len:∀vs H Q E,sp vs H Q E->vs.length=ps.length)(hbody:∀(A:tB) (outer:List AK) (s:sZ) (H:Hp) (vs:List V) (Q:VK) (E:XK),Room k (A.deeper (Ax qual (zh st) s⁻¹ f (.ref cc)))->sp vs H Q E ->
   ∃t,PSs (qS CX0 P w K mg base N qual (zh st) f (.ref cc) A outer s H E).nox (yq st) t/\t { nx:=λ_ H'=>Q .non H',rt:=Q } (start N vs) H):zY P w K mg base CX0 (k+1) f fd ps sp:=by obtain⟨oc,od,kV,doc,pm,an,cdv,ct,osl,rfl,lk,hcd⟩:=F.ex;have e:cdv=.ref cc:=hcc;subst e;refine J9 lk hcd S len λA outer s H vs Q E hr hsp=>?_;obtain⟨t,h,q⟩:=hbody A outer s H vs Q E hr hsp;exact#[t,h.nox,q]
end L3
namespace L3
section
variable{X:Cx}{By:List (sX × tR)}{σ:L2.St}{H:Hp}{s:sZ}{cc P c:sX}{y:tw}{params:Ag}{body:tD}{scope:tU}{pos:Ad}{Q:VK}
end
section
variable{X:Cx}{cc P c:sX}{x p y:tw}{params:Ag}{body e:tD}{scope:tU}{lpos kpos pos pp:Ad}{k iy:Nat}{te tb:TE}
end
section
variable{P:tu}{w:tz}{K:sV}{mg mb:tw->Option sY}{CX:CXT}{k:Nat}{fa a T cc T' cc':sX}{fd:tj}{x:tw}{sp:Sp}{s₁:sZ}{vs:List sY}{ns:List Int}
end
section
variable{X:Cx}{By:List (sX × tR)}{σ:L2.St}{H:Hp}{s:sZ}{p name qual:tw}{ys:List tw}{ixs:()}{cl:List (tw × sX)}{scope:tU}{params:Ag}{body:tD}{f:sX}{pm ctv cv:sY}{k:Nat}{x:V}{u:sY}{Q:VK}{t:TE}
end
section
variable{X:Cx}{By:List (sX × tR)}{σ:L2.St}{H:Hp}{s:sZ}{cc P:sX}{cl:List (tw × sX)}{params:Ag}{body:tD}{scope:tU}{pos:Ad}{Q:VK}
end
section
variable{X:Cx}{cc P:sX}{x p:tw}{ys:List tw}{ixs:()}{cl:List (tw × sX)}{params:Ag}{body e:tD}{scope:tU}{lpos kpos pos pp:Ad}{k:Nat}{te tb:TE}
end
end L3
namespace PySem
namespace F
end F
section
variable{prog:tu}{w:tz}{A:tB}{E:sY->sZ->Prop}{s:sZ}
def Heap.IsRevS(h:tE)(a:sX)(x:tw)(t:Ay)(i:Int):Prop:=∃o,h.get? a=Bu o/\o.cls=.type "reversed"/\o.data=.fields (u9 [.str x t,rawInt i])
def Heap.IsRevS.typeIs{a:sX}{x:tw}{t:Ay}{i:Int}(z:s.heap.IsRevS a x t i):s.TypeIs (.ref a) "reversed":=let #[o,ho,hc,_]:=z; #[o,ho,hc]
def Heap.IsRevS.at{h h':tE}{a:sX}{x:tw}{t:Ay}{i:Int}(z:h.IsRevS a x t i)(e:∀o,h.get? a=Bu o->h'.get? a=Bu o):h'.IsRevS a x t i:=let #[o,ho,r]:=z; #[o,e _ ho,r]
end
end PySem
namespace L3
section
variable{X:Cx}{o a:tD}{to:TE}{ta:TA}{apos cpos p pos2:Ad}
end
end L3
namespace L2
end in def Itk(lo k:Int)(n:Nat):It:=#[λi _=>i<n,λi H x H'=>H'=H/\x=.int (lo+i * k),λi _=>n<=i]
theorem Xm{P:tu}{w:tz}{K:sV}{tg:tD}(it:sX)(lo k:Int)(n:Nat):JN P w K tg (Itk lo k n) [it] it (λi h=>AS h it (lo+(i:Nat) * k) ((n:Int) - (i:Nat)) k) where
 mem:=by simp
 obj:=λi h st b hb=>by
  have e:b=it:=by simpa using hb
  subst e
  exact#[_,st,λv z=>by
   have z':Data.fields _=Data.cell v:=z
   cases z']
 keep:=λi h h' st k=>k it (by simp) _ st
 item:=by
  intro X hP hw hK hc i By s σ H E I hf st hg;subst hP hw hK;obtain⟨f0,f1,f2,f3,f4,f5⟩:=hf it (by simp);have W:=Walks.range (prog:=X.prog) (w:=X.w) (I.ok.hd hc) it lo k n;refine W.item i s _ _ hg st λv h' tk hv st' kk=>?_;obtain⟨t,rfl⟩:=hv;have I1:Inv X By σ H { s with heap:=h',toks:=tk }:=I.turned (λb o hb e=>kk b o (by simpa using hb) e) f0 f1 f3 f4 f5;exact#[_,rfl,VW (s:={ s with heap:=h',toks:=tk }) (n:="range_iterator") st' rfl rfl ∅ #[.int (lo+i * k),H,I1,#[t,rfl],#[rfl,rfl],st',λb hb=>(hf b hb).1]]
 done:=by
  intro X hP hw hK hc i By s σ H E I hf st hg;subst hP hw hK;obtain⟨f0,f1,f2,f3,f4,f5⟩:=hf it (by simp);exact AH (I.ok.hd hc) st (by have:n<=i:=hg;lia) λh' eb=>#[rfl,I.turned (t':=s.toks) (λb o hb e=>eb b o hb e) f0 f1 f3 f4 f5]
 self:=λ_ _ _ _ _ st h=>AI st h
section
variable{X:Cx}{tg:tD}
theorem zay{i j k:Int}(h1:0<=i)(h2:i<=2 ^ 30)(h3:0<=j)(h4:j<=2 ^ 30)(h5:0<k)(h6:k<2 ^ 30):0<=p9 i j k/\p9 i j k<2 ^ 30+1:=by
 unfold p9;rw[y6 h5];split
 ·have a:=Int.ediv_nonneg (a:=j - i - 1) (b:=k) ⋯ ⋯;have b:=Int.ediv_le_self (a:=j - i - 1) k ⋯;lia
 ·lia
theorem zcr{i j k:Int}(h1:0<=i)(h2:i<=2 ^ 30)(h3:0<=j)(h4:j<=2 ^ 30)(h5:0<k)(h6:k<2 ^ 30):Builtin.Range.small i j k=Bw:=by
 obtain⟨a,b⟩:=zay h1 h2 h3 h4 h5 h6;unfold Builtin.Range.small
 erw[Builtin.Range.rangeFitsLong,cA,fm,decide_eq_true_eq,beq_iff_eq,h5,gt_iff_lt,if_true]
 lia
theorem Ut{By:List (sX × tR)}{σ:St}{H:Hp}{s:sZ}{R:It->Hp->Prop}{E:sY->sZ->Prop}{lo hi k:Int}{t u v:Ay}{tk:Nat}(I:Inv X By σ H s)(h1:0<=lo)(h2:lo<=2 ^ 30)(h3:0<=hi)(h4:hi<=2 ^ 30)(h5:0<k)(h6:k<2 ^ 30)(q:R (Itk lo k (p9 lo hi k).toNat) H):tm (model X.prog X.w) X.A (pyIter (.ref s⁻¹)) (PIE X By σ tg R) E { s with heap:=s.heap.push { cls:=.type "range",data:=.fields (u9 [.int lo t,.int hi u,.int k v]) },toks:=tk }:=by
 refine AY (IsRange.new ..) (zcr h1 h2 h3 h4 h5 h6) ?_;have I1:Inv X By σ H { s with heap:=s.heap.push { cls:=.type "range",data:=.fields (u9 [.int lo t,.int hi u,.int k v]) },toks:=tk }:=I.kept λb o e=>aa _ e
 refine#[(s.heap.push { cls:=.type "range",data:=.fields (u9 [.int lo t,.int hi u,.int k v]) }).objs.size,[(s.heap.push { cls:=.type "range",data:=.fields (u9 [.int lo t,.int hi u,.int k v]) }).objs.size],_,_,H,rfl,
  I1.kept (t':=tk) λb o e=>aa _ e,Xm _ lo k (p9 lo hi k).toNat,?_,λb hb=>?_,q]
 ·have e1:lo+((0:Nat):Int) * k=lo:=by simp
  have e2:(((p9 lo hi k).toNat:Nat):Int) - ((0:Nat):Int)=p9 lo hi k:=by have:=(zay h1 h2 h3 h4 h5 h6).1;lia
  show AS _ _ (lo+((0:Nat):Int) * k) ((((p9 lo hi k).toNat:Nat):Int) - ((0:Nat):Int)) k;rw[e1,e2];exact ay _ rfl
 ·have e:b=(s.heap.push { cls:=.type "range",data:=.fields (u9 [.int lo t,.int hi u,.int k v]) }).objs.size:=by simpa using hb
  subst e;exact I1.fpOk (al _) (I1.hok.fresh (al _))
def zec(ta:TA):TI:=λσ H R=>ta σ H λvs H1=>∃i j k:Int,vs=[.int i,.int j,.int k]/\(0<=i/\i<=2 ^ 30/\0<=j/\j<=2 ^ 30/\0<k/\k<2 ^ 30)/\R (Itk i k (p9 i j k).toNat) H1
theorem Q1{a b c:tD}{ta:TA}{p pos:Ad}(hg:Gl X "range")(hm:X.mg "range" = Bv)(ha:PA X [a,b,c] ta)(hs:sS [a,b,c] X.env=[(Bx,eval a X.env),(Bx,eval b X.env),(Bx,eval c X.env)]:=by rfl)(hs2:sS [b,c] X.env=[(Bx,eval b X.env),(Bx,eval c X.env)]:=by rfl) :
  PI X tg (.Call (.Name "range" p) [a,b,c] [] pos) (zec ta):=by
 intros R I h;refine Bs (vq I hg hm boot_range (bw (thn (ha pos By s σ H _ I h) λus s1=>el5 λvs H1 I1 r1 q1=>?_) (by rw[hs,hs2]) (by rw[hs2];rfl)));obtain⟨i,j,k,e,⟨q1,q2,q3,q4,q5,q6⟩,q⟩:=q1;subst e
 cases r1 with
 | cons r rr =>
  cases rr with
  | cons r' rr =>
   cases rr with
   | cons r'' rr =>
    cases rr;obtain⟨t,rfl⟩:=r;obtain⟨t',rfl⟩:=r';obtain⟨t'',rfl⟩:=r'';exact call_range_3 ⋯ (Ut I1 q1 q2 q3 q4 q5 q6 q) (Or.inl (PyProof.noPylong_small ⋯))
end
end L2
namespace L3
open PySem L2
def CompK(lo k:Int)(n:Nat)(g:TG)(tt:TT)(te:TE)(own:Nat)(ix:())(σ:L2.St)(H1:Hp)(Q:VK)(D:sX):Prop:=YM (Itk lo k n) g tt te own ix σ H1 Q D
def zet{ta:TA}{g:TG}{tt:TT}{te:TE}{own:Nat}{ix:()}{σ:L2.St}{H:Hp}{Q:VK}:jy (zec ta) g tt te own ix σ H Q=ta σ H λvs H1=>∃i j k:Int,vs=[.int i,.int j,.int k]/\(0<=i/\i<=2 ^ 30/\0<=j/\j<=2 ^ 30/\0<k/\k<2 ^ 30)/\∀D,H1 D=Bv->CompK i k (p9 i j k).toNat g tt te own ix σ H1 Q D:=rfl
section
variable{g:TG}{tt:TT}{te:TE}{own:Nat}{ix:()}{σ:L2.St}{H1:Hp}{Q:VK}{D:sX}
theorem CompK.by{lo k:Int}{n:Nat}(Pv:Nat->List V->Hp->Prop)(h0:Pv 0 [] (upd H1 D (.lst [])))(hs:∀i BA H',i<n->Pv i BA H'->g (.int (lo+i * k)) (vx σ own ix) H' λσ3 H3=>xf (vx σ own ix) σ3/\tt σ3 H3 λb H4=>if b=Bw then
   te σ3 H4 λv H5=>H5 D=Bu (.lst BA)/\BA.length<sU/\CNx n i Pv (BA ++ [v]) (upd H5 D (.lst (BA ++ [v])))else CNx n i Pv BA H4)(hd:∀BA H',Pv n BA H'->Q (.ref D) H'):CompK lo k n g tt te own ix σ H1 Q D:=by
 refine#[λi m BA H=>m=n - i/\i<=n/\Pv i BA H,#[n,by simp,aG _,h0],?_];rintro i m BA H' ⟨rfl,hi,p⟩;by_cases hlt:i<n
 ·refine .inr #[hlt,λx H2 y=>?_];obtain⟨e,y⟩:=y;subst e y;exact hs i BA _ hlt p
 ·have e:i=n:=⋯;subst e;exact .inl #[al _,hd BA H' p]
end
end L3
namespace L3
open PySem.AutoSeq1 (wpAny_loadPart')
open MeetsSeq MeetsSeq2 MeetsSeq3 SeqRoads2 SeqAt
section
variable{X:Cx}{By:List (sX × tR)}{σ:St}{H:Hp}{s:sZ}
end
end L3
namespace L3
section
variable{prog:tu}{w:tz}{A:tB}{R:AR->sZ->Prop}{I:sX}{fp wr:List sX}{G:Array Bf->Array Bf->Prop}{n:Nat}{P:Nat->sY->Prop}{St:Nat->sZ->Prop}
end
section
variable{prog:tu}{w:tz}{A:tB}{E:sY->sZ->Prop}{s:sZ}
end
section
variable{X:Cx}
end
section
variable{g:TG}{tt:TT}{te:TE}{own:Nat}{ix:()}{σ:L2.St}{H1:Hp}{Q:VK}{D:sX}
end
theorem W9{α:Type}[DecidableEq α](k:α)(v:sY)(x:α):∀kvs:List (α × sY),(kvs.map λkv=>if kv.1=k then (kv.1,v)else kv).find? (λkv=>kv.1=x)=(kvs.find? λkv=>kv.1=x).map λkv=>if kv.1=k then (kv.1,v)else kv
 | []=>rfl
 | p::kvs=>by
  have e:(if p.1=k then (p.1,v)else p).1=p.1:=by split <;> rfl
  rw[av,List.find?_cons,List.find?_cons,W9 k v x kvs]
  erw[e]
  by_cases h:p.1=x
  ·simp [h]
  ·simp [h]
def VX{α:Type}[DecidableEq α](kvs:List (α × sY))(k:α)(v:sY)(x:α):valueAt (stored kvs k v) x=if x=k then Bu v else valueAt kvs x:=by
 unfold stored valueAt;split
 ·rename_i h;rw[W9];by_cases e:x=k
  ·subst e;rw[y6 rfl];obtain⟨p,hp,hk⟩:=BY.mp h
   cases hf:kvs.find? λkv=>kv.1=x with
   | none =>
    have:=BZ.mp hf p hp;exact y4 hk this
   | some q =>
    have hq:=dX hf;have hq':q.1=x:=by simpa using hq
    simp [hq']
  ·rw[y9 e]
   cases hf:kvs.find? λkv=>kv.1=x with
   | none=>rfl
   | some q =>
    have hq:=dX hf;have hq':q.1=x:=by simpa using hq
    have:¬ q.1=k:=λz=>e (hq'.symm.trans z);simp [this]
 ·rename_i h;rw[List.find?_append];by_cases e:x=k
  ·subst e;rw[y6 rfl]
   have:kvs.find? (λkv=>kv.1=x)=Bv:=by
    rw[gg];intro p hp hk;exact h (BY.mpr #[p,hp,hk])
   rw[this];simp
  ·have e':¬ k=x:=λz=>e z.symm;rw[y9 e];simp [e']
section
variable{X:Cx}{pos:Ad}
end
end in def jW(P:tu)(w:tz)(a:sX)(m:tw->Option V)(n:Nat):HO:=.ext λh=>(a == sysModules)=Bx/\∃kvs:List (tw × sY),h.DictOf (dg P w) a kvs/\kvs.length<=n/\∀k,RelO (m k) (valueAt kvs k)
def QS{P:tu}{w:tz}{H:Hp}{h:tE}{a:sX}{m:tw->Option V}{n:Nat}{kvs:List (tw × sY)}(hs:(a == sysModules)=Bx)(d:h.DictOf (dg P w) a kvs)(hl:kvs.length<=n)(r:∀k,RelO (m k) (valueAt kvs k)):ObjOk P w H h a (jW P w a m n) :=
 #[#[hs,kvs,d,hl,r],(let #[o,es,ep,ho,_]:=d; #[o,ho]),λh1 h2 ⟨hs,kvs,⟨o,es,ep,ho,rest⟩,z⟩ k=>#[hs,kvs,#[o,es,ep,k _ ho,rest],z]]
section
variable{X:Cx}{pos:Ad}
def Inv.beyond{By:List (sX × tR)}{σ:L2.St}{H:Hp}{s:sZ}(I:Inv X By σ H s):(s⁻¹ == sysModules)=Bx:=by obtain⟨o,es,ep,e,_⟩:=I.ok.mod.glob;have h1:=aq e;have h2:=I.ok.bsz;have h3:=I.sz;have h4:1<=sQ:=∅;have h5:1<s⁻¹:=ax (cN h4 h1) (aK h2 h3);rw[beq_eq_false_iff_ne];intro z;exact bR h5 z
def zeq(P:tu)(w:tz):TE:=λ_ H Q=>∀p,H p=Bv->Q (.ref p) (upd H p (jW P w p (λ_=>Bv) 0))
def zb7:PE X (.Dict [] [] pos) (zeq X.prog X.w):=λBy s σ H Q I h =>
 wpAny_Dict_empty #[.ref s⁻¹,_,I.laid (a:=s⁻¹) (t':=s.toks) (λ_ _ q=>aa _ q) (al _) (QS (m:=λ_=>Bv) (Inv.beyond I) (Heap.DictOf.new s.heap) (al _) λ_=>trivial),rfl,h _ (I.hok.fresh (al _))]
def Inv.tdic{By:List (sX × tR)}{σ:L2.St}{H:Hp}{s:sZ}{a:sX}{m:tw->Option V}{n:Nat}(I:Inv X By σ H s)(h:H a=Bu (jW X.prog X.w a m n)):(a == sysModules)=Bx/\∃kvs:List (tw × sY),s.heap.DictOf (dg X.prog X.w) a kvs/\kvs.length<=n/\∀k,RelO (m k) (valueAt kvs k):=(I.hok _ _ h).1
def zf1(P:tu)(w:tz):R2:=λx y H Q=>∃a m n k v,x=.ref a/\y=.str k/\H a=Bu (jW P w a m n)/\m k=Bu v/\Q v H
def zcU:IxR X (zf1 X.prog X.w):=by intro value slice By s σ H x y v u Q I rx ry h hs;obtain⟨a,m,n,k,z,rfl,rfl,ha,hk,q⟩:=h;cases rx;obtain⟨t,rfl⟩:=ry;obtain⟨_,kvs,dd,hl,r⟩:=Inv.tdic I ha;obtain⟨w',hw,rw'⟩:=RelO.some_of (v:=z) (o:=valueAt kvs k) (by rw[<- hk];exact r k);exact tail_any dd.typeIs slot_dict_getitem.lookup (wpAny_getItem_of (knd:=dg X.prog X.w) (strKind_is _ _ _ _) dd.mapOf hw #[z,H,I.tok _,rw',q]) hs
def zeU(P:tu)(w:tz):V->V->V->Hp->(Hp->Prop)->Prop:=λo i v H Q=>∃a m n k,o=.ref a/\i=.str k/\H a=Bu (jW P w a m n)/\n<=100000/\Q (upd H a (jW P w a (λx=>if x=k then Bu v else m x) (n+1)))
theorem KL:zgo X (zeU X.prog X.w):=by
 intros o i v ov iv u Q I ro ri rv h;obtain⟨a,m,n,k,rfl,rfl,ha,hn,q⟩:=h;cases ro;obtain⟨t,rfl⟩:=ri;obtain⟨hsm,kvs,dd,hl,r⟩:=Inv.tdic I ha;have s16:=zW;refine wpAny_setItem_pairs (knd:=dg X.prog X.w) (hsz:=by lia) (strKind_is _ _ _ _) dd λh' dd' hs=>#[_,?_,q];have he:∃q,h'.get? a=Bu q:=let #[q,_,_,hq,_]:=dd'; #[q,hq];refine I.write (x:=a) (e:=a) (by rw[ha];exact True.intro) (.inl rfl) (λb q hb z=>(hs.2 b hb).trans z) he (QS hsm dd' (aK (stored_length_le _ _ _) ⋯) λx=>?_);rw[VX];by_cases e:x=k
 ·rw[y6 e,y6 e];exact rv
 ·rw[y9 e,y9 e];exact r x
def zdL(P:tu)(w:tz):R2:=λx y H Q=>∃a m n k,x=.str k/\y=.ref a/\H a=Bu (jW P w a m n)/\Q (.bl (m k).isNone) H
def JZ:OpR X (tG .NotIn) (zdL X.prog X.w):=by
 intros x y v u Q I rx ry h;obtain⟨a,m,n,k,rfl,rfl,ha,q⟩:=h;obtain⟨t,rfl⟩:=rx;cases ry;obtain⟨hsm,kvs,dd,hl,r⟩:=Inv.tdic I ha;refine wpAny_notIn_of (knd:=dg X.prog X.w) (strKind_is _ _ _ _) hsm dd.mapOf ?_
 have e:(!(valueAt kvs k).isSome)=(m k).isNone:=by
  have:=r k
  cases hm:m k with
  | none =>
   cases hv:valueAt kvs k with
   | none=>rfl
   | some z=>rw[hm,hv]at this;exact this.elim
  | some z0 =>
   cases hv:valueAt kvs k with
   | none=>rw[hm,hv]at this;exact this.elim
   | some z=>rfl
 rw[e];exact#[.bl _,H,I.tok _,rfl,q]
end
section
variable{X:Cx}{pos:Ad}
variable{o e:tD}{es:List tD}{to:TE}{t:TA}{name:tw}{apos cpos:Ad}{id:String}{r:V->List V->Hp->VK->Prop}
end
section
variable{X:Cx}{tg:tD}
end
section
variable{g:TG}{tt:TT}{te:TE}{own:Nat}{ix:()}{σ:L2.St}{H1:Hp}{Q:VK}{D:sX}
end
section
variable{X:Cx}{scope:tU}{own caps:List tw}{ix:()}{elt tg iter:tD}{ifs:List tD}{pos:Ad}{wi:TI}{g:TG}{tt:TT}{te:TE}
def qk{EX:XK}(hc:X.calm=Bw)(S:kE X scope own caps ix)(hg:∀cl C By s3 H3 fp,PG (yG X scope cl C (own ++ caps) By s3 H3 fp λ_ _=>False) tg g)(ht:∀cl C By s3 H3 fp xe,XE (yG X scope cl C (own ++ caps) By s3 H3 fp xe) EX->PTs (yG X scope cl C (own ++ caps) By s3 H3 fp xe) ifs tt)(hst:X.stack=X.env::X.outer/\X.env.frame=Bu X.env.locals) (hxe:XE X EX) (he:∀cl C By s3 H3 fp xe,XE (yG X scope cl C (own ++ caps) By s3 H3 fp xe) EX->PE (yG X scope cl C (own ++ caps) By s3 H3 fp xe) elt te){cl:List (tw × sX)} (hc1:∀y c,cl.lookup y=Bu c->X.env.cells.lookup y=Bu c) (hc2:∀y,(y,NameKind.free) ∈ scope.names->∃c,cl.lookup y=Bu c){By:List (sX × tR)} {σ:St} {H2:Hp} {s2:sZ} {Q:VK} {it:sX} {fp:List sX} {tn:Nat->tE->Prop} {J:It} (I2:Inv X By σ H2 s2) (T:JN X.prog X.w X.K tg J fp it tn) (st2:tn 0 s2.heap) (f2:∀b ∈ fp,wz X By H2 b)(q:∀D,H2 D=Bv->∃W:Nat->Nat->List V->Hp->Prop,(∃m,W 0 m [] (upd H2 D (.lst []))) /\
   ∀i m BA H',W i m BA H'->(J.stop i H'/\Q (.ref D) H')\/(J.go i H'/\∀x H2,J.yld i H' x H2->g x (vx σ own.length ix) H2 λσ3 H3=>xf (vx σ own.length ix) σ3/\tt σ3 H3 λb H4=>if b=Bw then
    te σ3 H4 λv H5=>H5 D=Bu (.lst BA)/\BA.length<sU/\∃m',m'<m/\W (i+1) m' (BA ++ [v]) (upd H5 D (.lst (BA ++ [v])))
    else ∃m',m'<m/\W (i+1) m' BA H4)){RR:sY->sX->AR->sZ->Prop} {E:sY->sZ->Prop}(hRR:∀D C m s' H',H2 D=Bv->s'.heap.Ns C m->wz X By H' C->Inv X By σ H' s'->Q (.ref D) H'->RR (.ref D) C (.ok .next) s')(hRE:∀D C m s' x,s'.heap.Ns C m->(∀h',Heap.SameBut C s'.heap h'->∀cenv:AK,cenv.locals=C->tm (model X.prog X.w) X.A (ge "comprehension.variables-let-go" x cenv:Bl sY) (λ_ _=>False) X.xe { s' with heap:=h' })->RR (.ref D) C (.error x) s') :
  tm (model X.prog X.w) X.A (newList []) (λBA s3=>tm (model X.prog X.w) X.A (newFunctionEnv scope X.env.globals cl [] X.env.qual Bv .none (Bu X.env)) (λcenv s4 =>
   Ae (model X.prog X.w) X.A (.compStart (.ListComp elt [#[tg,iter,ifs,0]] scope pos) 0 (.ref it) BA { cenv with scope:=relabel scope X.env }) (RR BA cenv.locals) s4) E s3) E s2:=by
 have hD:H2 s2⁻¹=Bv:=I2.hok.fresh (al _);obtain⟨W,⟨m0,w0⟩,turn⟩:=q _ hD;refine Aq (AN S.nocell (by intro y hy;simp at hy) (λh1 hns1 hsb1=>?_) S.kind);dsimp only at hns1 hsb1 ⊢
 have I3:Inv X By σ (upd H2 s2⁻¹ (.lst [])) { s2 with heap:=s2.heap.push { cls:=.type "list",dict:=Bv,data:=.seq ([]:List sY).toArray } } :=
  I2.lnew (its:=[]) (t':=s2.toks) .nil (aG _)
 generalize hs3:({ s2 with heap:=s2.heap.push { cls:=.type "list",dict:=Bv,data:=.seq ([]:List sY).toArray } }:sZ)=s3 at I3;have e3:s2.heap.push { cls:=.type "list",dict:=Bv,data:=.seq ([]:List sY).toArray }=s3.heap:=by rw[<- hs3]
 rw[e3]at hns1 hsb1 ⊢;have k1:∀b o,s3.heap.get? b=Bu o->h1.get? b=Bu o:=λb o e=>(hsb1.2 b (aB (aq e))).trans (aa _ e);have k23:∀b o,s2.heap.get? b=Bu o->s3.heap.get? b=Bu o:=λb o e=>by rw[<- e3];exact aa _ e
 have hz:s3⁻¹=s2⁻¹+1:=by rw[<- e3,bG]
 have fpObj:∀b ∈ fp,∃o,s2.heap.get? b=Bu o:=λb hb=>let #[o,e,_]:=T.obj 0 _ st2 b hb; #[o,e];have fplt:∀b ∈ fp,b<s2⁻¹:=λb hb=>let #[o,e]:=fpObj b hb;aq e;have f3:∀b ∈ fp,wz X By (upd H2 s2⁻¹ (.lst [])) b:=λb hb=>#[by rw[zq (aB (fplt b hb))];exact (f2 b hb).1,(f2 b hb).2]
 have I4:Inv (yG X scope cl s3⁻¹ (own ++ caps) By s3 (upd H2 s2⁻¹ (.lst [])) fp λ_ _=>False) [] (vx σ own.length ix) (upd H2 s2⁻¹ (.lst [])) { s3 with heap:=h1,toks:=s3.toks+([]:List (tw × sY)).length } :=
  VJ S hc1 hc2 I3 f3 (λb hb=>by rw[hz];exact cS (fplt b hb)) hns1 k1
 have st4:tn 0 h1:=T.keep 0 _ _ st2 λb hb o e=>k1 b o (k23 b o e);generalize hs4:({ s3 with heap:=h1,toks:=s3.toks+([]:List (tw × sY)).length }:sZ)=s4 at I4;have es4:({ s2 with heap:=h1,toks:=s2.toks+([]:List (tw × sY)).length }:sZ)=s4:=by rw[<- hs4,<- hs3]
 have e4:h1=s4.heap:=by rw[<- hs4]
 have loop:Ae (model X.prog X.w) X.A (.compLoop (.ListComp elt [#[tg,iter,ifs,0]] scope pos) 0 (.ref it) (.ref s2⁻¹) (compEnvC scope cl s3⁻¹ X.env)) (RR (.ref s2⁻¹) s3⁻¹) s4:=by
  let X':=yG X scope cl s3⁻¹ (own ++ caps) By s3 (upd H2 s2⁻¹ (.lst [])) fp λ_ _=>False
  have fp':∀{H':Hp},(∀b ∈ fp,H' b=Bv)->∀b ∈ fp,wz X' [] H' b:=λ{H'} hn b hb=>by
   obtain⟨_,a1,a2,a3,a4,a5⟩:=f3 b hb;refine#[hn b hb,aB (show b<s3⁻¹ from by rw[hz];exact cS (fplt b hb)),λz=>?_,.inl hb,λx c e=>a4 x c (hc1 x c e),λp hp=>?_]
   ·rcases BE.mp (I3.stkSub b z)with e | e
    ·exact a1 e
    ·exact a2 e
   ·have:p ∈ (X.pn ++ By) ++ []:=hp;rw[aT]at this;exact a5 p this
  refine QX (λn s'=>∃i BA H',Inv X' [] (vx σ own.length ix) H' s'/\tn i s'.heap/\(∀b ∈ fp,H' b=Bv)/\W i n BA H') rfl ?_ m0 #[0,[],_,I4,by rw[<- e4];exact st4,λb hb=>(f3 b hb).1,w0];rintro n s5 ⟨i,BA,H5,I5,st5,fr5,w5⟩;refine Ac ?_;rcases turn i n BA H5 w5 with ⟨stop,qn⟩ | ⟨go,step⟩
  ·refine thn (T.done X' rfl rfl rfl hc i [] s5 _ H5 _ I5 (fp' fr5) st5 stop) λr s6 ⟨hr,I6⟩=>?_;subst hr;obtain⟨m,hm,_⟩:=I6.loc;refine hRR _ _ m s6 H5 hD hm (I3.fpOk (al _) I6.free) (I3.call' (s':=s6) I6.os I6.base I6.hok I6.bare λb hb=>?_) qn;obtain⟨_,a1,a2,a3,a4,a5⟩:=f3 b hb;exact#[a3,a1,a4,a5]
  ·refine thn (T.item X' rfl rfl rfl hc i [] s5 _ H5 (λ_ _=>False) I5 (fp' fr5) st5 go) λr s6 ⟨u,hr,h6⟩=>?_;subst hr;refine Ac (thn h6 λ_ s7=>el5 λx H7 I7 r7 q_z=>?_);obtain⟨y7,st7,fr7⟩:=q_z;have I7':=I7.pinned (fp' fr7) (T.obj _ _ st7);refine Ac (thn (hg _ _ _ _ _ _ _ s7 _ H7 x u _ I7' r7 (step x H7 y7)) λ_ s8=>el5 λσ8 H8 I8 ks q8=>?_);refine thn (ht cl _ By s3 (upd H2 s2⁻¹ (.lst [])) fp _ (λe s hfl=>Jj (RE:=λe s'=>RR (.ref s2⁻¹) s3⁻¹ (.error e) s') hst hxe hc1 I3 f3 hfl λm s' x a b=>hRE _ _ m s' x a b) _ s8 σ8 H8 _ (I8.wish _) q8) λb s9=>el3 λH9 I9' q9=>?_;have I9:=Inv.unwish (X:=X') I9'
   have back:∀{s':sZ} {H':Hp} {acc':List V} {m':Nat},Inv X' ([] ++ YR fp s7.heap) σ8 H' s'->m'<n->W (i+1) m' acc' H'->∃m,m<n/\∃i BA H',Inv X' [] (vx σ own.length ix) H' s'/\tn i s'.heap/\(∀b ∈ fp,H' b=Bv)/\W i m BA H':=λ{s' H' acc' m'} J' hm w'=>by
    refine#[m',hm,i+1,acc',H',(J'.unpinned).weak ks.1 ks.2,T.keep _ _ _ st7 λb hb o e=>(J'.pin (b,o) (aF _ (aF _ (vJ hb e)))).1,λb hb=>?_,w'];obtain⟨o,e,d⟩:=T.obj _ _ st7 b hb;exact (J'.pin (b,o) (aF _ (aF _ (vJ hb e)))).2.1
   cases b with
   | false =>
    rw[y9 aD]at q9 ⊢;obtain⟨m',hm,w'⟩:=q9;exact back I9 hm w'
   | true =>
    rw[y6 rfl]at q9 ⊢;refine thn (he cl _ By s3 (upd H2 s2⁻¹ (.lst [])) fp _ (λe s hfl=>Jj (RE:=λe s'=>RR (.ref s2⁻¹) s3⁻¹ (.error e) s') hst hxe hc1 I3 f3 hfl λm s' x a b=>hRE _ _ m s' x a b) _ s9 σ8 H9 _ (I9.wish _) q9) λv s10=>el5 λy H10 I10' r10 q_z=>?_;obtain⟨hD10,hsz,m',hm,w'⟩:=q_z;have I10:=Inv.unwish (X:=X') I10';refine Ac ?_;have:=wQ (X:=X') _ s10 σ8 H10 (.ref s2⁻¹) [y] (.ref s2⁻¹) [v] (λ_ H'=>H'=upd H10 s2⁻¹ (.lst (BA ++ [y]))) I10 rfl (.cons r10 .nil) #[BA,hD10,hsz,rfl];refine thn this λ_ s11 ⟨_,H11,I11,_,eH⟩=>?_;subst eH;exact back I11 hm w'
 have goal:Ae (model X.prog X.w) X.A (.compStart (.ListComp elt [#[tg,iter,ifs,0]] scope pos) 0 (.ref it) (.ref s2⁻¹) (compEnvC scope cl s3⁻¹ X.env)) (RR (.ref s2⁻¹) s3⁻¹) s4 :=
  codeAny_compStart_list loop (T.self _ 0 s4 _ _ (by rw[<- e4];exact st4) loop)
 rw[<- es4]at goal;exact goal
def YB{EX:XK}(hc:X.calm=Bw)(S:kE X scope own caps ix)(hst:X.stack=X.env::X.outer/\X.env.frame=Bu X.env.locals)(hxe:XE X EX)(hi:PI X tg iter wi)(hg:∀cl C By s3 H3 fp,PG (yG X scope cl C (own ++ caps) By s3 H3 fp λ_ _=>False) tg g)(ht:∀cl C By s3 H3 fp xe,XE (yG X scope cl C (own ++ caps) By s3 H3 fp xe) EX->PTs (yG X scope cl C (own ++ caps) By s3 H3 fp xe) ifs tt)(he:∀cl C By s3 H3 fp xe,XE (yG X scope cl C (own ++ caps) By s3 H3 fp xe) EX->PE (yG X scope cl C (own ++ caps) By s3 H3 fp xe) elt te)(hs:∀x,foldedSetIterable iter X.env x=pure x:=by intro _;rfl) :
  PE X (.ListComp elt [#[tg,iter,ifs,0]] scope pos) (jy wi g tt te own.length ix):=by
 intros Q I h;obtain⟨cl,hclos,hc1,hc2⟩:=uN (scope:=scope) (env:=X.env) λy hy=>I.ok.has y (S.free y hy);rw[eval_ListComp];refine AD (use:=Bv) rfl hs hclos S.kind S.names (thn (hi By s σ H _ I h) λv s1 h1=>thn h1 λitv s2 h2=>?_);obtain⟨it,fp,tn,J,H2,e,I2,T,st2,f2,q⟩:=h2;subst e;refine qk (RR:=λBA C=>compPost (model X.prog X.w) X.A X.xe Bv (EP X By σ Q) BA C) hc S hg ht hst hxe he hc1 hc2 I2 T st2 f2 q ?_ ?_
 ·intro D C m s' H' _ hn fc I' qn;obtain⟨a0,a1,a2,a3,a4,a5⟩:=fc;exact#[m,hn,λh' sb=>#[.ref D,H',I'.turned (t':=s'.toks) (λb o hb e=>(sb.2 b hb).trans e) a0 a1 a3 a4 a5,rfl,qn]]
 ·intro D C m s' x hn hp;exact#[m,hn,hp]
def xeN:XE X E0:=λe s h=>by
 obtain⟨_,_,_,_,_,_,_,_,_,_,_,_,_,_,h⟩:=h;exact h.elim
def zeW{e:tD}{t:TE}(h:PE (X.wish λ_ _=>False) e t):PE X e t:=λBy s σ H Q I hq=>Ac (thn (h By s σ H Q (I.wish _) hq) λv s'=>el5 λx H' I' r q=>#[x,H',I'.unwish,r,q])
def zam{t:TT}(h:PTs (X.wish λ_ _=>False) ifs t):PTs X ifs t:=λBy s σ H Q I hq=>Ac (thn (h By s σ H Q (I.wish _) hq) λv s'=>el3 λH' I' q=>#[H',I'.unwish,q])
def yP(hc:X.calm=Bw)(S:kE X scope own caps ix)(hi:PI X tg iter wi)(hg:∀cl C By s3 H3 fp,PG (yG X scope cl C (own ++ caps) By s3 H3 fp λ_ _=>False) tg g)(ht:∀cl C By s3 H3 fp,PTs (yG X scope cl C (own ++ caps) By s3 H3 fp λ_ _=>False) ifs tt)(he:∀cl C By s3 H3 fp,PE (yG X scope cl C (own ++ caps) By s3 H3 fp λ_ _=>False) elt te)(hst:X.stack=X.env::X.outer/\X.env.frame=Bu X.env.locals:=by exact#[rfl,rfl]) (hs:∀x,foldedSetIterable iter X.env x=pure x:=by intro _;rfl) :
  PE X (.ListComp elt [#[tg,iter,ifs,0]] scope pos) (jy wi g tt te own.length ix) :=
 YB hc S hst xeN hi hg (λa b c d e f _ _=>zam (ht a b c d e f)) (λa b c d e f _ _=>zeW (he a b c d e f)) hs
def Xg{i:Nat}{y:tw}{py spos:Ad}(hN:X.N.Nodup)(hy:X.N[i]? = Bu y)(hly:Loc X.env.scope y)(hf:X.fn y=Bw\/X.env.scope.names.lookup y=Bu .local)(hc:X.calm=Bw)(S:kE X scope own caps ix)(hi:PI X tg iter wi)(hg:∀cl C By s3 H3 fp,PG (yG X scope cl C (own ++ caps) By s3 H3 fp λ_ _=>False) tg g)(ht:∀cl C By s3 H3 fp,PTs (yG X scope cl C (own ++ caps) By s3 H3 fp λ_ _=>False) ifs tt)(he:∀cl C By s3 H3 fp,PE (yG X scope cl C (own ++ caps) By s3 H3 fp λ_ _=>False) elt te)(hst:X.stack=X.env::X.outer/\X.env.frame=Bu X.env.locals:=by exact#[rfl,rfl])(hsw:swapsWith (.ListComp elt [#[tg,iter,ifs,0]] scope pos) (Bu (.Name y py)) spos.line X.env=pure Bw:=by rfl)(hs:∀x,foldedSetIterable iter X.env x=pure x:=by intro _;rfl) :
  PS X (.Assign [.Name y py] (.ListComp elt [#[tg,iter,ifs,0]] scope pos) spos) (qQ i (jy wi g tt te own.length ix)):=by
 intros D I h;obtain⟨cl,hclos,hc1,hc2⟩:=uN (scope:=scope) (env:=X.env) λy hy=>I.ok.has y (S.free y hy);rw[exec_Assign_Name_used _ _ _ _ hsw];refine sN (Ab (sN ?_));show tm _ X.A (do let _ <- comprehension (.ListComp elt [#[tg,iter,ifs,0]] scope pos) scope X.env _ (newList []) Bx (eval iter X.env) (Bu (assign (.Name y py) X.env))) _ _ s;refine sN (thn (AD (use:=Bu (assign (.Name y py) X.env)) (Q:=λ_ s'=>SP X By D .next s') rfl hs hclos S.kind S.names (thn (hi By s σ H _ I h) λv s1 h1=>thn h1 λitv s2 h2=>?_)) λ_ s' hq=>sP (sP hq));obtain⟨it,fp,tn,J,H2,e,I2,T,st2,f2,q⟩:=h2;subst e;refine qk (Q:=λx H1=>D.nx (σ.set i (Bu x)) H1) (RR:=λBA C=>compPost (model X.prog X.w) X.A X.xe (Bu (assign (.Name y py) X.env)) (λ_ s'=>SP X By D .next s') BA C) hc S hg (λa b c d e f _ _=>zam (ht a b c d e f)) hst xeN (λa b c d e f _ _=>zeW (he a b c d e f)) hc1 hc2 I2 T st2 f2 q ?_ λD C m s' x hn hp=>#[m,hn,hp];intro D' C m s' H1 hD' hn fc I1 nx;obtain⟨a0,a1,a2,a3,a4,a5⟩:=fc;show tm _ X.A (assign (.Name y py) X.env (.ref D')) _ _ s';refine Ba (YJ I1 hN hy hly (v:=.ref D') rfl (λs'' I2' ⟨a,sb,ha⟩=>?_) hf)
 have hCa:C≠a:=by
  rcases ha with e | e
  ·rw[e];exact a1
  ·exact λz=>a4 _ _ e z.symm
 refine#[m,hn.sameBut sb hCa,λh' sb'=>#[_,H1,I2'.turned (t':=s''.toks) (λb o hb e=>(sb'.2 b hb).trans e) a0 a1 a3 a4 a5,nx]]
end
section
variable{X:Cx}{scope:tU}{own caps:List tw}{ix:()}{cl:List (tw × sX)}{By:List (sX × tR)}{σ:St}{H:Hp}{s:sZ}{fp:List sX}{E:sY->sZ->Prop}
end
section
variable{X:Cx}{scope:tU}{own caps:List tw}{ix:()}{elt tg iter:tD}{ifs:List tD}{pos:Ad}{wi:TI}{g:TG}{tt:TT}{te:TE}
end
section
variable{X:Cx}
end
section
variable{X:Cx}{By:List (sX × tR)}{σ:L2.St}{H:Hp}{s:sZ}
end
end L3
namespace LL
open PySem L2 L3
end in def top(i:Nat):tF:=PySem.Challenge.pw_letterlaw_k82_apart_by_forms.main.body.getD i (.Pass #[0,0,0,0])
end in abbrev yU:tF:=yD (top 5) 0
end in abbrev ya:tF:=yD (top 6) 0
end in abbrev xg:tF:=top 12
end in abbrev vk:tF:=top 13
end in abbrev uc:tF:=top 14
end in abbrev zcc:tF:=top 15
end in abbrev Ve:tF:=top 17
end in abbrev Zf:tF:=top 18
end in abbrev xT:tF:=top 21
end in abbrev vb:tF:=top 22
end in abbrev vR:tF:=top 23
end in abbrev wD:tF:=yD (top 24) 0
end in abbrev yO:tF:=yD (top 24) 1
end in abbrev XU:tF:=top 26
end in abbrev qe:tF:=top 27
end in abbrev QV:tF:=top 28
end in abbrev jx:tF:=top 29
end in abbrev Zp:tF:=top 30
end in abbrev xU:tF:=top 31
end in abbrev qc:tF:=top 37
end in abbrev vC:tF:=top 38
end in abbrev vZ:tF:=top 39
end in abbrev je:tF:=top 40
end in abbrev yQ:tF:=top 41
end in abbrev xY:tF:=top 42
end in abbrev xD:tF:=top 43
end in abbrev wM:tF:=top 44
end in abbrev jG:tF:=top 45
end in abbrev yW:tF:=top 51
end in abbrev wE:tF:=top 52
end in abbrev xq:tF:=top 53
end in abbrev xV:tF:=top 54
end in abbrev uT:tF:=top 55
end in abbrev wC:tF:=top 56
end in abbrev vA:tF:=top 59
end in abbrev wP:tF:=yD (top 60) 0
end in abbrev wB:tF:=yD (top 60) 1
end in abbrev ud:tF:=yD (top 60) 3
end in abbrev wa:tF:=yD (top 60) 5
end in abbrev xZ:tF:=yD (top 60) 6
end in abbrev wo:tF:=top 63
end in abbrev xH:tF:=top 64
end in abbrev vE:tF:=top 65
end in abbrev wH:tF:=top 66
end in abbrev ww:tF:=top 67
end in abbrev wA:tF:=top 71
end in abbrev xh:tF:=top 72
end in abbrev yY:tF:=top 73
end in abbrev ZR:tF:=top 74
end in abbrev vj:tF:=yD (top 77) 0
end in abbrev xQ:tF:=yD (top 77) 1
end in abbrev wS:tF:=yD (top 77) 2
end in abbrev xJ:tF:=yD (top 77) 3
end in abbrev xX:tF:=yD (top 77) 4
end in abbrev xv:tF:=yD (top 78) 0
end in abbrev xu:tF:=yD (top 79) 0
end in abbrev yv:tF:=yD (top 79) 1
end in abbrev Ux:tF:=top 81
end in abbrev Xr:tF:=top 82
end in abbrev qW:tF:=top 83
end in abbrev Jb:tF:=top 84
end in abbrev QE:tF:=top 85
end in abbrev UO:tF:=top 86
end in abbrev Xl:tF:=top 87
end in abbrev Xn:tF:=top 88
end in abbrev UX:tF:=top 89
end in abbrev zby:tF:=top 90
end in abbrev XW:tF:=top 91
end in abbrev ku:tF:=top 92
end in abbrev jS:tF:=top 93
end in abbrev vB:tF:=top 94
end in abbrev Ya:tF:=top 95
end in abbrev Jh:tF:=top 96
end in abbrev Uv:tF:=top 97
end in abbrev yb:tF:=top 98
end in abbrev km:tF:=top 99
section
variable{P:tu}{w:tz}{K:sV}{mg:tw->Option sY}{base:tE}
seal L2.PE L2.PS L2.PA L2.PT L2.PSs L2.PI L2.PG L2.PW L2.PGs
local macro_rules | `($a<<<$b)=>`(Df $(mkIdent `P) $(mkIdent `w) $(mkIdent `K) $(mkIdent `mg) $(mkIdent `base) CX0 $a $b)
local macro_rules | `($a>>>$b)=>`(Df $(mkIdent `P) $(mkIdent `w) $(mkIdent `K) $(mkIdent `mg) $(mkIdent `base) (CXx $(mkIdent `P) $(mkIdent `w)) $a $b)
local macro_rules | `($a&&&$b)=>`(zY $(mkIdent `P) $(mkIdent `w) $(mkIdent `K) $(mkIdent `mg) $(mkIdent `base) CX0 $a $(mkIdent `f) $(mkIdent `fd) $b)
local macro_rules | `($a|||$b)=>`(zY $(mkIdent `P) $(mkIdent `w) $(mkIdent `K) $(mkIdent `mg) $(mkIdent `base) (CXx $(mkIdent `P) $(mkIdent `w)) $a $(mkIdent `f) $(mkIdent `fd) $b)
local macro_rules | `(!!$a)=>`(Bu (.ref $a))
local macro_rules | `(~~~$a)=>`(Bu (.str (tx $a)))
local macro_rules | `(-~~~$a)=>`(Bu (.int (($a):Nat)))
local macro_rules | `(~~~!$a)=>`(Bu (.int $a))
local macro_rules | `($a^^^$b)=>`(Fun $(mkIdent `K) $a $a $b $(mkIdent `f) $(mkIdent `fd))
end in abbrev sQz(n:Nat)(a:List PySem.Str)(s:PySem.Stmt):=zm a (a.take n) (zh s)
local macro_rules | `(tactic| rfl')=>do
 let A0←("zfP zfY zgn zga zf0 zfK zfw zgb zf3 zfF zcl zbl zfk zfC zfm zfO zgc zbm zcp zbV zb4 zce zcG zbk zc3 zc0 zfh zfE zgj zfH zfx zgg zfp zfS zcF zb8 zc1 zbR zcW zbv zcu zbf".splitOn " ").toArray.mapM fun s=>`(Lean.Parser.Tactic.simpLemma| ↓$(mkIdent s.toName):ident)
 let A1←("ze3 KZ zaQ zfb Qi tOp tUn tC wL zL xx tCB zc5 yK Ke zdd zff tOr Uh Uj kP tIf rI rI0 rU rGe zdR vv zbS zc4 zeP zeo tSl Zz Ys Jl zeu tBM zeY zcq zco L2.start zfR cxK cxP cxW av aO aL cj cy ee Nat.reduceAdd Nat.reduceSub cK dz aW aX bq bv vx eV eW".splitOn " ").toArray.mapM fun s=>`(Lean.Parser.Tactic.simpLemma| $(mkIdent s.toName):ident)
 let A2←("zdr zav zao za2 zgy zfP zfY zgn zga zf0 zfK zfw zgb zf3 zfF zcl zbl zfk zfC zfm zfO zgc zbm zcp zbV zb4 zce zcG zbk zc3 zc0 zfh zfE zgj zfH zfx zgg zfp zfS zcF zb8 zc1 zbR zcW zbv zcu zbf".splitOn " ").toArray.mapM fun s=>`(Lean.Parser.Tactic.simpLemma| ↓$(mkIdent s.toName):ident)
 let A3←("ze3 vx eV eW rU qQ zau zel zdi KZ zaQ zfb Qi tOp tUn UC tC wL zL xx tCB zc5 yK Ke zdd zff tOr Uh Uj kP tIf rI rI0 rEq_is rNe_is zdR vv zbS zeP zeo zc4 tSl Zz Ys zfa rGe decide_false decide_true Prod.mk.injEq rLen_is zd1 ze4 Vj Jy XX tyV tBM zeY if_true if_false bB decide_eq_true_eq decide_eq_false_iff_not dD fX fH lt1 Jl zeu zcB kg zcd Xt XD zdJ zej zdI zeT zeD zd4 Value.ref.injEq L2.start zds zef zgN zgr zgH zdf zgI zcq zco zgD Ja zdP zc6 zfX Z1 U8 Yc yL qX zK zfR zaN zea cxK cxP cxW av aO aL cj cy ee Nat.reduceAdd Nat.reduceSub and_assoc zdm exists_eq exists_eq' exists_eq_left' exists_eq_left exists_eq_right exists_eq_right' exists_and_left exists_and_right V.int.injEq V.ref.injEq V.str.injEq V.bl.injEq V.ty.injEq reduceCtorEq false_and and_false true_and and_true or_false false_or exists_false exists_const cK dz Option.some.injEq aW aX List.cons.injEq aT bq bv zaV zat zaD zaX".splitOn " ").toArray.mapM fun s=>`(Lean.Parser.Tactic.simpLemma| $(mkIdent s.toName):ident)
 `(tactic| first | (dsimp only[$A0,*,$A1,*];try simp only[$A2,*,$A3,*]) | simp only[$A2,*,$A3,*])
local macro_rules | `(tactic| ac_rfl)=>do
 let A0←("yh zw zH yl yk zv".splitOn " ").toArray.mapM fun s=>`(Lean.Parser.Tactic.simpLemma| $(mkIdent s.toName):ident)
 `(tactic| repeat (first | rfl' | simp only[$A0,*]))
def xe0{X:Cx}:XE X E0:=λe s h=>by
 obtain⟨_,_,_,_,_,_,_,_,_,_,_,_,_,_,h⟩:=h;exact h.elim
def small(l:()):Prop:=∀c ∈ l,97<=c/\c<=122
end in instance (l:()):Decidable (small l):=by unfold small;infer_instance
end in def ue(l:()):Bool:=decide (1<=l.length/\l.length<=6/\small l/\l.Nodup)
def ZW:Sp:=λvs H Q _=>∃c:Nat,vs=[.str (tx [c])]/\Q (.bl (decide (97<=c/\c<=122))) H
def Kz:sQz 1 ["sign"] xg:=by nofun
theorem KH{f:sX}{fd:tj}(F:("is_small_letter"^^^xg)):(1&&&["sign"]) ZW:=by
 exists F.ok Kz
 ·obtain⟨c,rfl,q⟩:=h;refine#[_,(zg (zl (Wt xM xM yc (pv 0) yc))),?_];have ea:cs (("a" : tw))=[97]:=rfl;have ez:cs (("z" : tw))=[122]:=rfl
  rfl'
  erw[ea,ez,qX,lt1]
  refine yE (λh=>?_) λh=>?_
  ·have e:decide (97<=c/\c<=122)=!decide (122<c):=by
    by_cases h2:122<c
    ·rw[w9 h2,y3 ⋯];rfl
    ·rw[y3 h2,w9 ⋯];rfl
   rw[e]at q;exact q
  ·rw[y3 ⋯]at q;exact q
structure zgp(K:sV)(mg:tw->Option sY)(C:sX):Prop where
 xi:XI K C
 ini:ag K (.ref C) "__init__" = Bu (Bu (.builtin "ValueError.__init__"))
 g:mg "NoLetters" = Bu (.ref C)
 most:∃t,mg "MOST_LETTERS" = Bu (.int 6 t)
def wu(C:sX):Sp:=λvs H Q E=>∃l:(),vs=[.str (tx l)]/\l.length<=1000/\(ue l=Bw->Q (.str (tx l)) H)/\(ue l=Bx->E (.ref C) Bv H)
def nU:sQz 1 ["text","sign"] vk:=by nofun
theorem ZT{f C:sX}{fd:tj}(B:Bt mg)(T:zgp K mg C)(F:("letters_of"^^^vk))(Ds:(1<<<"is_small_letter") ["sign"] [] ZW):(2|||["text"]) (wu C):=by
 exists Fun.okX F nU,0
 ·obtain⟨l,rfl,hl,q1,q2⟩:=h;obtain⟨t6,g6⟩:=T.most
  refine#[_,(zG (zN (zZ (uB xM xM zf (zB B.len (pv 0)) (yC (v:=.int 6) rfl g6 #[t6,rfl]))) (zg (ye hx rfl T.xi.toXC T.ini rfl T.g (za yc ze)))
    zr) (zG (z7 PassesOwn.leaving rfl (kN (pv 0)) (zt (i:=1) nU.nd rfl (.inl rfl)) (zG (zN (zZ (WB (cl0 Ds hr .nil rfl (za (pv 1) ze)) (λ_=>rfl))) (zg (ye hx rfl T.xi.toXC T.ini rfl T.g (za yc ze)))
     zr) (zg (zN (zy QN (ux bp fw fz QG (pv 0) (za (pv 1) ze)) zf (zA _)) (zg (ye hx rfl T.xi.toXC T.ini rfl T.g (za yc ze)))
     zr)))) (zg (zl (pv 0))))),?_]
  have s16:=zW
  rfl'
  have bad:(¬ (1<=l.length/\l.length<=6/\small l/\l.Nodup))->∀H':Hp,H'=H->E (.ref C) Bv H':=λh H' e=>by
   rw[e];exact q2 (y3 h)
  refine#[⋯,yE (λc=>yE (λc2=>#[⋯,bad (λh=>by have:=h.2.1;lia) H rfl]) (λc2=>?_)) (λc=>#[⋯,bad (λh=>by have:=h.1;lia) H rfl])];refine ForS.by (λi σ H'=>H'=H/\∃v,σ=[~~~l,v]/\small (l.take i)/\∀c ∈ l.take i,l.count c<=1) #[rfl,Bv,rfl,λc h=>y4 h (by simp),λc h=>y4 h (by simp)] ?_ ?_
  ·refine nm4 ?_;rintro i c σ H' hg ⟨eH,v,rfl,hs,hn⟩:_;have hc:=ae hg;right
   rfl'
   erw[ZW]
   rfl'
   refine yE (λh=>#[⋯,bad (λz=>by have:=z.2.2.1 c hc;lia) _ eH]) (λh=>yE (λh2=>#[⋯,bad (λz=>?_) _ eH]) (λh2=>#[eH,?_,?_]))
   ·have:=Ca.mp z.2.2.2 c;lia
   ·rw[zV hg];intro x hx;rcases BD.mp hx with q | q
    ·exact hs x q
    ·have:x=c:=by simpa using q
     subst this;lia
   ·rw[zV hg];intro x hx;rcases BD.mp hx with q | q
    ·exact hn x q
    ·have:x=c:=by simpa using q
     subst this;lia
  ·rintro σ H' ⟨eH,v,rfl,hs,hn⟩;rw[aJ]at hs hn
   rfl'
   rw[eH];refine q1 (w9 #[⋯,⋯,hs,Ca.mpr λc=>?_]);by_cases hc:c ∈ l
   ·exact hn c hc
   ·rw[List.count_eq_zero.mpr hc];lia
end in def zx(l:())(k:Int)(p:()):Bool:=decide (0<=k/\k+p.length<=l.length/\(l.drop k.toNat).take p.length=p)
def wN:Sp:=λvs H Q _=>∃(l p:()) (k:Int),vs=[.str (tx l),.int k,.str (tx p)]/\l.length<=10000/\p.length<=10000/\Q (.bl (zx l k p)) H
def ZU{l p:()}{k:Int}{H:Hp}{Q:VK}{E:XK}(h1:l.length<=10000)(h2:p.length<=10000)(h:Q (.bl (zx l k p)) H):wN [.str (tx l),.int k,.str (tx p)] H Q E:=#[l,p,k,rfl,h1,h2,h]
def Yj:sQz 3 ["word","place","part"] uc:=by nofun
theorem YC{f:sX}{fd:tj}(B:Bt mg)(F:("stands_at"^^^uc)):(1&&&["word","place","part"]) wN:=by
 exists F.ok Yj
 ·obtain⟨l,p,k,rfl,hl,hp,q⟩:=h
  refine#[_,(zG (zN (zZ (uB xM xM zf (pv 1) (zD ut (zB B.len (pv 0)) (zB B.len (pv 2))))) (zg (zl yt))
    zr) (zg (zl (yI wF (zR y8 (pv 0) (zU (pv 1)) (zU (zD yn (pv 1) (zB B.len (pv 2))))) (pv 2) (zA _))))),?_]
  have s16:=zW
  rfl'
  have no:¬ (0<=k/\k+p.length<=l.length/\(l.drop k.toNat).take p.length=p)->Q (.bl Bx) H:=λh=>by
   have e:zx l k p=Bx:=y3 h;rw[e]at q;exact q
  refine yE (λh0=>#[⋯,⋯,yE (λh1=>no λh=>y4 h.2.1 ⋯) λh1=>#[⋯,⋯,?_]]) λh0=>no λh=>h0 h.1;rw[Xd _ h0 ⋯ ⋯];have e:(k+(p.length:Int) - k).toNat=p.length:=⋯;rw[e]
  have e2:zx l k p=decide ((l.drop k.toNat).take p.length=p):=by
   unfold zx;exact decide_eq_decide.mpr #[λh=>h.2.2,λh=>#[h0,⋯,h]]
  rw[<- e2];exact q
end in def yV(l:())(k:Int)(o n:()):():=l.take k.toNat ++ n ++ l.drop (k.toNat+o.length)
theorem xj{l o:()}{k:Int}(h:zx l k o=Bw):l.take k.toNat ++ o ++ l.drop (k.toNat+o.length)=l/\(l.take k.toNat).length=k.toNat/\0<=k/\k+o.length<=l.length:=by
 unfold zx at h;rw[decide_eq_true_eq]at h;obtain⟨h0,h1,h2⟩:=h;refine#[?_,by rw[aE];lia,h0,h1]
 have e:l.drop k.toNat=o ++ l.drop (k.toNat+o.length):=by
  have:=aZ o.length (l.drop k.toNat);rw[h2,cU]at this;exact this.symm
 rw[ao,<- e,aZ]
theorem Ww{l o:()}{k:Int}(n:())(h:zx l k o=Bw):zx (yV l k o n) k n=Bw/\yV (yV l k o n) k n o=l:=by
 obtain⟨e,hl,h0,h1⟩:=xj h
 have e1:(yV l k o n).take k.toNat=l.take k.toNat:=by
  unfold yV;rw[ao,aR ⋯,bc ⋯]
 have e2:(yV l k o n).drop k.toNat=n ++ l.drop (k.toNat+o.length):=by
  unfold yV;rw[ao,bD ⋯,ba ⋯,bq]
 have e3:(yV l k o n).length=l.length - o.length+n.length:=by
  unfold yV
  erw[aj,aS,hl]
  lia
 refine#[?_,?_]
 ·unfold zx;refine w9 #[h0,⋯,?_];rw[e2,aR ⋯,bc ⋯]
 ·show (yV l k o n).take k.toNat ++ o ++ (yV l k o n).drop (k.toNat+n.length)=l;rw[e1,<- cU,e2,bD ⋯,ba ⋯,bq];exact e
theorem zb3{l o n:()}{k:Int}(h0:0<=k):cut l Bv (Bu k) ++ n ++ cut l (Bu (k + ↑o.length)) Bv=yV l k o n:=by rw[qu _ h0,xK _ ⋯];have:(k+(o.length:Int)).toNat=k.toNat+o.length:=⋯;rw[this];rfl
structure TNU(K:sV)(mg:tw->Option sY)(C:sX):Prop where
 xi:XI K C
 g:mg "NoUse" = Bu (.ref C)
 na:NoAttr K C "at"
def Zh:sQz 2 ["self","at"] yU:=by nofun
def kX{f C:sX}{fd:tj}(T:TNU K mg C)(F:Fun K "__init__" "NoUse.__init__" yU f fd):(1&&&["self","at"]) (uu C "at"):=by
 exists F.ok Zh
 ·obtain⟨x,v,rfl,hx,q⟩:=h;refine#[_,(zg (UL (pv 0) (pv 1) rfl)),?_]
  erw[zbT]
  rfl'
  exact#[C,hx,T.xi.toXC,T.na,q]
structure DNU(P:tu)(w:tz)(K:sV)(mg:tw->Option sY)(base:tE)(C:sX):Prop extends TNU K mg C where
 ini:∃f fd,ag K (.ref C) "__init__" = Bu (Bu (.ref f))/\aU K (.ref f)=Bw/\(1&&&["self","at"]) (uu C "at")/\Binds K fd ["self","at"] []
def WW(C:sX):Sp:=λvs H Q E=>∃(l o n:()) (k:Int),vs=[.str (tx l),.int k,.str (tx o),.str (tx n)]/\l.length<=10000/\o.length<=10000/\n.length<=10000/\(zx l k o=Bw->Q (.str (tx (yV l k o n))) H)/\(zx l k o=Bx->∀d H',zfi H d "at" (.int 0) H'->E (.ref C) (Bu d) H')
def zeb:sQz 4 ["word","place","old","new"] zcc:=by nofun
theorem zeV{f C:sX}{fd:tj}(B:Bt mg)(T:DNU P w K mg base C)(F:("put"^^^zcc))(rQ:(1<<<"stands_at") ["word","place","part"] [] wN):(3|||["word","place","old","new"]) (WW C):=by
 obtain⟨fi,fdi,hi,hfn,Fi,Bi⟩:=T.ini
 exists Fun.okX F zeb,0
 ·obtain⟨l,o,n,k,rfl,hl,ho,hn,q1,q2⟩:=h
  refine#[_,(zG (zN (zZ (WB (cl0 rQ hr .nil rfl (za (pv 0) (za (pv 1) (za (pv 2) ze)))) (λ_=>rfl))) (zg (Y2 hx rfl T.xi.toXC hi hfn Fi hr Bi rfl T.g (za zf ze)))
    zr) (zg (zl (zD zQ (zD zQ (zR y8 (pv 0) yA (zU (pv 1))) (pv 3)) (zR y8 (pv 0) (zU (zD yn (pv 1) (zB B.len (pv 2)))) yA))))),?_]
  have s16:=zW
  rfl'
  refine ZU hl ho ?_
  rfl'
  refine yE (λhb=>#[⋯,Qk (q2 hb)]) λhb=>?_;have hb':zx l k o=Bw:=by simpa using hb
  obtain⟨_,_,h0,h1⟩:=xj hb';have c1:=w8 l Bv (Bu k);have c2:=w8 l (Bu (k + ↑o.length)) Bv;refine#[⋯,⋯,⋯,⋯,?_,?_]
  ·erw[aj]
   lia
  ·have e:cut l Bv (Bu k) ++ n ++ cut l (Bu (k + ↑o.length)) Bv=yV l k o n:=by
    rw[qu _ h0,xK _ ⋯];have:(k+(o.length:Int)).toNat=k.toNat+o.length:=⋯;rw[this];rfl
   rw[e];exact q1 hb'
structure TOrd(K:sV)(mg:tw->Option sY)(CO CR CW:sX):Prop where
 cO:Cls K CO
 cR:Cls K CR
 cW:Cls K CW
 gO:mg "Order" = Bu (.ref CO)
 gR:mg "FromRight" = Bu (.ref CR)
 gW:mg "ByWeights" = Bu (.ref CW)
 lO:NoAttr K CO "letters"
 lR:NoAttr K CR "letters"
 lW:NoAttr K CW "letters"
 wW:NoAttr K CW "weights"
def OrdAt(CO CR CW:sX)(H:Hp)(o:sX)(k:Nat)(l:())(ns:List Int):Prop:=∃dx,(k=0/\H o=Bu (.ins CO dx [("letters",.str (tx l))]))\/(k=1/\H o=Bu (.ins CR dx [("letters",.str (tx l))])) \/
 (k=2/\ns.length=l.length/\∃w,H o=Bu (.ins CW dx [("letters",.str (tx l)),("weights",.ref w)])/\H w=Bu (.tup (ns.map V.int)))
def OrdAt.same{CO CR CW:sX}{H H':Hp}{o:sX}{k:Nat}{l:()}{ns:List Int}(h:OrdAt CO CR CW H o k l ns)(e:Same H H'):OrdAt CO CR CW H' o k l ns:=by
 obtain⟨dx,⟨h1,h2⟩ | ⟨h1,h2⟩ | ⟨h1,h2,w,h3,h4⟩⟩:=h
 ·exact#[dx,.inl #[h1,e _ _ h2]]
 ·exact#[dx,.inr (.inl #[h1,e _ _ h2])]
 ·exact#[dx,.inr (.inr #[h1,h2,w,e _ _ h3,e _ _ h4])]
end in def V5(l:())(ns:List Int)(w:()):Int:=((l.zip ns).map λp=>(w.count p.1:Int) * p.2).sum
end in def zp(k:Nat)(l:())(ns:List Int)(w:()):Int:=if k=2 then V5 l ns w else (w.length:Int)
end in def yx(k:Nat)(w:()):():=if k=1 then w.reverse else w
def qN(K:sV):Sp:=λvs H Q _=>∃(x C dx:sX) (l:()),vs=[.ref x,.str (tx l)]/\ue l=Bw/\Cls K C/\NoAttr K C "letters"/\H x=Bu (.ins C dx [])/\Q .non (upd H x (.ins C dx [("letters",.str (tx l))]))
def ZM:sQz 2 ["self","letters"] vj:=by nofun
theorem wG{f:sX}{fd:tj}(B:Bt mg)(F:Fun K "__init__" "Order.__init__" vj f fd)(mL:(2>>>"letters_of") ["text"] [] (wu C)):(3&&&["self","letters"]) (qN K):=by
 exists F.ok ZM
 ·obtain⟨x,C,dx,l,rfl,hg,hC,hN,hx,q⟩:=h;refine#[_,(zg (kL (pv 0) (clP xe0 mL hr .nil rfl (za (pv 1) ze)) rfl)),?_];have s16:=zW
  rfl'
  exact#[l,rfl,by have:=w6 hg;lia,λ_=>#[_,_,_,hx,hC,hN,∅,q],λe=>by rw[hg]at e;cases e]
def k8:Sp:=λvs H Q _=>∃(o:sX) (w:()),vs=[.ref o,.str (tx w)]/\w.length<=1000/\Q (.int (w.length:Nat)) H
def jv:sQz 2 ["self","word"] xQ:=by nofun
theorem vd{f:sX}{fd:tj}(B:Bt mg)(F:Fun K "weight" "Order.weight" xQ f fd) :(1&&&["self","word"]) k8:=by
 exists F.ok jv
 ·obtain⟨o,w,rfl,hw,q⟩:=h;refine#[_,(zg (zl (zB B.len (pv 1)))),?_];have s16:=zW
  rfl'
  exact#[⋯,q]
def We:Sp:=λvs H Q _=>∃(o:sX) (w:()),vs=[.ref o,.str (tx w)]/\Q (.str (tx w)) H
def ZC:sQz 2 ["self","word"] wS:=by nofun
def uM{f:sX}{fd:tj}(B:Bt mg)(F:Fun K "seen" "Order.seen" wS f fd) :(1&&&["self","word"]) We:=by
 exists F.ok ZC
 ·obtain⟨o,w,rfl,q⟩:=h;refine#[_,(zg (zl (pv 1))),?_];have s16:=zW
  rfl'
  exact q
def Xf:Sp:=λvs H Q _=>∃(o:sX) (w:()),vs=[.ref o,.str (tx w)]/\w.length<=1000/\Q (.str (tx w.reverse)) H
def uU:sQz 2 ["self","word"] xv:=by nofun
theorem qf{f:sX}{fd:tj}(B:Bt mg)(F:Fun K "seen" "FromRight.seen" xv f fd) :(1&&&["self","word"]) Xf:=by
 exists F.ok uU
 ·obtain⟨o,w,rfl,hw,q⟩:=h;refine#[_,(zg (zl (zbg (pv 1) (zfr zdX zf)))),?_];have s16:=zW;ac_rfl;exact#[⋯,q]
structure zgL(K:sV)(mg:tw->Option sY)(C:sX):Prop where
 xi:XI K C
 ini:ag K (.ref C) "__init__" = Bu (Bu (.builtin "ValueError.__init__"))
 g:mg "NoOrder" = Bu (.ref C)
 most:∃t,mg "MOST_WEIGHT" = Bu (.int 1000000 t)
abbrev DOI(P:tu)(w:tz)(K:sV)(mg:tw->Option sY)(base:tE)(CO:sX):Prop:=DC P w K mg base CX0 3 CO "__init__" ["self","letters"] (qN K)
def Z7(K:sV)(CW:sX):Sp:=λvs H Q _=>∃(x dx a:sX) (l:()) (ns:List Int),vs=[.ref x,.str (tx l),.ref a]/\ue l=Bw/\SqL K H a (ns.map V.int)/\ns.length=l.length/\(∀n ∈ ns,1<=n/\n<=1000000)/\H x=Bu (.ins CW dx []) /\
 ∀w H',H w=Bv->w≠x->(∀b o,b≠x->H b=Bu o->H' b=Bu o)->H' w=Bu (.tup (ns.map V.int))->H' x=Bu (.ins CW dx [("letters",.str (tx l)),("weights",.ref w)])->Q .non H'
def mI:sQz 3 ["self","letters","weights","weight"] xu:=by nofun
theorem qh{f CO CR CW CN:sX}{fd:tj}(B:Bt mg)(T:TOrd K mg CO CR CW)(TN:zgL K mg CN)(DI:DOI P w K mg base CO)(F:Fun K "__init__" "ByWeights.__init__" xu f fd) :(4|||["self","letters","weights"]) (Z7 K CW):=by
 obtain⟨t6,g6⟩:=TN.most
 exists Fun.okX F mI,0
 ·obtain⟨x,dx,a,l,ns,rfl,hg,hS,hl,hb,hX,q⟩:=h
  refine#[_,(zi (vn (zbU DI hr rfl T.gO (za (pv 0) (za (pv 1) ze)))) (zi (zN (zy uE (zB B.len (pv 2)) (zB B.len (pv 1)) (zA _)) (zg (ye hx rfl TN.xi.toXC TN.ini rfl TN.g (za yc ze)))
    zr) (zi (z7 PassesOwn.leaving rfl (z9 (pv 2)) (zt (i:=3) mI.nd rfl (.inl rfl)) (zg (zN (zZ (uB xM xM zf (pv 3) (yC (v:=.int 1000000) rfl g6 #[t6,rfl]))) (zg (ye hx rfl TN.xi.toXC TN.ini rfl TN.g (za yc ze)))
     zr))) (zg (kL (pv 0) (xp Zl rfl B.tuple PySem.Pv.boot_tuple (za (pv 2) ze)) rfl))))),?_]
  have s16:=zW;have hbx:∀b o,b≠x->H b=Bu o->upd H x (.ins CW dx [("letters",.str (tx l))]) b=Bu o:=λb o hb e=>by rw[zq hb];exact e
  have hS1:SqL K (upd H x (.ins CW dx [("letters",.str (tx l))])) a (ns.map V.int):=by
   rcases hS with (h | ⟨o,h⟩) | h
   ·exact .inl (.inl (hbx _ _ (λe=>by rw[e,hX]at h;cases h) h))
   ·exact .inl (.inr #[o,hbx _ _ (λe=>by rw[e,hX]at h;cases h) h])
   ·exact .inr h
  change H'=upd H x (.ins CW dx [("letters",.str (tx l))])/\σ=[!!x,~~~l,!!a,Bv]
  ·ac_rfl;exact#[x,CW,dx,l,rfl,hg,T.cW,T.lW,hX,rfl]
  rintro σ H1 ⟨rfl,rfl⟩:_;right;change H'=upd H x (.ins CW dx [("letters",.str (tx l))])/\σ=[!!x,~~~l,!!a,Bv]
  ·have hl6:l.length<=6:=by have:=w6 hg;lia
   ac_rfl;refine#[ns.length,.inl #[_,hS1,by rw[ac]],⋯,yE (λh=>y4 ⋯ h) λ_=>trivial]
  rintro σ H1 ⟨rfl,rfl⟩:_;right;change H'=upd H x (.ins CW dx [("letters",.str (tx l))])/\∃v3,σ=[!!x,~~~l,!!a,v3]
  ·ac_rfl;refine#[#[_,hS1],ForL.by (xs:=ns.map V.int) (λi σ H'=>H'=upd H x (.ins CW dx [("letters",.str (tx l))])/\∃v3,σ=[!!x,~~~l,!!a,v3]) #[rfl,Bv,rfl] (λi σ H' _ h=>by rw[h.1];exact hS1) ?_ λσ H' h=>h];refine nm4 ?_;rintro i y σ H' hy ⟨rfl,v3,rfl⟩:_;rw[ar]at hy;obtain⟨n,hn,rfl⟩:=BH.mp hy;obtain⟨n1,n2⟩:=hb n (ae hn);right;ac_rfl;exact yE (λ_=>yE (λh=>y4 n2 h) λ_=>trivial) λh=>y4 n1 h
  rintro σ H1 ⟨rfl,v3,rfl⟩:_;right;ac_rfl;refine#[_,.inl #[hS1,λw hw=>?_]];have hwx:w≠x:=λe=>by rw[e,zc]at hw;cases hw
  have hwH:H w=Bv:=by rw[zq hwx]at hw;exact hw
  have hX2:=zd (o:=.tup (ns.map V.int)) hw _ _ (zc (H:=H) (a:=x) (o:=.ins CW dx [("letters",.str (tx l))]));refine#[_,_,_,hX2,T.cW,T.wW,by show 1<1000;decide,q w _ hwH hwx (λb o hb' e=>?_) ?_ zc]
  ·rw[zq hb'];exact zd hw _ _ (hbx b o hb' e)
  ·rw[zq hwx];exact zc
theorem zak{x y:V}{r:L2.St}:xf (Bv::Bv::r) (Bu x::Bu y::r):=#[rfl,λi v h=>by
 cases i with
 | zero=>cases h
 | succ i =>
  cases i with
  | zero=>cases h
  | succ i=>exact h]
def Xx(CW:sX):Sp:=λvs H Q _=>∃(o dx t:sX) (w l:()) (ns:List Int),vs=[.ref o,.str (tx w)]/\w.length<=1000/\l.length<=6/\ns.length=l.length/\(∀n ∈ ns,1<=n/\n<=1000000)/\H o=Bu (.ins CW dx [("letters",.str (tx l)),("weights",.ref t)])/\H t=Bu (.tup (ns.map V.int))/\∀H',Same H H'->Q (.int (V5 l ns w)) H'
def vT:sQz 2 ["self","word"] yv:=by nofun
theorem vY{f CO CR CW:sX}{fd:tj}(B:Bt mg)(T:TOrd K mg CO CR CW)(F:Fun K "weight" "ByWeights.weight" yv f fd) :(1&&&["self","word"]) (Xx CW):=by
 exists F.ok vT
 ·obtain⟨o,dx,t,w,l,ns,rfl,hw,hl,hn,hb,ho,ht,q⟩:=h;refine#[_,(zg (zl (yu (zdE rfl) rfl B.sum fJ (za (yP (g:=zcB K 2 (kg (yK 0) (kg (yK 1) zcd))) (own:=["letter","weight"]) (caps:=["word"]) (ix:=[1]) (tt:=xw) (te:=(tOp JV (tBM K "str" Vj (z6 2) (zL (z6 0) xx)) (z6 1))) rfl (zM (sc:=zh yv) rfl (!0) (!0) (!0) rfl (!0) (!0) rfl) (zdW rfl B.zip (za (uj (pv 0) rfl) (za (uj (pv 0) rfl) ze))) (λ_ _ _ _ _ _=>vm (n:=2) rfl (zP (zt (i:=0) (show List.Nodup [_,_,_] by decide) rfl (.inl rfl)) (zP (zt (i:=1) (show List.Nodup [_,_,_] by decide) rfl (.inl rfl)) xC))) (λ_ _ _ _ _ _=>yg) (λ_ _ _ _ _ _=>(zD ZG (ux bp fw fz QG (pv 2) (za (pv 0) ze)) (pv 1)))) ze)))),?_];have s16:=zW;ac_rfl;refine#[_,_,_,ho,T.cW,T.lW,_,rfl,_,_,_,ho,T.cW,T.wW,_,rfl,l,rfl,t,rfl,#[_,SqT.of ht],λD hD=>CompZ.by (ys:=ns.map V.int) (λi BA H'=>Same H H'/\H' D=Bu (.lst BA)/\BA=((((l.zip ns).map λp=>(w.count p.1:Int) * p.2).take i).map V.int)) (by rw[ac];lia) #[zd hD,zc,rfl] (λi BA H' _ h=>SqT.of (h.1 _ _ ht)) ?_ ?_]
  ·rintro i c y BA H' p hc hy ⟨hs,hH,rfl⟩ hp;have hi:=(BB.mp hc).1;rw[ar]at hy;obtain⟨n,hn',rfl⟩:=BH.mp hy
   have hz:((l.zip ns).map λp=>(w.count p.1:Int) * p.2)[i]? = Bu ((w.count c:Int) * n):=by
    rw[ar,(List.getElem?_zip_eq_some (z:=(c,n))).mpr #[hc,hn']];rfl
   obtain⟨n1,n2⟩:=hb n (ae hn');have hcl:w.count c<=w.length:=List.count_le_length;have hcn:(w.count c:Int) * n=(w.count c:Int) * n:=rfl
   erw[xw]
   ac_rfl;refine#[_,SqT.of zc,rfl,_,_,rfl,_,_,rfl,rfl,zak,_,rfl,_,rfl,?_,zd hp _ _ hH,by rw[ac,aE];lia,?_]
   ·exact .inr #[⋯,⋯]
   ·rw[XX];refine CNx.mk hi #[zE (hs.trans (zd hp)) hD,zc,?_];rw[zV hz,au];rfl
  ·rintro BA H' ⟨hs,hH,rfl⟩;have e:l.length=((l.zip ns).map λp=>(w.count p.1:Int) * p.2).length:=by rw[ac,List.length_zip];lia
   refine#[D,rfl,_,SqL.of hH,?_];rw[e,aJ];exact q _ hs
theorem zf6(l:())(c e:Nat):StrLaws.At (tx l) (tx [c]) (tx l).length e ↔ l[e]? = Bu c:=by
 unfold StrLaws.At Builtin.Str.subAt;rw[zK,zK];have h1:[c].length=1:=rfl;rw[h1,beq_iff_eq]
 have e1:((tx l).cps.extract e (e+1)).toList=(l.drop e).take 1:=by
  show (l.toArray.extract e (e+1)).toList=_;simp [eN]
 have e2:((tx l).cps.extract e (e+1)=(tx [c]).cps) ↔ (l.drop e).take 1=[c]:=by
  constructor
  ·intro h;rw[<- e1,h]
  ·intro h;apply Array.toList_inj.mp;rw[e1,h]
 constructor
 ·rintro⟨h2,h3⟩;have:=e2.mp h3;rw[aV ⋯,ef,bN]at this;rw[ah ⋯];injection this with h _;rw[h]
 ·intro h;obtain⟨he,hx⟩:=BB.mp h;refine#[⋯,e2.mpr ?_];rw[aV he,ef,bN,hx]
def WZ{l:()}{c:Nat}(h:c ∈ l):Txt.find (tx l) (tx [c])=((l.idxOf c:Nat):Int):=by
 have hlt:=bf h;have hg:l[l.idxOf c]? = Bu c:=by rw[ah hlt,eE]
 rcases PyProof.Rows.find_whole (tx l) (tx [c])with ⟨h1,h2⟩ | ⟨e,h1,h2,h3⟩
 ·exact y4 ((zf6 l c _).mpr hg) (h2 _)
 ·have he:=(zf6 l c e).mp h2
  have:e=l.idxOf c:=by
   rcases dF e (l.idxOf c)with q | q | q
   ·have:=List.not_of_lt_findIdx (p:=(· == c)) q;obtain⟨h4,h5⟩:=BB.mp he;simp [h5]at this
   ·exact q
   ·exact y4 ((zf6 l c _).mpr hg) (h3 _ q)
  rw[h1,this]
abbrev MkO(P:tu)(w:tz)(K:sV)(mg:tw->Option sY)(base:tE)(C:sX):Prop:=DMk P w K mg base CX0 3 C ["self","letters"] (qN K)
abbrev MkW(P:tu)(w:tz)(K:sV)(mg:tw->Option sY)(base:tE)(C:sX):Prop:=DMk P w K mg base (CXx P w) 4 C ["self","letters","weights"] (Z7 K C)
abbrev MW(P:tu)(w:tz)(K:sV)(mg:tw->Option sY)(base:tE)(C:sX)(m:tw)(sp:Sp):Prop:=DM P w K mg base CX0 1 C m ["self","word"] sp
structure TWS(P:tu)(w:tz)(K:sV)(mg:tw->Option sY)(base:tE)(CO CR CW:sX):Prop extends TOrd K mg CO CR CW where
 mO:MkO P w K mg base CO
 mR:MkO P w K mg base CR
 mW:MkW P w K mg base CW
 wO:MW P w K mg base CO "weight" k8
 wR:MW P w K mg base CR "weight" k8
 wW':MW P w K mg base CW "weight" (Xx CW)
 sO:MW P w K mg base CO "seen" We
 sR:MW P w K mg base CR "seen" Xf
 sW:MW P w K mg base CW "seen" We
structure OG(l:())(ns:List Int)(k:Nat):Prop where
 g:ue l=Bw
 k3:k<3
 nl:ns.length=l.length
 nb:∀n ∈ ns,1<=n/\n<=1000000
end in def qj(l:())(w:()):List Int:=w.map λc=>((l.idxOf c:Nat):Int)
end in def xS(k:Nat)(l:())(w:()):List Int:=qj l (yx k w)
def zeF(CO CR CW:sX):sX->Prop:=λC=>C=CO\/C=CR\/C=CW
def OrdAt.fam{CO CR CW:sX}{H:Hp}{o:sX}{k:Nat}{l:()}{ns:List Int}(h:OrdAt CO CR CW H o k l ns):∃C dx fs,zeF CO CR CW C/\H o=Bu (.ins C dx fs)/\(∀m:tw,m≠"letters"->m≠"weights"->fs.lookup m=Bv)/\fs.lookup ("letters" : tw)=Bu (V.str (tx l)):=by
 have e1:∀m:tw,m≠"letters"->(m ==("letters" : tw))=Bx:=λm hm=>by simpa using hm
 have e2:∀m:tw,m≠"weights"->(m ==("weights" : tw))=Bx:=λm hm=>by simpa using hm
 obtain⟨dx,⟨h1,h2⟩ | ⟨h1,h2⟩ | ⟨h1,h2,w,h3,h4⟩⟩:=h
 ·exact#[_,_,_,.inl rfl,h2,λm hm _=>by simp [bi,e1 m hm],rfl]
 ·exact#[_,_,_,.inr (.inl rfl),h2,λm hm _=>by simp [bi,e1 m hm],rfl]
 ·exact#[_,_,_,.inr (.inr rfl),h3,λm hm hm2=>by simp [bi,e1 m hm,e2 m hm2],rfl]
def jg(CO CR CW:sX):Sp:=λvs H Q _=>∃(o:sX) (k:Nat) (l:()) (ns:List Int) (w:()),vs=[.ref o,.str (tx w)]/\OrdAt CO CR CW H o k l ns/\OG l ns k/\w.length<=1000/\(∀c ∈ w,c ∈ l)/\∀(p q:sX) (H':Hp),Same H H'->H' p=Bu (.tup [.int (zp k l ns w),.ref q])->H' q=Bu (.lst ((xS k l w).map V.int))->Q (.ref p) H'
theorem K8{H:Hp}{CO CR CW o D:sX}{k:Nat}{l:()}{ns:List Int}{v:()}{a1:Option V}{Q:VK}(T:TOrd K mg CO CR CW)(ho:OrdAt CO CR CW H o k l ns)(hl:v.length<=1000)(hm:∀c ∈ v,c ∈ l)(hD:H D=Bv)(q:∀H',Same H H'->H' D=Bu (.lst ((qj l v).map V.int))->Q (.ref D) H') :
  CompS (tx v) (yK 0) xw (tBM K "str" zv (zc6 K (z6 1) "letters") (zL (z6 0) xx)) 1 [0] [!!o,a1] H Q D:=by
 have s16:=zW;refine CompS.by (λi BA H'=>Same H H'/\H' D=Bu (.lst BA)/\BA=(qj l (v.take i)).map V.int) #[zd hD,zc,rfl] ?_ ?_
 ·refine nm4 ?_;rintro i c BA H' hc ⟨hs,hH,rfl⟩:_;have hci:=(BB.mp hc).1;have hcl:=hm c (ae hc);obtain⟨C,dx,fs,hf,ho',_,hlk⟩:=(ho.same hs).fam
  have hC:Cls K C/\NoAttr K C "letters":=by
   rcases hf with rfl | rfl | rfl
   ·exact#[T.cO,T.lO]
   ·exact#[T.cR,T.lR]
   ·exact#[T.cW,T.lW]
  right
  erw[xw]
  ac_rfl;refine#[yH,_,_,_,ho',hC.1,hC.2,_,hlk,trivial,_,rfl,_,WZ hcl,hH,by rw[ac];unfold qj;rw[ac,aE];lia,CNx.mk hci #[zE hs hD,zc,?_]];unfold qj;rw[zV hc,au,au];rfl
 ·rintro BA H' ⟨hs,hH,rfl⟩;rw[aJ]at hH;exact q H' hs hH
def Zd:sQz 2 ["self","word"] xJ:=by nofun
theorem wq{f CO CR CW:sX}{fd:tj}(B:Bt mg)(T:TWS P w K mg base CO CR CW)(F:Fun K "rank" "Order.rank" xJ f fd) :(2&&&["self","word"]) (jg CO CR CW):=by
 exists F.ok Zd
 ·obtain⟨o,k,l,ns,w,rfl,ho,hG,hw,hm,q⟩:=h;refine#[_,(zg (zl (zS (za (zeK T.wO T.wR T.wW' T.cO T.cR T.cW hr (pv 0) (za (pv 1) ze)) (za (yP (own:=["letter"]) (caps:=["self"]) (ix:=[0]) (tt:=xw) (te:=(tBM K "str" zv (zc6 K (z6 1) "letters") (zL (z6 0) xx))) rfl (zM (sc:=zh xJ) rfl (!0) (!0) (!0) rfl (!0) (!0) rfl) (kN (zeK T.sO T.sR T.sW T.cO T.cR T.cW hr (pv 0) (za (pv 1) ze))) (λ_ _ _ _ _ _=>zt (i:=0) (show List.Nodup [_,_] by decide) rfl (.inl rfl)) (λ_ _ _ _ _ _=>yg) (λ_ _ _ _ _ _=>(ux bp fA fB JB (uj (pv 1) rfl) (za (pv 0) ze)))) ze))))),?_];have s16:=zW
  have hsl:(yx k w).length<=1000:=by
   unfold yx;split
   ·rw[bE];exact hw
   ·exact hw
  have hsm:∀c ∈ yx k w,c ∈ l:=λc hc=>by
   unfold yx at hc;split at hc
   ·exact hm c (BL.mp hc)
   ·exact hm c hc
  have l6:l.length<=6:=(w6 hG.g).2.1;have fin:∀H1,Same H H1->∀D,H1 D=Bv->CompS (tx (yx k w)) (yK 0) xw (tBM K "str" zv (zc6 K (z6 1) "letters") (zL (z6 0) xx)) 1 [0] [!!o,~~~w] H1 (λx5 H1=>2<=sU/\∀p,H1 p=Bv->Q (.ref p) (upd H1 p (.tup [.int (zp k l ns w),x5]))) D:=λH1 s1 D hD=>K8 T.toTOrd (ho.same s1) hsl hsm hD λH' s' hH=>#[⋯,λp hp=>q p D _ (s1.trans (s'.trans (zd hp))) zc (zd hp _ _ hH)];ac_rfl;obtain⟨dx',⟨h1,h2⟩ | ⟨h1,h2⟩ | ⟨h1,h2,t',h3,h4⟩⟩:=id ho
  ·have e1:zp k l ns w=(w.length:Int):=by unfold zp;rw[y9 ⋯]
   have e2:yx k w=w:=by unfold yx;rw[y9 ⋯]
   rw[e1,e2]at fin;exact .inl #[_,_,h2,rfl,o,w,rfl,hw,.inl #[_,_,h2,rfl,o,w,rfl,_,rfl,fin H (Same.refl _)]]
  ·have e1:zp k l ns w=(w.length:Int):=by unfold zp;rw[y9 ⋯]
   have e2:yx k w=w.reverse:=by unfold yx;rw[y6 h1]
   rw[e1,e2]at fin;exact .inr (.inl #[_,_,h2,rfl,o,w,rfl,hw,.inr (.inl #[_,_,h2,rfl,o,w,rfl,hw,_,rfl,fin H (Same.refl _)])])
  ·have e1:zp k l ns w=V5 l ns w:=by unfold zp;rw[y6 h1]
   have e2:yx k w=w:=by unfold yx;rw[y9 ⋯]
   rw[e1,e2]at fin;exact .inr (.inr #[_,_,h3,rfl,o,dx',t',w,l,ns,rfl,hw,l6,hG.nl,hG.nb,h3,h4,λH' s'=>.inr (.inr #[_,_,s' _ _ h3,rfl,o,w,rfl,_,rfl,fin H' s'])])
end in def zO(k:Nat)(l:())(ns:List Int)(u v:()):Bool:=if zp k l ns u=zp k l ns v then ltI (xS k l u) (xS k l v)else decide (zp k l ns u<zp k l ns v)
abbrev DR(P:tu)(w:tz)(K:sV)(mg:tw->Option sY)(base:tE)(CO CR CW:sX):Prop:=DMF P w K mg base CX0 2 (zeF CO CR CW) "rank" ["self","word"] (λ_=>jg CO CR CW)
def qg{H:Hp}{p q:sX}{z:Int}{ns:List Int}(hp:H p=Bu (.tup [.int z,.ref q]))(hq:H q=Bu (.lst (ns.map V.int))):Is K H (.tup [.int z,.lst (ns.map L3.D.int)]) (.ref p):=by
 erw[Is,Iss]
 exact#[p,_,rfl,SqT.of hp,_,_,rfl,rfl,_,_,rfl,#[q,_,rfl,SqL.of hq,Iss.ints ns],rfl]
theorem xz:∀x:List Int,ltI x x=Bx
 | []=>rfl
 | a::x=>by
  rw[ltI,y6 rfl];exact xz x
def XV(a b:Int)(x y:List Int):ltD (.tup [.int a,.lst (x.map L3.D.int)]) (.tup [.int b,.lst (y.map L3.D.int)])=if a=b then ltI x y else decide (a<b):=by
 erw[ltD,ug,eqD,YN,Yk]
 by_cases h:a=b
 ·subst h;by_cases h2:x=y
  ·subst h2;simp [xz]
  ·simp [h2]
 ·simp [h]
def UG(CO CR CW:sX):Sp:=λvs H Q _=>∃(o:sX) (k:Nat) (l:()) (ns:List Int) (u v:()),vs=[.ref o,.str (tx u),.str (tx v)]/\OrdAt CO CR CW H o k l ns/\OG l ns k/\u.length<=1000/\v.length<=1000/\(∀c ∈ u,c ∈ l)/\(∀c ∈ v,c ∈ l)/\∀H':Hp,Same H H'->Q (.bl (zO k l ns u v)) H'
def jd:sQz 3 ["self","one","other"] xX:=by nofun
def xF{f CO CR CW:sX}{fd:tj}(B:Bt mg)(DRk:DR P w K mg base CO CR CW)(F:Fun K "before" "Order.before" xX f fd) :(3&&&["self","one","other"]) (UG CO CR CW):=by
 exists F.ok jd
 ·obtain⟨o,k,l,ns,u,v,rfl,ho,hG,hu,hv,hmu,hmv,q⟩:=h;refine#[_,(zg (zl (yI (zaT (vV hr)) (zda DRk hr (pv 0) (za (pv 1) ze)) (zda DRk hr (pv 0) (za (pv 2) ze)) (zA _)))),?_];have s16:=zW;ac_rfl;obtain⟨C,dx,fs,hf,ho1,hn,_⟩:=ho.fam;have h1:fs.lookup ("rank" : tw)=Bv:=hn _ ∅ ∅;refine#[C,hf,dx,fs,ho1,h1,o,k,l,ns,u,rfl,ho,hG,hu,hmu,λp x H1 s1 hp hx=>#[C,hf,dx,fs,s1 _ _ ho1,h1,o,k,l,ns,v,rfl,ho.same s1,hG,hv,hmv,λp' x' H2 s2 hp' hx'=>?_]];refine Jq (qg (s2 _ _ hp) (s2 _ _ hx)) (qg hp' hx') (by erw[dpD,vG,Z3];decide) (by erw[okD,jY];exact#[trivial,uq _ _,trivial]) ?_;rw[XV];exact q H2 (s1.trans s2)
abbrev DB(P:tu)(w:tz)(K:sV)(mg:tw->Option sY)(base:tE)(CO CR CW:sX):Prop:=DMF P w K mg base CX0 3 (zeF CO CR CW) "before" ["self","one","other"] (λ_=>UG CO CR CW)
end in def K5(k:Int)(ls:())(ns:List Int)(w:()):Int:=(w.map λc=>if k=2 then ns.getD (ls.idxOf c) 0 else 1).sum
theorem Kh{k:Int}{ls:()}{ns:List Int}{w:()}(h:k≠2):K5 k ls ns w=(w.length:Int):=by
 unfold K5
 induction w with
 | nil=>rfl
 | cons c w ih =>
  rw[av,bj,ih,y9 h,aL];lia
theorem jQ{ls:()}{ns:List Int}(f g:Nat->Int):((ls.zip ns).map λp=>(f p.1+g p.1) * p.2).sum=((ls.zip ns).map λp=>f p.1 * p.2).sum+((ls.zip ns).map λp=>g p.1 * p.2).sum:=by
 induction ls.zip ns with
 | nil=>rfl
 | cons p r ih =>
  rw[av,av,av,bj,bj,bj,ih,Int.add_mul];lia
theorem QH:∀{ls:()} {ns:List Int} {c:Nat},ls.Nodup->ns.length=ls.length->c ∈ ls->((ls.zip ns).map λp=>(if p.1=c then (1:Int)else 0) * p.2).sum=ns.getD (ls.idxOf c) 0
 | [],ns,c,_,_,hc=>(nomatch hc)
 | d::ls,[],c,_,hl,_=>by cases hl
 | d::ls,n::ns,c,hn,hl,hc=>by
  rw[dv,av,bj];have hnd:=BO.mp hn;by_cases h:d=c
  ·subst h
   have h0:∀(l:()) (m:List Int),d ∉ l->((l.zip m).map λp=>(if p.1=d then (1:Int)else 0) * p.2).sum=0:=by
    intro l
    induction l with
    | nil=>intro m _;rfl
    | cons x l ih =>
     intro m hx
     cases m with
     | nil=>rfl
     | cons y m =>
      rw[dv,av,bj,ih m (λq=>hx (am _ q)),y9 (show ¬ x=d from λe=>hx (by rw[e];exact aA))];lia
   rw[h0 ls ns hnd.1,y6 rfl,List.idxOf_cons_self];simp
  ·have hc':c ∈ ls:=by
    rcases BE.mp hc with e | e
    ·exact y4 e.symm h
    ·exact e
   rw[QH hnd.2 (by simpa using hl) hc',y9 h,List.idxOf_cons,show (d == c)=Bx by simpa using h];simp
theorem ZN{ls:()}{ns:List Int}(hn:ls.Nodup)(hl:ns.length=ls.length):∀{w:()},(∀x ∈ w,x ∈ ls)->K5 2 ls ns w=V5 ls ns w
 | [],_=>by
  have h0:∀r:List (Nat × Int),(r.map λp=>((([]:()).count p.1:Nat):Int) * p.2).sum=0:=by
   intro r
   induction r with
   | nil=>rfl
   | cons p r ih=>rw[av,bj,ih];simp
  exact (h0 _).symm
 | c::w,h=>by
  have ih:=ZN hn hl (w:=w) λx hx=>h x (am _ hx)
  have e1:K5 2 ls ns (c::w)=ns.getD (ls.idxOf c) 0+K5 2 ls ns w:=by
   unfold K5;rw[av,bj,y6 rfl]
  rw[e1,ih,<- QH hn hl (h c aA)];unfold V5;rw[<- jQ (λx=>if x=c then 1 else 0) (λx=>(w.count x:Int))];refine congrArg List.sum (cz λp _=>?_);rw[List.count_cons];by_cases e:c=p.1
  ·rw[y6 e.symm,y6 (by simpa using e)];simp [Int.add_comm]
  ·rw[y9 (λz=>e z.symm),y9 (by simpa using e)];simp
end in def wt(k:Nat)(ns:List Int)(i:Int):Int:=if k=2 then ns.getD i.toNat 0 else 1
theorem wg{g:Int->Int}:∀{x:List Int},(∀i ∈ x,0<g i)->0<=(x.map g).sum
 | [],_=>by simp
 | a::x,h=>by
  have h1:=h a aA;have h2:=wg (x:=x) λi hi=>h i (am _ hi);rw[av,bj];lia
theorem vo:∀{x y:List Int},x≠y->ltI x y=!ltI y x
 | [],[],h=>y4 rfl h
 | [],_::_,_=>rfl
 | _::_,[],_=>rfl
 | a::x,b::y,h=>by
  rw[ltI,ltI];by_cases e:a=b
  ·rw[y6 e,y6 e.symm];exact vo λq=>h (by rw[e,q])
  ·rw[y9 e,y9 λq=>e q.symm];by_cases c:a<b
   ·rw[w9 c,y3 ⋯];rfl
   ·rw[y3 c,w9 ⋯];rfl
theorem jI:∀{x y z:List Int},ltI x y=Bw->ltI y z=Bw->ltI x z=Bw
 | [],[],_,h,_=>by cases h
 | [],_::_,[],_,h=>by cases h
 | [],_::_,_::_,_,_=>rfl
 | _::_,[],_,h,_=>by cases h
 | _::_,_::_,[],_,h=>by cases h
 | a::x,b::y,c::z,h1,h2=>by
  rw[ltI]at h1 h2 ⊢;by_cases e:a=b
  ·subst e;rw[y6 rfl]at h1;by_cases f:a=c
   ·rw[y6 f]at h2 ⊢;exact jI h1 h2
   ·rw[y9 f]at h2 ⊢;exact h2
  ·rw[y9 e]at h1;have h1':=w6 h1;by_cases f:b=c
   ·subst f;rw[y9 e];exact h1
   ·rw[y9 f]at h2;have h2':=w6 h2;rw[y9 ⋯];exact w9 ⋯
theorem XO:∀(c x y:List Int),ltI (c ++ x) (c ++ y)=ltI x y
 | [],_,_=>rfl
 | a::c,x,y=>by
  rw[bv,bv,ltI,y6 rfl];exact XO c x y
theorem WF{g:Int->Int}{c:List Int}:∀{x y:List Int},(∀i ∈ x,0<g i)->(∀i ∈ y,0<g i)->(x.map g).sum=(y.map g).sum->ltI (x ++ c) (y ++ c)=ltI x y
 | [],[],_,_,_=>xz c
 | [],b::y,_,hy,h=>by
  have h1:=hy b aA;have h2:=wg (x:=y) λi hi=>hy i (am _ hi);rw[av,bj,aO,List.sum_nil]at h;lia
 | a::x,[],hx,_,h=>by
  have h1:=hx a aA;have h2:=wg (x:=x) λi hi=>hx i (am _ hi);rw[av,bj,aO,List.sum_nil]at h;lia
 | a::x,b::y,hx,hy,h=>by
  rw[bv,bv,ltI,ltI];by_cases e:a=b
  ·rw[y6 e,y6 e];rw[av,bj,av,bj,e]at h;exact WF (λi hi=>hx i (am _ hi)) (λi hi=>hy i (am _ hi)) ⋯
  ·rw[y9 e,y9 e]
section
variable{k:Nat}{l:()}{ns:List Int}{t u v:()}
def J0(a b:()):V5 l ns (a ++ b)=V5 l ns a+V5 l ns b:=by unfold V5;rw[<- jQ (λx=>(a.count x:Int)) (λx=>(b.count x:Int))];refine congrArg List.sum (cz λp _=>?_);rw[List.count_append];simp
theorem yS(a b:()):zp k l ns (a ++ b)=zp k l ns a+zp k l ns b:=by
 unfold zp;by_cases h:k=2
 ·rw[y6 h,y6 h,y6 h,J0]
 ·rw[y9 h,y9 h,y9 h,aj];lia
theorem yT(G:OG l ns k):∀{w:()},(∀c ∈ w,c ∈ l)->zp k l ns w=((qj l w).map (wt k ns)).sum:=by
 intro w hm;have hn:l.Nodup:=(w6 G.g).2.2.2
 have e:((qj l w).map (wt k ns)).sum=K5 (k:Int) l ns w:=by
  unfold qj K5;rw[du];refine congrArg List.sum (cz λc _=>?_);show wt k ns _=_;unfold wt;by_cases h:k=2
  ·rw[y6 h,y6 ⋯,az]
  ·rw[y9 h,y9 ⋯]
 rw[e];unfold zp;by_cases h:k=2
 ·rw[y6 h,h];exact (ZN hn G.nl hm).symm
 ·rw[y9 h,Kh ⋯]
theorem Yt(G:OG l ns k)(hm:∀c ∈ u,c ∈ l):∀i ∈ qj l u,0<wt k ns i:=by
 intro i hi;obtain⟨c,hc,rfl⟩:=BC.mp hi;have hlt:=bf (hm c hc);have hl:=G.nl;unfold wt;split
 ·rw[az,af,ah ⋯];have:=(G.nb _ (eS (l:=ns) (n:=l.idxOf c) ⋯)).1;show 0<ns[l.idxOf c];lia
 ·decide
def wv(G:OG l ns k)(hm:∀c ∈ u,c ∈ l):0<=zp k l ns u:=by rw[yT G hm];exact wg (Yt G hm)
theorem qi(G:OG l ns k)(hm:∀c ∈ u,c ∈ l)(h:u≠[]):0<zp k l ns u:=by
 cases u with
 | nil=>exact y4 rfl h
 | cons a u =>
  have h1:=Yt G hm (l.idxOf a:Nat) (BC.mpr #[a,aA,rfl]);have h2:0<=((qj l u).map (wt k ns)).sum:=wg (Yt (u:=u) G λc hc=>hm c (am _ hc));rw[yT G hm];show 0<((((l.idxOf a:Nat):Int)::qj l u).map (wt k ns)).sum;rw[av,bj];lia
theorem Zi:∀{u v:()},(∀c ∈ u,c ∈ l)->(∀c ∈ v,c ∈ l)->qj l u=qj l v->u=v
 | [],[],_,_,_=>rfl
 | [],_::_,_,_,h=>by cases h
 | _::_,[],_,_,h=>by cases h
 | a::u,b::v,hu,hv,h=>by
  unfold qj at h;rw[av,av]at h;injection h with h1 h2;have h3:l.idxOf a=l.idxOf b:=⋯;have ha:=eE (bf (hu a aA));have hb:=eE (bf (hv b aA))
  have:a=b:=by
   rw[<- ha,<- hb]
   erw[h3]
  rw[this,Zi (λc hc=>hu c (am _ hc)) (λc hc=>hv c (am _ hc)) h2]
def yd:zO k l ns u u=Bx:=by unfold zO;rw[y6 rfl,xz]
def Wx(hu:∀c ∈ u,c ∈ l)(hv:∀c ∈ v,c ∈ l)(h:xS k l u=xS k l v):u=v:=by
 unfold xS yx at h;by_cases e:k=1
 ·rw[y6 e,y6 e]at h;exact List.reverse_inj.mp (Zi (λc hc=>hu c (BL.mp hc)) (λc hc=>hv c (BL.mp hc)) h)
 ·rw[y9 e,y9 e]at h;exact Zi hu hv h
theorem jN(hu:∀c ∈ u,c ∈ l)(hv:∀c ∈ v,c ∈ l)(h:u≠v):zO k l ns u v=!zO k l ns v u:=by
 unfold zO;by_cases e:zp k l ns u=zp k l ns v
 ·rw[y6 e,y6 e.symm];exact vo λq=>h (Wx hu hv q)
 ·rw[y9 e,y9 λq=>e q.symm];by_cases c:zp k l ns u<zp k l ns v
  ·rw[w9 c,y3 ⋯];rfl
  ·rw[y3 c,w9 ⋯];rfl
theorem yM(h1:zO k l ns t u=Bw)(h2:zO k l ns u v=Bw):zO k l ns t v=Bw:=by
 unfold zO at h1 h2 ⊢;generalize zp k l ns t=a at *;generalize zp k l ns u=b at *;generalize zp k l ns v=c at *;by_cases e:a=b
 ·subst e;rw[y6 rfl]at h1;by_cases f:a=c
  ·rw[y6 f]at h2 ⊢;exact jI h1 h2
  ·rw[y9 f]at h2 ⊢;exact h2
 ·rw[y9 e]at h1;have h1':=w6 h1;by_cases f:b=c
  ·subst f;rw[y9 e];exact h1
  ·rw[y9 f]at h2;have h2':=w6 h2;rw[y9 ⋯];exact w9 ⋯
def W6(a b:()):qj l (a ++ b)=qj l a ++ qj l b:=au
def Ye(G:OG l ns k)(hu:∀c ∈ u,c ∈ l)(hv:∀c ∈ v,c ∈ l)(e:zp k l ns u=zp k l ns v)(c:List Int):ltI (qj l u ++ c) (qj l v ++ c)=ltI (qj l u) (qj l v):=by rw[yT G hu,yT G hv]at e;exact WF (Yt G hu) (Yt G hv) e
def kM(G:OG l ns k)(hu:∀c ∈ u,c ∈ l):zp k l ns u.reverse=zp k l ns u:=by rw[yT G hu,yT G λc hc=>hu c (BL.mp hc)];unfold qj;rw[eX,eX,List.sum_reverse]
theorem uH(G:OG l ns k)(ht:∀c ∈ t,c ∈ l)(hu:∀c ∈ u,c ∈ l)(hv:∀c ∈ v,c ∈ l):zO k l ns (t ++ u) (t ++ v)=zO k l ns u v/\zO k l ns (u ++ t) (v ++ t)=zO k l ns u v:=by
 have hur:∀c ∈ u.reverse,c ∈ l:=λc hc=>hu c (BL.mp hc);have hvr:∀c ∈ v.reverse,c ∈ l:=λc hc=>hv c (BL.mp hc);unfold zO;rw[yS,yS,yS,yS];by_cases e:zp k l ns u=zp k l ns v
 ·rw[y6 ⋯,y6 e,y6 ⋯];unfold xS yx;by_cases f:k=1
  ·erw[y6 f,List.reverse_append,W6]
   exact#[Ye G hur hvr (by rw[kM G hu,kM G hv,e]) _,XO _ _ _]
  ·erw[y9 f,W6]
   exact#[XO _ _ _,Ye G hu hv e _]
 ·rw[y9 ⋯,y9 e,y9 ⋯];exact#[by congr 1;exact propext ⋯,by congr 1;exact propext ⋯]
theorem Vn(G:OG l ns k)(ht:∀c ∈ t,c ∈ l)(hu:∀c ∈ u,c ∈ l)(hv:∀c ∈ v,c ∈ l)(h:t ++ u ++ v≠u):zO k l ns u (t ++ u ++ v)=Bw/\zO k l ns (t ++ u ++ v) u=Bx:=by
 have h0:0<zp k l ns t+zp k l ns v:=by
  have h1:=wv G ht;have h2:=wv G hv;by_cases e:t=[]
  ·by_cases f:v=[]
   ·subst e f;simp at h
   ·have:=qi G hv f;lia
  ·have:=qi G ht e;lia
 unfold zO;rw[yS,yS,y9 ⋯,y9 ⋯];exact#[w9 ⋯,y3 ⋯]
end
theorem YH:∀x y:List Int,ltI x y=Bw->ltI y x=Bx
 | [],[],h=>by cases h
 | [],_::_,_=>rfl
 | _::_,[],h=>by cases h
 | a::x,b::y,h=>by
  rw[ltI]at h ⊢;by_cases e:a=b
  ·rw[y6 e]at h;rw[y6 e.symm];exact YH x y h
  ·rw[y9 e]at h;rw[y9 (λq=>e q.symm)];have:=w6 h;exact y3 ⋯
theorem Xh{k:Nat}{l:()}{ns:List Int}{u v:()}(h:zO k l ns u v=Bw):zO k l ns v u=Bx:=by
 unfold zO at h ⊢;by_cases e:zp k l ns u=zp k l ns v
 ·rw[y6 e]at h;rw[y6 e.symm];exact YH _ _ h
 ·rw[y9 e]at h;rw[y9 (λq=>e q.symm)];have:=w6 h;exact y3 ⋯
end in def stJ(l:())(ps:List zu)(q j:Nat):Bool:=((ps[j]?).map λp=>zx l (q:Int) p.1).getD Bx
def kr{l:()}{ps:List zu}{q j:Nat}{p:zu}(h:ps[j]? = Bu p):stJ l ps q j=zx l (q:Int) p.1:=by unfold stJ;rw[h];rfl
theorem vp{l:()}{ps:List zu}{q j:Nat}(h:stJ l ps q j=Bw):j<ps.length/\∃p,ps[j]? = Bu p/\zx l (q:Int) p.1=Bw:=by
 unfold stJ at h
 cases e:ps[j]? with
 | none=>rw[e]at h;cases h
 | some p =>
  rw[e]at h;exact#[(BB.mp e).1,p,rfl,h]
end in def jo(l:())(ps:List zu)(q i:Nat):List (Nat × Nat):=((aN i).filter (stJ l ps q)).map λj=>(j,q)
end in def xI(l:())(ps:List zu)(k:Nat):List (Nat × Nat):=(aN k).flatMap λq=>jo l ps q ps.length
def V1(l:())(ps:List zu)(q i:Nat):jo l ps q (i+1)=jo l ps q i ++ (if stJ l ps q i=Bw then [(i,q)]else []):=by
 unfold jo;rw[cE,cP,au];congr 1;by_cases h:stJ l ps q i=Bw
 ·rw[y6 h,fh h];rfl
 ·rw[y9 h,fj h];rfl
def kR(l:())(ps:List zu)(k:Nat):xI l ps (k+1)=xI l ps k ++ jo l ps k ps.length:=by unfold xI;rw[cE,dh];simp
def JD(l:())(ps:List zu)(q i:Nat):(jo l ps q i).length<=i:=by unfold jo;rw[ac];have:=cX (stJ l ps q) (aN i);rw[cw]at this;exact this
theorem UA(l:())(ps:List zu):∀k,(xI l ps k).length<=k * ps.length
 | 0=>by simp [xI]
 | k+1=>by
  rw[kR,aj,eP];have:=UA l ps k;have:=JD l ps k ps.length;lia
def usesN_mem{l:()}{ps:List zu}{q i:Nat}{u:Nat × Nat}:u ∈ jo l ps q i ↔ u.2=q/\u.1<i/\stJ l ps q u.1=Bw:=by
 unfold jo;rw[List.mem_map];constructor
 ·rintro⟨j,hj,rfl⟩;rw[List.mem_filter,fL]at hj;exact#[rfl,hj.1,hj.2]
 ·rintro⟨h1,h2,h3⟩;exact#[u.1,BJ.mpr #[BK.mpr h2,h3],by rw[<- h1]]
def usesK_mem{l:()}{ps:List zu}{k:Nat}{u:Nat × Nat}:u ∈ xI l ps k ↔ u.2<k/\stJ l ps u.2 u.1=Bw:=by
 unfold xI;rw[List.mem_flatMap];constructor
 ·rintro⟨q,hq,hu⟩;obtain⟨h1,h2,h3⟩:=usesN_mem.mp hu;rw[fL]at hq;rw[h1];exact#[hq,h3]
 ·rintro⟨h1,h2⟩;exact#[u.2,BK.mpr h1,usesN_mem.mpr #[rfl,(vp h2).1,h2]]
def uLt(a b:Nat × Nat):Prop:=a.2<b.2\/(a.2=b.2/\a.1<b.1)
theorem qv(l:())(ps:List zu)(q:Nat):∀i,(jo l ps q i).Pairwise uLt
 | 0=>by simp [jo]
 | i+1=>by
  rw[V1];refine Cb.mpr #[qv l ps q i,?_,λa ha b hb=>?_]
  ·split
   ·exact fg _ _
   ·exact List.Pairwise.nil
  ·obtain⟨h1,h2,_⟩:=usesN_mem.mp ha;split at hb
   ·rw[BF.mp hb];exact .inr #[h1,h2]
   ·cases hb
theorem vc(l:())(ps:List zu):∀k,(xI l ps k).Pairwise uLt
 | 0=>by simp [xI]
 | k+1=>by
  rw[kR];refine Cb.mpr #[vc l ps k,qv l ps k _,λa ha b hb=>?_];have h1:=(usesK_mem.mp ha).1;have h2:=(usesN_mem.mp hb).1;exact .inl ⋯
def FirstN(l:())(ps:List zu)(lo hi n:Nat)(r:Option (Nat × Nat)):Prop :=
 (r=Bv/\∀j q,j<n->lo<=q->q<hi->stJ l ps q j=Bx) \/
 ∃n0 q0,r=Bu (n0,q0)/\n0<n/\lo<=q0/\q0<hi/\stJ l ps q0 n0=Bw/\∀j q,j<n->lo<=q->stJ l ps q j=Bw->q0<q\/(q0=q/\n0<=j)
theorem FirstN.uniq{l:()}{ps:List zu}{lo hi n:Nat}{r r':Option (Nat × Nat)}(h:FirstN l ps lo hi n r)(h':FirstN l ps lo hi n r'):r=r':=by
 rcases h with ⟨rfl,h⟩ | ⟨n0,q0,rfl,a1,a2,a3,a4,a5⟩
 ·rcases h' with ⟨rfl,_⟩ | ⟨n0,q0,rfl,a1,a2,a3,a4,a5⟩
  ·rfl
  ·rw[h n0 q0 a1 a2 a3]at a4;cases a4
 ·rcases h' with ⟨rfl,h⟩ | ⟨n1,q1,rfl,b1,b2,b3,b4,b5⟩
  ·rw[h n0 q0 a1 a2 a3]at a4;cases a4
  ·have x1:=a5 n1 q1 b1 b2 b4;have x2:=b5 n0 q0 a1 a2 a4;have e1:q0=q1:=⋯;have e2:n0=n1:=⋯;rw[e1,e2]
theorem VA{l:()}{ps:List zu}{r:Option (Nat × Nat)}(h:FirstN l ps 0 l.length ps.length r):r=(xI l ps l.length).head?:=by
 have hs:=vc l ps l.length;refine h.uniq ?_
 cases e:xI l ps l.length with
 | nil =>
  refine .inl #[rfl,λj q _ _ hq=>?_]
  cases hb:stJ l ps q j with
  | false=>rfl
  | true =>
   have:(j,q) ∈ xI l ps l.length:=usesK_mem.mpr #[hq,hb];rw[e]at this;cases this
 | cons u us =>
  rw[e]at hs;have hu:u ∈ xI l ps l.length:=by rw[e];exact aA
  obtain⟨h1,h2⟩:=usesK_mem.mp hu;refine .inr #[u.1,u.2,rfl,(vp h2).1,aG _,h1,h2,λj q hj _ hb=>?_];by_cases hq:q<l.length
  ·have:(j,q) ∈ xI l ps l.length:=usesK_mem.mpr #[hq,hb];rw[e]at this;rcases BE.mp this with e2 | e2
   ·rw[<- e2];exact .inr #[rfl,al _]
   ·rcases (Cc.mp hs).1 _ e2 with h | ⟨h,h'⟩
    ·exact .inl h
    ·exact .inr #[h,dn h']
  ·exact .inl ⋯
theorem jR{l p:()}{q:Nat}(hp:p≠[])(h:zx l (q:Int) p=Bw):q<l.length:=by obtain⟨h0,h1,_⟩:=w6 h;have:0<p.length:=BR.mpr hp;lia
theorem FirstN.keep{l:()}{ps:List zu}{lo hi n:Nat}{r:Option (Nat × Nat)}{p:zu}(h:FirstN l ps lo hi n r)(hp:ps[n]? = Bu p)(hn:∀q:Nat,lo<=q->q<(r.map Prod.snd).getD hi->zx l (q:Int) p.1=Bx):FirstN l ps lo hi (n+1) r:=by
 rcases h with ⟨rfl,h⟩ | ⟨n0,q0,rfl,a1,a2,a3,a4,a5⟩
 ·refine .inl #[rfl,λj q hj h1 h2=>?_];by_cases e:j<n
  ·exact h j q e h1 h2
  ·have:j=n:=⋯;subst this;rw[kr hp];exact hn q h1 h2
 ·refine .inr #[n0,q0,rfl,⋯,a2,a3,a4,λj q hj h1 h2=>?_];by_cases e:j<n
  ·exact a5 j q e h1 h2
  ·have:j=n:=⋯;subst this;rw[kr hp]at h2;by_cases hq:q<q0
   ·rw[hn q h1 hq]at h2;cases h2
   ·lia
theorem FirstN.take{l:()}{ps:List zu}{lo hi n k:Nat}{r:Option (Nat × Nat)}{p:zu}(h:FirstN l ps lo hi n r)(hp:ps[n]? = Bu p)(h1:lo<=k)(h2:k<(r.map Prod.snd).getD hi)(h3:zx l (k:Int) p.1=Bw)(hn:∀q:Nat,lo<=q->q<k->zx l (q:Int) p.1=Bx):FirstN l ps lo hi (n+1) (Bu (n,k)):=by
 have hk:k<hi/\∀j q,j<n->lo<=q->stJ l ps q j=Bw->k<q:=by
  rcases h with ⟨rfl,h⟩ | ⟨n0,q0,rfl,a1,a2,a3,a4,a5⟩
  ·refine#[h2,λj q hj hl hb=>?_];by_cases hq:q<hi
   ·rw[h j q hj hl hq]at hb;cases hb
   ·have h2':k<hi:=h2;lia
  ·have h2':k<q0:=h2;refine#[⋯,λj q hj hl hb=>?_];have:=a5 j q hj hl hb;lia
 refine .inr #[n,k,rfl,⋯,h1,hk.1,by rw[kr hp];exact h3,λj q hj hl hb=>?_];by_cases e:j<n
 ·exact .inl (hk.2 j q e hl hb)
 ·have:j=n:=⋯;subst this;rw[kr hp]at hb;by_cases hq:q<k
  ·rw[hn q hl hq]at hb;cases hb
  ·lia
theorem FirstN.window{l:()}{ps:List zu}{lo mid hi n:Nat}{r:Option (Nat × Nat)}(h0:FirstN l ps lo mid n Bv)(hm:lo<=mid)(h:FirstN l ps mid hi n r):FirstN l ps lo hi n r:=by
 have h0':∀j q,j<n->lo<=q->q<mid->stJ l ps q j=Bx:=by
  rcases h0 with ⟨_,h⟩ | ⟨_,_,h,_⟩
  ·exact h
  ·cases h
 rcases h with ⟨rfl,h⟩ | ⟨n0,q0,rfl,a1,a2,a3,a4,a5⟩
 ·refine .inl #[rfl,λj q hj h1 h2=>?_];by_cases e:q<mid
  ·exact h0' j q hj h1 e
  ·exact h j q hj ⋯ h2
 ·refine .inr #[n0,q0,rfl,a1,⋯,a3,a4,λj q hj h1 h2=>?_];by_cases e:q<mid
  ·rw[h0' j q hj h1 e]at h2;cases h2
  ·exact a5 j q hj ⋯ h2
def NeL(ps:List zu):Prop:=∀p ∈ ps,p.1≠[]
theorem FirstN.toEnd{l:()}{ps:List zu}{lo hi n:Nat}{r:Option (Nat × Nat)}(hN:NeL ps)(h:FirstN l ps lo hi n r)(hl:r=Bv->l.length<=hi):FirstN l ps lo l.length n r:=by
 have hlt:∀j q,stJ l ps q j=Bw->q<l.length:=λj q hb=>by
  obtain⟨_,p,hp,hs⟩:=vp hb;exact jR (hN p (ae hp)) hs
 rcases h with ⟨rfl,h⟩ | ⟨n0,q0,rfl,a1,a2,a3,a4,a5⟩
 ·exact .inl #[rfl,λj q hj h1 h2=>h j q hj h1 (by have:=hl rfl;lia)]
 ·exact .inr #[n0,q0,rfl,a1,a2,hlt _ _ a4,a4,a5]
end in def zJ(l:())(ps:List zu):Option (Nat × Nat):=(xI l ps l.length).head?
def W5{l:()}{ps:List zu}{r:Option (Nat × Nat)}(h:FirstN l ps 0 l.length ps.length r):r=zJ l ps:=VA h
theorem WH(l:())(ps:List zu)(hN:NeL ps):FirstN l ps 0 l.length ps.length (zJ l ps):=by
 have hs:=vc l ps l.length;unfold zJ
 cases e:xI l ps l.length with
 | nil =>
  refine .inl #[rfl,λj q _ _ hq=>?_]
  cases hb:stJ l ps q j with
  | false=>rfl
  | true =>
   have:(j,q) ∈ xI l ps l.length:=usesK_mem.mpr #[hq,hb];rw[e]at this;cases this
 | cons u us =>
  rw[e]at hs;have hu:u ∈ xI l ps l.length:=by rw[e];exact aA
  obtain⟨h1,h2⟩:=usesK_mem.mp hu;refine .inr #[u.1,u.2,rfl,(vp h2).1,aG _,h1,h2,λj q hj _ hb=>?_]
  have hq:q<l.length:=by
   obtain⟨_,p,hp,hs⟩:=vp hb;exact jR (hN p (ae hp)) hs
  have:(j,q) ∈ xI l ps l.length:=usesK_mem.mpr #[hq,hb];rw[e]at this;rcases BE.mp this with e2 | e2
  ·rw[<- e2];exact .inr #[rfl,al _]
  ·rcases (Cc.mp hs).1 _ e2 with h | ⟨h,h'⟩
   ·exact .inl h
   ·exact .inr #[h,dn h']
end in def Wg(ps:List zu)(n:Nat):zu:=ps.getD n ([],[])
def xG{ps:List zu}{n:Nat}{p:zu}(h:ps[n]? = Bu p):Wg ps n=p:=by unfold Wg;rw[af,h];rfl
end in def Y7(l:())(ps:List zu)(u:Nat × Nat):():=yV l (u.2:Int) (Wg ps u.1).1 (Wg ps u.1).2
end in def Vc(ps:List zu)(l:()):():=((zJ l ps).map (Y7 l ps)).getD l
end in def wAt(ps:List zu)(l:()):Nat->()
 | 0=>l
 | j+1=>Vc ps (wAt ps l j)
end in def sAt(ps:List zu)(l:())(j:Nat):List (Nat × Nat):=(aN j).map λi=>(zJ (wAt ps l i) ps).getD (0,0)
def Wu(ps:List zu)(l:())(j:Nat):sAt ps l (j+1)=sAt ps l j ++ [(zJ (wAt ps l j) ps).getD (0,0)]:=by unfold sAt;rw[cE,au];rfl
def qY(ps:List zu)(l:())(j:Nat):(sAt ps l j).length=j:=by unfold sAt;rw[ac,cw]
def wn{ps:List zu}{l:()}{j:Nat}{u:Nat × Nat}(h:zJ (wAt ps l j) ps=Bu u):wAt ps l (j+1)=Y7 (wAt ps l j) ps u:=by show Vc ps (wAt ps l j)=_;unfold Vc;rw[h];rfl
def VZ(ps:List zu)(l:())(j:Nat):Prop:=∀i,i<j->zJ (wAt ps l i) ps≠Bv
def KU{ps:List zu}{l:()}{i j:Nat}(h1:VZ ps l i)(h2:zJ (wAt ps l i) ps=Bv)(h3:VZ ps l j)(h4:zJ (wAt ps l j) ps=Bv):i=j:=by
 rcases dF i j with h | h | h
 ·exact y4 h2 (h3 i h)
 ·exact h
 ·exact y4 h4 (h1 j h)
theorem V0{l:()}{ps:List zu}{n q M lo:Nat}(h:FirstN l ps 0 l.length ps.length (Bu (n,q)))(hN:NeL ps)(hM:∀p ∈ ps,p.1.length<=M)(hlo:lo=0\/lo+M<=q+1):FirstN (Y7 l ps (n,q)) ps 0 lo ps.length Bv:=by
 refine .inl #[rfl,λj x hj _ hx=>?_];rcases h with ⟨h,_⟩ | ⟨n0,q0,e,a1,a2,a3,a4,a5⟩
 ·cases h
 ·injection e with e;injection e with e1 e2;subst e1 e2
  cases hb:stJ (Y7 l ps (n,q)) ps x j with
  | false=>rfl
  | true =>
   obtain⟨_,p,hp,hs⟩:=vp hb;have hpm:=hM p (ae hp);have hpn:=BR.mpr (hN p (ae hp));have hxq:x+p.1.length<=q:=⋯;obtain⟨s0,s1,s2⟩:=w6 hs;rw[az]at s2;obtain⟨_,p2,hp2,hs2⟩:=vp a4;obtain⟨t0,t1,t2⟩:=w6 hs2
   have e4:(Y7 l ps (n,q)).take q=l.take q:=by
    unfold Y7 yV;rw[az,ao,aR (by rw[aE];lia),fM,eQ]
   have e5:∀z:(),((z.take q).drop x).take p.1.length=(z.drop x).take p.1.length:=λz=>by
    rw[List.drop_take,fM];congr 1;lia
   have s3:(l.drop x).take p.1.length=p.1:=by rw[<- e5,<- e4,e5,s2]
   have:stJ l ps x j=Bw:=by
    rw[kr hp];exact w9 #[⋯,⋯,by rw[az];exact s3]
   have:=a5 j x hj (aG _) this;lia
theorem FirstN.lower{l:()}{ps:List zu}{lo hi n:Nat}(h:FirstN l ps 0 hi n Bv)(hl:lo<=hi):FirstN l ps 0 lo n Bv:=by
 rcases h with ⟨_,h⟩ | ⟨_,_,h,_⟩
 ·exact .inl #[rfl,λj q hj h1 h2=>h j q hj h1 ⋯]
 ·cases h
theorem ze0(a b c:Nat):min a b+(b - (a+c))<=b:=⋯
def KR{l:()}{ps:List zu}{n q m:Nat}(h:FirstN l ps 0 l.length ps.length (Bu (n,q)))(hm:∀p ∈ ps,p.2.length<=m):(Y7 l ps (n,q)).length<=l.length+m:=by
 rcases h with ⟨h,_⟩ | ⟨n0,q0,e,a1,a2,a3,a4,a5⟩
 ·cases h
 ·injection e with e;injection e with e1 e2;subst e1 e2;obtain⟨_,p,hp,hs⟩:=vp a4;have:=hm p (ae hp);have er:=xG hp;unfold Y7 yV
  erw[aj,aE,aS,er]
  rw[dw];exact Nat.add_le_add (ze0 _ _ _) this
theorem ja{ps:List zu}{l:()}{m:Nat}(hN:NeL ps)(hm:∀p ∈ ps,p.2.length<=m):∀j,(wAt ps l j).length<=l.length+j * m
 | 0=>by simp [wAt]
 | j+1=>by
  have ih:=ja (l:=l) hN hm j;have hf:=WH (wAt ps l j) ps hN;rw[eP]
  cases e:zJ (wAt ps l j) ps with
  | none =>
   show (Vc ps (wAt ps l j)).length<=_;unfold Vc;rw[e];show (wAt ps l j).length<=_;lia
  | some u =>
   rw[wn e];rw[e]at hf;obtain⟨a,b⟩:=u;have:=KR hf hm;lia
def UseAt(H:Hp)(r:Option (Nat × Nat))(v:V):Prop:=(r=Bv/\v=.non)\/∃(n q:Nat) (p:sX),r=Bu (n,q)/\v=.ref p/\H p=Bu (.tup [.int (n:Nat),.int (q:Nat)])
def UseAt.same{H H':Hp}{r:Option (Nat × Nat)}{v:V}(h:UseAt H r v)(s:Same H H'):UseAt H' r v:=by
 rcases h with h | ⟨n,q,p,h1,h2,h3⟩
 ·exact .inl h
 ·exact .inr #[n,q,p,h1,h2,s _ _ h3]
theorem QQ{l p:()}{lo hi:Int}{H:Hp}{Q:VK}(h0:0<=lo)(h1:0<=hi)(h:∀r:Int,((r=-1/\∀q:Nat,lo<=q->(q:Int)+p.length<=hi->zx l q p=Bx)\/∃k:Nat,r=k/\lo<=k/\(k:Int)+p.length<=hi/\zx l k p=Bw/\∀q:Nat,lo<=q->q<k->zx l q p=Bx)->Q (.int r) H):zaC (.str (tx l)) [.str (tx p),.int lo,.int hi] H Q:=by
 refine#[l,p,lo,hi,rfl,rfl,h0,h1,λr hr=>h r ?_]
 have no:∀q:Nat,((l.drop q).take p.length≠p\/¬ q+p.length<=l.length)->zx l q p=Bx:=λq hq=>y3 λ⟨_,b,c⟩=>by
  rcases hq with hq | hq
  ·exact hq c
  ·lia
 rcases hr with ⟨rfl,hn⟩ | ⟨k,rfl,k1,k2,k3,k4,hn⟩
 ·refine .inl #[rfl,λq q1 q2=>no q ?_];by_cases e:q+p.length<=l.length
  ·exact .inl (hn q q1 q2 e)
  ·exact .inr e
 ·exact .inr #[k,rfl,k1,k2,w9 #[⋯,⋯,k4],λq q1 q2=>no q (.inl (hn q q1 q2))]
def uV(K:sV):Sp:=λvs H Q _=>∃(a:sX) (l:()) (ps:List zu) (st en:Nat),vs=[.ref a,.str (tx l),.int (st:Nat),.int (en:Nat)]/\LsA K H a (ps.map dR)/\NeL ps/\(∀p ∈ ps,p.1.length<=1000)/\∀(r:Option (Nat × Nat)) (v:V) (H':Hp),Same H H'->UseAt H' r v->FirstN l ps st en ps.length r->Q v H'
def XB{a:sX}{l:()}{ps:List zu}{st en:Nat}{s e:Int}{H:Hp}{Q:VK}{E:XK}(hs:s=(st:Nat))(he:e=(en:Nat))(hA:LsA K H a (ps.map dR))(hN:NeL ps)(hP:∀p ∈ ps,p.1.length<=1000)(q:∀(r:Option (Nat × Nat)) (v:V) (H':Hp),Same H H'->UseAt H' r v->FirstN l ps st en ps.length r->Q v H'):uV K [.ref a,.str (tx l),.int s,.int e] H Q E:=by subst hs he;exact#[a,l,ps,st,en,rfl,hA,hN,hP,q]
def gK:sQz 4 ["rules","word","start","end","found","number","rule","place"] xT:=by nofun
theorem jn{f:sX}{fd:tj}(B:Bt mg)(F:("first_within"^^^xT)) :(1&&&["rules","word","start","end"]) (uV K):=by
 exists F.ok gK
 ·obtain⟨a,l,ps,st,en,rfl,hA,hN,hP,q⟩:=h
  refine#[_,(zi (zC 4 gK.nd ym) (zi (z7 r9 rfl (xy rfl B.enum (za (pv 0) ze)) (vm (n:=2) rfl (zP (zt (i:=5) gK.nd rfl (.inl rfl)) (zP (zt (i:=6) gK.nd rfl (.inl rfl)) xC))) (zG (zC 7 gK.nd (ux bp cY cZ zcL (pv 1) (za (!-6) (za (pv 2) (za (zD yn (zD ut (pv 3) zf) (zB B.len (!-6))) ze))))) (zg (zN (zy op_ge' (pv 7) zf (zA _)) (zG (zC 4 gK.nd (zS (za (pv 5) (za (pv 7) ze)))) (zg (zC 3 gK.nd (pv 7))))
     zr)))) (zg (zl (pv 4))))),?_]
  have s16:=zW;obtain⟨xs,hX,hI⟩:=id hA;have hxl:=hI.len;rw[ac]at hxl;have s16:=zW;change H'=H/\σ=[!!a,~~~l,-~~~st,-~~~en,Bu (.non),Bv,Bv,Bv]
  ·rfl'
  rintro σ H1 ⟨rfl,rfl⟩:_;right;change Same H1 H'/\∃(r:Option (Nat × Nat)) (v:V) (v3 v5 v6 v7:Option V),UseAt H' r v/\FirstN l ps st en ps.length r/\σ=[!!a,~~~l,-~~~st,v3,Bu (v),v5,v6,v7]
  ·rfl'
   refine#[#[_,SqL.of hX],ForEL.by (xs:=xs) (λi σ H'=>Same H1 H'/\∃(r:Option (Nat × Nat)) (v:V) (v5 v6 v7:Option V),UseAt H' r v/\FirstN l ps st en i r/\σ=[!!a,~~~l,-~~~st,Bu (.int (((r.map Prod.snd).getD en:Nat):Int)),Bu (v),v5,v6,v7]) #[Same.refl _,Bv,.non,Bv,Bv,Bv,.inl #[rfl,rfl],.inl #[rfl,λj q h=>y4 h (bX j)],rfl] (λi σ H' _ h=>SqL.of (h.1 _ _ hX)) ?_ ?_]
   ·rintro i y σ H' p hy ⟨hs,r,v,v5,v6,v7,hu,hF,rfl⟩ hpn;obtain⟨rl,pr,hri,rfl,hqr⟩:=hI.getR hy;have hm:=ae hri;have hne:=BR.mpr (hN rl hm);have hrl:=hP rl hm;have s2:=hs.trans (zd (o:=.tup [.int (i:Nat),.ref pr]) hpn);have hq2:=zo s2 hqr;have hu2:=hu.same (zd (o:=.tup [.int (i:Nat),.ref pr]) hpn)
    rfl'
    refine#[_,SqT.of zc,rfl,_,_,rfl,_,_,rfl,rfl,_,rfl,_,hq2,_,rfl,_,rfl,_,hq2,_,rfl,_,#[by rw[zK];lia,rfl],QQ ⋯ (by rw[zK];lia) λz hz=>#[z,rfl,?_]];rw[zK]at hz;rcases hz with ⟨rfl,hn⟩ | ⟨k,rfl,k1,k2,k3,hn⟩
    ·rw[y9 ∅];exact#[s2,r,v,hu2,hF.keep hri λq q1 q2=>hn q ⋯ ⋯,rfl,rfl]
    ·rw[y6 ⋯];refine#[⋯,λp2 hp2=>#[s2.trans (zd hp2),Bu (i,k),.ref p2,.inr #[i,k,p2,rfl,rfl,zc],hF.take hri ⋯ ⋯ k3 λq q1 q2=>hn q ⋯ q2,rfl,rfl]]
   ·rintro σ H' ⟨hs,r,v,v5,v6,v7,hu,hF,rfl⟩;rw[hxl]at hF;exact#[hs,r,v,hu,hF,_,_,_,_,rfl]
  rintro σ H2 ⟨s2,r,v,v3,v5,v6,v7,hu,hF,rfl⟩:_;right
  rfl'
  exact q r v H2 s2 hu hF
structure zgM(mg:tw->Option sY):Prop where
 g:∃t,mg "WINDOW" = Bu (.int 128 t)
def Z8(K:sV):Sp:=λvs H Q _=>∃(a:sX) (l:()) (ps:List zu) (st:Nat),vs=[.ref a,.str (tx l),.int (st:Nat)]/\LsA K H a (ps.map dR)/\NeL ps/\(∀p ∈ ps,p.1.length<=1000)/\l.length<=100000/\∀(r:Option (Nat × Nat)) (v:V) (H':Hp),Same H H'->UseAt H' r v->FirstN l ps st l.length ps.length r->Q v H'
def Yq{a:sX}{l:()}{ps:List zu}{st:Nat}{s:Int}{H:Hp}{Q:VK}{E:XK}(hs:s=(st:Nat))(hA:LsA K H a (ps.map dR))(hN:NeL ps)(hP:∀p ∈ ps,p.1.length<=1000)(hl:l.length<=100000)(q:∀(r:Option (Nat × Nat)) (v:V) (H':Hp),Same H H'->UseAt H' r v->FirstN l ps st l.length ps.length r->Q v H'):Z8 K [.ref a,.str (tx l),.int s] H Q E:=by subst hs;exact#[a,l,ps,st,rfl,hA,hN,hP,hl,q]
def iu:sQz 3 ["rules","word","start","size","found"] vb:=by nofun
theorem Z9{f:sX}{fd:tj}(B:Bt mg)(T:zgM mg)(F:("first_from"^^^vb))(pT:(1<<<"first_within") ["rules","word","start","end"] [] (uV K)):(2&&&["rules","word","start"]) (Z8 K):=by
 obtain⟨t8,g8⟩:=T.g
 exists F.ok iu
 ·obtain⟨a,l,ps,st,rfl,hA,hN,hP,hl,q⟩:=h
  refine#[_,(zi (zC 3 iu.nd (yC (v:=.int 128) rfl g8 #[t8,rfl])) (zi (Z6 r9 (zy VH (pv 2) (zB B.len (pv 1)) (zA _)) (zG (zC 4 iu.nd (cl0 pT hr .nil rfl (za (pv 0) (za (pv 1) (za (pv 2) (za (zD yn (pv 2) (pv 3)) ze)))))) (zG (zN (zy op_notN' (pv 4) ym (zA _)) (zg (zl (pv 4)))
     zr) (zG (zC 2 iu.nd (zD yn (pv 2) (pv 3))) (zg (zC 3 iu.nd (zD kO (pv 3) zf))))))) (zg (zl ym)))),?_]
  have s16:=zW;have s16:=zW;change H'=H/\σ=[!!a,~~~l,-~~~st,~~~!128,Bv]
  ·rfl'
  rintro σ H1 ⟨rfl,rfl⟩:_;right;change Same H1 H'/\FirstN l ps st l.length ps.length Bv
  ·unfold WX;refine#[λm σ H'=>∃(s z:Nat) (v4:Option V),m=l.length - s/\st<=s/\1<=z/\Same H1 H'/\FirstN l ps st s ps.length Bv/\σ=[!!a,~~~l,-~~~s,-~~~z,v4],#[_,st,128,Bv,rfl,al _,∅,Same.refl _,.inl #[rfl,λj q _ h1 h2=>by lia],rfl],?_];rintro m σ H' ⟨s,z,v4,rfl,hs,hz,sm,hF,rfl⟩
   rfl'
   refine#[⋯,yE (λhlt=>?_) λhge=>#[sm,hF.toEnd hN λ_=>by lia]];refine#[λσ' H''=>∃v4:Option V,Same H1 H''/\FirstN l ps st (s+z) ps.length Bv/\σ'=[!!a,~~~l,Bu (.int ((s+z:Nat):Int)),Bu (.int ((z * 2:Nat):Int)),v4],λσ' H'' ⟨v4,a1,a2,a3⟩=>#[l.length - (s+z),⋯,s+z,rfl,⋯,z * 2,⋯,a1,a2,v4,a3],?_];refine XB (en:=s+z) rfl ⋯ (hA.same sm) hN hP λr v H2 s2 hu hF2=>?_;rcases hu with ⟨rfl,rfl⟩ | ⟨n,qq,p,rfl,rfl,hp⟩
   ·rw[y9 (λh=>h rfl)];exact#[.inr #[∅,∅],Bu .non,sm.trans s2,hF.window hs hF2,by push_cast;rfl]
   ·rw[y6 (by intro h;cases h)];exact q _ _ H2 (sm.trans s2) (.inr #[n,qq,p,rfl,rfl,hp]) ((hF.window hs hF2).toEnd hN (λe=>by cases e))
  rintro σ H2 ⟨s2,hF⟩:_;right
  rfl'
  exact q Bv .non H2 s2 (.inl #[rfl,rfl]) hF
def LsA.pushT{H:Hp}{D p:sX}{ds es:List L3.D}{xs vs:List V}(h1:H D=Bu (.lst xs))(h2:Iss K H ds xs)(hp:H p=Bv)(hv:Iss K H es vs)(f:z8 ds)(fe:z8 es):LsA K (upd (upd H p (.tup vs)) D (.lst (xs ++ [.ref p]))) D (ds ++ [.tup es]):=by have e:(upd H p (.tup vs)) D=Bu (.lst xs):=zd hp _ _ h1;exact LsA.snoc e (Iss.same (zd hp) _ _ h2) f (by erw[xB];exact fe) (Is.tup hp hv)
structure zbY(K:sV)(mg:tw->Option sY)(C:sX):Prop where
 xi:XI K C
 ini:ag K (.ref C) "__init__" = Bu (Bu (.builtin "ValueError.__init__"))
 g:mg "TooFar" = Bu (.ref C)
end in def dG(u:Nat × Nat):L3.D:=.tup [.int (u.1:Nat),.int (u.2:Nat),.bl Bw]
def zbJ(u:Nat × Nat):xB (dG u):=by erw[dG,xB,z8,and_self]
def JT(us:List (Nat × Nat)):z8 (us.map dG):=ve λd h=>by obtain⟨r,_,rfl⟩:=BC.mp h;exact zbJ r
def zfn{H:Hp}{n q:Nat}:Iss K H [.int (n:Nat),.int (q:Nat),.bl Bw] [.int (n:Nat),.int (q:Nat),.bl Bw]:=by
 erw[Iss,Is]
 exact#[_,_,rfl,rfl,_,_,rfl,rfl,_,_,rfl,rfl,rfl]
structure Rd(ps:List zu)(l:())(J:Nat):Prop where
 live:VZ ps l J
 len:∀j,j<=J->(wAt ps l j).length<=10000
 most:J<=10000
def xW(K:sV)(CF:sX):Sp:=λvs H Q E=>∃(a:sX) (l:()) (ps:List zu) (m:Int) (J:Nat),vs=[.ref a,.str (tx l),.int m]/\LsA K H a (ps.map dR)/\NeL ps/\ps.length<=100/\(∀p ∈ ps,p.1.length<=1000/\p.2.length<=1000)/\Rd ps l J /\
 ((zJ (wAt ps l J) ps=Bv/\(J:Int)<=m/\∀(p S:sX) (H':Hp),Same H H'->H' p=Bu (.tup [.ref S,.str (tx (wAt ps l J))])->LsA K H' S ((sAt ps l J).map dG)->H S=Bv->Q (.ref p) H') \/
  (zJ (wAt ps l J) ps≠Bv/\(J:Int)=m/\∀H',Same H H'->E (.ref CF) Bv H'))
theorem Uz{a:sX}{ps:List zu}{σ:L2.St}{H:Hp}{Q:VK}{D:sX}(hA:LsA K H a (ps.map dR))(hP:∀p ∈ ps,p.1.length<=1000)(hpl:ps.length<=100)(hD:H D=Bv)(q:∀H',Same H H'->H' D=Bu (.lst ((ps.map λp=>(p.1.length:Int)).map V.int))->Q (.ref D) H') :
  CompL K a (yK 0) xw (tCB (Wp K) (zL (tOp (vv K) (z6 0) (tC (.int 0))) xx)) 1 [] σ H Q D:=by
 have s16:=zW;obtain⟨xs,hX,hI⟩:=hA;have hxl:=hI.len;rw[ac]at hxl;refine CompL.by (xs:=xs) (λi BA H'=>Same H H'/\H' D=Bu (.lst BA)/\BA=((ps.take i).map λp=>(p.1.length:Int)).map V.int) #[zd hD,zc,rfl] (λi BA H' _ h=>SqL.of (h.1 _ _ hX)) ?_ ?_
 ·refine nm4 ?_;rintro i x BA H' hx ⟨hs,hH,rfl⟩:_;have hil:=(BB.mp hx).1;obtain⟨r,pr,hri,rfl,hqr⟩:=hI.getR hx;have hm:=hP r (ae hri);right
  erw[xw]
  rfl'
  refine#[yH,_,zo hs hqr,_,rfl,_,#[by rw[zK];lia,rfl],hH,by rw[ac,ac,aE];lia,CNx.mk hil #[zE hs hD,zc,?_]];rw[zV hri,au,au,zK];rfl
 ·rintro BA H' ⟨hs,hH,rfl⟩;rw[hxl,aJ]at hH;exact q H' hs hH
theorem zgi{H:Hp}{rs:List zu}{xs:List V}{i:Nat}{r:zu}(hI:Iss K H (rs.map dR) xs)(hi:rs[i]? = Bu r):∃p,atI xs (i:Int)=Bu (.ref p)/\SqT K H p [.str (tx r.1),.str (tx r.2)]:=by have hl:=hI.len;rw[ac]at hl;have hil:=(BB.mp hi).1;obtain⟨v,a1,b1⟩:=jD (xs:=xs) (i:=(i:Int)) ⋯ ⋯;obtain⟨r',p,h1,rfl,h3⟩:=hI.getR (j:=i) b1;rw[hi]at h1;cases h1;exact#[p,a1,h3]
def lr:sQz 3 ["rules","word","most","longest","steps","use","number","place"] vR:=by nofun
theorem zbN{f CU CF:sX}{fd:tj}{dV:sY}(B:Bt mg)(T:zbY K mg CF)(TU:DNU P w K mg base CU)(F:FunD K "gone" "gone" vR dV f fd)(og:(2<<<"first_from") ["rules","word","start"] [] (Z8 K))(rF:(3>>>"put") ["word","place","old","new"] [] (WW CU)):(4|||["rules","word","most"]) (xW K CF):=by
 exists FunD.okX F lr,0
 ·obtain⟨a,l,ps,m,J,rfl,hA,hN,hpl,hP,hR,hq⟩:=h
  refine#[_,(zi (zC 3 lr.nd (JA (zeN rfl) rfl B.max qL (za (yP (own:=["rule"]) (caps:=[]) (ix:=[]) (tt:=xw) (te:=(tCB (Wp K) (zL (tOp (vv K) (z6 0) (tC (.int 0))) xx))) rfl (zM (sc:=zh vR) rfl (!0) (!0) (!0) rfl (!0) (!0) rfl) (z9 (pv 0)) (λ_ _ _ _ _ _=>zt (i:=0) (show List.Nodup [_] by decide) rfl (.inl rfl)) (λ_ _ _ _ _ _=>yg) (λ_ _ _ _ _ _=>(zB B.len (!-0)))) ze) (QF zf za8))) (zi (zC 4 lr.nd (uK ze)) (zi (zC 5 lr.nd (cl0 og hr .nil rfl (za (pv 0) (za (pv 1) (za zf ze))))) (zi (Z6 PassesOwn.leaving (zy op_notN' (pv 5) ym (zA _)) (zi (zN (zy op_ge' (zB B.len (pv 4)) (pv 2) (zA _)) (zg (ye hx rfl T.xi.toXC T.ini rfl T.g (za yc ze)))
     zr) (zi (zC 6 lr.nd (!-5)) (zi (zC 7 lr.nd (!-5)) (zi (zC 1 lr.nd (clP hx rF hr .nil rfl (za (pv 1) (za (pv 7) (za (zk w4 (zk ix_list (pv 0) (pv 6)) zf) (za (zk w4 (zk ix_list (pv 0) (pv 6)) zf) ze)))))) (zi (vn (ux bV cI cJ wQ (pv 4) (za (zS (za (pv 6) (za (pv 7) (za yt ze)))) ze))) (zg (zC 5 lr.nd (cl0 og hr .nil rfl (za (pv 0) (za (pv 1) (za (yu (Uy rfl) rfl B.max qL (za zf (za (zD yn (zD ut (pv 7) (pv 3)) zf) ze))) ze)))))))))))) (zg (zl (zS (za (pv 4) (za (pv 1) ze))))))))),?_]
  have s16:=zW;have s16:=zW;change Same H H'/\∃M:Int,(∀p ∈ ps,(p.1.length:Int)<=M)/\σ=[!!a,~~~l,~~~!m,~~~!M,Bv,Bv,Bv,Bv]
  ·rfl'
   erw[zgK]
   rfl'
   obtain⟨xs,hX,hI⟩:=id hA;exact#[#[_,SqL.of hX],λD hD=>Uz hA (λp hp=>(hP p hp).1) hpl hD λH' s' hH=>#[D,_,0,rfl,rfl,SqL.of hH,λz _ hz=>#[s',z,λp hp=>hz _ (BC.mpr #[p,hp,rfl]),rfl]]]
  rintro σ H1 ⟨s1,M,hM,rfl⟩:_;right;change Same H H'/\∃S:sX,H S=Bv/\H' S=Bu (.lst [])/\σ=[!!a,~~~l,~~~!m,~~~!M,!!S,Bv,Bv,Bv]
  ·rfl'
   exact#[⋯,λp hp=>#[s1.trans (zd hp),p,s1.free hp,zc,rfl]]
  rintro σ H2 ⟨s2,S,hSn,hS,rfl⟩:_;right;change Same H H'/\H' S=Bu (.lst [])/\∃uv:V,UseAt H' (zJ l ps) uv/\σ=[!!a,~~~l,~~~!m,~~~!M,!!S,Bu (uv),Bv,Bv]
  ·rfl'
   exact Yq (st:=0) rfl (hA.same s2) hN (λp hp=>(hP p hp).1) (by have:=hR.len 0 (aG _);exact aK this ∅) λr v H' s' hu hF=>#[s2.trans s',s' _ _ hS,(by rw[W5 hF]at hu;exact hu)]
  rintro σ H3 ⟨s3,hS3,uv,hu,rfl⟩:_;right;change Same H H'/\zJ (wAt ps l J) ps=Bv/\LsA K H' S ((sAt ps l J).map dG)/\∃v5 v6 v7,σ=[!!a,Bu (.str (tx (wAt ps l J))),~~~!m,~~~!M,!!S,v5,v6,v7]
  ·unfold WX;refine#[λk σ H'=>∃(j:Nat) (uv:V) (v6 v7:Option V),k=J - j/\j<=J/\Same H H'/\LsA K H' S ((sAt ps l j).map dG)/\UseAt H' (zJ (wAt ps l j) ps) uv/\σ=[!!a,Bu (.str (tx (wAt ps l j))),~~~!m,~~~!M,!!S,Bu (uv),v6,v7],#[_,0,uv,Bv,Bv,rfl,aG _,s3,#[[],hS3,by erw[sAt,List.range_zero,aO,Iss]],hu,rfl],?_];rintro k σ H' ⟨j,uv,v6,v7,rfl,hj,hs,hL,hu,rfl⟩;have hlj:=hR.len j hj;have hRm:=hR.most;obtain⟨xs,hX,hI⟩:=id hA
   rfl'
   refine yE (λhne=>?_) λhne=>?_
   ·rcases hu with ⟨_,h⟩ | ⟨n,q0,p,hf,rfl,hp⟩
    ·exact y4 h hne
    have hF:=WH (wAt ps l j) ps hN;rw[hf]at hF
    have hjJ:j<J\/(j=J/\(J:Int)=m/\∀H',Same H H'->E (.ref CF) Bv H'):=by
     by_cases e:j=J
     ·subst e;rcases hq with ⟨h,_⟩ | ⟨_,h1,h2⟩
      ·rw[hf]at h;cases h
      ·exact .inr #[rfl,h1,h2]
     ·exact .inl ⋯
    have hJm:(J:Int)<=m:=by
     rcases hq with ⟨_,h,_⟩ | ⟨_,h,_⟩ <;> lia
    obtain⟨rl,hrl,hst⟩:∃rl,ps[n]? = Bu rl/\zx (wAt ps l j) (q0:Int) rl.1=Bw:=by
     rcases hF with ⟨h,_⟩ | ⟨n0,q1,e,_,_,_,a4,_⟩
     ·cases h
     ·cases e;exact (vp a4).2
    have hlp:=hP rl (ae hrl);have hw:=wn hf;obtain⟨pr,hai,hqr⟩:=zgi hI hrl;refine#[λσ' H''=>∃(uv:V) (v6 v7:Option V),j<J/\Same H H''/\LsA K H'' S ((sAt ps l (j+1)).map dG)/\UseAt H'' (zJ (wAt ps l (j+1)) ps) uv/\σ'=[!!a,Bu (.str (tx (wAt ps l (j+1)))),~~~!m,~~~!M,!!S,Bu (uv),v6,v7],λσ' H'' ⟨uv,v6,v7,a0,a1,a2,a3,a4⟩=>#[J - (j+1),⋯,j+1,rfl,⋯,a1,a2,uv,a3,v6,v7,a4],?_];obtain⟨ys,hY,hJ2⟩:=id hL;have hyl:=hJ2.len;rw[ac,qY]at hyl;refine zj (λσ' H''=>H''=H'/\j<J/\σ'=[!!a,Bu (.str (tx (wAt ps l j))),~~~!m,~~~!M,!!S,!!p,v6,v7]) ?_ ?_
    ·rfl'
     refine#[_,.inl #[_,SqL.of hY,rfl],yE (λhge=>?_) λhge=>?_]
     ·rcases hjJ with h | ⟨_,_,h⟩
      ·lia
      ·exact#[⋯,h _ hs]
     ·rcases hjJ with h | ⟨e,h,_⟩
      ·exact h
      ·lia
    rintro σ' G1 ⟨rfl,hlt,rfl⟩:_;right;refine zj (λσ' H''=>H''=G1/\σ'=[!!a,Bu (.str (tx (wAt ps l j))),~~~!m,~~~!M,!!S,!!p,-~~~n,v7]) ?_ ?_
    ·rfl'
     exact#[_,SqT.of hp,rfl]
    rintro σ' G2 ⟨rfl,rfl⟩:_;right;refine zj (λσ' H''=>H''=G2/\σ'=[!!a,Bu (.str (tx (wAt ps l j))),~~~!m,~~~!M,!!S,!!p,-~~~n,-~~~q0]) ?_ ?_
    ·rfl'
     exact#[_,SqT.of hp,rfl]
    rintro σ' G3 ⟨rfl,rfl⟩:_;right;refine zj (λσ' H''=>H''=G3/\σ'=[!!a,Bu (.str (tx (wAt ps l (j+1)))),~~~!m,~~~!M,!!S,!!p,-~~~n,-~~~q0]) ?_ ?_
    ·rfl'
     have hq2:=zo hs hqr;exact#[_,SqL.of (hs _ _ hX),_,hai,_,rfl,_,hq2,_,rfl,_,SqL.of (hs _ _ hX),_,hai,_,rfl,_,hq2,_,rfl,wAt ps l j,rl.1,rl.2,(q0:Nat),rfl,hlj,by have:=hlp.1;lia,by have:=hlp.2;lia,λ_=>#[rfl,by rw[hw];unfold Y7;rw[xG hrl]],λh=>by rw[hst]at h;cases h]
    rintro σ' G4 ⟨rfl,rfl⟩:_;right;refine zj (λσ' H''=>Same H H''/\LsA K H'' S ((sAt ps l (j+1)).map dG)/\σ'=[!!a,Bu (.str (tx (wAt ps l (j+1)))),~~~!m,~~~!M,!!S,!!p,-~~~n,-~~~q0]) ?_ ?_
    ·rfl'
     refine#[.inl #[_,SqL.of hY],⋯,λt ht=>#[_,zd ht _ _ hY,⋯,zE (hs.trans (zd ht)) hSn,?_]];rw[Wu,hf,au];exact LsA.pushT hY hJ2 ht zfn (JT _) (by erw[z8,xB,and_self])
    rintro σ' G5 ⟨s5,hL5,rfl⟩:_;have hl1:=hR.len (j+1) hlt;have hM0:=hM rl (ae hrl);right
    rfl'
    refine Yq (st:=(if (q0:Int) - M+1 > 0 then (q0:Int) - M+1 else 0).toNat) (by split <;> lia) (hA.same s5) hN (λp hp=>(hP p hp).1) (aK hl1 ∅) λr v H' s' hu hF2=>#[hlt,s5.trans s',hL5.same s',?_];have hb:=V0 (M:=M.toNat) (lo:=(if (q0:Int) - M+1 > 0 then (q0:Int) - M+1 else 0).toNat) hF hN (λp hp=>by have:=hM p hp;lia) (by split <;> lia);rw[<- hw]at hb;rw[W5 (hb.window (aG _) hF2)]at hu;exact hu
   ·have hv:uv=.non:=Decidable.not_not.mp hne
    have hf:zJ (wAt ps l j) ps=Bv:=by
     rcases hu with ⟨h,_⟩ | ⟨_,_,_,_,h,_⟩
     ·exact h
     ·rw[hv]at h;cases h
    have e:j=J:=by
     rcases dU j J with h | h
     ·exact y4 hf (hR.live j h)
     ·lia
    subst e;exact#[hs,hf,hL,rfl]
  rintro σ H4 ⟨s4,hF,hL,v5,v6,v7,rfl⟩:_;right
  rfl'
  rcases hq with ⟨_,_,hq⟩ | ⟨h,_⟩
  ·exact#[⋯,λp hp=>hq p S _ (s4.trans (zd hp)) zc (hL.same (zd hp)) hSn]
  ·exact y4 hF h
end in abbrev Stp:=Int × Int × Bool
end in def dSt(t:Stp):D:=.tup [.int t.1,.int t.2.1,.bl t.2.2]
end in def sdl(r:zu)(f:Bool):zu:=if f=Bw then r else (r.2,r.1)
end in def yJ(ps:List zu)(w:())(t:Stp):Option (()) :=
 if 0<=t.1/\t.1<ps.length then (if zx w t.2.1 (sdl (ps.getD t.1.toNat ([],[])) t.2.2).1=Bw then Bu (yV w t.2.1 (sdl (ps.getD t.1.toNat ([],[])) t.2.2).1 (sdl (ps.getD t.1.toNat ([],[])) t.2.2).2)else Bv)else Bv
def JQ{H:Hp}{D p:sX}{ds es:List L3.D}{xs vs:List V}(h1:H D=Bu (.lst xs))(h2:Iss K H ds xs)(hp:H p=Bv)(hv:Iss K H es vs)(f:z8 ds)(fe:z8 es):LsA K (upd (upd H p (.tup vs)) D (.lst (xs ++ [.ref p]))) D (ds ++ [.tup es]):=by have e:(upd H p (.tup vs)) D=Bu (.lst xs):=zd hp _ _ h1;exact LsA.snoc e (Iss.same (zd hp) _ _ h2) f (by erw[xB];exact fe) (Is.tup hp hv)
def zbZ{H:Hp}{l m:()}:Iss K H [dS l,dS m] [.str (tx l),.str (tx m)]:=by
 erw[Iss,Is]
 exact#[_,_,rfl,rfl,_,_,rfl,rfl,rfl]
def ZL(rs:List zu):Prop:=rs.length<=30/\∀r ∈ rs,r.1.length<=100/\r.2.length<=100
def za3{H:Hp}{t:Stp}{v:V}(h:Is K H (dSt t) v):∃p,v=.ref p/\SqT K H p [.int t.1,.int t.2.1,.bl t.2.2]:=by
 erw[dSt,Is,Iss]at h
 obtain⟨a,xs,e,hs,v1,r1,rfl,rfl,v2,r2,rfl,rfl,v3,r3,rfl,rfl,rfl⟩:=h;exact#[a,e,hs]
def X8{H:Hp}{p:sX}{t:Stp}(h:SqT K H p [.int t.1,.int t.2.1,.bl t.2.2]):Is K H (dSt t) (.ref p):=by
 erw[dSt,Is,Iss]
 exact#[p,_,rfl,h,_,_,rfl,rfl,_,_,rfl,rfl,_,_,rfl,rfl,rfl]
def za0{H:Hp}{i j:Int}{b:Bool}:Iss K H [.int i,.int j,.bl b] [.int i,.int j,.bl b]:=by
 erw[Iss,Is]
 exact#[_,_,rfl,rfl,_,_,rfl,rfl,_,_,rfl,rfl,rfl]
def uo(rs:List Stp):z8 (rs.map dSt):=ve λd h=>by obtain⟨r,_,rfl⟩:=BC.mp h;erw[dSt,xB,z8,and_self]
theorem zbQ(rs:List Stp):vG (rs.map dSt)<=1:=ZZ λd h=>by obtain⟨r,_,rfl⟩:=BC.mp h;erw[dSt,dpD,vG];lia
def uJ{H:Hp}{rs:List Stp}{vs:List V}{j:Nat}{v:V}(h:Iss K H (rs.map dSt) vs)(q:vs[j]? = Bu v):∃r p,rs[j]? = Bu r/\v=.ref p/\SqT K H p [.int r.1,.int r.2.1,.bl r.2.2]:=by obtain⟨d,e,i⟩:=h.get q;rw[ar]at e;obtain⟨r,hr,rfl⟩:=BH.mp e;obtain⟨p,e1,e2⟩:=za3 i;exact#[r,p,hr,e1,e2]
theorem zeH{H:Hp}{rs:List zu}{xs:List V}{i:Int}(hI:Iss K H (rs.map dR) xs)(h0:0<=i)(hi:i<rs.length):∃p,atI xs i=Bu (.ref p)/\rs[i.toNat]? = Bu (rs.getD i.toNat ([],[]))/\SqT K H p [.str (tx (rs.getD i.toNat ([],[])).1),.str (tx (rs.getD i.toNat ([],[])).2)]:=by
 have hl:=hI.len;rw[ac]at hl;obtain⟨v,a1,b1⟩:=jD (xs:=xs) (i:=i) h0 ⋯;obtain⟨r,p,h1,rfl,h3⟩:=hI.getR b1;have e:rs.getD i.toNat ([],[])=r:=by rw[af,h1];rfl
 rw[e];exact#[p,a1,h1,h3]
theorem Y9{rs:List zu}(h:ZL rs)(i:Nat):(rs.getD i ([],[])).1.length<=100/\(rs.getD i ([],[])).2.length<=100:=by
 rw[af]
 cases e:rs[i]? with
 | none=>exact#[aG _,aG _]
 | some r=>exact h.2 r (ae e)
def xA{ps:List zu}{w:()}{t:Stp}(h:¬ (0<=t.1/\t.1<ps.length)):yJ ps w t=Bv:=y9 h
def xl{ps:List zu}{w:()}{t:Stp}(h:0<=t.1/\t.1<ps.length):yJ ps w t=if zx w t.2.1 (sdl (ps.getD t.1.toNat ([],[])) t.2.2).1=Bw then Bu (yV w t.2.1 (sdl (ps.getD t.1.toNat ([],[])) t.2.2).1 (sdl (ps.getD t.1.toNat ([],[])) t.2.2).2)else Bv:=y6 h
def Ch(rs:List zu)(ws:List (()))(ss:List Stp):Prop:=ws.length=ss.length+1/\∀i s,ss[i]? = Bu s->∃w w',ws[i]? = Bu w/\ws[i+1]? = Bu w'/\yJ rs w s=Bu w'
end in def bk(s:Stp):Stp:=(s.1,s.2.1,!s.2.2)
end in def yX(ss:List Stp):List Stp:=ss.reverse.map bk
end in def mvL(ss:List Stp)(z:Int):List Stp:=ss.map λs=>(s.1,s.2.1+z,s.2.2)
def zbh(r:zu)(f:Bool):sdl r (!f)=((sdl r f).2,(sdl r f).1):=by cases f <;> rfl
def kQ{rs:List zu}{w w':()}{s:Stp}(h:yJ rs w s=Bu w'):yJ rs w' (bk s)=Bu w:=by
 by_cases hb:0<=s.1/\s.1<rs.length
 ·rw[xl hb]at h;have hb':0<=(bk s).1/\(bk s).1<rs.length:=hb;rw[xl hb']
  erw[bk,zbh]
  generalize sdl (rs.getD s.1.toNat ([],[])) s.2.2=r at *;by_cases hs:zx w s.2.1 r.1=Bw
  ·rw[y6 hs]at h;cases h;obtain⟨e1,e2⟩:=Ww r.2 hs;rw[y6 e1,e2]
  ·rw[y9 hs]at h;cases h
 ·rw[xA hb]at h;cases h
theorem Ch.back{rs:List zu}{ws:List (())}{ss:List Stp}(h:Ch rs ws ss):Ch rs ws.reverse (yX ss):=by
 obtain⟨hl,hs⟩:=h;refine#[by simp [yX,hl],λi s hi=>?_];have hil:i<ss.length:=by have:=(BB.mp hi).1;simpa [yX] using this
 unfold yX at hi;rw[ar,bz hil]at hi;obtain⟨s0,h0,rfl⟩:=BH.mp hi;obtain⟨w,w',e1,e2,e3⟩:=hs _ _ h0;refine#[w',w,?_,?_,kQ e3]
 ·rw[bz ⋯,<- e2];congr 1;lia
 ·rw[bz ⋯,<- e1];congr 1;lia
def WO{a w b:()}{k:Nat}(h:k<=w.length):(a ++ w ++ b).drop (a.length+k)=w.drop k ++ b:=by rw[ao,<- cU,cC,bD h]
theorem ZA{a w b o:()}{k:Int}(h:zx w k o=Bw):zx (a ++ w ++ b) (k+(a.length:Int)) o=Bw:=by obtain⟨_,_,h0,h1⟩:=xj h;unfold zx at h ⊢;rw[decide_eq_true_eq]at h ⊢;obtain⟨_,_,h2⟩:=h;refine#[⋯,by erw[aj];lia,?_];rw[show (k+(a.length:Int)).toNat=a.length+k.toNat by lia,WO ⋯,aR (by rw[aS];lia),h2]
theorem VP{a w b o n:()}{k:Int}(h:zx w k o=Bw):yV (a ++ w ++ b) (k+(a.length:Int)) o n=a ++ yV w k o n ++ b:=by
 obtain⟨_,_,h0,h1⟩:=xj h;unfold yV;rw[show (k+(a.length:Int)).toNat=a.length+k.toNat by lia]
 have e1:(a ++ w ++ b).take (a.length+k.toNat)=a ++ w.take k.toNat:=by
  rw[ao,List.take_length_add_append,aR ⋯]
 have e2:(a ++ w ++ b).drop (a.length+k.toNat+o.length)=w.drop (k.toNat+o.length) ++ b:=by
  rw[Nat.add_assoc];exact WO ⋯
 rw[e1,e2];simp [ao]
def qp{rs:List zu}{w w':()}{s:Stp}(a b:())(h:yJ rs w s=Bu w'):yJ rs (a ++ w ++ b) (s.1,s.2.1+(a.length:Int),s.2.2)=Bu (a ++ w' ++ b):=by
 by_cases hb:0<=s.1/\s.1<rs.length
 ·rw[xl hb]at h;rw[xl (by exact hb)];simp only;generalize sdl (rs.getD s.1.toNat ([],[])) s.2.2=r at *;by_cases hs:zx w s.2.1 r.1=Bw
  ·rw[y6 hs]at h;cases h;rw[y6 (ZA hs),VP hs]
  ·rw[y9 hs]at h;cases h
 ·rw[xA hb]at h;cases h
def Ch.within{rs:List zu}{ws:List (())}{ss:List Stp}(a b:())(h:Ch rs ws ss):Ch rs (ws.map λw=>a ++ w ++ b) (mvL ss (a.length:Int)):=by obtain⟨hl,hs⟩:=h;refine#[by simp [mvL,hl],λi s hi=>?_];unfold mvL at hi;rw[ar]at hi;obtain⟨s0,h0,rfl⟩:=BH.mp hi;obtain⟨w,w',e1,e2,e3⟩:=hs _ _ h0;exact#[a ++ w ++ b,a ++ w' ++ b,by rw[ar,e1];rfl,by rw[ar,e2];rfl,qp a b e3]
theorem Kg{w o n:()}{k:Int}(h:zx w k o=Bw):(yV w k o n).length+o.length=w.length+n.length:=by
 obtain⟨e,hl,h0,h1⟩:=xj h;unfold yV
 erw[aj,aS,hl]
 lia
def uz{H:Hp}{D p:sX}{ds es:List L3.D}{xs vs:List V}(h1:H D=Bu (.lst xs))(h2:Iss K H ds xs)(hp:H p=Bv)(hv:Iss K H es vs)(f:z8 ds)(fe:z8 es):Iss K (upd (upd H p (.tup vs)) D (.lst (xs ++ [.ref p]))) (ds ++ [.tup es]) (xs ++ [.ref p]):=by obtain⟨ys,hy1,hy2⟩:=JQ h1 h2 hp hv f fe;rw[zc]at hy1;cases hy1;exact hy2
def uS(K:sV):Sp:=λvs H Q _=>∃(t:sX) (ss:List Stp),vs=[.ref t]/\Is K H (.lst (ss.map dSt)) (.ref t)/\ss.length<=1000/\∀(D:sX) (H':Hp),H D=Bv->Same H H'->LsA K H' D ((yX ss).map dSt)->Q (.ref D) H'
def qP{t:sX}{ss:List Stp}{H:Hp}{Q:VK}{E:XK}(h1:Is K H (.lst (ss.map dSt)) (.ref t))(h2:ss.length<=1000)(h:∀(D:sX) (H':Hp),H D=Bv->Same H H'->LsA K H' D ((yX ss).map dSt)->Q (.ref D) H'):uS K [.ref t] H Q E:=#[t,ss,rfl,h1,h2,h]
def zca{ss:List Stp}{i:Nat}{s:Stp}(h:ss.reverse[i]? = Bu s):(yX ss).take (i+1)=(yX ss).take i ++ [bk s]:=zV (by unfold yX;rw[ar,h];rfl)
def zbK:sQz 1 ["steps"] Ve:=by nofun
theorem zck{f:sX}{fd:tj}(B:Bt mg)(F:("back"^^^Ve)) :(1&&&["steps"]) (uS K):=by
 exists F.ok zbK
 ·obtain⟨t,ss,rfl,hT,hsl,q⟩:=h;refine#[_,(zg (zl (yP (own:=["step"]) (caps:=[]) (ix:=[]) (tt:=xw) (te:=(Jl (zL (tOp (vv K) (z6 0) (tC (.int 0))) (zL (tOp (vv K) (z6 0) (tC (.int 1))) (zL (Uj (tOp (vv K) (z6 0) (tC (.int 2)))) xx))))) rfl (zM (sc:=zh Ve) rfl (!0) (!0) (!0) rfl (!0) (!0) rfl) (zdC rfl B.rev (za (pv 0) ze)) (λ_ _ _ _ _ _=>zt (i:=0) (show List.Nodup [_] by decide) rfl (.inl rfl)) (λ_ _ _ _ _ _=>yg) (λ_ _ _ _ _ _=>(zS (za (!-0) (za (!-0) (za (zap (!-0)) ze)))))))),?_];have s16:=zW
  rfl'
  erw[Is]at hT
  obtain⟨_,ts,e,hTs,hJ⟩:=hT;cases e;have htl:=hJ.len;rw[ac]at htl;have hbl:(yX ss).length=ss.length:=by simp [yX]
  refine#[ts,hTs,λD hD=>CompV.by (xs:=ts) (λi BA H'=>Same H H'/\H' D=Bu (.lst BA)/\Iss K H' (((yX ss).take i).map dSt) BA) #[zd hD,zc,by erw[bN,aO,Iss]] (λi BA H' _ h=>h.1.seq hTs) ?_ ?_]
  ·refine nm4 ?_;rintro i x BA H' hx ⟨hs,hH,hA⟩:_;have hi:i<ts.length:=by have:=(BB.mp hx).1;simpa using this
   rw[bz hi]at hx;obtain⟨s,ps,hsi,rfl,hqs⟩:=uJ hJ hx;have hsr:ss.reverse[i]? = Bu s:=by rw[bz ⋯,<- hsi,htl]
   have hal:=hA.len;rw[ac,aE]at hal;right
   erw[xw]
   rfl'
   refine#[yH,_,zo hs hqs,_,rfl,_,zo hs hqs,_,rfl,_,zo hs hqs,_,rfl,_,rfl,⋯,λp hp=>#[zd hp _ _ hH,⋯,CNx.mk hi #[zE (hs.trans (zd hp)) hD,zc,?_]]];rw[zca hsr,au];exact uz hH hA hp za0 (uo _) (by erw[z8,xB,and_self])
  ·rintro BA H' ⟨hs,hH,hA⟩;rw[htl,<- hbl,aJ]at hA;exact q D H' hD hs #[BA,hH,hA]
def Z5(K:sV):Sp:=λvs H Q _=>∃(t:sX) (ss:List Stp) (z:Int),vs=[.ref t,.int z]/\Is K H (.lst (ss.map dSt)) (.ref t)/\ss.length<=1000/\∀(D:sX) (H':Hp),H D=Bv->Same H H'->LsA K H' D ((mvL ss z).map dSt)->Q (.ref D) H'
def YV{t:sX}{ss:List Stp}{z:Int}{H:Hp}{Q:VK}{E:XK}(h1:Is K H (.lst (ss.map dSt)) (.ref t))(h2:ss.length<=1000)(h:∀(D:sX) (H':Hp),H D=Bv->Same H H'->LsA K H' D ((mvL ss z).map dSt)->Q (.ref D) H'):Z5 K [.ref t,.int z] H Q E:=#[t,ss,z,rfl,h1,h2,h]
def zah:sQz 2 ["steps","size"] Zf:=by nofun
theorem K7{f:sX}{fd:tj}(B:Bt mg)(F:("moved"^^^Zf)) :(1&&&["steps","size"]) (Z5 K):=by
 exists F.ok zah
 ·obtain⟨t,ss,z,rfl,hT,hsl,q⟩:=h;refine#[_,(zg (zl (yP (own:=["step"]) (caps:=["size"]) (ix:=[1]) (tt:=xw) (te:=(Jl (zL (tOp (vv K) (z6 0) (tC (.int 0))) (zL (tOp Y1 (tOp (vv K) (z6 0) (tC (.int 1))) (z6 1)) (zL (tOp (vv K) (z6 0) (tC (.int 2))) xx))))) rfl (zM (sc:=zh Zf) rfl (!0) (!0) (!0) rfl (!0) (!0) rfl) (z9 (pv 0)) (λ_ _ _ _ _ _=>zt (i:=0) (show List.Nodup [_,_] by decide) rfl (.inl rfl)) (λ_ _ _ _ _ _=>yg) (λ_ _ _ _ _ _=>(zS (za (!-0) (za (zD uO (!-0) (pv 1)) (za (!-0) ze)))))))),?_];have s16:=zW
  rfl'
  erw[Is]at hT
  obtain⟨_,ts,e,hTs,hJ⟩:=hT;cases e;have htl:=hJ.len;rw[ac]at htl;have hbl:(mvL ss z).length=ss.length:=by simp [mvL]
  refine#[#[ts,hTs],λD hD=>CompL.by (xs:=ts) (λi BA H'=>Same H H'/\H' D=Bu (.lst BA)/\Iss K H' (((mvL ss z).take i).map dSt) BA) #[zd hD,zc,by erw[bN,aO,Iss]] (λi BA H' _ h=>h.1.seq hTs) ?_ ?_]
  ·refine nm4 ?_;rintro i x BA H' hx ⟨hs,hH,hA⟩:_;have hi:=(BB.mp hx).1;obtain⟨s,ps,hsi,rfl,hqs⟩:=uJ hJ hx;have hm:(mvL ss z)[i]? = Bu (s.1,s.2.1+z,s.2.2):=by unfold mvL;rw[ar,hsi];rfl
   have hal:=hA.len;rw[ac,aE]at hal;right
   erw[xw]
   rfl'
   refine#[yH,_,zo hs hqs,_,rfl,_,zo hs hqs,_,rfl,_,zo hs hqs,_,rfl,⋯,λp hp=>#[zd hp _ _ hH,⋯,CNx.mk hi #[zE (hs.trans (zd hp)) hD,zc,?_]]];rw[zV hm,au];exact uz hH hA hp za0 (uo _) (by erw[z8,xB,and_self])
  ·rintro BA H' ⟨hs,hH,hA⟩;rw[htl,<- hbl,aJ]at hA;exact q D H' hD hs #[BA,hH,hA]
end in abbrev Ent:=() × () × List Stp
variable{E:XK}{H:Hp}{Q:VK}{a:sX}{bs:List Ent}{e:Ent}{es:List Ent}{f:sX}{fd:tj}{i:Nat}{k:Nat}{n:Nat}{ns:List Int}{ps:List zu}{rs:List zu}{ss:List Stp}{ws:List Int}
end in def dE(e:Ent):L3.D:=.tup [dS e.1,dS e.2.1,.lst (e.2.2.map dSt)]
end in def VY(es:List Ent)(u:Stp):List Stp:=mvL (if u.2.2=Bw then (es.getD u.1.toNat ([],[],[])).2.2 else yX (es.getD u.1.toNat ([],[],[])).2.2) u.2.1
end in def byL(es:List Ent)(us:List Stp):List Stp:=us.flatMap (VY es)
def zen{v:V}(h:Is K H (dE e) v):∃p s,v=.ref p/\SqT K H p [.str (tx e.1),.str (tx e.2.1),.ref s]/\Is K H (.lst (e.2.2.map dSt)) (.ref s):=by
 erw[dE,Is,Iss]at h
 obtain⟨a,xs,e0,hs,v1,r1,rfl,rfl,v2,r2,rfl,rfl,v3,r3,rfl,⟨s,zs,rfl,h1,h2⟩,rfl⟩:=h;refine#[a,s,e0,hs,?_]
 erw[Is]
 exact#[s,zs,rfl,h1,h2]
theorem zg4{xs:List V}{i:Int}(hI:Iss K H (es.map dE) xs)(h0:0<=i)(hi:i<es.length):∃p s,atI xs i=Bu (.ref p)/\es[i.toNat]? = Bu (es.getD i.toNat ([],[],[]))/\SqT K H p [.str (tx (es.getD i.toNat ([],[],[])).1),.str (tx (es.getD i.toNat ([],[],[])).2.1),.ref s]/\Is K H (.lst ((es.getD i.toNat ([],[],[])).2.2.map dSt)) (.ref s):=by
 have hl:=hI.len;rw[ac]at hl;obtain⟨v,a1,b1⟩:=jD (xs:=xs) (i:=i) h0 ⋯;obtain⟨d,e,ix⟩:=hI.get b1;rw[ar]at e;obtain⟨r,hr,rfl⟩:=BH.mp e;have e:es.getD i.toNat ([],[],[])=r:=by rw[af,hr];rfl
 rw[e];obtain⟨p,s,rfl,h2,h3⟩:=zen ix;exact#[p,s,a1,hr,h2,h3]
def WN(ss:List Stp)(z:Int):(mvL ss z).length=ss.length:=by simp [mvL]
def xm(ss:List Stp):(yX ss).length=ss.length:=by simp [yX]
def Qb(K:sV):Sp:=λvs H Q _=>∃(a t:sX) (es:List Ent) (us:List Stp),vs=[.ref a,.ref t]/\Is K H (.lst (es.map dE)) (.ref a)/\Is K H (.lst (us.map dSt)) (.ref t)/\us.length<=100/\(∀e ∈ es,e.2.2.length<=600)/\(∀u ∈ us,0<=u.1/\u.1<es.length)/\∀(D:sX) (H':Hp),H D=Bv->Same H H'->LsA K H' D ((byL es us).map dSt)->Q (.ref D) H'
def mj:sQz 2 ["entries","steps","chain","step","own"] qc:=by nofun
theorem X4(B:Bt mg)(F:("by_pacts"^^^qc))(sv:(1<<<"moved") ["steps","size"] [] (Z5 K))(mM:(1<<<"back") ["steps"] [] (uS K)):(2&&&["entries","steps"]) (Qb K):=by
 exists F.ok mj
 ·obtain⟨a,t,es,us,rfl,hE,hU,hul,hel,hub,q⟩:=h
  refine#[_,(zi (zC 2 mj.nd (uK ze)) (zi (z7 r9 rfl (z9 (pv 1)) (zt (i:=3) mj.nd rfl (.inl rfl)) (zi (zC 4 mj.nd (zk w4 (zk ix_list (pv 0) (!-3)) zf)) (zg (vn (ux bV PySem.F.slot_list_extend PySem.F.type_list_extend Q8 (pv 2) (za (cl0 sv hr .nil rfl (za (vF (yF (!-3) (λ_=>rfl)) (pv 4) (cl0 mM hr .nil rfl (za (pv 4) ze))) (za (!-3) ze))) ze)))))) (zg (zl (pv 2))))),?_]
  have s16:=zW;have hE':=hE;have hU':=hU
  erw[Is]at hE' hU'
  obtain⟨_,xs,e,hX,hI⟩:=hE';cases e;obtain⟨_,ts,e,hTs,hJ⟩:=hU';cases e;have htl:=hJ.len;rw[ac]at htl;change ∃D,H D=Bv/\Same H H'/\H' D=Bu (.lst [])/\σ=[!!a,!!t,!!D,Bv,Bv]
  ·rfl'
   exact#[⋯,λp hp=>#[p,hp,zd hp,zc,rfl]]
  rintro σ H1 ⟨D,hD,s1,hD1,rfl⟩:_;right;change Same H H'/\LsA K H' D ((byL es us).map dSt)/\∃v3 v4,σ=[!!a,!!t,!!D,v3,v4]
  ·rfl'
   refine#[#[_,s1.seq hTs],ForL.by (xs:=ts) (λi σ H'=>Same H H'/\LsA K H' D ((byL es (us.take i)).map dSt)/\(byL es (us.take i)).length<=i * 600/\∃v3 v4,σ=[!!a,!!t,!!D,v3,v4]) #[s1,#[[],hD1,by erw[bN,byL,List.flatMap_nil,aO,Iss]],by simp [byL],_,_,rfl] (λi σ H' _ h=>h.1.seq hTs) ?_ ?_]
   ·refine nm4 ?_;rintro i x σ H' hx ⟨hs,hL,hl,v3,v4,rfl⟩:_;obtain⟨u,pu,hui,rfl,hqu⟩:=uJ hJ hx;have hil:=(BB.mp hui).1;obtain⟨u0,u1⟩:=hub u (ae hui);obtain⟨pe,se,g1,g2,g3,g4⟩:=zg4 hI u0 u1;have hle:=hel _ (ae g2)
    have hby:byL es (us.take (i+1))=byL es (us.take i) ++ VY es u:=by
     unfold byL;rw[zV hui,dh];simp
    right
    erw[yK,aX,aW]
    refine zj (λσ H''=>H''=H'/\σ=[!!a,!!t,!!D,!!pu,!!se]) ?_ ?_
    ·rfl'
     exact#[_,zo hs hqu,_,rfl,_,rfl,_,hs.seq hX,_,g1,_,rfl,_,zo hs g3,rfl]
    rintro σ G ⟨rfl,rfl⟩:_;obtain⟨zs,hZ,hZI⟩:=id hL;have hzl:=hZI.len;rw[ac]at hzl;have hse:=Is.same hs _ _ g4
    have fin:∀(ws:List Stp) (M:sX) (G2:Hp),VY es u=ws->ws.length<=600->Same G G2->LsA K G2 M (ws.map dSt)->UK (V.ref D) [V.ref M] G2 λx H1=>Same H H1/\LsA K H1 D ((byL es (us.take (i+1))).map dSt)/\(byL es (us.take (i+1))).length<=(i+1) * 600:=λws M G2 ew hwl sg hM=>by
     obtain⟨ys,hY,hYI⟩:=hM;have hyl:=hYI.len;rw[ac]at hyl;have hZ2:=sg _ _ hZ;refine#[D,M,zs,ys,rfl,rfl,hZ2,hY,⋯,zE (hs.trans sg) hD,#[_,zc,?_],?_]
     ·rw[hby,ew,au];exact Iss.append (Iss.updL hZ2 _ _ (uo _) (Iss.same sg _ _ hZI)) (Iss.updL hZ2 _ _ (uo _) hYI)
     ·rw[hby,ew,aj];lia
    right
    rfl'
    refine#[.inl #[_,SqL.of hZ],_,zo hs hqu,_,rfl,_,rfl,yE (λhf=>#[_,zo hs hqu,_,rfl,YV hse ⋯ λM G2 _ sg hM=>fin _ M G2 (by unfold VY;rw[y6 hf]) (by rw[WN];lia) sg hM]) λhf=>qP hse ⋯ λM0 G1 _ sg0 hM0=>#[_,zo (hs.trans sg0) hqu,_,rfl,YV hM0.is (by rw[xm];lia) λM G2 _ sg hM=>fin _ M G2 (by unfold VY;rw[y9 hf]) (by rw[WN,xm];lia) (sg0.trans sg) hM]]
   ·rintro σ H' ⟨hs,hL,hl,v3,v4,rfl⟩;rw[htl,aJ]at hL;exact#[hs,hL,_,_,rfl]
  rintro σ H2 ⟨s2,hL2,v3,v4,rfl⟩:_;right
  rfl'
  exact q D H2 hD s2 hL2
end in def yy(rs:List zu):()->List Stp->Option (())
 | w,[]=>Bu w
 | w,s::ss=>(yJ rs w s).bind λw'=>yy rs w' ss
theorem wm(rs:List zu):∀(ss ts:List Stp) (w:()),yy rs w (ss ++ ts)=(yy rs w ss).bind λw'=>yy rs w' ts
 | [],ts,w=>rfl
 | s::ss,ts,w=>by
  erw[bv,yy]
  cases yJ rs w s with
  | none=>rfl
  | some w1=>exact wm rs ss ts w1
def jw{s:Stp}{w w':()}(h:yy rs w (s::ss)=Bu w'):∃w1,yJ rs w s=Bu w1/\yy rs w1 ss=Bu w':=by
 erw[yy]at h
 obtain⟨w1,h1,h2⟩:=BV.mp h;exact#[w1,h1,h2]
def Yv{s:Stp}{w w1 w2:()}(h:yy rs w ss=Bu w1)(h2:yJ rs w1 s=Bu w2):yy rs w (ss ++ [s])=Bu w2:=by
 rw[wm,h]
 erw[yy,bZ]
 rw[h2];rfl
def QC(s:Stp)(ss:List Stp):yX (s::ss)=yX ss ++ [bk s]:=by simp [yX]
theorem uC:∀{ss:List Stp} {w w':()},yy rs w ss=Bu w'->yy rs w' (yX ss)=Bu w
 | [],w,w',h=>by cases h;rfl
 | s::ss,w,w',h=>by
  obtain⟨w1,h1,h2⟩:=jw h;rw[QC];exact Yv (uC h2) (kQ h1)
theorem jl(a b:()):∀{ss:List Stp} {w w':()},yy rs w ss=Bu w'->yy rs (a ++ w ++ b) (mvL ss (a.length:Int))=Bu (a ++ w' ++ b)
 | [],w,w',h=>by cases h;rfl
 | s::ss,w,w',h=>by
  obtain⟨w1,h1,h2⟩:=jw h;have e:mvL (s::ss) (a.length:Int)=(s.1,s.2.1+(a.length:Int),s.2.2)::mvL ss (a.length:Int):=rfl;rw[e]
  erw[yy]
  rw[qp a b h1];exact jl a b h2
def EOk(rs:List zu)(e:Ent):Prop:=yy rs e.1 e.2.2=Bu e.2.1
end in def zb(es:List Ent):List zu:=es.map λe=>(e.1,e.2.1)
theorem Kd(hE:∀e ∈ es,EOk rs e){u:Stp}{w w':()}(h:yJ (zb es) w u=Bu w'):yy rs w (VY es u)=Bu w':=by
 have hb:0<=u.1/\u.1<(zb es).length:=bP λhb=>by rw[xA hb]at h;cases h
 rw[xl hb]at h;have hl:(zb es).length=es.length:=by unfold zb;rw[ac]
 rw[hl]at hb
 have hg:es[u.1.toNat]? = Bu (es.getD u.1.toNat ([],[],[])):=by
  rw[af,ah ⋯];rfl
 have hp:(zb es).getD u.1.toNat ([],[])=((es.getD u.1.toNat ([],[],[])).1,(es.getD u.1.toNat ([],[],[])).2.1):=by
  unfold zb;rw[af,ar,hg];rfl
 rw[hp]at h;have he:=hE _ (ae hg);unfold VY;generalize es.getD u.1.toNat ([],[],[])=e at *
 have key:∀(o n:()) (ss:List Stp),sdl (e.1,e.2.1) u.2.2=(o,n)->yy rs o ss=Bu n->yy rs w (mvL ss u.2.1)=Bu w':=λo n ss hs hw=>by
  rw[hs]at h;by_cases hst:zx w u.2.1 o=Bw
  ·rw[y6 hst]at h;cases h;obtain⟨e1,e2,h0,h1⟩:=xj hst;have:=jl (w.take u.2.1.toNat) (w.drop (u.2.1.toNat+o.length)) hw;rw[e1,e2,show ((u.2.1.toNat:Nat):Int)=u.2.1 by lia]at this;exact this
  ·rw[y9 hst]at h;cases h
 cases hf:u.2.2 with
 | true =>
  rw[y6 rfl];exact key e.1 e.2.1 e.2.2 (by rw[hf];rfl) he
 | false =>
  rw[y9 ∅];exact key e.2.1 e.1 (yX e.2.2) (by rw[hf];rfl) (uC he)
theorem Zn(hE:∀e ∈ es,EOk rs e):∀{us:List Stp} {w w':()},yy (zb es) w us=Bu w'->yy rs w (byL es us)=Bu w'
 | [],w,w',h=>by cases h;rfl
 | u::us,w,w',h=>by
  obtain⟨w1,h1,h2⟩:=jw h;have e:byL es (u::us)=VY es u ++ byL es us:=by simp [byL]
  rw[e,wm,Kd hE h1];exact Zn hE h2
theorem Uf(ok:ZL rs){w w':()}{s:Stp}(h:yJ rs w s=Bu w'):w'.length<=w.length+100:=by
 have hb:0<=s.1/\s.1<rs.length:=bP λhb=>by rw[xA hb]at h;cases h
 rw[xl hb]at h;have g:=Y9 ok s.1.toNat;generalize rs.getD s.1.toNat ([],[])=r at *;by_cases hs:zx w s.2.1 (sdl r s.2.2).1=Bw
 ·rw[y6 hs]at h;cases h;have:=Kg (n:=(sdl r s.2.2).2) hs
  have h2:(sdl r s.2.2).2.length<=100:=by
   cases s.2.2
   ·exact g.1
   ·exact g.2
  lia
 ·rw[y9 hs]at h;cases h
end in def j3(D:sX)(H:Hp):Hp:=λb=>if b=D then Bv else H b
def wV{D b:sX}(h:b≠D):j3 D H b=H b:=by unfold j3;rw[y9 h]
def jJ{D:sX}:j3 D H D=Bv:=by unfold j3;rw[y6 rfl]
def va{D:sX}:Same (j3 D H) H:=λb o e=>by
 by_cases hb:b=D
 ·rw[hb,jJ]at e;cases e
 ·rw[wV hb]at e;exact e
def Q0{D:sX}{H H':Hp}(hD:H D=Bv)(s:Same H H'):Same H (j3 D H'):=λb o e=>by
 have hb:b≠D:=λz=>by rw[z,hD]at e;cases e
 rw[wV hb];exact s _ _ e
def wT{D:sX}{H H':Hp}(s:Same H H'):Same (j3 D H) (j3 D H'):=λb o e=>by
 by_cases hb:b=D
 ·rw[hb,jJ]at e;cases e
 ·rw[wV hb]at e ⊢;exact s _ _ e
def xN{D:sX}{o:HO}:Same (j3 D H) (j3 D (upd H D o)):=λb o' e=>by
 by_cases hb:b=D
 ·rw[hb,jJ]at e;cases e
 ·rw[wV hb]at e ⊢;rw[zq hb];exact e
def QU{D a:sX}{xs ys:List V}(hD:H D=Bu (.lst ys))(h:SqT K H a xs):SqT K (j3 D H) a xs:=by
 rcases h with (h | ⟨o,h⟩) | h
 ·exact .inl (.inl (by rw[wV (λe=>by rw[e,hD]at h;cases h)];exact h))
 ·exact .inl (.inr #[o,by rw[wV (λe=>by rw[e,hD]at h;cases h)];exact h])
 ·exact .inr h
theorem WP{D:sX}{ys:List V}(hD:H D=Bu (.lst ys)):∀(ss:List Stp) (vs:List V),Iss K H (ss.map dSt) vs->Iss K (j3 D H) (ss.map dSt) vs
 | [],vs,h=>by erw[aO,Iss]at h ⊢;exact h
 | s::ss,vs,h=>by
  erw[av,Iss]at h ⊢
  obtain⟨v,r,rfl,h1,h2⟩:=h;obtain⟨p,rfl,h3⟩:=za3 h1;exact#[_,r,rfl,X8 (QU hD h3),WP hD ss r h2]
def zfL{p s:sX}(h1:SqT K H p [.str (tx e.1),.str (tx e.2.1),.ref s])(h2:Is K H (.lst (e.2.2.map dSt)) (.ref s)):Is K H (dE e) (.ref p):=by
 erw[dE,Is,Iss]
 erw[Is]at h2
 exact#[p,_,rfl,h1,_,_,rfl,rfl,_,_,rfl,rfl,_,_,rfl,h2,rfl]
def Wi{vs:List V}{j:Nat}{v:V}(h:Iss K H (es.map dE) vs)(q:vs[j]? = Bu v):∃e p s,es[j]? = Bu e/\v=.ref p/\SqT K H p [.str (tx e.1),.str (tx e.2.1),.ref s]/\Is K H (.lst (e.2.2.map dSt)) (.ref s):=by obtain⟨d,e,i⟩:=h.get q;rw[ar]at e;obtain⟨r,hr,rfl⟩:=BH.mp e;obtain⟨p,s,e1,e2,e3⟩:=zen i;exact#[r,p,s,hr,e1,e2,e3]
def zbE{d:L3.D}{v:V}(h:Is K H d v):Iss K H [d] [v]:=by
 erw[Iss]
 exact#[v,[],rfl,h,rfl]
def EnA(K:sV)(H:Hp)(e:Ent)(v:V):Prop:=∃p s,v=.ref p/\SqT K H p [.str (tx e.1),.str (tx e.2.1),.ref s]/\LsA K H s (e.2.2.map dSt)
def EnsA(K:sV)(H:Hp):List Ent->List V->Prop
 | [],vs=>vs=[]
 | e::es,vs=>∃v r,vs=v::r/\EnA K H e v/\EnsA K H es r
def EnsL(K:sV)(H:Hp)(a:sX)(es:List Ent):Prop:=∃xs,SqL K H a xs/\EnsA K H es xs
def EnsM(K:sV)(H:Hp)(a:sX)(es:List Ent):Prop:=∃xs,H a=Bu (.lst xs)/\EnsA K H es xs
def EnA.is{v:V}(h:EnA K H e v):Is K H (dE e) v:=by obtain⟨p,s,rfl,h1,h2⟩:=h;exact zfL h1 h2.is
def EnA.same{H H':Hp}{v:V}(h:EnA K H e v)(q:Same H H'):EnA K H' e v:=by obtain⟨p,s,e0,h1,h2⟩:=h;exact#[p,s,e0,zo q h1,h2.same q]
theorem EnsA.iss:∀{es:List Ent} {vs:List V},EnsA K H es vs->Iss K H (es.map dE) vs
 | [],vs,h=>by erw[EnsA]at h;erw[aO,Iss];exact h
 | e::es,vs,h=>by
  erw[EnsA]at h
  obtain⟨v,r,rfl,h1,h2⟩:=h
  erw[av,Iss]
  exact#[v,r,rfl,h1.is,h2.iss]
def EnsA.len{vs:List V}(h:EnsA K H es vs):vs.length=es.length:=by have:=h.iss.len;rw[ac]at this;exact this
theorem EnsA.same{H H':Hp}(q:Same H H'):∀{es:List Ent} {vs:List V},EnsA K H es vs->EnsA K H' es vs
 | [],vs,h=>by erw[EnsA]at h ⊢;exact h
 | e::es,vs,h=>by
  erw[EnsA]at h ⊢
  obtain⟨v,r,e0,h1,h2⟩:=h;exact#[v,r,e0,h1.same q,h2.same q]
theorem EnsA.snoc{v:V}(hv:EnA K H e v):∀{es:List Ent} {vs:List V},EnsA K H es vs->EnsA K H (es ++ [e]) (vs ++ [v])
 | [],vs,h=>by
  erw[EnsA]at h
  subst h
  erw[bq,EnsA]
  exact#[v,[],rfl,hv,rfl]
 | e'::es,vs,h=>by
  erw[EnsA]at h
  obtain⟨x,r,rfl,hx,hr⟩:=h
  erw[bv,EnsA]
  exact#[x,r ++ [v],rfl,hx,hr.snoc hv]
theorem EnsA.get:∀{es:List Ent} {vs:List V} {j:Nat} {v:V},EnsA K H es vs->vs[j]? = Bu v->∃e p s,es[j]? = Bu e/\v=.ref p/\SqT K H p [.str (tx e.1),.str (tx e.2.1),.ref s]/\LsA K H s (e.2.2.map dSt)
 | [],vs,j,v,h,q=>by
  erw[EnsA]at h
  subst h;simp at q
 | e::es,vs,0,v,h,q=>by
  erw[EnsA]at h
  obtain⟨x,r,rfl,⟨p,s,rfl,h1,h2⟩,_⟩:=h;cases q;exact#[e,p,s,rfl,rfl,h1,h2]
 | e::es,vs,j+1,v,h,q=>by
  erw[EnsA]at h
  obtain⟨x,r,rfl,_,hr⟩:=h;exact hr.get (j:=j) (by simpa using q)
def EnsL.is(h:EnsL K H a es):Is K H (.lst (es.map dE)) (.ref a):=by
 obtain⟨xs,h1,h2⟩:=h
 erw[Is]
 exact#[a,xs,rfl,h1,h2.iss]
def EnsL.same{H H':Hp}(h:EnsL K H a es)(q:Same H H'):EnsL K H' a es:=by obtain⟨xs,h1,h2⟩:=h;exact#[xs,q.seq h1,h2.same q]
def EnsM.l(h:EnsM K H a es):EnsL K H a es:=by obtain⟨xs,h1,h2⟩:=h;exact#[xs,SqL.of h1,h2]
def EnsM.same{H H':Hp}(h:EnsM K H a es)(q:Same H H'):EnsM K H' a es:=by obtain⟨xs,h1,h2⟩:=h;exact#[xs,q _ _ h1,h2.same q]
def EnA.new{D p s:sX}{ys:List V}(hD:H D=Bu (.lst ys))(hp:H p=Bu (.tup [.str (tx e.1),.str (tx e.2.1),.ref s]))(hs:LsA K H s (e.2.2.map dSt))(hsD:s≠D):EnA K (j3 D H) e (.ref p):=by
 obtain⟨zs,hz,hi⟩:=hs;have hpD:p≠D:=λz=>by rw[z,hD]at hp;cases hp
 exact#[p,s,rfl,SqT.of (by rw[wV hpD];exact hp),zs,by rw[wV hsD];exact hz,WP hD _ _ hi]
def wZ(es:List Ent):(zb es).length=es.length:=by unfold zb;rw[ac]
def wy(K:sV):Sp:=λvs H Q _=>∃(a:sX) (es:List Ent),vs=[.ref a]/\Is K H (.lst (es.map dE)) (.ref a)/\es.length<=1000/\∀(D:sX) (H':Hp),H D=Bv->Same H H'->LsA K H' D ((zb es).map dR)->Q (.ref D) H'
def wj(h1:Is K H (.lst (es.map dE)) (.ref a))(h2:es.length<=1000)(h:∀(D:sX) (H':Hp),H D=Bv->Same H H'->LsA K H' D ((zb es).map dR)->Q (.ref D) H'):wy K [.ref a] H Q E:=#[a,es,rfl,h1,h2,h]
def XG:sQz 1 ["entries"] vC:=by nofun
theorem Xi(B:Bt mg)(F:("pairs_of"^^^vC)) :(1&&&["entries"]) (wy K):=by
 exists F.ok XG
 ·obtain⟨a,es,rfl,hA,hl,q⟩:=h;refine#[_,(zg (zl (yP (own:=["entry"]) (caps:=[]) (ix:=[]) (tt:=xw) (te:=(Jl (zL (tOp (vv K) (z6 0) (tC (.int 0))) (zL (tOp (vv K) (z6 0) (tC (.int 1))) xx)))) rfl (zM (sc:=zh vC) rfl (!0) (!0) (!0) rfl (!0) (!0) rfl) (z9 (pv 0)) (λ_ _ _ _ _ _=>zt (i:=0) (show List.Nodup [_] by decide) rfl (.inl rfl)) (λ_ _ _ _ _ _=>yg) (λ_ _ _ _ _ _=>(zS (za (!-0) (za (!-0) ze))))))),?_];have s16:=zW
  rfl'
  erw[Is]at hA
  obtain⟨_,xs,e,hX,hI⟩:=hA;cases e;have hxl:=hI.len;rw[ac]at hxl;have hpl:=wZ es;refine#[#[xs,hX],λD hD=>CompL.by (xs:=xs) (λi BA H'=>Same H H'/\H' D=Bu (.lst BA)/\Iss K H' (((zb es).take i).map dR) BA) #[zd hD,zc,by erw[bN,aO,Iss]] (λi BA H' _ h=>h.1.seq hX) ?_ ?_]
  ·refine nm4 ?_;rintro i x BA H' hx ⟨hs,hH,hA⟩:_;have hi:=(BB.mp hx).1;obtain⟨e,pe,se,hei,rfl,hqe,_⟩:=Wi hI hx;have hm:(zb es)[i]? = Bu (e.1,e.2.1):=by unfold zb;rw[ar,hei];rfl
   have hal:=hA.len;rw[ac,aE]at hal;right
   erw[xw]
   rfl'
   refine#[yH,_,zo hs hqe,_,rfl,_,zo hs hqe,_,rfl,⋯,λp hp=>#[zd hp _ _ hH,⋯,CNx.mk hi #[zE (hs.trans (zd hp)) hD,zc,?_]]];rw[zV hm,au];exact uz hH hA hp zbZ (Zx _) (by erw[z8,xB,and_self])
  ·rintro BA H' ⟨hs,hH,hA⟩;rw[hxl,<- hpl,aJ]at hA;exact q D H' hD hs #[BA,hH,hA]
end in def yz(k:Nat)(l:())(ns:List Int)(e:Ent):Ent:=if zO k l ns e.2.1 e.1=Bw then e else (e.2.1,e.1,yX e.2.2)
structure EB(l:())(e:Ent):Prop where
 a:e.1.length<=60
 b:e.2.1.length<=60
 s:e.2.2.length<=600
 ma:∀c ∈ e.1,c ∈ l
 mb:∀c ∈ e.2.1,c ∈ l
def EB.rule{l:()}(h:EB l e):EB l (yz k l ns e):=by
 unfold yz;split
 ·exact h
 ·exact#[h.b,h.a,by rw[xm];exact h.s,h.mb,h.ma]
def vf(K:sV)(CO CR CW:sX):Sp:=λvs H Q _=>∃(o p s:sX) (k:Nat) (l:()) (ns:List Int) (e:Ent),vs=[.ref o,.ref p]/\OrdAt CO CR CW H o k l ns/\OG l ns k/\SqT K H p [.str (tx e.1),.str (tx e.2.1),.ref s]/\Is K H (.lst (e.2.2.map dSt)) (.ref s)/\EB l e /\
 (yz k l ns e=e->∀H',Same H H'->Q (.ref p) H') /\
 (∀(p' s':sX) (H':Hp),Same H H'->H s'=Bv->H' p'=Bu (.tup [.str (tx (yz k l ns e).1),.str (tx (yz k l ns e).2.1),.ref s'])->LsA K H' s' ((yz k l ns e).2.2.map dSt)->Q (.ref p') H')
def kF{CO CR CW o p s:sX}{l:()}(h1:OrdAt CO CR CW H o k l ns)(h2:OG l ns k)(h3:SqT K H p [.str (tx e.1),.str (tx e.2.1),.ref s])(h4:Is K H (.lst (e.2.2.map dSt)) (.ref s))(h5:EB l e)(h6:yz k l ns e=e->∀H',Same H H'->Q (.ref p) H') (h7:∀(p' s':sX) (H':Hp),Same H H'->H s'=Bv->H' p'=Bu (.tup [.str (tx (yz k l ns e).1),.str (tx (yz k l ns e).2.1),.ref s'])->LsA K H' s' ((yz k l ns e).2.2.map dSt)->Q (.ref p') H'):vf K CO CR CW [.ref o,.ref p] H Q E :=
 #[o,p,s,k,l,ns,e,rfl,h1,h2,h3,h4,h5,h6,h7]
def Vq:sQz 2 ["order","entry"] je:=by nofun
theorem Vt{f CO CR CW:sX}(B:Bt mg)(DBk:DB P w K mg base CO CR CW)(F:("as_rule"^^^je))(mM:(1<<<"back") ["steps"] [] (uS K)):(4&&&["order","entry"]) (vf K CO CR CW):=by
 exists F.ok Vq
 ·obtain⟨o,p,s,k,l,ns,e,rfl,ho,hG,hp,hs,hE,q1,q2⟩:=h
  refine#[_,(zG (zN (yF (zda DBk hr (pv 0) (za (!-1) (za (!-1) ze))) (λ_=>rfl)) (zg (zl (pv 1)))
    zr) (zg (zl (zS (za (!-1) (za (!-1) (za (cl0 mM hr .nil rfl (za (!-1) ze)) ze))))))),?_]
  have s16:=zW;ac_rfl;obtain⟨C,dx,fs,hf,ho1,hn,_⟩:=ho.fam;have h1:fs.lookup ("before" : tw)=Bv:=hn _ ∅ ∅;refine#[C,hf,dx,fs,ho1,h1,_,hp,_,rfl,_,hp,_,rfl,o,k,l,ns,e.2.1,e.1,rfl,ho,hG,by have:=hE.b;lia,by have:=hE.a;lia,hE.mb,hE.ma,λH1 s1=>#[_,rfl,yE (λh=>?_) λh=>?_]]
  ·exact q1 (by unfold yz;rw[y6 h]) H1 s1
  ·have er:yz k l ns e=(e.2.1,e.1,yX e.2.2):=by unfold yz;rw[y9 h]
   rw[er]at q2;have hp1:=zo s1 hp;refine#[_,hp1,_,rfl,_,hp1,_,rfl,_,hp1,_,rfl,qP (Is.same s1 _ _ hs) (by have:=hE.s;lia) λD H2 hD s2 hL=>#[⋯,λt ht=>?_]];exact q2 t D _ (s1.trans (s2.trans (zd ht))) (s1.free hD) zc (hL.same (zd ht))
theorem Xa{l:()}{w:()}(hb:∀n ∈ ns,1<=n/\n<=1000000):0<=V5 l ns w:=by
 unfold V5
 have key:∀xs:List Int,(∀x ∈ xs,0<=x)->0<=xs.sum:=by
  intro xs
  induction xs with
  | nil=>intro _;simp
  | cons x xs ih =>
   intro h;rw[bj];have h1:=h x aA;have h2:=ih λy hy=>h y (am _ hy);lia
 refine key _ λx hx=>?_;obtain⟨p,hp,rfl⟩:=BC.mp hx;have h1:=(hb p.2 (dj (show (p.1,p.2) ∈ l.zip ns from hp)).2).1;exact Int.mul_nonneg ⋯ ⋯
theorem QT{l:()}{u v:()}(hb:∀n ∈ ns,1<=n/\n<=1000000)(h:zO k l ns u v=Bw):v≠[]:=by
 intro e;subst e
 have h0:zp k l ns []=0:=by
  unfold zp;split
  ·unfold V5
   have z:∀xs:List (Nat × Int),(xs.map λp=>(([]:()).count p.1:Int) * p.2).sum=0:=by
    intro xs
    induction xs with
    | nil=>rfl
    | cons x xs ih=>rw[av,bj,ih];simp
   exact z _
  ·rfl
 have h1:0<=zp k l ns u:=by
  unfold zp;split
  ·exact Xa hb
  ·lia
 have h2:xS k l []=[]:=by
  unfold xS yx;split <;> rfl
 unfold zO at h;rw[h0,h2]at h;split at h
 ·cases hr:xS k l u with
  | nil=>rw[hr]at h;cases h
  | cons a r=>rw[hr]at h;cases h
 ·have:=w6 h;lia
def jc{k:Nat}{l:()}{ns:List Int}(hE:EB l e)(hne:e.1≠e.2.1):zO k l ns (yz k l ns e).2.1 (yz k l ns e).1=Bw:=by
 unfold yz;by_cases h:zO k l ns e.2.1 e.1=Bw
 ·rw[y6 h];exact h
 ·rw[y9 h];have:=jN (k:=k) (ns:=ns) hE.ma hE.mb hne;show zO k l ns e.1 e.2.1=Bw;rw[this];simpa using h
end in def qG(k:Nat)(l:())(ns:List Int)(es:List Ent):List Ent:=(es.filter λe=>!decide (e.1=e.2.1)).map (yz k l ns)
def zb0(k:Nat)(l:())(ns:List Int)(es fs:List Ent):qG k l ns (es ++ fs)=qG k l ns es ++ qG k l ns fs:=by unfold qG;rw[cP,au]
def X2(k:Nat)(l:())(ns:List Int)(es:List Ent):(qG k l ns es).length<=es.length:=by unfold qG;rw[ac];exact cX _ _
end in def Zo(k:Nat)(l:())(ns:List Int)(a b:Ent):Bool:=if a.1=b.1 then zO k l ns a.2.1 b.2.1 else zO k l ns a.1 b.1
structure Lined(k:Nat)(l:())(ns:List Int)(es zs:List Ent):Prop where
 perm:zs.Perm (qG k l ns es)
 srt:zs.Pairwise λa b=>Zo k l ns b a=Bx
 is:zs=L3.srt (Zo k l ns) ([],[],[]) (qG k l ns es)
structure zF(ps:List zu)(w:())(i:Nat):Prop where
 live:VZ ps w i
 end_:zJ (wAt ps w i) ps=Bv
 most:i<=40
theorem zcv(ps:List zu)(w:()):(∃i,zF ps w i)\/(VZ ps w 40/\zJ (wAt ps w 40) ps≠Bv):=by
 have key:∀n,n<=41->(∃i,zF ps w i)\/VZ ps w n:=by
  intro n
  induction n with
  | zero=>intro _;exact .inr λi h=>y4 h (bX i)
  | succ n ih =>
   intro hn;rcases ih ⋯ with h | h
   ·exact .inl h
   ·cases e:zJ (wAt ps w n) ps with
    | none=>exact .inl #[n,h,e,⋯]
    | some u =>
     refine .inr λi hi=>?_;by_cases hin:i=n
     ·rw[hin,e];intro z;cases z
     ·exact h i ⋯
 rcases key 41 (al _)with h | h
 ·exact .inl h
 ·exact .inr #[λi hi=>h i ⋯,h 40 ∅]
end in def stS(us:List (Nat × Nat)):List Stp:=us.map λu=>((u.1:Int),(u.2:Int),Bw)
end in def xa(bs:List Ent)(e:Ent)(i j:Nat):Ent:=(wAt (zb bs) e.1 i,wAt (zb bs) e.2.1 j,byL bs (yX (stS (sAt (zb bs) e.1 i))) ++ e.2.2 ++ byL bs (stS (sAt (zb bs) e.2.1 j)))
def jX(e:Ent):Prop:=240<e.2.2.length\/60<e.1.length\/60<e.2.1.length
inductive xt(k:Nat)(l:())(ns:List Int):List Ent->List Ent->Option (List Ent)->Prop where
 | nil (bs:List Ent):xt k l ns bs [] (Bu bs)
 | same {bs es:List Ent} {e:Ent} {i j:Nat} {r:Option (List Ent)} (h1:zF (zb bs) e.1 i) (h2:zF (zb bs) e.2.1 j) (h3:wAt (zb bs) e.1 i=wAt (zb bs) e.2.1 j) (h4:xt k l ns bs es r):xt k l ns bs (e::es) r
 | new {bs es:List Ent} {e:Ent} {i j:Nat} {r:Option (List Ent)} (h1:zF (zb bs) e.1 i) (h2:zF (zb bs) e.2.1 j) (h3:wAt (zb bs) e.1 i≠wAt (zb bs) e.2.1 j) (h4:¬ jX (xa bs e i j)) (h5:xt k l ns (bs ++ [yz k l ns (xa bs e i j)]) es r):xt k l ns bs (e::es) r
 | far {bs es:List Ent} {e:Ent} {i j:Nat} (h1:zF (zb bs) e.1 i) (h2:zF (zb bs) e.2.1 j) (h3:wAt (zb bs) e.1 i≠wAt (zb bs) e.2.1 j) (h4:jX (xa bs e i j)):xt k l ns bs (e::es) Bv
 | stuck {bs es:List Ent} {e:Ent} (h:(∀i,¬ zF (zb bs) e.1 i)\/(∀j,¬ zF (zb bs) e.2.1 j)):xt k l ns bs (e::es) Bv
inductive vS(k:Nat)(l:())(ns:List Int):Nat->List Ent->Option (List Ent)->Prop where
 | out (es:List Ent):vS k l ns 0 es Bv
 | bad {n:Nat} {es zs:List Ent} (h1:Lined k l ns es zs) (h2:xt k l ns [] zs Bv):vS k l ns (n+1) es Bv
 | done {n:Nat} {es zs bs:List Ent} (h1:Lined k l ns es zs) (h2:xt k l ns [] zs (Bu bs)) (h3:zb bs=zb zs):vS k l ns (n+1) es (Bu bs)
 | more {n:Nat} {es zs bs:List Ent} {r:Option (List Ent)} (h1:Lined k l ns es zs) (h2:xt k l ns [] zs (Bu bs)) (h3:zb bs≠zb zs) (h4:vS k l ns n bs r):vS k l ns (n+1) es r
def xo{w:()}{u:Nat × Nat}(h:zJ w ps=Bu u):∃p,ps[u.1]? = Bu p/\zx w (u.2:Int) p.1=Bw:=by have hm:u ∈ xI w ps w.length:=fN (by unfold zJ at h;rw[h];rfl);exact (vp (usesK_mem.mp hm).2).2
theorem uQ{l w:()}(hw:∀c ∈ w,c ∈ l)(hp:∀p ∈ ps,∀c ∈ p.2,c ∈ l):∀j,∀c ∈ wAt ps w j,c ∈ l
 | 0=>hw
 | j+1=>by
  have ih:=uQ hw hp j
  cases e:zJ (wAt ps w j) ps with
  | none =>
   show ∀c ∈ Vc ps (wAt ps w j),c ∈ l;unfold Vc;rw[e];exact ih
  | some u =>
   obtain⟨p,h1,h2⟩:=xo e;rw[wn e];unfold Y7 yV;rw[xG h1];intro c hc;rcases BD.mp hc with hc | hc
   ·rcases BD.mp hc with hc | hc
    ·exact ih c (bo hc)
    ·exact hp p (ae h1) c hc
   ·exact ih c (cr hc)
structure JX(R:()->()->Prop):Prop where
 refl:∀u,R u u
 symm:∀{u v},R u v->R v u
 trans:∀{u v w},R u v->R v w->R u w
 ctx:∀{u v} (a b:()),R u v->R (a ++ u ++ b) (a ++ v ++ b)
def ub(R:()->()->Prop)(es:List Ent):Prop:=∀e ∈ es,R e.1 e.2.1
theorem zcb{R:()->()->Prop}(hR:JX R)(hk:∀p ∈ ps,R p.1 p.2)(w:()):∀j,R w (wAt ps w j)
 | 0=>hR.refl w
 | j+1=>by
  have ih:=zcb hR hk w j
  cases e:zJ (wAt ps w j) ps with
  | none =>
   show R w (Vc ps (wAt ps w j));unfold Vc;rw[e];exact ih
  | some u =>
   obtain⟨p,h1,h2⟩:=xo e;rw[wn e];refine hR.trans ih ?_;obtain⟨e1,_⟩:=xj h2;unfold Y7 yV;rw[xG h1];have:=hR.ctx ((wAt ps w j).take ((u.2:Int)).toNat) ((wAt ps w j).drop (((u.2:Int)).toNat+p.1.length)) (hk p (ae h1));rw[e1]at this;exact this
def jk{R:()->()->Prop}(h:ub R bs):∀p ∈ zb bs,R p.1 p.2:=λp hp=>by
 unfold zb at hp;obtain⟨e,he,rfl⟩:=BC.mp hp;exact h e he
def vH{R:()->()->Prop}(hR:JX R){l:()}:R (yz k l ns e).1 (yz k l ns e).2.1 ↔ R e.1 e.2.1:=by
 unfold yz;split
 ·exact Iff.rfl
 ·exact#[hR.symm,hR.symm]
def Q4{R:()->()->Prop}(hR:JX R){i j:Nat}(h:ub R bs):R (wAt (zb bs) e.1 i) (wAt (zb bs) e.2.1 j) ↔ R e.1 e.2.1:=by have h1:=zcb hR (jk h) e.1 i;have h2:=zcb hR (jk h) e.2.1 j;exact#[λx=>hR.trans h1 (hR.trans x (hR.symm h2)),λx=>hR.trans (hR.symm h1) (hR.trans x h2)]
theorem Jm{R:()->()->Prop}(hR:JX R){l:()}{bs es:List Ent}{r:Option (List Ent)}(h:xt k l ns bs es r):∀fs,r=Bu fs->(ub R fs ↔ ub R bs/\ub R es):=by
 induction h with
 | nil bs =>
  intro fs e;cases e;exact#[λh=>#[h,λe he=>(nomatch he)],λh=>h.1]
 | @same bs es e i j r h1 h2 h3 h4 ih =>
  intro fs er;rw[ih fs er];refine#[λ⟨a,b⟩=>#[a,λx hx=>?_],λ⟨a,b⟩=>#[a,λx hx=>b x (am _ hx)]];rcases BE.mp hx with rfl | hx
  ·refine (Q4 hR a (i:=i) (j:=j)).mp ?_;rw[h3];exact hR.refl _
  ·exact b x hx
 | @new bs es e i j r h1 h2 h3 h4 h5 ih =>
  intro fs er;rw[ih fs er];constructor
  ·rintro⟨a,b⟩;have a':ub R bs:=λx hx=>a x (bn _ hx);refine#[a',λx hx=>?_];rcases BE.mp hx with rfl | hx
   ·have:=a _ (aF bs (BF.mpr rfl));exact (Q4 hR a' (i:=i) (j:=j)).mp ((vH hR).mp this)
   ·exact b x hx
  ·rintro⟨a,b⟩;refine#[λx hx=>?_,λx hx=>b x (am _ hx)];rcases BD.mp hx with hx | hx
   ·exact a x hx
   ·rw[BF.mp hx];exact (vH hR).mpr ((Q4 hR a (i:=i) (j:=j)).mpr (b e aA))
 | far=>intro fs e;cases e
 | stuck=>intro fs e;cases e
def JH{R:()->()->Prop}(hR:JX R){l:()}{es zs:List Ent}(h:Lined k l ns es zs):ub R zs ↔ ub R es:=by
 have h1:ub R zs ↔ ub R (qG k l ns es):=#[λa x hx=>a x (h.perm.mem_iff.mpr hx),λa x hx=>a x (h.perm.mem_iff.mp hx)];rw[h1];unfold qG;constructor
 ·intro a x hx;by_cases e:x.1=x.2.1
  ·rw[e];exact hR.refl _
  ·exact (vH hR).mp (a _ (BC.mpr #[x,BJ.mpr #[hx,by simpa using e],rfl]))
 ·intro a x hx;obtain⟨y,hy,rfl⟩:=BC.mp hx;exact (vH hR).mpr (a y ((BJ.mp hy).1))
theorem zaU{R:()->()->Prop}(hR:JX R){k n:Nat}{l:()}{r:Option (List Ent)}(h:vS k l ns n es r):∀fs,r=Bu fs->(ub R fs ↔ ub R es):=by
 have nilk:ub R []:=λe he=>(nomatch he)
 induction h with
 | out=>intro fs e;cases e
 | bad=>intro fs e;cases e
 | done h1 h2 h3 =>
  intro fs e;rw[Jm hR h2 fs e,JH hR h1];exact#[λh=>h.2,λh=>#[nilk,h]]
 | more h1 h2 h3 h4 ih =>
  intro fs e;rw[ih fs e,Jm hR h2 _ rfl,JH hR h1];exact#[λh=>h.2,λh=>#[nilk,h]]
def Within(p w:()):Prop:=∃a b:(),w=a ++ p ++ b
theorem QW{w p:()}(h:Within p w):∃q:Nat,zx w (q:Int) p=Bw:=by obtain⟨a,b,rfl⟩:=h;refine#[a.length,?_];unfold zx;refine w9 #[⋯,by erw[aj];lia,?_];rw[az,ao,cC,cH]
def Z2{w:()}(hN:NeL ps)(h:zJ w ps=Bv):∀p ∈ ps,¬ Within p.1 w:=λp hp hw=>by
 obtain⟨q,hq⟩:=QW hw;obtain⟨j,hj⟩:=BM.mp hp;have hlt:=jR (hN p hp) hq;have hs:stJ w ps q j=Bw:=by rw[kr hj];exact hq
 have:(j,q) ∈ xI w ps w.length:=usesK_mem.mpr #[hlt,hs];unfold zJ at h;rw[List.head?_eq_none_iff]at h;rw[h]at this;cases this
structure RL(k:Nat)(l:())(ns:List Int)(bs:List Ent):Prop where
 e:∀e ∈ bs,EB l e
 lt:∀e ∈ bs,zO k l ns e.2.1 e.1=Bw
def Kq{l:()}{w:()}{u:Nat × Nat}(G:OG l ns k)(hp:∀p ∈ ps,zO k l ns p.2 p.1=Bw/\(∀c ∈ p.1,c ∈ l)/\∀c ∈ p.2,c ∈ l)(hw:∀c ∈ w,c ∈ l)(h:zJ w ps=Bu u):zO k l ns (Y7 w ps u) w=Bw:=by obtain⟨p,h1,h2⟩:=xo h;obtain⟨e1,_⟩:=xj h2;obtain⟨p1,p2,p3⟩:=hp p (ae h1);unfold Y7 yV;rw[xG h1];have ha:∀c ∈ w.take ((u.2:Int)).toNat,c ∈ l:=λc hc=>hw c (bo hc);have hb:∀c ∈ w.drop (((u.2:Int)).toNat+p.1.length),c ∈ l:=λc hc=>hw c (cr hc);generalize w.take ((u.2:Int)).toNat=a at *;generalize w.drop (((u.2:Int)).toNat+p.1.length)=b at *;rw[<- e1];have ap:∀x:(),(∀c ∈ x,c ∈ l)->∀c ∈ a ++ x,c ∈ l:=λx hx c hc=>(BD.mp hc).elim (ha c) (hx c);rw[(uH G hb (ap p.2 p3) (ap p.1 p2)).2,(uH G ha p3 p2).1];exact p1
theorem zaF{l:()}{w:()}(G:OG l ns k)(hp:∀p ∈ ps,zO k l ns p.2 p.1=Bw/\(∀c ∈ p.1,c ∈ l)/\∀c ∈ p.2,c ∈ l)(hw:∀c ∈ w,c ∈ l):∀j,wAt ps w j=w\/zO k l ns (wAt ps w j) w=Bw
 | 0=>.inl rfl
 | j+1=>by
  have ih:=zaF G hp hw j;have hm:=uQ hw (λp hp'=>(hp p hp').2.2) j
  cases e:zJ (wAt ps w j) ps with
  | none =>
   show Vc ps (wAt ps w j)=w\/zO k l ns (Vc ps (wAt ps w j)) w=Bw;unfold Vc;rw[e];exact ih
  | some u =>
   rw[wn e];have h:=Kq G hp hm e;rcases ih with h' | h'
   ·rw[h']at h ⊢;exact .inr h
   ·exact .inr (yM h h')
def RL.pairs{l:()}(h:RL k l ns bs):∀p ∈ zb bs,zO k l ns p.2 p.1=Bw/\(∀c ∈ p.1,c ∈ l)/\∀c ∈ p.2,c ∈ l:=λp hp=>by
 unfold zb at hp;obtain⟨e,he,rfl⟩:=BC.mp hp;exact#[h.lt e he,(h.e e he).ma,(h.e e he).mb]
def RL.ne{l:()}(h:RL k l ns bs)(G:OG l ns k):NeL (zb bs):=λp hp=>QT G.nb (h.pairs p hp).1
def RL.snoc{l:()}{d:Ent}(h:RL k l ns bs)(hd:EB l d)(hne:d.1≠d.2.1):RL k l ns (bs ++ [yz k l ns d]):=by
 refine#[λe he=>?_,λe he=>?_]
 ·rcases BD.mp he with he | he
  ·exact h.e e he
  ·rw[BF.mp he];exact hd.rule
 ·rcases BD.mp he with he | he
  ·exact h.lt e he
  ·rw[BF.mp he];exact jc hd hne
theorem zcY{l:()}{i j:Nat}(hB:RL k l ns bs)(hE:EB l e)(hF:¬ jX (xa bs e i j)):EB l (xa bs e i j):=by unfold jX at hF;exact#[⋯,⋯,⋯,uQ hE.ma (λp hp=>(hB.pairs p hp).2.2) i,uQ hE.mb (λp hp=>(hB.pairs p hp).2.2) j]
def VD{l:()}{i j:Nat}(G:OG l ns k)(hB:RL k l ns bs)(hE:EB l e)(hlt:zO k l ns e.2.1 e.1=Bw)(h1:zF (zb bs) e.1 i)(h2:zF (zb bs) e.2.1 j)(hp1:(yz k l ns (xa bs e i j)).1=e.1) (hp2:(yz k l ns (xa bs e i j)).2.1=e.2.1):zJ e.1 (zb bs)=Bv/\zJ e.2.1 (zb bs)=Bv:=by
 unfold yz at hp1 hp2;by_cases h:zO k l ns (xa bs e i j).2.1 (xa bs e i j).1=Bw
 ·rw[y6 h]at hp1 hp2;have a1:wAt (zb bs) e.1 i=e.1:=hp1;have a2:wAt (zb bs) e.2.1 j=e.2.1:=hp2;have b1:=h1.end_;have b2:=h2.end_;rw[a1]at b1;rw[a2]at b2;exact#[b1,b2]
 ·rw[y9 h]at hp1 hp2;have a1:wAt (zb bs) e.2.1 j=e.1:=hp1;rcases zaF G hB.pairs hE.mb j with h' | h'
  ·rw[a1]at h';rw[h',yd]at hlt;cases hlt
  ·rw[a1]at h';rw[Xh h']at hlt;cases hlt
theorem kz{l:()}(G:OG l ns k){bs es:List Ent}{r:Option (List Ent)}(h:xt k l ns bs es r):∀fs,r=Bu fs->RL k l ns bs->RL k l ns es->∃gs,fs=bs ++ gs/\gs.length<=es.length/\RL k l ns fs /\
  (zb gs=zb es->∀i e,es[i]? = Bu e->zJ e.1 (zb (bs ++ gs.take i))=Bv/\zJ e.2.1 (zb (bs ++ gs.take i))=Bv):=by
 induction h with
 | nil bs =>
  intro fs er hb he;cases er;exact#[[],by simp,al _,hb,λ_ i e h=>by simp at h]
 | @same bs es e i j r h1 h2 h3 h4 ih =>
  intro fs er hb he;obtain⟨gs,g1,g2,g3,g4⟩:=ih fs er hb #[λx hx=>he.e x (am _ hx),λx hx=>he.lt x (am _ hx)];refine#[gs,g1,by rw[aL];lia,g3,λhp=>?_];have:=congrArg ft hp;unfold zb at this;rw[ac,ac,aL]at this;lia
 | @new bs es e i j r h1 h2 h3 h4 h5 ih =>
  intro fs er hb he;have hEe:=he.e e aA;have hd:=zcY hb hEe h4;obtain⟨gs,g1,g2,g3,g4⟩:=ih fs er (hb.snoc hd h3) #[λx hx=>he.e x (am _ hx),λx hx=>he.lt x (am _ hx)];refine#[yz k l ns (xa bs e i j)::gs,by rw[g1,ao];rfl,by rw[aL,aL];lia,g3,λhp n x hx=>?_];unfold zb at hp;rw[av,av]at hp;injection hp with hp1 hp2;have hp1a:=(Prod.ext_iff.mp hp1).1;have hp1b:=(Prod.ext_iff.mp hp1).2
  cases n with
  | zero =>
   have e0:e=x:=by simpa using hx
   subst e0;rw[bN,aT];exact VD G hb hEe (he.lt _ aA) h1 h2 hp1a hp1b
  | succ n =>
   have:=g4 hp2 n x (by simpa using hx);rw[ao]at this;rw[ef];exact this
 | far=>intro fs e;cases e
 | stuck=>intro fs e;cases e
def qw{l:()}(G:OG l ns k){p w:()}(hw:∀c ∈ w,c ∈ l)(h:Within p w):p=w\/zO k l ns p w=Bw:=by
 obtain⟨a,b,rfl⟩:=h;by_cases e:a ++ p ++ b=p
 ·exact .inl e.symm
 ·refine .inr (Vn G (λc hc=>hw c ?_) (λc hc=>hw c ?_) (λc hc=>hw c ?_) e).1
  ·exact bn _ (bn _ hc)
  ·exact bn _ (aF _ hc)
  ·exact aF _ hc
structure ThinL(k:Nat)(l:())(ns:List Int)(zs:List Ent):Prop where
 rl:RL k l ns zs
 up:∀(i j:Nat) (a b:Ent),zs[i]? = Bu a->zs[j]? = Bu b->i<j->zO k l ns a.1 b.1=Bw
 no1:∀(i j:Nat) (a b:Ent),zs[i]? = Bu a->zs[j]? = Bu b->i≠j->¬ Within b.1 a.1
 no2:∀(i j:Nat) (a b:Ent),zs[i]? = Bu a->zs[j]? = Bu b->¬ Within b.1 a.2.1
def zc2{k:Nat}{l:()}{ns:List Int}(G:OG l ns k){zs bs:List Ent}(hz:RL k l ns zs)(hs:zs.Pairwise λa b=>Zo k l ns b a=Bx)(h:xt k l ns [] zs (Bu bs))(hp:zb bs=zb zs):ThinL k l ns zs:=by
 obtain⟨gs,g1,g2,g3,g4⟩:=kz G h bs rfl #[λe he=>(nomatch he),λe he=>(nomatch he)] hz;rw[bq]at g1;subst g1;have irr:=g4 hp
 erw[bq]at irr
 have early:∀(i j:Nat) (a b:Ent),zs[i]? = Bu a->zs[j]? = Bu b->j<i->¬ Within b.1 a.1/\¬ Within b.1 a.2.1:=λi j a b ha hb hj=>by
  have hm:(b.1,b.2.1) ∈ zb (bs.take i):=by
   have e1:zb (bs.take i)=(zb zs).take i:=by
    rw[<- hp];unfold zb;rw[List.map_take]
   rw[e1];refine BM.mpr #[j,?_];rw[br hj];unfold zb;rw[ar,hb];rfl
  have hN:NeL (zb (bs.take i)):=λp hp'=>by
   refine (g3.ne G) p ?_;unfold zb at hp' ⊢;obtain⟨x,hx,rfl⟩:=BC.mp hp';exact BC.mpr #[x,bo hx,rfl]
  obtain⟨f1,f2⟩:=irr i a ha;exact#[Z2 hN f1 _ hm,Z2 hN f2 _ hm]
 have later:∀(i j:Nat) (a b:Ent),zs[i]? = Bu a->zs[j]? = Bu b->i<j->zO k l ns b.1 a.1=Bx:=λi j a b ha hb hij=>by
  have hi:=(BB.mp ha);have hj:=(BB.mp hb);have:=List.pairwise_iff_getElem.mp hs i j hi.1 hj.1 hij;rw[hi.2,hj.2]at this;unfold Zo at this;by_cases e:b.1=a.1
  ·rw[e,yd]
  ·rw[y9 e]at this;exact this
 have memz:∀{i:Nat} {a:Ent},zs[i]? = Bu a->EB l a/\zO k l ns a.2.1 a.1=Bw:=λ{i a} ha=>#[hz.e _ (ae ha),hz.lt _ (ae ha)]
 have up:∀(i j:Nat) (a b:Ent),zs[i]? = Bu a->zs[j]? = Bu b->i<j->zO k l ns a.1 b.1=Bw:=λi j a b ha hb hij=>by
  have hne:a.1≠b.1:=λe=>(early j i b a hb ha hij).1 #[[],[],by rw[e];simp];have t:=jN (k:=k) (ns:=ns) (memz ha).1.ma (memz hb).1.ma hne;rw[later i j a b ha hb hij]at t;simpa using t
 refine#[hz,up,λi j a b ha hb hij=>?_,λi j a b ha hb hw=>?_]
 ·rcases Nat.lt_or_gt_of_ne hij with h1 | h1
  ·intro hw;rcases qw G (memz ha).1.ma hw with e | e
   ·have:=up i j a b ha hb h1;rw[e,yd]at this;cases this
   ·rw[later i j a b ha hb h1]at e;cases e
  ·exact (early i j a b ha hb h1).1
 ·have hle:zO k l ns b.1 a.1=Bw:=by
   rcases qw G (memz ha).1.mb hw with e | e
   ·rw[e];exact (memz ha).2
   ·exact yM e (memz ha).2
  rcases dF i j with h1 | h1 | h1
  ·rw[later i j a b ha hb h1]at hle;cases hle
  ·subst h1;rw[ha]at hb;cases hb;rw[yd]at hle;cases hle
  ·exact (early i j a b ha hb h1).2 hw
theorem ZD{w:()}:∀{i:Nat},VZ ps w i->yy ps w (stS (sAt ps w i))=Bu (wAt ps w i)
 | 0,_=>rfl
 | i+1,h=>by
  have ih:=ZD (i:=i) λj hj=>h j ⋯;have hne:=h i ⋯
  cases e:zJ (wAt ps w i) ps with
  | none=>exact y4 e hne
  | some u =>
   rw[Wu,wn e,e];unfold stS at ih ⊢;rw[au];refine Yv ih ?_;obtain⟨p,h1,h2⟩:=xo e;have hl:=(BB.mp h1).1;show yJ ps (wAt ps w i) ((u.1:Int),(u.2:Int),Bw)=_;rw[xl (by show (0:Int)<=(u.1:Int)/\(u.1:Int)<ps.length;lia)];have e2:ps.getD ((u.1:Int)).toNat ([],[])=p:=by rw[az,af,h1];rfl
   show (if zx (wAt ps w i) (u.2:Int) (sdl (ps.getD ((u.1:Int)).toNat ([],[])) Bw).1=Bw then _ else Bv)=_;rw[e2,y6 (show zx (wAt ps w i) (u.2:Int) (sdl p Bw).1=Bw from h2)];unfold Y7;rw[xG h1];rfl
def QL{l:()}(h:EOk rs e):EOk rs (yz k l ns e):=by
 unfold yz;split
 ·exact h
 ·exact uC h
def zbx{i j:Nat}(hb:∀e ∈ bs,EOk rs e)(he:EOk rs e)(h1:zF (zb bs) e.1 i)(h2:zF (zb bs) e.2.1 j):EOk rs (xa bs e i j):=by have w1:=Zn hb (uC (ZD h1.live));have w2:=Zn hb (ZD h2.live);have he':yy rs e.1 e.2.2=Bu e.2.1:=he;show yy rs (wAt (zb bs) e.1 i) (byL bs (yX (stS (sAt (zb bs) e.1 i))) ++ e.2.2 ++ byL bs (stS (sAt (zb bs) e.2.1 j)))=Bu (wAt (zb bs) e.2.1 j);rw[wm,wm,w1,bZ,he',bZ];exact w2
theorem WY{l:()}{bs es:List Ent}{r:Option (List Ent)}(h:xt k l ns bs es r):∀fs,r=Bu fs->(∀e ∈ bs,EOk rs e)->(∀e ∈ es,EOk rs e)->∀e ∈ fs,EOk rs e:=by
 induction h with
 | nil bs=>intro fs er hb _;cases er;exact hb
 | @same bs es e i j r h1 h2 h3 h4 ih=>intro fs er hb he;exact ih fs er hb λx hx=>he x (am _ hx)
 | @new bs es e i j r h1 h2 h3 h4 h5 ih =>
  intro fs er hb he;refine ih fs er (λx hx=>?_) λx hx=>he x (am _ hx);rcases BD.mp hx with hx | hx
  ·exact hb x hx
  ·rw[BF.mp hx];exact QL (zbx hb (he e aA) h1 h2)
 | far=>intro fs e;cases e
 | stuck=>intro fs e;cases e
def WU{l:()}{es zs:List Ent}(h:Lined k l ns es zs)(he:∀e ∈ es,EOk rs e):∀e ∈ zs,EOk rs e:=λe hz=>by
 have hm:=h.perm.mem_iff.mp hz;unfold qG at hm;obtain⟨y,hy,rfl⟩:=BC.mp hm;exact QL (he y (BJ.mp hy).1)
def WQ{l:()}{es zs:List Ent}(h:Lined k l ns es zs)(he:∀e ∈ es,EB l e):RL k l ns zs:=by
 have key:∀e ∈ zs,∃y,EB l y/\y.1≠y.2.1/\e=yz k l ns y:=λe hz=>by
  have hm:=h.perm.mem_iff.mp hz;unfold qG at hm;obtain⟨y,hy,rfl⟩:=BC.mp hm;obtain⟨h1,h2⟩:=BJ.mp hy;exact#[y,he y h1,by simpa using h2,rfl]
 refine#[λe hz=>?_,λe hz=>?_]
 ·obtain⟨y,h1,_,rfl⟩:=key e hz;exact h1.rule
 ·obtain⟨y,h1,h2,rfl⟩:=key e hz;exact jc h1 h2
def J7{l:()}(G:OG l ns k){zs bs:List Ent}(hz:RL k l ns zs)(h:xt k l ns [] zs (Bu bs)):RL k l ns bs:=by obtain⟨gs,g1,g2,g3,g4⟩:=kz G h bs rfl #[λe he=>(nomatch he),λe he=>(nomatch he)] hz;exact g3
theorem W8{k n:Nat}{l:()}(G:OG l ns k){r:Option (List Ent)}(h:vS k l ns n es r):∀fs,r=Bu fs->(∀e ∈ es,EB l e)->(∀e ∈ es,EOk rs e)->(∀e ∈ fs,EOk rs e)/\∃zs,ThinL k l ns zs/\zb fs=zb zs:=by
 induction h with
 | out=>intro fs e;cases e
 | bad=>intro fs e;cases e
 | @done n es zs bs h1 h2 h3 =>
  intro fs er he ho;cases er;have hz:=WQ h1 he;exact#[WY h2 bs rfl (λe h=>(nomatch h)) (WU h1 ho),zs,zc2 G hz h1.srt h2 h3,h3]
 | @more n es zs bs r h1 h2 h3 h4 ih =>
  intro fs er he ho;have hz:=WQ h1 he;exact ih fs er (J7 G hz h2).e (WY h2 bs rfl (λe h=>(nomatch h)) (WU h1 ho))
end in def rankF:KeyFam (Int × List Int):=#[λr=>[.int r.1,.lst (r.2.map L3.D.int)],λa b=>if a.1=b.1 then ltI a.2 b.2 else decide (a.1<b.1),Bw,(0,[])]
def zad{x y:List Int}(h:ltI x y=Bw):ltI y x=Bx:=by
 by_cases e:x=y
 ·subst e;rw[xz]at h;cases h
 ·have:=vo e;rw[h]at this;simpa using this.symm
theorem zcJ{x y z:List Int}(h1:ltI y x=Bx)(h2:ltI z y=Bx):ltI z x=Bx:=by
 cases h:ltI z x with
 | false=>rfl
 | true =>
  by_cases e:y=x
  ·subst e;rw[h2]at h;cases h
  ·have h3:=vo e;rw[h1]at h3;have h4:ltI x y=Bw:=by simpa using h3.symm
   rw[jI h h4]at h2;cases h2
theorem rankF_ok:rankF.Ok where
 w:=#[λa b h=>by
   erw[rankF]at h ⊢
   by_cases e:a.1=b.1
   ·rw[y6 e]at h;rw[y6 e.symm];exact zad h
   ·rw[y9 e]at h;rw[y9 (λz=>e z.symm)];have:=w6 h;exact y3 ⋯,
  λa b c h1 h2=>by
   erw[rankF]at h1 h2 ⊢
   by_cases e:b.1=a.1
   ·rw[y6 e]at h1;rw[e]at h2;by_cases f:c.1=a.1
    ·rw[y6 f]at h2 ⊢;exact zcJ h1 h2
    ·rw[y9 f]at h2 ⊢;exact h2
   ·rw[y9 e]at h1;have h1':=of_decide_eq_false h1;by_cases f:c.1=b.1
    ·rw[y9 ⋯];exact y3 ⋯
    ·rw[y9 f]at h2;have h2':=of_decide_eq_false h2;rw[y9 ⋯]
     exact y3 ⋯]
 eq:=λa b=>by
  have:=XV a.1 b.1 a.2 b.2
  erw[ltD]at this
  exact this
 ok:=λa b=>by erw[rankF,jY,okD];exact#[trivial,uq _ _,trivial]
 dp:=λa=>by erw[rankF,dpD,vG,Z3];decide
 sh:=λa=>#[_,_,rfl,.inl #[rfl,_,rfl]]
end in def zdc(k:Nat)(l:())(ns:List Int)(w:()):Int × List Int:=(zp k l ns w,xS k l w)
theorem Wr{d:L3.D}{v:V}:∀{ds:List L3.D} {vs:List V},Iss K H ds vs->Is K H d v->Iss K H (ds ++ [d]) (vs ++ [v])
 | [],vs,h,hv=>by
  erw[Iss]at h
  subst h
  erw[bq,Iss]
  exact#[v,[],rfl,hv,rfl]
 | e::ds,vs,h,hv=>by
  erw[Iss]at h
  obtain⟨x,r,rfl,hx,hr⟩:=h
  erw[bv,Iss]
  exact#[x,r ++ [v],rfl,hx,Wr hr hv]
def OrdAt.samT{T CO CR CW:sX}{H H':Hp}{ps:Array sY}{o:sX}{l:()}(h:OrdAt CO CR CW H o k l ns)(s:SamT T H H')(hT:H T=Bu (.tbl ps)):OrdAt CO CR CW H' o k l ns:=by
 obtain⟨dx,⟨h1,h2⟩ | ⟨h1,h2⟩ | ⟨h1,h2,w,h3,h4⟩⟩:=h
 ·exact#[dx,.inl #[h1,s.at hT h2 λ_ z=>by cases z]]
 ·exact#[dx,.inr (.inl #[h1,s.at hT h2 λ_ z=>by cases z])]
 ·exact#[dx,.inr (.inr #[h1,h2,w,s.at hT h3 (λ_ z=>by cases z),s.at hT h4 λ_ z=>by cases z])]
theorem EnsA.samT{T:sX}{H H':Hp}{ps:Array sY}(s:SamT T H H')(hT:H T=Bu (.tbl ps)):∀{es:List Ent} {vs:List V},EnsA K H es vs->EnsA K H' es vs
 | [],vs,h=>by erw[EnsA]at h ⊢;exact h
 | e::es,vs,h=>by
  erw[EnsA]at h ⊢
  obtain⟨v,r,e0,⟨p,s',e1,h1,h2⟩,h3⟩:=h;exact#[v,r,e0,#[p,s',e1,s.seqT hT h1,h2.samT s hT],EnsA.samT s hT h3]
theorem Y8{a b:Int × List Int}(h:a≠b):rankF.lt a b=!rankF.lt b a:=by
 erw[rankF]
 by_cases e:a.1=b.1
 ·rw[y6 e,y6 e.symm];exact vo λq=>h (Prod.ext e q)
 ·rw[y9 e,y9 λq=>e q.symm];by_cases c:a.1<b.1
  ·rw[w9 c,y3 ⋯];rfl
  ·rw[y3 c,w9 ⋯];rfl
def Ji(a b:Int × List Int):eqD (.tup (rankF.dec a)) (.tup (rankF.dec b))=decide (a=b):=by
 obtain⟨a1,a2⟩:=a;obtain⟨b1,b2⟩:=b
 erw[rankF,eqD,uA,YN]
 by_cases h:a1=b1
 ·by_cases h2:a2=b2
  ·simp [h,h2]
  ·simp [h,h2]
 ·simp [h]
def WJ(a b:Int × List Int):ltD (.tup (rankF.dec a)) (.tup (rankF.dec b))=rankF.lt a b:=by
 erw[ltD]
 exact rankF_ok.eq a b
def YS(a:Int × List Int):rankF.lt a a=Bx:=by
 erw[rankF]
 rw[y6 trivial];exact xz _
end in def pairF:KeyFam ((Int × List Int) × (Int × List Int)):=#[λr=>[.tup (rankF.dec r.1),.tup (rankF.dec r.2)],λa b=>if a.1=b.1 then rankF.lt a.2 b.2 else rankF.lt a.1 b.1,Bx,((0,[]),(0,[]))]
def qM(a b:(Int × List Int) × (Int × List Int)):pairF.lt a b=if a.1=b.1 then rankF.lt a.2 b.2 else rankF.lt a.1 b.1:=rfl
def pairF_ok:pairF.Ok where
 w:=#[λa b h=>by
   rw[qM]at h ⊢;by_cases e:a.1=b.1
   ·rw[y6 e]at h;rw[y6 e.symm];exact rankF_ok.w.asym _ _ h
   ·rw[y9 e]at h;rw[y9 λq=>e q.symm];exact rankF_ok.w.asym _ _ h,
  λa b c h1 h2=>by
   rw[qM]at h1 h2 ⊢;by_cases e:b.1=a.1
   ·rw[y6 e]at h1;rw[e]at h2;by_cases f:c.1=a.1
    ·rw[y6 f]at h2 ⊢;exact rankF_ok.w.ntr _ _ _ h1 h2
    ·rw[y9 f]at h2 ⊢;exact h2
   ·rw[y9 e]at h1;by_cases g:c.1=b.1
    ·rw[g,y9 e];exact h1
    ·rw[y9 g]at h2;by_cases f:c.1=a.1
     ·rw[f]at h2;have:=Y8 (a:=b.1) (b:=a.1) e;rw[h1,h2]at this;cases this
     ·rw[y9 f]
      exact rankF_ok.w.ntr _ _ _ h1 h2]
 eq:=λa b=>by
  show ug [.tup (rankF.dec a.1),.tup (rankF.dec a.2)] [.tup (rankF.dec b.1),.tup (rankF.dec b.2)]=_;rw[qM,ug,Ji,ug,Ji,WJ,WJ,ug];by_cases e:a.1=b.1
  ·rw[y6 (w9 e),y6 e];by_cases f:a.2=b.2
   ·rw[y6 (w9 f),f,YS]
   ·rw[y9 (by simpa using f)]
  ·rw[y9 (by simpa using e),y9 e]
 ok:=λa b=>by
  show jY [.tup (rankF.dec a.1),.tup (rankF.dec a.2)] [.tup (rankF.dec b.1),.tup (rankF.dec b.2)]
  erw[jY,okD]
  exact#[rankF_ok.ok _ _,rankF_ok.ok _ _,trivial]
 dp:=λa=>by erw[pairF,rankF,dpD,vG,Z3];decide
 sh:=λa=>#[_,_,rfl,.inr #[rfl,_,rfl]]
end in def rkE(k:Nat)(l:())(ns:List Int)(e:Ent):(Int × List Int) × (Int × List Int):=(zdc k l ns e.1,zdc k l ns e.2.1)
def zdo{l:()}{u v:()}(hu:∀c ∈ u,c ∈ l)(hv:∀c ∈ v,c ∈ l):zdc k l ns u=zdc k l ns v ↔ u=v :=
 #[λh=>Wx hu hv (Prod.ext_iff.mp h).2,λh=>by rw[h]]
def UR{l:()}{a b:Ent}(ha:EB l a)(hb:EB l b):pairF.lt (rkE k l ns a) (rkE k l ns b)=Zo k l ns a b:=by
 rw[qM];unfold Zo;have h:(rkE k l ns a).1=(rkE k l ns b).1 ↔ a.1=b.1:=zdo ha.ma hb.ma;by_cases e:a.1=b.1
 ·rw[y6 (h.mpr e),y6 e];rfl
 ·rw[y9 λq=>e (h.mp q),y9 e];rfl
theorem Qw:∀{es:List Ent} {vs:List V},EnsA K H es vs->∀t ∈ es.zip vs,EnA K H t.1 t.2
 | [],_,_,t,ht=>by simp at ht
 | e::es,vs,h,t,ht=>by
  erw[EnsA]at h
  obtain⟨v,r,rfl,h1,h2⟩:=h;rw[dv]at ht;rcases BE.mp ht with rfl | ht
  ·exact h1
  ·exact Qw h2 t ht
theorem zaz:∀{ts:List (Ent × V)},(∀t ∈ ts,EnA K H t.1 t.2)->EnsA K H (ts.map (·.1)) (ts.map (·.2))
 | [],_=>by erw[aO,EnsA]
 | t::ts,h=>by
  erw[av,EnsA]
  exact#[_,_,rfl,h t aA,zaz λu hu=>h u (am _ hu)]
theorem Xw{l:()}{vs:List V}{ys:List (((Int × List Int) × (Int × List Int)) × V)}{d:((Int × List Int) × (Int × List Int)) × V}(hI:EnsA K H es vs)(hE:∀e ∈ es,EB l e)(h1:ys=srt (λp q=>pairF.lt p.1 q.1) d ((es.map (rkE k l ns)).zip vs)) :
  ∃zs:List Ent,zs.Perm es/\zs.Pairwise (λa b=>Zo k l ns b a=Bx)/\zs=srt (Zo k l ns) ([],[],[]) es/\EnsA K H zs (ys.map (·.2)):=by
 have hl:=hI.len
 have e0:(es.map (rkE k l ns)).zip vs=(es.zip vs).map λt=>(rkE k l ns t.1,t.2):=by
  rw[List.zip_map_left];rfl
 have W0:WkO λ(p q:((Int × List Int) × (Int × List Int)) × V)=>pairF.lt p.1 q.1:=#[λa b=>pairF_ok.w.asym _ _,λa b c=>pairF_ok.w.ntr _ _ _];have W1:WkO λ(p q:Ent × V)=>pairF.lt (rkE k l ns p.1) (rkE k l ns q.1):=#[λa b=>pairF_ok.w.asym _ _,λa b c=>pairF_ok.w.ntr _ _ _];have W2:WkO λ(p q:Ent)=>pairF.lt (rkE k l ns p) (rkE k l ns q):=#[λa b=>pairF_ok.w.asym _ _,λa b c=>pairF_ok.w.ntr _ _ _];rw[e0,za1 W0 (d':=(λt:Ent × V=>(rkE k l ns t.1,t.2)) (([],[],[]),.non)) (λ_ _ _ _=>rfl)]at h1
 replace h1:=h1.trans (Qo (lt:=λ(p q:((Int × List Int) × (Int × List Int)) × V)=>pairF.lt p.1 q.1) (λt:Ent × V=>(rkE k l ns t.1,t.2)) (([],[],[]),.non) (es.zip vs))
 obtain⟨p,h2⟩:=Kt W1 (([],[],[]),.non) (es.zip vs)
 have e2:(srt (λ(p q:Ent × V)=>pairF.lt (rkE k l ns p.1) (rkE k l ns q.1)) (([],[],[]),.non) (es.zip vs)).map (·.1)=srt (Zo k l ns) ([],[],[]) es:=by
  rw[<- za1 W2 (d:=([],[],[])) λa ha b hb=>UR (hE a ha) (hE b hb)];have:=Qo (lt:=λ(p q:Ent)=>pairF.lt (rkE k l ns p) (rkE k l ns q)) (λt:Ent × V=>t.1) (([],[],[]),.non) (es.zip vs);rw[List.map_fst_zip ⋯]at this;exact this.symm
 generalize srt (λ(p q:Ent × V)=>pairF.lt (rkE k l ns p.1) (rkE k l ns q.1)) (([],[],[]),.non) (es.zip vs)=ts at h1 h2 p e2;have hm:∀t ∈ ts,t.1 ∈ es:=λt ht=>(dj (show (t.1,t.2) ∈ es.zip vs from p.mem_iff.mp ht)).1;refine#[ts.map (·.1),?_,?_,e2,?_]
 ·have:=p.map (·.1);rw[List.map_fst_zip ⋯]at this;exact this
 ·rw[List.pairwise_map];refine h2.imp_of_mem λ{a b} ha hb h=>?_;rw[<- UR (hE _ (hm _ hb)) (hE _ (hm _ ha))];exact h
 ·rw[h1,du];exact zaz λt ht=>Qw hI t (p.mem_iff.mp ht)
def tbE(K:sV)(CO CR CW:sX):TE:=Jl (zL (zw (zeF CO CR CW) "rank" (λ_=>jg CO CR CW) [] E0 (z6 1) (zL (tOp (vv K) (z6 0) (tC (.int 0))) xx)) (zL (zw (zeF CO CR CW) "rank" (λ_=>jg CO CR CW) [] E0 (z6 1) (zL (tOp (vv K) (z6 0) (tC (.int 1))) xx)) xx))
theorem zeC{CO CR CW o p s:sX}{l:()}(hG:OG l ns k)(ho:OrdAt CO CR CW H o k l ns)(hE:EB l e)(hp:SqT K H p [.str (tx e.1),.str (tx e.2.1),.ref s])(q:∀(t:sX) (H':Hp),Same H H'->Is K H' (.tup (pairF.dec (rkE k l ns e))) (.ref t)->Q (.ref t) H'):tbE K CO CR CW [!!p,!!o] H Q:=by
 have s16:=zW;obtain⟨C,dx,fs,hf,ho1,hn,_⟩:=ho.fam;have h1:fs.lookup ("rank" : tw)=Bv:=hn _ ∅ ∅;unfold tbE;ac_rfl;refine#[C,hf,dx,fs,ho1,h1,_,hp,_,rfl,o,k,l,ns,e.1,rfl,ho,hG,by have:=hE.a;lia,hE.ma,λp1 q1 H1 s1 hp1 hq1=>#[C,hf,dx,fs,s1 _ _ ho1,h1,_,zo s1 hp,_,rfl,o,k,l,ns,e.2.1,rfl,ho.same s1,hG,by have:=hE.b;lia,hE.mb,λp2 q2 H2 s2 hp2 hq2=>#[⋯,λt ht=>?_]]];refine q t _ (s1.trans (s2.trans (zd (o:=.tup [.ref p1,.ref p2]) ht))) ?_;show Is K _ (.tup [.tup (rankF.dec (zdc k l ns e.1)),.tup (rankF.dec (zdc k l ns e.2.1))]) (.ref t);refine Is.tup ht ?_
 erw[Iss]
 exact#[_,_,rfl,qg (s2 _ _ hp1) (s2 _ _ hq1),_,_,rfl,qg hp2 hq2,rfl]
theorem za7{CO CR CW o:sX}{l:()}{LA:Hp->Prop}{Qf:List V->Hp->Prop}(hG:OG l ns k)(hLA:∀H H',LA H->Same H H'->LA H'):∀(es:List Ent) (vs BA:List V) (rs:List ((Int × List Int) × (Int × List Int))) (H:Hp),LA H->OrdAt CO CR CW H o k l ns->(∀e ∈ es,EB l e)->EnsA K H es vs ->
  Iss K H (rs.map λa=>.tup (pairF.dec a)) BA->(∀acc' H',Same H H'->Iss K H' ((rs ++ es.map (rkE k l ns)).map λa=>.tup (pairF.dec a)) acc'->Qf acc' H')->qr (λx H Q=>LA H/\tbE K CO CR CW [Bu x,!!o] H Q) vs BA H Qf
 | [],vs,BA,rs,H,hL,ho,hw,hV,hI,h=>by
  erw[EnsA]at hV
  subst hV;exact h BA H (Same.refl _) (by simpa using hI)
 | e::es,vs,BA,rs,H,hL,ho,hw,hV,hI,h=>by
  have s16:=zW
  erw[EnsA]at hV
  obtain⟨v,r,rfl,⟨p,s,rfl,hp,_⟩,hV⟩:=hV;refine#[hL,zeC hG ho (hw e aA) hp λt H' s3 hIs=>?_];refine za7 hG hLA es r (BA ++ [.ref t]) (rs ++ [rkE k l ns e]) _ (hLA _ _ hL s3) (ho.same s3) (λx hx=>hw x (am _ hx)) (hV.same s3) ?_ λacc' H' s' hI'=>h acc' H' (s3.trans s') (by simpa using hI');rw[au];exact Wr (Iss.same s3 _ _ hI) hIs
end in def zev:tD->Ad
 | .Lambda _ _ _ p=>p
 | _=>default
end in def zg3:List tF->Ad
 | _::.Return (Bu (.Call _ _ (k::_) _)) _::_=>zev k.value
 | _=>default
end in def lp:Ad:=zg3 (yq yQ)
end in def lq:tw:="in_order.<locals>.<lambda>"
def Zm(K:sV)(CO CR CW T:sX):Sp:=λvs H Q _=>∃(o a:sX) (k:Nat) (l:()) (ns:List Int) (es:List Ent),vs=[.ref o,.ref a]/\OrdAt CO CR CW H o k l ns/\OG l ns k/\EnsL K H a es/\es.length<64/\(∀e ∈ es,EB l e)/\TabOk H T lp lq /\
 ∀(D:sX) (zs:List Ent) (H':Hp),SamT T H H'->TabOk H' T lp lq->H D=Bv->Lined k l ns es zs->EnsM K H' D zs->Q (.ref D) H'
def Jz{CO CR CW T o a:sX}{l:()}(h1:OrdAt CO CR CW H o k l ns)(h2:OG l ns k)(h3:EnsL K H a es)(h4:es.length<64)(h5:∀e ∈ es,EB l e)(h6:TabOk H T lp lq)(h:∀(D:sX) (zs:List Ent) (H':Hp),SamT T H H'->TabOk H' T lp lq->H D=Bv->Lined k l ns es zs->EnsM K H' D zs->Q (.ref D) H'):Zm K CO CR CW T [.ref o,.ref a] H Q E:=#[o,a,k,l,ns,es,rfl,h1,h2,h3,h4,h5,h6,h]
abbrev zbs(mg:tw->Option sY):Prop:=mg "sorted" = Bv
def oX:sQz 2 ["order","entries","unlike"] yQ:=by nofun
theorem XQ{f CO CR CW CC TB:sX}(B:Bt mg)(DRk:DR P w K mg base CO CR CW)(hsorted:zbs mg)(hCd:PySem.W.CodeHd base CC TB)(hBt:base.BuiltinsAt mg TB)(hgT:sQ≠TB)(F:("in_order"^^^yQ))(HC:fd.code=.ref CC)(oh:(4<<<"as_rule") ["order","entry"] [] (vf K CO CR CW)):(6&&&["order","entries"]) (Zm K CO CR CW TB):=by
 refine zcI F HC oX (λvs H Q E h=>?_) (λA outer s H vs Q E hr h=>?_)
 ·obtain⟨o,a,k,l,ns,es,rfl,_⟩:=h;rfl
 ·obtain⟨o,a,k,l,ns,es,rfl,ho,hG,hA,hz,hE,hTab,q⟩:=h
  refine#[_,(zi (Xg (i:=2) oX.nd rfl (.inl rfl) (.inl rfl) (own:=["entry"]) (caps:=["order"]) (ix:=[0]) (tt:=(tBl (tOp rNe (tOp (vv K) (z6 0) (tC (.int 0))) (tOp (vv K) (z6 0) (tC (.int 1)))))) (te:=(wL (vf K CO CR CW) [] E0 (zL (z6 1) (zL (z6 0) xx)))) rfl (zM (sc:=zh yQ) rfl (!0) (!0) (!0) rfl (!0) (!0) rfl) (z9 (pv 1)) (λ_ _ _ _ _ _=>zt (i:=0) (show List.Nodup [_,_] by decide) rfl (.inl rfl)) (λ_ _ _ _ _ _=>(Ug (zy uE (!-0) (!-0) (zA _)))) (λ_ _ _ _ _ _=>(cl0 oh hr .nil rfl (za (pv 1) (za (pv 0) ze))))) (zg (zl (Kx (k:=2) (p:="entry") (y:="order") (iy:=0) (c:=s⁻¹+1) (tb:=tbE K CO CR CW) pairF_ok #[rfl,rfl,rfl,∅,rfl,rfl,∅,∅] (hr.mono ∅) rfl hsorted PyProof.Rows.boot_sorted (za (pv 2) ze) rfl hCd hBt hgT rfl rfl (by intro _ _ _ _;exact rfl) rfl rfl rfl (λs H f cv hr'=>zS (za (zda DRk hr' (pv 1) (za (!-0) ze)) (za (zda DRk hr' (pv 1) (za (!-0) ze)) ze))))))),?_]
  have s16:=zW;obtain⟨xs,hX,hI⟩:=id hA;have hxl:=hI.len
  have hEr:∀e ∈ qG k l ns es,EB l e:=λe he=>by
   unfold qG at he;obtain⟨y,hy,rfl⟩:=BC.mp he;exact (hE y (BJ.mp hy).1).rule
  have hrl:=X2 k l ns es;change Same H H'/\∃(D0:sX) (BA:List V),H D0=Bv/\H' D0=Bu (.lst BA)/\EnsA K (j3 D0 H') (qG k l ns es) BA/\σ=[!!o,!!a,!!D0]
  ·ac_rfl;refine#[#[xs,hX],λD hD=>CompL.by (xs:=xs) (λi BA H'=>Same H H'/\H' D=Bu (.lst BA)/\EnsA K (j3 D H') (qG k l ns (es.take i)) BA) #[zd hD,zc,by erw[bN,qG,dm,aO,EnsA]] (λi BA H' _ h=>h.1.seq hX) ?_ ?_]
   ·refine nm4 ?_;rintro i x BA H' hx ⟨hs,hH,hA⟩:_;have hi:=(BB.mp hx).1;obtain⟨e,pe,se,hei,rfl,hqe,hse⟩:=hI.get hx;have hEe:=hE e (ae hei);have hal:=hA.len;have hal2:=X2 k l ns (es.take i);rw[aE]at hal2;have hq1:=zo hs hqe
    have hraw:qG k l ns (es.take (i+1))=qG k l ns (es.take i) ++ if e.1=e.2.1 then []else [yz k l ns e]:=by
     rw[zV hei,zb0];congr 1;unfold qG;by_cases hne:e.1=e.2.1
     ·rw[y6 hne,fj (by simp [hne])];rfl
     ·rw[y9 hne,fh (by simp [hne])];rfl
    right;ac_rfl;refine#[yH,_,hq1,_,rfl,_,hq1,_,rfl,rfl,yE (λhne=>?_) λheq=>?_]
    ·have hne':¬ e.1=e.2.1:=λz=>hne (by rw[z]);rw[y9 hne']at hraw
     have fin:∀(v:V) (H2:Hp),Same H' H2->EnA K (j3 D H2) (yz k l ns e) v->H2 D=Bu (.lst BA)/\BA.length<sU/\CNx xs.length i (λi BA H'=>Same H H'/\H' D=Bu (.lst BA)/\EnsA K (j3 D H') (qG k l ns (es.take i)) BA) (BA ++ [v]) (upd H2 D (.lst (BA ++ [v]))):=λv H2 s2 hv=>by
      refine#[s2 _ _ hH,⋯,CNx.mk hi #[zE (hs.trans s2) hD,zc,?_]];rw[hraw];exact (hA.same ((wT s2).trans xN)).snoc (hv.same xN)
     refine kF (ho.same hs) hG hq1 (hse.same hs).is hEe (λer H2 s2=>fin _ _ s2 ?_) λp' s' H2 s2 hsn hp' hL=>fin _ _ s2 ?_
     ·rw[er];exact EnA.same #[pe,se,rfl,hqe,hse] (Q0 hD (hs.trans s2))
     ·exact EnA.new (s2 _ _ hH) hp' hL (λz=>by rw[z,hH]at hsn;cases hsn)
    ·have heq':e.1=e.2.1:=by
      have:=Classical.not_not.mp heq;injection this with this;exact qo this
     rw[y6 heq',aT]at hraw;exact CNx.mk hi #[hs,hH,by rw[hraw];exact hA]
   ·rintro BA H' ⟨hs,hH,hA⟩;rw[hxl,aJ]at hA;exact#[hs,D,hD,BA,hH,hA,rfl]
  rintro σ H1 ⟨s1,D0,BA,hD0,hH1,hI1,rfl⟩:_;have hal:=hI1.len;have hT1:=hTab.same s1;obtain⟨ps1,hps1,_⟩:=id hT1;right;ac_rfl;unfold zaA;refine#[hT1,λf H2 hf hLA hT2 sT=>?_];obtain⟨ps2,hps2,_⟩:=id hT2;have hI2:=EnsA.samT sT hps1 (hI1.same va);refine#[D0,BA,.ref o,rfl,SqL.of (sT.at hps1 hH1 λ_ z=>by cases z),⋯,rfl,?_];refine za7 hG (λA A' h1 h2=>LamAt.same h1 h2) (qG k l ns es) BA [] [] H2 hLA ((ho.same s1).samT sT hps1) hEr hI2 (by erw[aO,Iss]) λacc' H3 s3 hI3=>#[(qG k l ns es).map (rkE k l ns),by simpa using hI3,λys p1 D hD=>?_];obtain⟨zs,z1,z2,z4,z3⟩:=Xw (hI2.same s3) hEr p1;have sD:=zd (o:=.lst (ys.map (·.2))) hD;refine q D zs _ ((SamT.of s1).trans (sT.trans (SamT.of (s3.trans sD)))) (hT2.same (s3.trans sD)) ?_ #[z1,z2,z4] #[_,zc,z3.same sD];exact ((SamT.of s1).trans (sT.trans (SamT.of s3))).free (s3 _ _ hps2) hD
structure TMo(mg:tw->Option sY):Prop where
 u:∃t,mg "MOST_USES_thinning" = Bu (.int 40 t)
 s:∃t,mg "MOST_STEPS_thinning" = Bu (.int 240 t)
 d:∃t,mg "MOST_SIDE_thinning" = Bu (.int 60 t)
 p:∃t,mg "MOST_PASSES" = Bu (.int 20 t)
structure BG(k:Nat)(l:())(ns:List Int)(bs:List Ent):Prop where
 n:bs.length<64
 e:∀e ∈ bs,EB l e
 lt:∀e ∈ bs,zO k l ns e.2.1 e.1=Bw
def BG.ne{l:()}(h:BG k l ns bs)(G:OG l ns k):NeL (zb bs):=λp hp=>by
 unfold zb at hp;obtain⟨e,he,rfl⟩:=BC.mp hp;exact QT G.nb (h.lt e he)
def BG.le{l:()}(h:BG k l ns bs):∀p ∈ zb bs,p.1.length<=60/\p.2.length<=60:=λp hp=>by
 unfold zb at hp;obtain⟨e,he,rfl⟩:=BC.mp hp;exact#[(h.e e he).a,(h.e e he).b]
def BG.mem{l:()}(h:BG k l ns bs):∀p ∈ zb bs,∀c ∈ p.2,c ∈ l:=λp hp=>by
 unfold zb at hp;obtain⟨e,he,rfl⟩:=BC.mp hp;exact (h.e e he).mb
theorem qb{CF a:sX}{w:()}(hA:LsA K H a (ps.map dR))(hN:NeL ps)(hpl:ps.length<=100)(hP:∀p ∈ ps,p.1.length<=60/\p.2.length<=60)(hw:w.length<=60)(h1:∀(i:Nat) (p S:sX) (H':Hp),zF ps w i->Same H H'->H' p=Bu (.tup [.ref S,.str (tx (wAt ps w i))])->LsA K H' S ((sAt ps w i).map dG)->H S=Bv->Q (.ref p) H') (h2:(∀i,¬ zF ps w i)->∀H',Same H H'->E (.ref CF) Bv H'):xW K CF [.ref a,.str (tx w),.int 40] H Q E:=by
 have hP':∀p ∈ ps,p.1.length<=1000/\p.2.length<=1000:=λp hp=>by
  have:=hP p hp;lia
 have len:∀j,j<=40->(wAt ps w j).length<=10000:=λj hj=>by
  have:=ja (l:=w) (m:=60) hN (λp hp=>(hP p hp).2) j;lia
 rcases zcv ps w with ⟨i,hi⟩ | ⟨hL,hf⟩
 ·have hm:=hi.most;exact#[a,w,ps,40,i,rfl,hA,hN,hpl,hP',#[hi.live,λj hj=>len j ⋯,⋯],.inl #[hi.end_,⋯,λp S H' s' hp hL hS=>h1 i p S H' hi s' hp hL hS]]
 ·refine#[a,w,ps,40,40,rfl,hA,hN,hpl,hP',#[hL,λj hj=>len j hj,∅],.inr #[hf,rfl,h2 λi hi=>?_]];have hm:=hi.most;by_cases e:i=40
  ·subst e;exact hf hi.end_
  ·exact hL i ⋯ hi.end_
def Qv(us:List (Nat × Nat)):us.map dG=(stS us).map dSt:=by unfold stS;rw[du];rfl
def ZQ(us:List (Nat × Nat)):(stS us).length=us.length:=by unfold stS;rw[ac]
theorem zdv{w:()}(h:VZ ps w i):∀u ∈ sAt ps w i,u.1<ps.length:=λu hu=>by
 unfold sAt at hu;obtain⟨j,hj,rfl⟩:=BC.mp hu
 cases e:zJ (wAt ps w j) ps with
 | none=>exact y4 e (h j (BK.mp hj))
 | some v =>
  obtain⟨p,h1,_⟩:=xo e;exact (BB.mp h1).1
theorem Wy{w:()}(h:VZ ps w i):∀u ∈ stS (sAt ps w i),0<=u.1/\u.1<ps.length:=λu hu=>by
 unfold stS at hu;obtain⟨v,hv,rfl⟩:=BC.mp hu;have:=zdv h v hv;show 0<=(v.1:Int)/\(v.1:Int)<ps.length;lia
def Q9{n:Int}(h:∀u ∈ ss,0<=u.1/\u.1<n):∀u ∈ yX ss,0<=u.1/\u.1<n:=λu hu=>by
 unfold yX at hu;obtain⟨v,hv,rfl⟩:=BC.mp hu;exact h v (BL.mp hv)
def zee(h:∀e ∈ es,e.2.2.length<=600)(u:Stp):(VY es u).length<=600:=by
 have hg:(es.getD u.1.toNat ([],[],[])).2.2.length<=600:=by
  rw[af]
  cases e:es[u.1.toNat]? with
  | none=>exact aG _
  | some r=>exact h r (ae e)
 unfold VY;rw[WN];split
 ·exact hg
 ·rw[xm];exact hg
theorem zcC(h:∀e ∈ es,e.2.2.length<=600):∀us:List Stp,(byL es us).length<=us.length * 600
 | []=>by simp [byL]
 | u::us=>by
  have e:byL es (u::us)=VY es u ++ byL es us:=by simp [byL]
  have h1:=zee h u;have h2:=zcC h us;rw[e,aj,aL,eP];lia
def Xk(K:sV)(CF:sX):Sp:=λvs H Q E=>∃(a p s:sX) (k:Nat) (l:()) (ns:List Int) (bs:List Ent) (e:Ent),vs=[.ref a,.ref p]/\OG l ns k/\Is K H (.lst (bs.map dE)) (.ref a)/\BG k l ns bs/\SqT K H p [.str (tx e.1),.str (tx e.2.1),.ref s]/\LsA K H s (e.2.2.map dSt)/\EB l e /\
 (∀i j H',zF (zb bs) e.1 i->zF (zb bs) e.2.1 j->wAt (zb bs) e.1 i=wAt (zb bs) e.2.1 j->Same H H'->Q .non H') /\
 (∀i j p' s' H',zF (zb bs) e.1 i->zF (zb bs) e.2.1 j->wAt (zb bs) e.1 i≠wAt (zb bs) e.2.1 j->Same H H'->H s'=Bv->H' p'=Bu (.tup [.str (tx (xa bs e i j).1),.str (tx (xa bs e i j).2.1),.ref s'])->LsA K H' s' ((xa bs e i j).2.2.map dSt)->Q (.ref p') H') /\
 ((∀i,¬ zF (zb bs) e.1 i)\/(∀j,¬ zF (zb bs) e.2.1 j)->∀H',Same H H'->E (.ref CF) Bv H')
def WE{a t:sX}{us:List Stp}(h1:Is K H (.lst (es.map dE)) (.ref a))(h2:Is K H (.lst (us.map dSt)) (.ref t))(h3:us.length<=100)(h4:∀e ∈ es,e.2.2.length<=600)(h5:∀u ∈ us,0<=u.1/\u.1<es.length)(h:∀(D:sX) (H':Hp),H D=Bv->Same H H'->LsA K H' D ((byL es us).map dSt)->Q (.ref D) H'):Qb K [.ref a,.ref t] H Q E:=#[a,t,es,us,rfl,h1,h2,h3,h4,h5,h]
def gZ:sQz 2 ["entries","entry","rules","one","other","steps"] xY:=by nofun
theorem jp{f CF:sX}{lu:Ay}(B:Bt mg)(TM:TMo mg)(F:("brought_down"^^^xY))(gL:(1<<<"pairs_of") ["entries"] [] (wy K))(nI:(4>>>"gone") ["rules","word","most"] [] (xW K CF))(DD_gone:(4>>>"gone") ["rules","word","most"] [.int 4000 lu] (xW K CF))(iM:(2<<<"by_pacts") ["entries","steps"] [] (Qb K))(mM:(1<<<"back") ["steps"] [] (uS K)):(5|||["entries","entry"]) (Xk K CF):=by
 obtain⟨t9,g9⟩:=TM.u
 exists Fun.okX F gZ,0
 ·obtain⟨a,p,s,k,l,ns,bs,e,rfl,hG,hA,hB,hp,hs,hE,q1,q2,q3⟩:=h
  refine#[_,(zi (zC 2 gZ.nd (cl0 gL hr .nil rfl (za (pv 0) ze))) (zi (zC 3 gZ.nd (clP hx nI hr .nil rfl (za (pv 2) (za (!-1) (za (yC (v:=.int 40) rfl g9 #[t9,rfl]) ze))))) (zi (zC 4 gZ.nd (clP hx nI hr .nil rfl (za (pv 2) (za (!-1) (za (yC (v:=.int 40) rfl g9 #[t9,rfl]) ze))))) (zi (zN (zy wF (!-3) (!-4) (zA _)) (zg (zl ym))
    zr) (zi (zC 5 gZ.nd (zD W7 (zD W7 (cl0 iM hr .nil rfl (za (pv 0) (za (cl0 mM hr .nil rfl (za (!-3) ze)) ze))) (!-1)) (cl0 iM hr .nil rfl (za (pv 0) (za (!-4) ze))))) (zg (zl (zS (za (!-3) (za (!-4) (za (pv 5) ze))))))))))),?_]
  have s16:=zW;have hbl:=hB.n;have hN:=hB.ne hG;have hpl:=wZ bs;have hst:∀e ∈ bs,e.2.2.length<=600:=λe he=>(hB.e e he).s;have hst3:∀e ∈ bs,e.2.2.length<=600:=λe he=>by have:=hst e he;lia
  change Same H H'/\∃R:sX,LsA K H' R ((zb bs).map dR)/\σ=[!!a,!!p,!!R,Bv,Bv,Bv]
  ·ac_rfl;exact wj hA ⋯ λD H' _ s' hL=>#[s',D,hL,rfl]
  rintro σ H1 ⟨s1,R,hR,rfl⟩:_;right;change Same H1 H'/\∃(i:Nat),zF (zb bs) e.1 i/\∃p1:sX,(∃S1:sX,H' p1=Bu (.tup [.ref S1,.str (tx (wAt (zb bs) e.1 i))])/\LsA K H' S1 ((sAt (zb bs) e.1 i).map dG))/\σ=[!!a,!!p,!!R,!!p1,Bv,Bv]
  ·ac_rfl;refine#[_,zo s1 hp,_,rfl,qb hR hN ⋯ hB.le hE.a (λi p1 S1 H' hi s' hp1 hL _=>#[s',i,hi,p1,#[S1,hp1,hL],rfl]) λhno H' s'=>q3 (.inl hno) H' (s1.trans s')]
  rintro σ H2 ⟨s2,i,hi,p1,⟨S1,hp1,hS1⟩,rfl⟩:_;have s12:=s1.trans s2;right;change Same H2 H'/\∃(j:Nat),zF (zb bs) e.2.1 j/\∃p2:sX,(∃S2:sX,H' p2=Bu (.tup [.ref S2,.str (tx (wAt (zb bs) e.2.1 j))])/\LsA K H' S2 ((sAt (zb bs) e.2.1 j).map dG))/\σ=[!!a,!!p,!!R,!!p1,!!p2,Bv]
  ·ac_rfl;refine#[_,zo s12 hp,_,rfl,qb (hR.same s2) hN ⋯ hB.le hE.b (λj p2 S2 H' hj s' hp2 hL _=>#[s',j,hj,p2,#[S2,hp2,hL],rfl]) λhno H' s'=>q3 (.inr hno) H' (s12.trans s')]
  rintro σ H3 ⟨s3,j,hj,p2,⟨S2,hp2,hS2⟩,rfl⟩:_;have s13:=s12.trans s3;have hp1':=s3 _ _ hp1;have hS1':=hS1.same s3;right;change H'=H3/\wAt (zb bs) e.1 i≠wAt (zb bs) e.2.1 j/\σ=[!!a,!!p,!!R,!!p1,!!p2,Bv]
  ·ac_rfl;refine#[_,SqT.of hp1',_,rfl,_,SqT.of hp2,_,rfl,rfl,yE (λh=>?_) λh=>?_]
   ·exact q1 i j H3 hi hj (qo (by injection h)) s13
   ·exact λz=>h (by rw[z])
  rintro σ H4 ⟨rfl,hne,rfl⟩:_;have him:=hi.most;have hjm:=hj.most;have hl1:(stS (sAt (zb bs) e.1 i)).length=i:=by rw[ZQ,qY]
  have hl2:(stS (sAt (zb bs) e.2.1 j)).length=j:=by rw[ZQ,qY]
  rw[Qv]at hS1' hS2;have hA4:=Is.same s13 _ _ hA;have hb1:=zcC hst (yX (stS (sAt (zb bs) e.1 i)));have hb2:=zcC hst (stS (sAt (zb bs) e.2.1 j));rw[xm,hl1]at hb1;rw[hl2]at hb2;have hes:=hE.s;right;change Same H4 H'/\∃S:sX,H4 S=Bv/\LsA K H' S ((xa bs e i j).2.2.map dSt)/\σ=[!!a,!!p,!!R,!!p1,!!p2,!!S]
  ·ac_rfl;refine#[_,SqT.of hp1',_,rfl,qP hS1'.is ⋯ λB1 G1 _ t1 hB1=>WE (Is.same t1 _ _ hA4) hB1.is (by rw[xm];lia) hst3 (by rw[<- hpl];exact Q9 (Wy hi.live)) λC1 G2 hC1n t2 hC1=>?_];have t12:=t1.trans t2;obtain⟨c1,hc1,ic1⟩:=id hC1;obtain⟨es0,hs0,is0⟩:=hs.same (s13.trans t12);have lc1:=ic1.len;have ls0:=is0.len;rw[ac]at lc1 ls0;refine#[_,zo (s13.trans t12) hp,_,rfl,C1,rfl,s,rfl,c1,hc1,es0,hs0,⋯,λM hM=>?_];have t3:=zd (o:=.lst (c1 ++ es0)) hM;have t13:=t12.trans t3;refine#[_,SqT.of (t13 _ _ hp2),_,rfl,WE (Is.same t13 _ _ hA4) (hS2.same t13).is ⋯ hst3 (by rw[<- hpl];exact Wy hj.live) λC2 G3 hC2n t4 hC2=>?_];obtain⟨c2,hc2,ic2⟩:=id hC2;have lc2:=ic2.len;rw[ac]at lc2;refine#[C2,rfl,c1 ++ es0,t4 _ _ zc,c2,hc2,by rw[aj];lia,λS hS=>?_];have t5:=zd (o:=.lst (c1 ++ es0 ++ c2)) hS;refine#[t13.trans (t4.trans t5),S,(t13.trans t4).free hS,#[_,zc,?_],rfl];show Iss K _ ((byL bs (yX (stS (sAt (zb bs) e.1 i))) ++ e.2.2 ++ byL bs (stS (sAt (zb bs) e.2.1 j))).map dSt) _;rw[au,au];exact Iss.append (Iss.append (Iss.same (t3.trans (t4.trans t5)) _ _ ic1) (Iss.same (t3.trans (t4.trans t5)) _ _ is0)) (Iss.same t5 _ _ ic2)
  rintro σ H5 ⟨s5,S,hSn,hS,rfl⟩:_;right;ac_rfl;refine#[_,SqT.of (s5 _ _ hp1'),_,rfl,_,SqT.of (s5 _ _ hp2),_,rfl,⋯,λt ht=>?_];have st:=zd (o:=.tup [.str (tx (wAt (zb bs) e.1 i)),.str (tx (wAt (zb bs) e.2.1 j)),.ref S]) ht;exact q2 i j t S _ hi hj hne (s13.trans (s5.trans st)) (s13.free hSn) zc (hS.same st)
def jt(K:sV)(CF:sX):Sp:=λvs H Q E=>∃(p s:sX) (e:Ent),vs=[.ref p]/\SqT K H p [.str (tx e.1),.str (tx e.2.1),.ref s]/\Is K H (.lst (e.2.2.map dSt)) (.ref s)/\e.1.length<=10000/\e.2.1.length<=10000/\(¬ jX e->Q .non H)/\(jX e->E (.ref CF) Bv H)
def V4{CF p s:sX}(h1:SqT K H p [.str (tx e.1),.str (tx e.2.1),.ref s])(h2:Is K H (.lst (e.2.2.map dSt)) (.ref s))(h3:e.1.length<=10000)(h4:e.2.1.length<=10000)(h5:¬ jX e->Q .non H)(h6:jX e->E (.ref CF) Bv H):jt K CF [.ref p] H Q E:=#[p,s,e,rfl,h1,h2,h3,h4,h5,h6]
def qD:sQz 1 ["entry"] xD:=by nofun
theorem qC{f CF:sX}(B:Bt mg)(T:zbY K mg CF)(TM:TMo mg)(F:("refuse_beyond"^^^xD)) :(1|||["entry"]) (jt K CF):=by
 obtain⟨⟨t9,g9⟩,⟨t8,g8⟩⟩:=And.intro TM.s TM.d
 exists Fun.okX F qD,0
 ·obtain⟨p,s,e,rfl,hp,hs,ha,hb,q1,q2⟩:=h
  refine#[_,(zi (zN (zy VT (zB B.len (!-0)) (yC (v:=.int 240) rfl g9 #[t9,rfl]) (zA _)) (zg (ye hx rfl T.xi.toXC T.ini rfl T.g (za yc ze)))
    zr) (zg (zN (zy VT (yu (Uy rfl) rfl B.max qL (za (zB B.len (!-0)) (za (zB B.len (!-0)) ze))) (yC (v:=.int 60) rfl g8 #[t8,rfl]) (zA _)) (zg (ye hx rfl T.xi.toXC T.ini rfl T.g (za yc ze)))
    zr))),?_]
  have s16:=zW
  erw[Is]at hs
  obtain⟨_,zs,e0,hZ,hI⟩:=hs;cases e0;have hzl:=hI.len;rw[ac]at hzl;change H'=H/\e.2.2.length<=240/\σ=[!!p]
  ·ac_rfl;refine#[_,hp,_,rfl,_,.inl #[_,hZ,rfl],yE (λh=>#[⋯,q2 (.inl ⋯)]) λh=>by lia]
  rintro σ H1 ⟨rfl,h1,rfl⟩:_;right;ac_rfl;refine#[_,hp,_,rfl,_,#[by rw[zK];lia,rfl],_,hp,_,rfl,_,#[by rw[zK];lia,rfl],?_];rw[zK,zK];refine yE (λh=>#[⋯,q2 ?_]) λh=>q1 ?_
  ·unfold jX;split at h <;> lia
  ·unfold jX;split at h <;> lia
theorem K9{l:()}{i j:Nat}(hB:BG k l ns bs)(hE:EB l e)(hF:¬ jX (xa bs e i j)):EB l (xa bs e i j):=by unfold jX at hF;exact#[⋯,⋯,⋯,uQ hE.ma hB.mem i,uQ hE.mb hB.mem j]
def BG.snoc{l:()}{d:Ent}(h:BG k l ns bs)(hn:bs.length+1<64)(hd:EB l d)(hne:d.1≠d.2.1):BG k l ns (bs ++ [yz k l ns d]):=by
 refine#[by rw[aj];exact hn,λe he=>?_,λe he=>?_]
 ·rcases BD.mp he with he | he
  ·exact h.e e he
  ·rw[BF.mp he];exact hd.rule
 ·rcases BD.mp he with he | he
  ·exact h.lt e he
  ·rw[BF.mp he];exact jc hd hne
def K0{CF a p s:sX}{l:()}(h1:OG l ns k)(h2:Is K H (.lst (bs.map dE)) (.ref a))(h3:BG k l ns bs)(h4:SqT K H p [.str (tx e.1),.str (tx e.2.1),.ref s])(h5:LsA K H s (e.2.2.map dSt))(h6:EB l e)(q1:∀i j H',zF (zb bs) e.1 i->zF (zb bs) e.2.1 j->wAt (zb bs) e.1 i=wAt (zb bs) e.2.1 j->Same H H'->Q .non H')(q2:∀i j p' s' H',zF (zb bs) e.1 i->zF (zb bs) e.2.1 j->wAt (zb bs) e.1 i≠wAt (zb bs) e.2.1 j->Same H H'->H s'=Bv->H' p'=Bu (.tup [.str (tx (xa bs e i j).1),.str (tx (xa bs e i j).2.1),.ref s'])->LsA K H' s' ((xa bs e i j).2.2.map dSt)->Q (.ref p') H')(q3:(∀i,¬ zF (zb bs) e.1 i)\/(∀j,¬ zF (zb bs) e.2.1 j)->∀H',Same H H'->E (.ref CF) Bv H'):Xk K CF [.ref a,.ref p] H Q E:=#[a,p,s,k,l,ns,bs,e,rfl,h1,h2,h3,h4,h5,h6,q1,q2,q3]
theorem KT{l:()}{i j:Nat}(hB:BG k l ns bs)(hG:OG l ns k)(hE:EB l e)(hi:i<=40)(hj:j<=40):(xa bs e i j).1.length<=10000/\(xa bs e i j).2.1.length<=10000:=by have h1:=ja (l:=e.1) (m:=60) (hB.ne hG) (λp hp=>(hB.le p hp).2) i;have h2:=ja (l:=e.2.1) (m:=60) (hB.ne hG) (λp hp=>(hB.le p hp).2) j;have h3:=hE.a;have h4:=hE.b;show (wAt (zb bs) e.1 i).length<=10000/\(wAt (zb bs) e.2.1 j).length<=10000;lia
def Zc(K:sV)(CO CR CW CF:sX):Sp:=λvs H Q E=>∃(o a:sX) (k:Nat) (l:()) (ns:List Int) (zs:List Ent),vs=[.ref o,.ref a]/\OrdAt CO CR CW H o k l ns/\OG l ns k/\EnsL K H a zs/\zs.length<64/\(∀e ∈ zs,EB l e) /\
 (∀(bs:List Ent) (D:sX) (H':Hp),xt k l ns [] zs (Bu bs)->BG k l ns bs->Same H H'->H D=Bv->EnsM K H' D bs->Q (.ref D) H')/\(xt k l ns [] zs Bv->∀H',Same H H'->E (.ref CF) Bv H')
def JC{CO CR CW CF o a:sX}{l:()}{zs:List Ent}(h1:OrdAt CO CR CW H o k l ns)(h2:OG l ns k)(h3:EnsL K H a zs)(h4:zs.length<64)(h5:∀e ∈ zs,EB l e)(q1:∀(bs:List Ent) (D:sX) (H':Hp),xt k l ns [] zs (Bu bs)->BG k l ns bs->Same H H'->H D=Bv->EnsM K H' D bs->Q (.ref D) H') (q2:xt k l ns [] zs Bv->∀H',Same H H'->E (.ref CF) Bv H'):Zc K CO CR CW CF [.ref o,.ref a] H Q E:=#[o,a,k,l,ns,zs,rfl,h1,h2,h3,h4,h5,q1,q2]
def zfB(K:sV)(H1 H':Hp)(bs:List Ent)(e:Ent)(v:V):Prop:=∃i j,zF (zb bs) e.1 i/\zF (zb bs) e.2.1 j/\((wAt (zb bs) e.1 i=wAt (zb bs) e.2.1 j/\v=.non) \/
 (wAt (zb bs) e.1 i≠wAt (zb bs) e.2.1 j/\∃p s:sX,v=.ref p/\H1 s=Bv/\H' p=Bu (.tup [.str (tx (xa bs e i j).1),.str (tx (xa bs e i j).2.1),.ref s])/\LsA K H' s ((xa bs e i j).2.2.map dSt)))
def zfg(K:sV)(H:Hp)(D:sX)(k:Nat)(l:())(ns:List Int)(zs:List Ent)(i:Nat)(H':Hp):Prop:=∃(bs:List Ent) (BA:List V),Same H H'/\H' D=Bu (.lst BA)/\EnsA K (j3 D H') bs BA/\BG k l ns bs/\bs.length<=i/\∀r,xt k l ns bs (zs.drop i) r->xt k l ns [] zs r
def lc:sQz 2 ["order","entries","built","entry","lower"] wM:=by nofun
theorem Zq{f CO CR CW CF:sX}(B:Bt mg)(F:("built_anew"^^^wM))(pV:(5>>>"brought_down") ["entries","entry"] [] (Xk K CF))(pG:(1>>>"refuse_beyond") ["entry"] [] (jt K CF))(oh:(4<<<"as_rule") ["order","entry"] [] (vf K CO CR CW)):(6|||["order","entries"]) (Zc K CO CR CW CF):=by
 exists Fun.okX F lc,0
 ·obtain⟨o,a,k,l,ns,zs,rfl,ho,hG,hA,hz,hE,q1,q2⟩:=h
  refine#[_,(zi (zC 2 lc.nd (uK ze)) (zi (z7 PassesOwn.leaving rfl (z9 (pv 1)) (zt (i:=3) lc.nd rfl (.inl rfl)) (zi (zC 4 lc.nd (clP hx pV hr .nil rfl (za (pv 2) (za (pv 3) ze)))) (zg (zN (zy op_notN' (pv 4) ym (zA _)) (zi (vn (clP hx pG hr .nil rfl (za (pv 4) ze))) (zg (vn (ux bV cI cJ wQ (pv 2) (za (cl0 oh hr .nil rfl (za (pv 0) (za (pv 4) ze))) ze)))))
     zr)))) (zg (zl (pv 2))))),?_]
  have s16:=zW;obtain⟨xs,hX,hI⟩:=id hA;have hxl:=hI.len;change Same H H'/\∃D:sX,H D=Bv/\H' D=Bu (.lst [])/\σ=[!!o,!!a,!!D,Bv,Bv]
  ·ac_rfl;exact#[⋯,λp hp=>#[zd hp,p,hp,zc,rfl]]
  rintro σ H0 ⟨s0,D,hD,hD0,rfl⟩:_;right;change zfg K H D k l ns zs zs.length H'/\∃(v3 v4:Option V),σ=[!!o,!!a,!!D,v3,v4]
  ·ac_rfl;refine#[#[_,s0.seq hX],ForL.by (xs:=xs) (λi σ H'=>zfg K H D k l ns zs i H'/\∃(v3 v4:Option V),σ=[!!o,!!a,!!D,v3,v4]) #[#[[],[],s0,hD0,by erw[EnsA],#[∅,λe he=>(nomatch he),λe he=>(nomatch he)],al _,λr h=>h],Bv,Bv,rfl] (λi σ H' _ ⟨⟨_,_,h,_⟩,_⟩=>h.seq hX) ?_ ?_]
   ·refine nm4 ?_;rintro i x σ H1 hx ⟨⟨bs,BA,s1,hH1,hI1,hB,hbi,hr⟩,v3,v4,rfl⟩:_;have hix:=(BB.mp hx).1;obtain⟨e,pe,se,hei,rfl,hqe,hse⟩:=hI.get hx;have hEe:=hE e (ae hei)
    have hdrop:zs.drop i=e::zs.drop (i+1):=by
     obtain⟨h1,h2⟩:=BB.mp hei;rw[aV h1,h2]
    rw[hdrop]at hr;have hal:=hI1.len;have hbn:=hB.n
    have hIs:Is K H1 (.lst (bs.map dE)) (.ref D):=by
     erw[Is]
     exact#[D,BA,rfl,SqL.of hH1,(hI1.same va).iss]
    right
    erw[yK,aX,aW]
    change Same H1 H'/\∃v:V,zfB K H1 H' bs e v/\σ=[!!o,!!a,!!D,!!pe,Bu (v)]
    ·ac_rfl;exact K0 hG hIs hB (zo s1 hqe) (hse.same s1) hEe (λi' j' H' a1 a2 a3 s'=>#[s',i',j',a1,a2,.inl #[a3,rfl]]) (λi' j' p' s' H' a1 a2 a3 t' a4 a5 a6=>#[t',i',j',a1,a2,.inr #[a3,p',s',rfl,a4,a5,a6]]) λh H' s'=>q2 (hr _ (.stuck h)) H' (s1.trans s')
    rintro σ H2 ⟨s2,v,⟨i',j',hi',hj',hc⟩,rfl⟩:_;right;rcases hc with ⟨hw,rfl⟩ | ⟨hw,p',s',rfl,hsn,hp',hL'⟩
    ·ac_rfl;exact#[bs,BA,s1.trans s2,s2 _ _ hH1,hI1.same (wT s2),hB,⋯,λr h=>hr r (.same hi' hj' hw h)]
    ·ac_rfl
     try rw[y6 not_false]
     have hdl:=KT hB hG hEe hi'.most hj'.most;change H'=H2/\¬ jX (xa bs e i' j')/\σ=[!!o,!!a,!!D,!!pe,!!p']
     ·ac_rfl;exact V4 (SqT.of hp') hL'.is hdl.1 hdl.2 (λh=>#[rfl,h]) λh=>q2 (hr _ (.far hi' hj' hw h)) H2 (s1.trans s2)
     rintro σ H3 ⟨rfl,hF,rfl⟩:_;have hEd:=K9 hB hEe hF;have hH3:=s2 _ _ hH1
     have fin:∀(v:V) (H4:Hp),Same H3 H4->EnA K (j3 D H4) (yz k l ns (xa bs e i' j')) v->zfg K H D k l ns zs (i+1) (upd H4 D (.lst (BA ++ [v]))):=λv H4 s4 hv=>by
      refine#[bs ++ [yz k l ns (xa bs e i' j')],BA ++ [v],zE (s1.trans (s2.trans s4)) hD,zc,?_,hB.snoc ⋯ hEd hw,by rw[aj];show bs.length+1<=i+1;lia,λr h=>hr r (.new hi' hj' hw hF h)];exact (hI1.same ((wT (s2.trans s4)).trans xN)).snoc (hv.same xN)
     right;ac_rfl;refine#[.inl #[_,SqL.of hH3],kF (ho.same (s1.trans s2)) hG (SqT.of hp') hL'.is hEd (λer H4 s4=>#[BA,s4 _ _ hH3,⋯,fin _ _ s4 ?_]) λp2 t2 H4 s4 htn hp2 hL2=>#[BA,s4 _ _ hH3,⋯,fin _ _ s4 ?_]]
     ·rw[er];exact EnA.new (s4 _ _ hH3) (s4 _ _ hp') (hL'.same s4) (λz=>by rw[z,hH1]at hsn;cases hsn)
     ·exact EnA.new (s4 _ _ hH3) hp2 hL2 (λz=>by rw[z,hH3]at htn;cases htn)
   ·rintro σ H' ⟨h,v3,v4,rfl⟩;rw[hxl]at h;exact#[h,_,_,rfl]
  rintro σ H2 ⟨⟨bs,BA,s2,hH2,hI2,hB,hbi,hr⟩,v3,v4,rfl⟩:_;rw[dN]at hr;right;ac_rfl;exact q1 bs D H2 (hr _ (.nil bs)) hB s2 hD #[BA,hH2,hI2.same va]
theorem JY(rs ss:List zu):uA (rs.map dR) (ss.map dR)=decide (rs=ss):=by
 induction rs generalizing ss with
 | nil=>cases ss with
  | nil=>simp [uA]
  | cons s ss=>simp [uA]
 | cons r rs ih=>cases ss with
  | nil=>simp [uA]
  | cons s ss =>
   rw[av,av,uA,ih]
   have h:eqD (dR r) (dR s)=decide (r=s):=by
    obtain⟨a,b⟩:=r;obtain⟨c,d⟩:=s
    have e1:∀x y:(),eqD (dS x) (dS y)=decide (x=y):=λx y=>by
     have:eqD (dS x) (dS y)=decide (tx x=tx y):=by erw[dS,eqD];rfl
     rw[this];exact decide_eq_decide.mpr #[qo,λh=>by rw[h]]
    erw[dR,eqD,uA,e1]
    by_cases h1:a=c <;> by_cases h2:b=d <;> simp [h1,h2]
   rw[h];by_cases h1:r=s <;> by_cases h2:rs=ss <;> simp [h1,h2]
def Lined.eb{l:()}{es zs:List Ent}(h:Lined k l ns es zs)(hE:∀e ∈ es,EB l e):∀e ∈ zs,EB l e:=λe he=>by
 have hm:=h.perm.mem_iff.mp he;unfold qG at hm;obtain⟨y,hy,rfl⟩:=BC.mp hm;exact (hE y (BJ.mp hy).1).rule
def Lined.len{l:()}{es zs:List Ent}(h:Lined k l ns es zs):zs.length<=es.length:=by rw[h.perm.length_eq];exact X2 k l ns es
def QR(K:sV)(CO CR CW T CF:sX):Sp:=λvs H Q E=>∃(o a:sX) (k:Nat) (l:()) (ns:List Int) (es:List Ent),vs=[.ref o,.ref a]/\OrdAt CO CR CW H o k l ns/\OG l ns k/\EnsL K H a es/\es.length<64/\(∀e ∈ es,EB l e)/\TabOk H T lp lq /\
 (∀(bs:List Ent) (D:sX) (H':Hp),vS k l ns 20 es (Bu bs)->BG k l ns bs->SamT T H H'->TabOk H' T lp lq->EnsM K H' D bs->Q (.ref D) H')/\(vS k l ns 20 es Bv->∀H',SamT T H H'->TabOk H' T lp lq->E (.ref CF) Bv H')
def zgq(K:sV)(T:sX)(H:Hp)(k:Nat)(l:())(ns:List Int)(es:List Ent)(n:Nat)(H':Hp)(b:sX):Prop:=∃fs:List Ent,SamT T H H'/\TabOk H' T lp lq/\(∀r,vS k l ns n fs r->vS k l ns 20 es r)/\EnsL K H' b fs/\fs.length<64/\∀e ∈ fs,EB l e
def mK:sQz 2 ["order","entries","turn","lined_up"] jG:=by nofun
theorem V2{f CO CR CW TB CF:sX}(B:Bt mg)(T:zbY K mg CF)(TM:TMo mg)(F:("thinned"^^^jG))(rT:(6<<<"in_order") ["order","entries"] [] (Zm K CO CR CW TB))(rG:(6>>>"built_anew") ["order","entries"] [] (Zc K CO CR CW CF))(gL:(1<<<"pairs_of") ["entries"] [] (wy K)):(7|||["order","entries"]) (QR K CO CR CW TB CF):=by
 obtain⟨t9,g9⟩:=TM.p
 exists Fun.okX F mK,0
 ·obtain⟨o,a,k,l,ns,es,rfl,ho,hG,hA,hz,hE,hTab,q1,q2⟩:=h
  refine#[_,(zi (z7 PassesOwn.leaving rfl (yB rfl B.range (za (yC (v:=.int 20) rfl g9 #[t9,rfl]) ze)) (zt (i:=2) mK.nd rfl (.inl rfl)) (zi (zC 3 mK.nd (cl0 rT hr .nil rfl (za (pv 0) (za (pv 1) ze)))) (zi (zC 1 mK.nd (clP hx rG hr .nil rfl (za (pv 0) (za (pv 3) ze)))) (zg (zN (zy (U1 (vV hr)) (cl0 gL hr .nil rfl (za (pv 1) ze)) (cl0 gL hr .nil rfl (za (pv 3) ze)) (zA _)) (zg (zl (pv 1)))
     zr))))) (zg (ye hx rfl T.xi.toXC T.ini rfl T.g (za yc ze)))),?_]
  have s16:=zW;obtain⟨ps0,hps0,_⟩:=id hTab;change ∃b:sX,zgq K TB H k l ns es 0 H' b
  ·ac_rfl;refine#[⋯,⋯,ForR.by (λi σ H'=>∃(b:sX) (v2 v3:Option V),zgq K TB H k l ns es (20 - i) H' b/\σ=[!!o,!!b,v2,v3]) #[a,Bv,Bv,#[es,SamT.of (Same.refl _),hTab,λr h=>h,hA,hz,hE],rfl] ?_ ?_]
   ·refine nm3 ?_;rintro i σ H1 hi ⟨b,v2,v3,⟨fs,s1,hT1,hr,hF,hfl,hFE⟩,rfl⟩:_;have ho1:=ho.samT s1 hps0;have hi20:i<20:=hi;obtain⟨n,hn⟩:∃n,20 - i=n+1:=#[20 - i - 1,⋯];rw[hn]at hr;right
    erw[yK,aX,aW]
    change SamT TB H1 H'/\TabOk H' TB lp lq/\∃(z:sX),(∃zs:List Ent,Lined k l ns fs zs/\EnsM K H' z zs)/\∃v2,σ=[!!o,!!b,v2,!!z]
    ·ac_rfl;exact Jz ho1 hG hF hfl hFE hT1 λD zs H' s' hT' _ hLn hM=>#[s',hT',D,#[zs,hLn,hM],rfl]
    rintro σ H2 ⟨s2,hT2,z,⟨zs,hLn,hZ⟩,v2,rfl⟩:_;have s12:=s1.trans s2;have ho2:=ho.samT s12 hps0;have hzE:=hLn.eb hFE;have hzl:=hLn.len;right;change Same H2 H'/\∃(c:sX),(∃bs:List Ent,xt k l ns [] zs (Bu bs)/\BG k l ns bs/\EnsM K H' c bs)/\σ=[!!o,!!c,v2,!!z]
    ·ac_rfl;exact JC ho2 hG hZ.l ⋯ hzE (λbs D H' hb hB s' _ hM=>#[s',D,#[bs,hb,hB,hM],rfl]) λhb H' s'=>q2 (hr _ (.bad hLn hb)) H' (s12.trans (SamT.of s')) (hT2.same s')
    rintro σ H3 ⟨s3,c,⟨bs,hb,hB,hM⟩,rfl⟩:_;have hbn:=hB.n;right;ac_rfl;refine wj hM.l.is ⋯ λP1 H4 _ s4 hP1=>wj ((hZ.same s3).same s4).l.is ⋯ λP2 H5 _ s5 hP2=>Xj (.inl #[(hP1.same s5).is,hP2.is]) (cN (zdp _) ∅) ?_;rw[JY];have s45:=s4.trans s5;have s15:=s12.trans (SamT.of (s3.trans s45));have hT5:=hT2.same (s3.trans s45);refine#[_,rfl,yE (λh=>?_) λh=>?_]
    ·exact q1 bs c H5 (hr _ (.done hLn hb (w6 h))) hB s15 hT5 (hM.same s45)
    ·have e:20 - (i+1)=n:=⋯;rw[e];exact#[bs,s15,hT5,λr h'=>hr r (.more hLn hb (λz=>h (w9 z)) h'),(hM.same s45).l,hbn,hB.e]
   ·rintro σ H' ⟨b,v2,v3,h,rfl⟩;exact#[b,h]
  rintro σ H2 ⟨b,fs,s2,hT2,hr,_⟩:_;right;ac_rfl;exact#[⋯,q2 (hr _ (.out fs)) H2 s2 hT2]
def Zs(K:sV):Sp:=λvs H Q _=>∃(a:sX) (ns:List Int) (k:Int),vs=[.ref a,.int k]/\SqL K H a (ns.map V.int)/\(∀z ∈ ns,qE z)/\0<=k/\∀c:Int,qE c->Q (.int c) H
def uG{k:Int}(hS:SqL K H a (ns.map V.int))(hB:∀z ∈ ns,qE z)(hk:0<=k)(h:∀c:Int,qE c->Q (.int c) H):Zs K [.ref a,.int k] H Q E:=#[a,ns,k,rfl,hS,hB,hk,h]
def zb6:sQz 2 ["_law_script","_law_k"] Ux:=by nofun
def zcx(B:Bt mg)(F:("_law_cell"^^^Ux)) :(1&&&["_law_script","_law_k"]) (Zs K):=by
 exists F.ok zb6
 ·obtain⟨a,ns,k,rfl,hS,hB,hk,q⟩:=h
  refine#[_,(zG (zN (zy VH (pv 1) (zB B.len (pv 0)) (zA _)) (zg (zl (zk UV (pv 0) (pv 1))))
    zr) (zg (zl zf))),?_]
  have s16:=zW
  rfl'
  refine#[_,.inl #[_,hS,rfl],yE (λc=>?_) (λc=>q 0 (by unfold qE;decide))];obtain⟨v,h1,h2⟩:=jD hk c;rw[ar]at h2;obtain⟨z,hz,rfl⟩:=BH.mp h2;exact .inl #[_,hS,_,h1,q z (hB z (ae hz))]
def vz:Sp:=λvs H Q _=>∃(c t:Int),vs=[.int c,.int t]/\qE c/\0<=t/\t<=100/\∀z:Int,0<=z->Q (.int z) H
def wk{c t:Int}(hc:qE c)(h0:0<=t)(h1:t<=100)(q:∀z:Int,0<=z->Q (.int z) H):vz [.int c,.int t] H Q E:=#[c,t,rfl,hc,h0,h1,q]
def rH:sQz 2 ["_law_cell_here","_law_turn","_law_number"] Xr:=by nofun
theorem KP(B:Bt mg)(F:("_law_mixed"^^^Xr)) :(1&&&["_law_cell_here","_law_turn"]) vz:=by
 exists F.ok rH
 ·obtain⟨c,t,rfl,hc,h0,h1,q⟩:=h
  refine#[_,(zG (zC 2 rH.nd (zD yn (zD kO (zD KS (pv 0) (pv 0)) zf) (zD kO (zD kO (pv 0) zf) (zD yn (pv 1) zf)))) (zg (zl (zD xE (zD xO (zD yn (pv 2) (zD kO (pv 1) zf)) zf) zf)))),?_]
  have s16:=zW
  rfl'
  exact#[hc,hc,.inr #[∅,∅],.inr #[∅,∅],.inr #[⋯,⋯],.inr #[∅,∅],∅,#[∅,∅],q _ (Int.ediv_nonneg (bQ _ ∅) ∅)]
def uW:Sp:=λvs H Q _=>∃c m:Int,vs=[.int c,.int m]/\qE c/\0<=m/\m<=26/\∀l:(),(l.length:Int)=m->l.Nodup->small l->Q (.str (tx l)) H
def Xy{c m:Int}(h:qE c)(h0:0<=m)(h1:m<=26)(q:∀l:(),(l.length:Int)=m->l.Nodup->small l->Q (.str (tx l)) H):uW [.int c,.int m] H Q E:=#[c,m,rfl,h,h0,h1,q]
def zgs(c m:Int)(i:Nat)(σ:L2.St):Prop:=∃(left found:()) (number:Int) (v5 v6:Option V),found.length=i/\(found ++ left).Perm alpha/\σ=[~~~!c,~~~!m,~~~left,~~~!number,~~~found,v5,v6]
def gU:sQz 2 ["_law_cell_here","_law_many","_law_left","_law_number","_law_letters_here","_law_k","_law_at"] qW:=by nofun
theorem Vs(B:Bt mg)(F:("_law_letters"^^^qW))(iN:(1<<<"_law_mixed") ["_law_cell_here","_law_turn"] [] vz):(2&&&["_law_cell_here","_law_many"]) uW:=by
 exists F.ok gU
 ·obtain⟨c,m,rfl,hc,h0,h1,q⟩:=h
  refine#[_,(zi (zC 2 gU.nd yc) (zi (zC 3 gU.nd (cl0 iN hr .nil rfl (za (pv 0) (za zf ze)))) (zi (zC 4 gU.nd yc) (zi (z7 r9 rfl (yB rfl B.range (za (pv 1) ze)) (zt (i:=5) gU.nd rfl (.inl rfl)) (zi (zC 6 gU.nd (zD xO (pv 3) (zB B.len (pv 2)))) (zi (zC 3 gU.nd (zD xE (pv 3) (zB B.len (pv 2)))) (zi (zC 4 gU.nd (zD zQ (pv 4) (zk QO (pv 2) (pv 6)))) (zg (zC 2 gU.nd (zD zQ (zR y8 (pv 2) yA (zU (pv 6))) (zR y8 (pv 2) (zU (zD yn (pv 6) zf)) yA)))))))) (zg (zl (pv 4))))))),?_]
  have s16:=zW;have ha:alpha.length=26:=rfl;change H'=H/\σ=[~~~!c,~~~!m,~~~alpha,Bv,Bv,Bv,Bv]
  ·rfl'
   exact Qe
  rintro σ H1 ⟨rfl,rfl⟩:_;right;change H'=H1/\∃z:Int,σ=[~~~!c,~~~!m,~~~alpha,~~~!z,Bv,Bv,Bv]
  ·rfl'
   exact wk hc ∅ ∅ λz _=>#[rfl,z,rfl]
  rintro σ H2 ⟨rfl,z,rfl⟩:_;right;change H'=H2/\σ=[~~~!c,~~~!m,~~~alpha,~~~!z,Bu (.str (tx [])),Bv,Bv]
  ·rfl'
   rfl
  rintro σ H3 ⟨rfl,rfl⟩:_;right;change H'=H3/\zgs c m m.toNat σ
  ·rfl'
   refine#[⋯,⋯,ForR.by (λi σ H'=>H'=H3/\zgs c m i σ) #[rfl,alpha,[],z,Bv,Bv,rfl,.refl _,rfl] ?_ λσ H' h=>h];refine nm3 ?_;rintro i σ H' hi ⟨rfl,left,found,number,v5,v6,hf,hp,rfl⟩:_;have hpl:=hp.length_eq;rw[aj]at hpl;have hl:left.length+i=26:=⋯;have hm0:=bQ number (b:=(left.length:Int)) ⋯;have hm1:=bH number (b:=(left.length:Int)) ⋯;right;generalize hz:number % (left.length:Int)=at_ at hm0 hm1;obtain⟨v,e1,e2⟩:=jD hm0 hm1
   erw[yK,aX,aW]
   refine zj (λσ H''=>H''=H'/\∃v5,σ=[~~~!c,~~~!m,~~~left,~~~!number,~~~found,v5,~~~!at_]) ?_ ?_
   ·rfl'
    exact#[⋯,⋯,hz]
   rintro σ G1 ⟨rfl,v5',rfl⟩:_;right;refine zj (λσ H''=>H''=G1/\∃n v5,σ=[~~~!c,~~~!m,~~~left,~~~!n,~~~found,v5,~~~!at_]) ?_ ?_
   ·rfl'
    exact#[⋯,#[⋯,⋯]]
   rintro σ G2 ⟨rfl,n,v5',rfl⟩:_;right;refine zj (λσ H''=>H''=G2/\∃v5,σ=[~~~!c,~~~!m,~~~left,~~~!n,Bu (.str (tx (found ++ [v]))),v5,~~~!at_]) ?_ ?_
   ·rfl'
    exact#[⋯,v,e1,⋯,rfl]
   rintro σ G3 ⟨rfl,v5',rfl⟩:_;have hc1:=w8 left Bv (Bu at_);have hc2:=w8 left (Bu (at_+1)) Bv;right
   rfl'
   refine#[⋯,⋯,⋯,_,_,_,_,_,by rw[aj,hf];rfl,?_,rfl];rw[qu _ hm0,xK _ ⋯,ao];have e3:(at_+1).toNat=at_.toNat+1:=⋯;rw[e3];exact ((QB e2).append_left found).trans hp
  rintro σ H4 ⟨rfl,left,found,number,v5,v6,hf,hp,rfl⟩:_;right
  rfl'
  have hnd:(found ++ left).Nodup:=hp.nodup_iff.mpr ∅;refine q found ⋯ (List.nodup_append.mp hnd).1 λc hc=>?_;have h:c ∈ alpha:=hp.mem_iff.mp (bn _ hc);exact (by decide:∀c ∈ alpha,97<=c/\c<=122) c h
def Zv:Sp:=λvs H Q _=>∃(ls:()) (c m:Int),vs=[.int c,.str (tx ls),.int m]/\0<=c/\1<=ls.length/\ls.length<=26/\0<=m/\m<=100/\∀l:(),(l.length:Int)<=m->(∀x ∈ l,x ∈ ls)->Q (.str (tx l)) H
def qT{ls:()}{c m:Int}(h0:0<=c)(h1:1<=ls.length)(h2:ls.length<=26)(h3:0<=m)(h4:m<=100)(h:∀l:(),(l.length:Int)<=m->(∀x ∈ l,x ∈ ls)->Q (.str (tx l)) H):Zv [.int c,.str (tx ls),.int m] H Q E :=
 #[ls,c,m,rfl,h0,h1,h2,h3,h4,h]
def lQ:sQz 3 ["_law_number","_law_letters_here","_law_most","_law_size","_law_word_here","_law_k"] QE:=by nofun
theorem zcR(B:Bt mg)(F:("_law_word"^^^QE)) :(1&&&["_law_number","_law_letters_here","_law_most"]) Zv:=by
 exists F.ok lQ
 ·obtain⟨ls,c,m,rfl,h0,h1,h2,h3,h4,q⟩:=h
  refine#[_,(zG (zC 3 lQ.nd (zD xO (pv 0) (zD yn (pv 2) zf))) (zG (zC 0 lQ.nd (zD xE (pv 0) (zD yn (pv 2) zf))) (zG (zC 4 lQ.nd yc) (zG (z7 r9 rfl (yB rfl B.range (za (pv 3) ze)) (zt (i:=5) lQ.nd rfl (.inl rfl)) (zG (zC 4 lQ.nd (zD zQ (pv 4) (zk QO (pv 1) (zD xO (pv 0) (zB B.len (pv 1)))))) (zg (zC 0 lQ.nd (zD xE (pv 0) (zB B.len (pv 1))))))) (zg (zl (pv 4))))))),?_]
  have s16:=zW
  rfl'
  have m0:=bQ c (b:=m+1) ⋯;have m1:=bH c (b:=m+1) ⋯
  refine#[⋯,#[⋯,⋯],⋯,⋯,ForR.by (λi σ H'=>H'=H/\∃(found:()) (number:Int) (v5:Option V),σ=[~~~!number,~~~ls,~~~!m,Bu (.int (c % (m+1))),~~~found,v5]/\found.length=i/\∀x ∈ found,x ∈ ls)
   #[rfl,[],_,Bv,rfl,rfl,λx h=>(nomatch h)] ?_ ?_]
  ·rintro i σ H' hi ⟨rfl,found,number,v5,rfl,hf,hm⟩
   rfl'
   have hm0:=bQ number (b:=(ls.length:Int)) ⋯;have hm1:=bH number (b:=(ls.length:Int)) ⋯;obtain⟨v,e1,e2⟩:=jD hm0 hm1
   repeat (refine And.intro (by first | lia | decide | exact#[⋯,⋯] | assumption) ?_)
   refine#[v,e1,?_]
   repeat (refine And.intro (by first | lia | decide | exact#[⋯,⋯] | assumption) ?_)
   refine#[by rw[aj,hf];rfl,λx hx=>?_];rcases BD.mp hx with h | h
   ·exact hm x h
   ·rw[BF.mp h];exact ae e2
  ·rintro σ H' ⟨rfl,found,number,v5,rfl,hf,hm⟩
   rfl'
   exact q found ⋯ hm
def Zj:Sp:=λvs H Q _=>∃(ls:()) (c m:Int),vs=[.int c,.str (tx ls),.int m]/\qE c/\1<=ls.length/\ls.length<=26/\0<=m/\m<=100/\∀(o n:()) (p:sX),(o.length:Int)<=m->(n.length:Int)<=m->(∀x ∈ o,x ∈ ls)->(∀x ∈ n,x ∈ ls)->H p=Bv->Q (.ref p) (upd H p (.tup [.str (tx o),.str (tx n)]))
def Kn{ls:()}{c m:Int}(h0:qE c)(h1:1<=ls.length)(h2:ls.length<=26)(h3:0<=m)(h4:m<=100)(h:∀(o n:()) (p:sX),(o.length:Int)<=m->(n.length:Int)<=m->(∀x ∈ o,x ∈ ls)->(∀x ∈ n,x ∈ ls)->H p=Bv->Q (.ref p) (upd H p (.tup [.str (tx o),.str (tx n)]))):Zj [.int c,.str (tx ls),.int m] H Q E:=#[ls,c,m,rfl,h0,h1,h2,h3,h4,h]
def zbO:sQz 3 ["_law_cell_here","_law_letters_here","_law_most"] UO:=by nofun
theorem zcK(B:Bt mg)(F:("_law_pair"^^^UO))(oj:(1<<<"_law_word") ["_law_number","_law_letters_here","_law_most"] [] Zv)(iN:(1<<<"_law_mixed") ["_law_cell_here","_law_turn"] [] vz):(2&&&["_law_cell_here","_law_letters_here","_law_most"]) Zj:=by
 exists F.ok zbO
 ·obtain⟨ls,c,m,rfl,hc,h1,h2,h3,h4,q⟩:=h;refine#[_,(zg (zl (zS (za (cl0 oj hr .nil rfl (za (cl0 iN hr .nil rfl (za (pv 0) (za zf ze))) (za (pv 1) (za (pv 2) ze)))) (za (cl0 oj hr .nil rfl (za (cl0 iN hr .nil rfl (za (pv 0) (za zf ze))) (za (pv 1) (za (pv 2) ze)))) ze))))),?_];have s16:=zW
  rfl'
  exact wk hc ∅ ∅ λz hz=>qT hz h1 h2 h3 h4 λo ho mo=>wk hc ∅ ∅ λz hz=>qT hz h1 h2 h3 h4 λn hn mn=>#[⋯,λp hp=>q o n p ho hn mo mn hp]
structure zgT(K:sV):Prop where
 ii:aQ K (.type "int") (.type "int")=Bu Bw
 ib:aQ K (.type "int") (.type "bool")=Bu Bx
def uD:Sp:=λvs H Q _=>∃i:Int,vs=[.int i]/\Q (.bl Bw) H
def jC{i:Int}(h:Q (.bl Bw) H):uD [.int i] H Q E:=#[i,rfl,h]
def JP:sQz 1 ["_law_found"] Xl:=by nofun
def zag(B:Bt mg)(T:zgT K)(F:("_law_whole"^^^Xl)):(1&&&["_law_found"]) uD:=by
 exists F.ok JP
 ·obtain⟨i,rfl,q⟩:=h;refine#[_,(zg (zl (kH (yN rfl B.isi (pv 0) rfl B.int PySem.Pv.boot_int) (ky (zap (yN rfl B.isi (pv 0) rfl B.bool PySem.Pv.boot_bool)))))),?_]
  rfl'
  exact#[_,.inl (.int _),Bw,T.ii,zf9 #[_,.inl (.int _),Bx,T.ib,q]]
structure TLs(K:sV):Prop where
 ll:aQ K (.type "list") (.type "list")=Bu Bw
 tt:aQ K (.type "tuple") (.type "tuple")=Bu Bw
 bb:aQ K (.type "bool") (.type "bool")=Bu Bw
def ZO(K:sV):Sp:=λvs H Q _=>∃(t:sX) (ss:List Stp),vs=[.ref t]/\Is K H (.lst (ss.map dSt)) (.ref t)/\Q (.bl Bw) H
def rJ:sQz 1 ["_law_found","_law_step"] Xn:=by nofun
def Km(B:Bt mg)(T:TLs K)(F:("_law_steps"^^^Xn))(oN:(1<<<"_law_whole") ["_law_found"] [] uD):(2&&&["_law_found"]) (ZO K):=by
 exists F.ok rJ
 ·obtain⟨t,ss,rfl,hT,q⟩:=h
  refine#[_,(zi (zN (zZ (yF (yN rfl B.isi (pv 0) rfl B.list PySem.Pv.boot_list) (λ_=>rfl))) (zg (zl yt))
    zr) (zi (z7 r9 rfl (z9 (pv 0)) (zt (i:=1) rJ.nd rfl (.inl rfl)) (zi (zN (PW.pt (vM (zZ (yF (yN rfl B.isi (pv 1) rfl B.tuple PySem.Pv.boot_tuple) (λ_=>rfl))) (vM (zy uE (zB B.len (pv 1)) zf (zA _)) (wI (zZ (yF (yN rfl B.isi (!-1) rfl B.bool PySem.Pv.boot_bool) (λ_=>rfl))))))) (zg (zl yt))
     zr) (zg (zN (PW.pt (vM (zZ (yF (cl0 oN hr .nil rfl (za (!-1) ze)) (λ_=>rfl))) (wI (zZ (yF (cl0 oN hr .nil rfl (za (!-1) ze)) (λ_=>rfl)))))) (zg (zl yt))
     zr)))) (zg (zl yt)))),?_]
  have s16:=zW
  erw[Is]at hT
  obtain⟨_,ts,e,hTs,hJ⟩:=hT;cases e;change H'=H/\σ=[!!t,Bv]
  ·rfl'
   exact#[_,.inr (.inr (.inl #[_,_,rfl,rfl,hTs])),Bw,T.ll,ZY trivial]
  rintro σ H1 ⟨rfl,rfl⟩:_;right;change H'=H1/\∃v1,σ=[!!t,v1]
  ·rfl'
   refine#[#[_,hTs],ForL.by (xs:=ts) (λi σ H'=>H'=H1/\∃v1,σ=[!!t,v1]) #[rfl,_,rfl] (λi σ H' _ h=>by rw[h.1];exact hTs) ?_ λσ H' h=>h];refine nm4 ?_;rintro i x σ H' hx ⟨rfl,v1,rfl⟩:_;obtain⟨u,pu,hui,rfl,hqu⟩:=uJ hJ hx;right
   erw[yK,aX,aW]
   refine zj (λσ H''=>H''=H'/\σ=[!!t,!!pu]) ?_ ?_
   ·rfl'
    exact#[_,.inr (.inr (.inr #[_,_,rfl,rfl,hqu])),Bw,T.tt,ZY #[_,.inr #[_,hqu,rfl],yE (λh=>y4 rfl h) λ_=>#[_,hqu,_,rfl,_,.inl (.bl _),Bw,T.bb,ZY trivial]]]
   rintro σ G ⟨rfl,rfl⟩:_;right
   rfl'
   exact#[_,hqu,_,rfl,jC #[Bw,rfl,ZY #[_,hqu,_,rfl,jC #[Bw,rfl,ZY rfl]]]]
  rintro σ H2 ⟨rfl,v1,rfl⟩:_;right
  rfl'
  exact q
def ZV(K:sV):Sp:=λvs H Q _=>∃(a t:sX) (rs:List zu) (w w':()) (s:Stp),vs=[.ref a,.str (tx w),.ref t]/\Is K H (.lst (rs.map dR)) (.ref a)/\ZL rs/\w.length<=300000/\SqT K H t [.int s.1,.int s.2.1,.bl s.2.2]/\yJ rs w s=Bu w'/\Q (.str (tx w')) H
def Jv{a t:sX}{w w':()}{s:Stp}(h1:Is K H (.lst (rs.map dR)) (.ref a))(h2:ZL rs)(h3:w.length<=300000)(h4:SqT K H t [.int s.1,.int s.2.1,.bl s.2.2])(h5:yJ rs w s=Bu w')(q:Q (.str (tx w')) H):ZV K [.ref a,.str (tx w),.ref t] H Q E:=#[a,t,rs,w,w',s,rfl,h1,h2,h3,h4,h5,q]
def nJ:sQz 3 ["_law_pacts","_law_word_here","_law_step","_law_old","_law_new"] UX:=by nofun
theorem zbj(B:Bt mg)(F:("_law_used"^^^UX)) :(1&&&["_law_pacts","_law_word_here","_law_step"]) (ZV K):=by
 refine F.ok nJ (λvs H Q E h=>?_) (λcdv A outer s H vs Q E hr h=>?_)
 ·obtain⟨a,t,rs,w,w',s,rfl,_⟩:=h;rfl
 ·obtain⟨a,t,rs,w,w',s,rfl,hR,ok,hw,ht,ha,q⟩:=h
  refine#[_,(zi (zC 3 nJ.nd (zk w4 (zk ix_list (pv 0) (!-2)) zf)) (zi (zC 4 nJ.nd (zk w4 (zk ix_list (pv 0) (!-2)) zf)) (zi (zN (zZ (yF (!-2) (λ_=>rfl))) (zG (zC 3 nJ.nd (zk w4 (zk ix_list (pv 0) (!-2)) zf)) (zg (zC 4 nJ.nd (zk w4 (zk ix_list (pv 0) (!-2)) zf))))
    zr) (zg (zl (zD zQ (zD zQ (zR y8 (pv 1) yA (zU (!-2))) (pv 4)) (zR y8 (pv 1) (zU (zD yn (!-2) (zB B.len (pv 3)))) yA))))))),?_]
  have s16:=zW
  erw[Is]at hR
  obtain⟨_,xs,e,hX,hI⟩:=hR;cases e;have hb:0<=s.1/\s.1<rs.length:=bP λhb=>by rw[xA hb]at ha;cases ha
  obtain⟨p,a1,_,hp⟩:=zeH hI hb.1 hb.2;have gl:=Y9 ok s.1.toNat;rw[xl hb]at ha;generalize rs.getD s.1.toNat ([],[])=r at *;change H'=H/\σ=[!!a,~~~w,!!t,Bu (.str (tx r.1)),Bv]
  ·rfl'
   exact#[_,ht,_,rfl,_,rfl,_,hX,_,a1,_,rfl,_,hp,rfl]
  rintro σ H1 ⟨rfl,rfl⟩:_;right;change H'=H1/\σ=[!!a,~~~w,!!t,Bu (.str (tx r.1)),Bu (.str (tx r.2))]
  ·rfl'
   exact#[_,ht,_,rfl,_,rfl,_,hX,_,a1,_,rfl,_,hp,rfl]
  rintro σ H2 ⟨rfl,rfl⟩:_;right;change H'=H2/\σ=[!!a,~~~w,!!t,Bu (.str (tx (sdl r s.2.2).1)),Bu (.str (tx (sdl r s.2.2).2))]
  ·rfl'
   refine#[_,ht,_,rfl,_,rfl,yE (λh=>#[_,ht,_,rfl,_,rfl,_,hX,_,a1,_,rfl,_,hp,_,rfl,_,ht,_,rfl,_,rfl,_,hX,_,a1,_,rfl,_,hp,_,rfl,?_]) λh=>?_]
   ·rw[h];exact#[rfl,rfl]
   ·rw[Bool.not_eq_false]at h;rw[h];exact#[rfl,rfl]
  rintro σ H3 ⟨rfl,rfl⟩:_
  have hol:(sdl r s.2.2).1.length<=100:=by
   cases s.2.2
   ·exact gl.2
   ·exact gl.1
  have hnl:(sdl r s.2.2).2.length<=100:=by
   cases s.2.2
   ·exact gl.1
   ·exact gl.2
  right;generalize sdl r s.2.2=on at *;have hst:zx w s.2.1 on.1=Bw:=bP λhst=>by rw[y9 hst]at ha;cases ha
  rw[y6 hst]at ha;obtain⟨_,_,h0,h1⟩:=xj hst;have c1:=w8 w Bv (Bu s.2.1);have c2:=w8 w (Bu (s.2.1 + ↑on.1.length)) Bv
  rfl'
  refine#[_,ht,_,rfl,_,rfl,⋯,⋯,_,ht,_,rfl,⋯,_,rfl,⋯,?_,?_]
  ·rw[aj];lia
  ·rw[zb3 h0];cases ha;exact q
def Vo{a p:sX}{xs:List V}{ys zs:List V}(hp:H p=Bu (.lst ys))(h:SqT K H a xs):SqT K (upd H p (.lst zs)) a xs:=by
 rcases h with (h | ⟨o,h⟩) | h
 ·exact .inl (.inl (by rw[zq (λe=>by rw[e,hp]at h;cases h)];exact h))
 ·exact .inl (.inr #[o,by rw[zq (λe=>by rw[e,hp]at h;cases h)];exact h])
 ·exact .inr h
def UI{w w':()}{s:Stp}(h:yJ rs w s=Bu w'):0<=s.1/\s.1<rs.length:=bP λhb=>by rw[xA hb]at h;cases h
def Wz(K:sV):Sp:=λvs H Q _=>∃(a t:sX) (rs:List zu) (w w':()) (ss:List Stp),vs=[.ref a,.str (tx w),.ref t]/\Is K H (.lst (rs.map dR)) (.ref a)/\ZL rs/\w.length<=60/\Is K H (.lst (ss.map dSt)) (.ref t)/\ss.length<=2000/\yy rs w ss=Bu w'/\Q (.str (tx w')) H
def zbn{a t:sX}{w w':()}(h1:Is K H (.lst (rs.map dR)) (.ref a))(h2:ZL rs)(h3:w.length<=60)(h4:Is K H (.lst (ss.map dSt)) (.ref t))(h5:ss.length<=2000)(h6:yy rs w ss=Bu w')(q:Q (.str (tx w')) H):Wz K [.ref a,.str (tx w),.ref t] H Q E:=#[a,t,rs,w,w',ss,rfl,h1,h2,h3,h4,h5,h6,q]
def QI{w w':()}(h:yy rs w ss=Bu w'){s:Stp}(hs:ss[i]? = Bu s){w1:()}(h1:yy rs w (ss.take i)=Bu w1):∃w2,yJ rs w1 s=Bu w2/\yy rs w (ss.take (i+1))=Bu w2:=by
 have e:ss=ss.take (i+1) ++ ss.drop (i+1):=(aZ _ _).symm;rw[e,wm]at h;obtain⟨w2,h2,_⟩:=BV.mp h;refine#[w2,?_,h2];rw[zV hs,wm,h1]at h2
 erw[yy,bZ]at h2
 obtain⟨w3,h3,h4⟩:=BV.mp h2;cases h4;exact h3
def pH:sQz 3 ["_law_pacts","_law_word_here","_law_steps_here","_law_step","_law_old"] zby:=by nofun
theorem zd5(B:Bt mg)(F:("_law_end"^^^zby))(sH:(1<<<"_law_used") ["_law_pacts","_law_word_here","_law_step"] [] (ZV K)):(2&&&["_law_pacts","_law_word_here","_law_steps_here"]) (Wz K):=by
 refine F.ok pH (λvs H Q E h=>?_) (λcdv A outer s H vs Q E hr h=>?_)
 ·obtain⟨a,t,rs,w,w',ss,rfl,_⟩:=h;rfl
 ·obtain⟨a,t,rs,w,w',ss,rfl,hR,ok,hw,hT,hsl,hwk,q⟩:=h
  refine#[_,(zi (z7 r9 rfl (z9 (pv 2)) (zt (i:=3) pH.nd rfl (.inl rfl)) (zi (zN (PW.pt (vM (zy VH (!-3) zf (zA _)) (vM (zy op_ge' (!-3) (zB B.len (pv 0)) (zA _)) (wI (zy VH (!-3) zf (zA _)))))) (zg (zl ym))
     zr) (zi (zC 4 pH.nd (zk w4 (zk ix_list (pv 0) (!-3)) (zD ut zf (xp UY rfl B.int PySem.Pv.boot_int (za (!-3) ze))))) (zi (zN (PW.pt (vM (zy VT (zD yn (!-3) (zB B.len (pv 4))) (zB B.len (pv 1)) (zA _)) (wI (zy uE (zR y8 (pv 1) (zU (!-3)) (zU (zD yn (!-3) (zB B.len (pv 4))))) (pv 4) (zA _))))) (zg (zl ym))
     zr) (zg (zC 1 pH.nd (cl0 sH hr .nil rfl (za (pv 0) (za (pv 1) (za (pv 3) ze)))))))))) (zg (zl (pv 1)))),?_]
  have s16:=zW;have hR':=hR;have hT':=hT
  erw[Is]at hR' hT'
  obtain⟨_,xs,e,hX,hI⟩:=hR';cases e;obtain⟨_,ts,e,hTs,hJ⟩:=hT';cases e;have htl:=hJ.len;rw[ac]at htl;change H'=H/\∃v3 v4,σ=[!!a,~~~w',!!t,v3,v4]
  ·rfl'
   refine#[#[_,hTs],ForL.by (xs:=ts) (λi σ H'=>H'=H/\∃w1 v3 v4,yy rs w (ss.take i)=Bu w1/\w1.length<=60+i * 100/\σ=[!!a,~~~w1,!!t,v3,v4]) #[rfl,w,_,_,rfl,⋯,rfl] (λi σ H' _ h=>by rw[h.1];exact hTs) ?_ ?_]
   ·refine nm4 ?_;rintro i x σ H' hx ⟨rfl,w1,v3,v4,hw1,hl1,rfl⟩:_;obtain⟨s,ps,hsi,rfl,hqs⟩:=uJ hJ hx;have hil:=(BB.mp hsi).1;obtain⟨w2,haf,hw2⟩:=QI hwk hsi hw1;have hl2:=Uf ok haf;have hb:=UI haf;obtain⟨p,a1,_,hp⟩:=zeH hI hb.1 hb.2;have gl:=Y9 ok s.1.toNat;have ha:=haf;rw[xl hb]at ha;right;generalize rs.getD s.1.toNat ([],[])=r at *;have hst:zx w1 s.2.1 (sdl r s.2.2).1=Bw:=bP λhst=>by rw[y9 hst]at ha;cases ha
    obtain⟨_,_,h0,h1⟩:=xj hst
    erw[yK,aX,aW]
    refine zj (λσ H''=>H''=H'/\σ=[!!a,~~~w1,!!t,!!ps,v4]) ?_ ?_
    ·rfl'
     exact#[_,hqs,_,rfl,_,rfl,yE (λh=>y4 hb.1 ⋯) λ_=>#[_,hqs,_,rfl,_,.inl #[_,hX,rfl],_,rfl,yE (λh=>y4 hb.2 (by have:=hI.len;rw[ac]at this;lia)) λ_=>#[_,hqs,_,rfl,_,rfl,yE (λh=>y4 h0 ⋯) λ_=>trivial]]]
    rintro σ G ⟨rfl,rfl⟩:_;right;refine zj (λσ H''=>H''=G/\σ=[!!a,~~~w1,!!t,!!ps,Bu (.str (tx (sdl r s.2.2).1))]) ?_ ?_
    ·rfl'
     refine#[_,hqs,_,rfl,_,rfl,_,hX,_,a1,_,hqs,_,rfl,.inr #[_,rfl,_,rfl,_,hp,?_]];cases s.2.2 <;> rfl
    rintro σ G1 ⟨rfl,rfl⟩:_;right;refine zj (λσ H''=>H''=G1/\σ=[!!a,~~~w1,!!t,!!ps,Bu (.str (tx (sdl r s.2.2).1))]) ?_ ?_
    ·rfl'
     have hol:(sdl r s.2.2).1.length<=100:=by
      cases s.2.2
      ·exact gl.2
      ·exact gl.1
     refine#[_,hqs,_,rfl,⋯,_,rfl,⋯,yE (λh=>y4 h1 ⋯) λ_=>#[_,hqs,_,rfl,_,rfl,_,hqs,_,rfl,⋯,_,rfl,⋯,yE (λh=>y4 ?_ h) λ_=>trivial]];have hst':=hst;unfold zx at hst';rw[decide_eq_true_eq]at hst';rw[Xd _ h0 ⋯ ⋯];have e:(s.2.1+((sdl r s.2.2).1.length:Int) - s.2.1).toNat=(sdl r s.2.2).1.length:=⋯;rw[e];exact hst'.2.2
    rintro σ G2 ⟨rfl,rfl⟩:_;right
    rfl'
    refine Jv hR ok ⋯ hqs haf #[rfl,w2,hw2,⋯,rfl]
   ·rintro σ H' ⟨rfl,w1,v3,v4,hw1,hl1,rfl⟩;rw[htl,aJ,hwk]at hw1;cases hw1;exact#[rfl,_,_,rfl]
  rintro σ H2 ⟨rfl,v3,v4,rfl⟩:_;right
  rfl'
  exact q
def zfo{X:Cx}{k j:Nat}{C:sX}{ps:List tw}{sp:Sp}{e:tD}{es:List tD}{t:TA}{pos p:Ad}{x:tw}(hx:XE X E)(D:DMk X.prog X.w X.K X.mg X.base (CXx X.prog X.w) k C ps sp)(hr:Room j X.A)(hg:Gl X x)(hm:X.mg x=Bu (.ref C))(ha:PA X (e::es) t)(hdb:(x ==("__debug__" : tw))=Bx:=by decide)(he:sS (e::es) X.env=(Bx,eval e X.env)::sS es X.env:=by rfl)(hpl:(tK pos (sS es X.env)).any (·.1)=Bx:=by rfl) (hj:k+1<=j:=by decide):PE X (.Call (.Name x p) (e::es) [] pos) (U8 C sp [] E t):=by obtain⟨f,fd,M,F,hb⟩:=D.ex;exact U7 M F (hr.mono hj) hg hm hb .nil (WT hx) ha hdb he hpl
def Wf(K:sV)(CO CR CW:sX):Sp:=λvs H Q _=>∃(z:Int) (l:()) (D:sX) (ws:List Int),vs=[.int z,.str (tx l),.ref D]/\0<=z/\z<3/\ue l=Bw/\H D=Bu (.lst (ws.map V.int))/\ws.length=l.length/\(∀n ∈ ws,1<=n/\n<=1000000)/\∀(o:sX) (H':Hp),Same H H'->OrdAt CO CR CW H' o z.toNat l ws->Q (.ref o) H'
def Ks:sQz 3 ["_law_kind","_law_letters_here","_law_weights"] XW:=by nofun
theorem KB{f CO CR CW:sX}(B:Bt mg)(T:TWS P w K mg base CO CR CW)(F:("_law_order"^^^XW)) :(6&&&["_law_kind","_law_letters_here","_law_weights"]) (Wf K CO CR CW):=by
 exists F.ok Ks
 ·obtain⟨z,l,D,ws,rfl,z0,z3,hg,hD,hwl,hwb,q⟩:=h
  refine#[_,(zG (zN (zy wF (pv 0) zf (zA _)) (zg (zl (mkC T.mR hr rfl T.gR (za (pv 1) ze))))
    zr) (zG (zN (zy wF (pv 0) zf (zA _)) (zg (zl (zfo xe0 T.mW hr rfl T.gW (za (pv 1) (za (xp yR rfl B.list PySem.Pv.boot_list (za (pv 2) ze)) ze)))))
    zr) (zg (zl (mkC T.mO hr rfl T.gO (za (pv 1) ze)))))),?_]
  have s16:=zW;ac_rfl;refine yE (λh1=>?_) λh1=>yE (λh2=>?_) λh2=>?_
  ·intro x dx hx hdx hne;have sd:=zd (o:=.own x) hdx;refine#[x,CR,dx,l,rfl,hg,T.cR,T.lR,zc,rfl,q x _ (λb o' e=>?_) #[dx,.inr (.inl #[by rw[h1];rfl,zc])]];rw[zq (zI e hx),zq (zI e hx)];exact sd _ _ e
  ·refine#[_,.inl (SqL.of hD),λE1 hE=>?_];have se:=zd (o:=.lst (ws.map V.int)) hE;intro x dx hx hdx hne;have sd:=zd (o:=.own x) hdx
   have k1:∀b o',(upd H E1 (.lst (ws.map V.int))) b=Bu o'->(upd (upd (upd H E1 (.lst (ws.map V.int))) dx (.own x)) x (.ins CW dx [])) b=Bu o':=λb o' e=>by
    rw[zq (zI e hx)];exact sd _ _ e
   exact#[x,dx,E1,l,ws,rfl,hg,SqL.of (k1 _ _ zc),hwl,hwb,zc,λw H' hw hwx kp ht hx'=>#[rfl,q x _ (λb o' e=>kp b o' (zI (se _ _ e) hx) (k1 b o' (se _ _ e))) #[dx,.inr (.inr #[⋯,hwl,w,hx',ht])]]]
  ·intro x dx hx hdx hne;have sd:=zd (o:=.own x) hdx;refine#[x,CO,dx,l,rfl,hg,T.cO,T.lO,zc,rfl,q x _ (λb o' e=>?_) #[dx,.inl #[⋯,zc]]];rw[zq (zI e hx),zq (zI e hx)];exact sd _ _ e
theorem Jf:∀ws:List (()),Str.join (tx []) (ws.map tx)=tx ws.flatten
 | []=>rfl
 | [w]=>by
  show tx w=_;simp
 | w::v::r=>by
  have ih:=Jf (v::r);show tx w ++ tx [] ++ Str.join (tx []) ((v::r).map tx)=_;rw[ih,yL,yL];simp
theorem Kj{ws:List (())}(h:ws.flatten.length<=100000):JoinOk (tx []) (ws.map tx)=Bw:=by
 have s16:=zW
 have hf:∀(l:List (())) (n:Nat),(l.map tx).foldl (λa y=>a+y.length+0) n=n+l.flatten.length:=λl=>by
  induction l with
  | nil=>intro n;rfl
  | cons c r ih =>
   intro n;rw[av,List.foldl_cons,ih,zK,dC,aj];lia
 have e:JoinOk (tx []) (ws.map tx)=!PySem.Builtin.Str.tooLong ((ws.map tx).foldl (λa y=>a+y.length+0) 0):=by
  unfold JoinOk;rw[List.foldl_toArray];rfl
 rw[e,hf];unfold PySem.Builtin.Str.tooLong;rw[dD,decide_eq_false_iff_not];lia
def Ub:Sp:=λvs H Q _=>∃(c:Int),vs=[.int c]/\qE c/\∀(k:Int) (l:()) (ws:List Int) (p W:sX) (H':Hp),0<=k->k<3->ue l=Bw->l.length<=3->ws.length=l.length->(∀n ∈ ws,1<=n/\n<=3)->Same H H'->H' p=Bu (.tup [.int k,.str (tx l),.ref W])->H' W=Bu (.lst (ws.map V.int))->Q (.ref p) H'
def pW:sQz 1 ["_law_cell_here","_law_letters_here","_law_number"] Jb:=by nofun
theorem zcX(B:Bt mg)(F:("_law_draw"^^^Jb))(sf:(2<<<"_law_letters") ["_law_cell_here","_law_many"] [] uW)(iN:(1<<<"_law_mixed") ["_law_cell_here","_law_turn"] [] vz):(3&&&["_law_cell_here"]) Ub:=by
 exists F.ok pW
 ·obtain⟨c,rfl,hc,q⟩:=h
  refine#[_,(zi (zC 1 pW.nd (cl0 sf hr .nil rfl (za (pv 0) (za (zD yn zf (zD xO (zD xE (pv 0) zf) zf)) ze)))) (zi (zC 2 pW.nd (cl0 iN hr .nil rfl (za (pv 0) (za zf ze)))) (zg (zl (zS (za (zD xO (pv 0) zf) (za (pv 1) (za (zR XH (uK (za (zD yn zf (zD xO (pv 2) zf)) (za (zD yn zf (zD xO (zD xE (pv 2) zf) zf)) (za (zD yn zf (zD xO (zD xE (pv 2) zf) zf)) ze)))) yA (zU (zB B.len (pv 1)))) ze)))))))),?_]
  have s16:=zW;have s16:=zW;change H'=H/\∃l:(),l.length<=3/\ue l=Bw/\σ=[~~~!c,~~~l,Bv]
  ·rfl'
   have e0:=bQ (c / 3) (b:=2) ∅;have e1:=bH (c / 3) (b:=2) ∅;exact#[#[∅,∅],∅,Xy hc ⋯ ⋯ λl h1 h2 h3=>#[rfl,l,⋯,w9 #[⋯,⋯,h3,h2],rfl]]
  rintro σ H1 ⟨rfl,l,l3,hg,rfl⟩:_;right;change H'=H1/\∃z:Int,σ=[~~~!c,~~~l,~~~!z]
  ·rfl'
   exact wk hc ∅ ∅ λz _=>#[rfl,z,rfl]
  rintro σ H2 ⟨rfl,z,rfl⟩:_;right
  rfl'
  refine#[∅,∅,#[∅,∅],∅,#[∅,∅],∅,⋯,λp hp=>#[⋯,_,SqL.of zc,λp1 hp1=>#[⋯,λp2 hp2=>?_]]];have l1:=(w6 hg).1
  have e:Kl [V.int (1+z % 3),V.int (1+z / 3 % 3),V.int (1+z / 9 % 3)] Bv (Bu (l.length:Int))=([1+z % 3,1+z / 3 % 3,1+z / 9 % 3].take l.length).map V.int:=by
   rcases (show l.length=1\/l.length=2\/l.length=3 by lia)with h | h | h <;> rw[h] <;> rfl
  refine q (c % 3) l ([1+z % 3,1+z / 3 % 3,1+z / 9 % 3].take l.length) p2 p1 _ (bQ _ ∅) (bH _ ∅) hg l3 ?_ (λn hn=>?_) ((zd hp).trans ((zd hp1).trans (zd hp2))) zc ?_
  ·rw[aE];show min l.length 3=l.length;lia
  ·have hn':=bo hn;have m:∀y:Int,0<=y % 3/\y % 3<3:=λy=>#[bQ _ ∅,bH _ ∅];have m0:=m z;have m1:=m (z / 3);have m2:=m (z / 9)
   erw[dL,eY,or_false]at hn'
   rcases hn' with rfl | rfl | rfl <;> lia
  ·rw[zd hp2 _ _ zc,e]
def ThinL.pairs{l:()}{zs bs:List Ent}(h:ThinL k l ns zs)(hp:zb bs=zb zs)(hE:∀e ∈ bs,EB l e):ThinL k l ns bs:=by
 have key:∀(i:Nat) (a:Ent),bs[i]? = Bu a->∃z,zs[i]? = Bu z/\z.1=a.1/\z.2.1=a.2.1:=λi a ha=>by
  have h1:(zb bs)[i]? = Bu (a.1,a.2.1):=by unfold zb;rw[ar,ha];rfl
  rw[hp]at h1;unfold zb at h1;rw[ar]at h1;obtain⟨z,hz,e⟩:=BH.mp h1;exact#[z,hz,(Prod.ext_iff.mp e).1,(Prod.ext_iff.mp e).2]
 refine#[#[hE,λe he=>?_],λi j a b ha hb hij=>?_,λi j a b ha hb hij=>?_,λi j a b ha hb=>?_]
 ·obtain⟨i,hi⟩:=BM.mp he;obtain⟨z,hz,e1,e2⟩:=key i e hi;rw[<- e1,<- e2];exact h.rl.lt z (ae hz)
 all_goals
  obtain⟨x,hx,e1,e2⟩:=key i a ha;obtain⟨y,hy,f1,f2⟩:=key j b hb;rw[<- f1]
 ·rw[<- e1];exact h.up i j x y hx hy hij
 ·rw[<- e1];exact h.no1 i j x y hx hy hij
 ·rw[<- e2];exact h.no2 i j x y hx hy
abbrev zgJ(mg:tw->Option sY):Prop:=mg "any" = Bv
def qV:Sp:=λvs H Q _=>∃(k:Int) (l:()) (W:sX) (ws:List Int) (w:()),vs=[.int k,.str (tx l),.ref W,.str (tx w)]/\0<=k/\k<3/\ue l=Bw/\H W=Bu (.lst (ws.map V.int))/\ws.length=l.length/\(∀n ∈ ws,1<=n/\n<=1000000)/\w.length<=1000/\(∀x ∈ w,x ∈ l)/\∀(p q:sX) (H':Hp),Same H H'->H' p=Bu (.tup [.int (zp k.toNat l ws w),.ref q])->H' q=Bu (.lst ((xS k.toNat l w).map V.int))->Q (.ref p) H'
def Yi{k:Int}{l:()}{W:sX}{w:()}(k0:0<=k)(k3:k<3)(hg:ue l=Bw)(hD:H W=Bu (.lst (ws.map V.int)))(hwl:ws.length=l.length)(hwb:∀n ∈ ws,1<=n/\n<=1000000)(hw:w.length<=1000)(hm:∀x ∈ w,x ∈ l)(q:∀(p q:sX) (H':Hp),Same H H'->H' p=Bu (.tup [.int (zp k.toNat l ws w),.ref q])->H' q=Bu (.lst ((xS k.toNat l w).map V.int))->Q (.ref p) H'):qV [.int k,.str (tx l),.ref W,.str (tx w)] H Q E:=#[k,l,W,ws,w,rfl,k0,k3,hg,hD,hwl,hwb,hw,hm,q]
def nL:sQz 4 ["_law_kind","_law_letters_here","_law_weights","_law_word_here","_law_seen","_law_weight"] ku:=by nofun
theorem zbC(B:Bt mg)(F:("_law_rank"^^^ku)) :(1&&&["_law_kind","_law_letters_here","_law_weights","_law_word_here"]) qV:=by
 exists F.ok nL
 ·obtain⟨k,l,W,ws,w,rfl,k0,k3,hg,hW,hwl,hwb,hw,hm,q⟩:=h
  refine#[_,(zi (zC 4 nL.nd (pv 3)) (zi (zC 5 nL.nd (zB B.len (pv 3))) (zi (zN (zy wF (pv 0) zf (zA _)) (zg (zC 4 nL.nd (ux bp PySem.F.slot_str_join PySem.F.type_str_join zd7 yc (za (yP (own:=["_law_k"]) (caps:=["_law_word_here"]) (ix:=[3]) (tt:=xw) (te:=(tOp (rIx K) (z6 1) (tOp (rI0 λi j=>.int (i - j)) (tOp (rI0 λi j=>.int (i - j)) (tCB (Wp K) (zL (z6 1) xx)) (tC (.int 1))) (z6 0)))) rfl (zM (sc:=zh ku) rfl (!0) (!0) (!0) rfl (!0) (!0) rfl) (yB rfl B.range (za (zB B.len (pv 3)) ze)) (λ_ _ _ _ _ _=>zt (i:=0) (show List.Nodup [_,_] by decide) rfl (.inl rfl)) (λ_ _ _ _ _ _=>yg) (λ_ _ _ _ _ _=>(zk UV (pv 1) (zD ut (zD ut (zB B.len (pv 1)) zf) (pv 0))))) ze))))
    zr) (zi (zN (zy wF (pv 0) zf (zA _)) (zg (zC 5 nL.nd (yu (zdE rfl) rfl B.sum fJ (za (yP (own:=["_law_sign"]) (caps:=["_law_weights","_law_letters_here"]) (ix:=[2,1]) (tt:=xw) (te:=(tOp (rIx K) (z6 1) (tBM K "str" Jy (z6 2) (zL (z6 0) xx)))) rfl (zM (sc:=zh ku) rfl (!0) (!0) (!0) rfl (!0) (!0) rfl) (kN (pv 3)) (λ_ _ _ _ _ _=>zt (i:=0) (show List.Nodup [_,_,_] by decide) rfl (.inl rfl)) (λ_ _ _ _ _ _=>yg) (λ_ _ _ _ _ _=>(zk UV (pv 1) (ux bp cY cZ zaG (pv 2) (za (pv 0) ze))))) ze))))
    zr) (zg (zl (zS (za (pv 5) (za (yP (own:=["_law_sign"]) (caps:=["_law_letters_here"]) (ix:=[1]) (tt:=xw) (te:=(tBM K "str" Jy (z6 1) (zL (z6 0) xx))) rfl (zM (sc:=zh ku) rfl (!0) (!0) (!0) rfl (!0) (!0) rfl) (kN (pv 4)) (λ_ _ _ _ _ _=>zt (i:=0) (show List.Nodup [_,_] by decide) rfl (.inl rfl)) (λ_ _ _ _ _ _=>yg) (λ_ _ _ _ _ _=>(ux bp cY cZ zaG (pv 1) (za (pv 0) ze)))) ze))))))))),?_]
  have s16:=zW;have s16:=zW;obtain⟨l1,l6,lsm,lnd⟩:=w6 hg;change H'=H/\σ=[~~~!k,~~~l,!!W,~~~w,~~~w,Bv]
  ·rfl'
  rintro σ H1 ⟨rfl,rfl⟩:_;right;change H'=H1/\σ=[~~~!k,~~~l,!!W,~~~w,~~~w,Bu (.int (w.length:Nat))]
  ·rfl'
   lia
  rintro σ H2 ⟨rfl,rfl⟩:_;right;change Same H2 H'/\σ=[~~~!k,~~~l,!!W,~~~w,Bu (.str (tx (yx k.toNat w))),Bu (.int (w.length:Nat))]
  ·rfl'
   refine yE (λhk=>#[⋯,⋯,⋯,λD hD=>CompR.by (λi BA H'=>Same H2 H'/\H' D=Bu (.lst BA)/\BA=(((w.reverse.take i).map λc=>[c]).map tx).map V.str) #[zd hD,zc,rfl] ?_ ?_]) λhk=>?_
   ·refine nm3 ?_;rintro i BA H' hi ⟨hs,hH,rfl⟩:_;rw[az]at hi
    have hr:w.reverse[i]? = Bu (w[w.length - 1 - i]'⋯):=by
     rw[bz hi,ah ⋯]
    have ha:atI w ((w.length:Int) - 1 - (0+(i:Int)))=Bu (w[w.length - 1 - i]'⋯):=by
     rw[show (w.length:Int) - 1 - (0+(i:Int))=((w.length - 1 - i:Nat):Int) by lia];exact wX (ah ⋯)
    right
    erw[xw]
    rfl'
    refine#[yH,⋯,⋯,_,ha,hH,by erw[ac,aE,bE];lia,CNx.mk (by rw[az];exact hi) #[zE hs hD,zc,?_]];rw[zV hr,au,au,au];rfl
   ·rintro BA H' ⟨hs,hH,rfl⟩;rw[az,<- bE,aJ]at hH
    have hfl:(w.reverse.map λc=>[c]).flatten=w.reverse:=by
     induction w.reverse with
     | nil=>rfl
     | cons a r ih=>rw[av,dC,ih];rfl
    refine#[tx [],D,(w.reverse.map λc=>[c]).map tx,rfl,rfl,SqL.of hH,Kj (by rw[hfl,bE];lia),?_];have e:Txt.join (tx []) ((w.reverse.map λc=>[c]).map tx)=Str.join (tx []) ((w.reverse.map λc=>[c]).map tx):=StrLaws.glued_eq_join _ _;rw[e,Jf,hfl];refine#[hs,?_];rw[hk];rfl
   ·refine#[Same.refl _,?_];unfold yx;rw[y9 ⋯]
  rintro σ H3 ⟨s3,rfl⟩:_;have hW3:=s3 _ _ hW;right;change Same H3 H'/\σ=[~~~!k,~~~l,!!W,~~~w,Bu (.str (tx (yx k.toNat w))),Bu (.int (zp k.toNat l ws w))]
  ·rfl'
   refine yE (λhk=>λD hD=>CompS.by (λi BA H'=>Same H3 H'/\H' D=Bu (.lst BA)/\BA=((w.take i).map λc=>ws.getD (l.idxOf c) 0).map V.int) #[zd hD,zc,rfl] ?_ ?_) λhk=>?_
   ·refine nm4 ?_;rintro i c BA H' hc ⟨hs,hH,rfl⟩:_;have hci:=(BB.mp hc).1;have hcl:=hm c (ae hc);have hlt:=bf hcl
    have ea:atI (ws.map V.int) ((l.idxOf c:Nat):Int)=Bu (.int (ws.getD (l.idxOf c) 0)):=by
     refine wX ?_;rw[ar,af,ah ⋯];rfl
    right
    erw[xw]
    rfl'
    refine#[yH,.inl #[_,SqL.of (hs _ _ hW3),_,by rw[WZ hcl];exact ea,hH,by erw[ac,aE];lia,CNx.mk hci #[zE hs hD,zc,?_]]];rw[zV hc,au,au];rfl
   ·rintro BA H' ⟨hs,hH,rfl⟩;rw[aJ]at hH;refine#[D,_,rfl,SqL.of hH,hs,congrArg V.int ?_];have e2:=ZN (ls:=l) (ns:=ws) lnd hwl (w:=w) hm;unfold K5 at e2;unfold zp;rw[y6 ⋯,<- e2];rfl
   ·refine#[Same.refl _,?_];unfold zp;rw[y9 ⋯]
  rintro σ H4 ⟨s4,rfl⟩:_;right
  rfl'
  intro D hD
  have hsm:∀c ∈ yx k.toNat w,c ∈ l:=λc hc=>by
   unfold yx at hc;split at hc
   ·exact hm c (BL.mp hc)
   ·exact hm c hc
  have hsl:(yx k.toNat w).length<=1000:=by
   unfold yx;split
   ·rw[bE];exact hw
   ·exact hw
  refine CompS.by (λi BA H'=>Same H4 H'/\H' D=Bu (.lst BA)/\BA=(qj l ((yx k.toNat w).take i)).map V.int) #[zd hD,zc,rfl] ?_ ?_
  ·refine nm4 ?_;rintro i c BA H' hc ⟨hs,hH,rfl⟩:_;have hci:=(BB.mp hc).1;have hcl:=hsm c (ae hc);right
   erw[xw]
   rfl'
   rw[WZ hcl];refine#[yH,hH,by rw[ac];unfold qj;rw[ac,aE];lia,CNx.mk hci #[zE hs hD,zc,?_]];unfold qj;rw[zV hc,au,au];rfl
  ·rintro BA H' ⟨hs,hH,rfl⟩;rw[aJ]at hH;exact#[⋯,λp hp=>q p D _ (s3.trans (s4.trans (hs.trans (zd hp)))) zc (zd hp _ _ hH)]
def JR{l:()}{u v:()}{p p' r r':sX}(hp:H p=Bu (.tup [.int (zp k l ws u),.ref p']))(hp':H p'=Bu (.lst ((xS k l u).map V.int)))(hr:H r=Bu (.tup [.int (zp k l ws v),.ref r']))(hr':H r'=Bu (.lst ((xS k l v).map V.int)))(q:Q (.bl (zO k l ws u v)) H):zfc K (.ref p) (.ref r) H Q:=by refine Jq (qg hp hp') (qg hr hr') (by erw[dpD,vG,Z3];decide) (by erw[okD,jY];exact#[trivial,uq _ _,trivial]) ?_;rw[XV];exact q
def RkAt(H:Hp)(R:sX)(k:Nat)(l:())(ws:List Int)(u:()):Prop:=∃R':sX,H R=Bu (.tup [.int (zp k l ws u),.ref R'])/\H R'=Bu (.lst ((xS k l u).map V.int))
def RkAt.same{H H':Hp}{R:sX}{l:()}{u:()}(h:RkAt H R k l ws u)(s:Same H H'):RkAt H' R k l ws u:=let #[R',a,b]:=h; #[R',s _ _ a,s _ _ b]
def RkAt.lt{R R2:sX}{l:()}{u v:()}(h:RkAt H R k l ws u)(h2:RkAt H R2 k l ws v)(q:Q (.bl (zO k l ws u v)) H):zfc K (.ref R) (.ref R2) H Q:=by obtain⟨R',a,b⟩:=h;obtain⟨R2',a2,b2⟩:=h2;exact JR a b a2 b2 q
structure TNT(K:sV)(mg:tw->Option sY)(C:sX):Prop where
 xi:XI K C
 g:mg "NotTurned" = Bu (.ref C)
 na:NoAttr K C "number"
def u8:sQz 2 ["self","number"] ya:=by nofun
def uY{f C:sX}(T:TNT K mg C)(F:Fun K "__init__" "NotTurned.__init__" ya f fd):(1&&&["self","number"]) (uu C "number"):=by
 exists F.ok u8
 ·obtain⟨x,v,rfl,hx,q⟩:=h;refine#[_,(zg (UL (pv 0) (pv 1) rfl)),?_]
  erw[zbT]
  rfl'
  exact#[C,hx,T.xi.toXC,T.na,q]
structure DNT(P:tu)(w:tz)(K:sV)(mg:tw->Option sY)(base:tE)(C:sX):Prop extends TNT K mg C where
 ini:∃f fd,ag K (.ref C) "__init__" = Bu (Bu (.ref f))/\aU K (.ref f)=Bw/\(1&&&["self","number"]) (uu C "number")/\Binds K fd ["self","number"] []
structure zey(K:sV)(mg:tw->Option sY)(CH:sX):Prop where
 cl:Cls K CH
 g:mg "System" = Bu (.ref CH)
 no:NoAttr K CH "order"
 nr:NoAttr K CH "rules"
end in def vg(k:Nat)(l:())(ns:List Int):List zu->Nat->Option Nat
 | [],_=>Bv
 | r::rs,i=>if zO k l ns r.2 r.1=Bw then vg k l ns rs (i+1)else Bu i
theorem WM{l:()}:∀{ps:List zu} {j i:Nat} {r:zu},(∀(m:Nat) (p:zu),m<i->ps[m]? = Bu p->zO k l ns p.2 p.1=Bw)->ps[i]? = Bu r->zO k l ns r.2 r.1=Bx->vg k l ns ps j=Bu (j+i)
 | [],_,_,_,_,h,_=>by simp at h
 | p::ps,j,0,r,_,h,hl=>by
  cases h;rw[vg,hl,y9 aD];rfl
 | p::ps,j,i+1,r,hb,h,hl=>by
  rw[vg,y6 (hb 0 p (Nat.succ_pos _) rfl),WM (i:=i) (λm q hm e=>hb (m+1) q ⋯ e) h hl];congr 1;lia
theorem u7{l:()}:∀{ps:List zu} {j:Nat},(∀(m:Nat) (p:zu),ps[m]? = Bu p->zO k l ns p.2 p.1=Bw)->vg k l ns ps j=Bv
 | [],_,_=>rfl
 | p::ps,j,hb=>by
  rw[vg,y6 (hb 0 p rfl)];exact u7 λm q e=>hb (m+1) q e
def InL(l:())(ps:List zu):Prop:=∀p ∈ ps,p.1.length<=1000/\p.2.length<=1000/\(∀c ∈ p.1,c ∈ l)/\∀c ∈ p.2,c ∈ l
def qR(K:sV)(CO CR CW CT CH:sX):Sp:=λvs H Q E=>∃(x dx o a:sX) (k:Nat) (l:()) (ns:List Int) (ps:List zu) (xs:List V),vs=[.ref x,.ref o,.ref a]/\H x=Bu (.ins CH dx [])/\OrdAt CO CR CW H o k l ns/\OG l ns k/\H a=Bu (.lst xs)/\Iss K H (ps.map dR) xs/\InL l ps /\
 (∀i,vg k l ns ps 0=Bu i->∀H1,Same H H1->∀d H',zfi H1 d "number" (.int (i:Nat)) H'->E (.ref CT) (Bu d) H') /\
 (vg k l ns ps 0=Bv->∀(q:sX) (H':Hp),(∀b o',b≠x->H b=Bu o'->H' b=Bu o')->H' x=Bu (.ins CH dx [("order",.ref o),("rules",.ref q)])->H' q=Bu (.lst xs)->H q=Bv->Q .non H')
def lS:sQz 3 ["self","order","rules","number","rule"] wD:=by nofun
theorem j9{f CO CR CW CT CH:sX}(B:Bt mg)(T:DNT P w K mg base CT)(TS:zey K mg CH)(DBk:DB P w K mg base CO CR CW)(F:Fun K "__init__" "System.__init__" wD f fd) :(5|||["self","order","rules"]) (qR K CO CR CW CT CH):=by
 obtain⟨fi,fdi,hi,hfn,Fi,Bi⟩:=T.ini
 exists Fun.okX F lS,0
 ·obtain⟨x,dx,o,a,k,l,ns,ps,xs,rfl,hx0,ho,hG,hA,hI,hP,q1,q2⟩:=h
  refine#[_,(zi (z7 PassesOwn.leaving rfl (xy rfl B.enum (za (pv 2) ze)) (vm (n:=2) rfl (zP (zt (i:=3) lS.nd rfl (.inl rfl)) (zP (zt (i:=4) lS.nd rfl (.inl rfl)) xC))) (zg (zN (zZ (yF (zda DBk hr (pv 1) (za (!-4) (za (!-4) ze))) (λ_=>rfl))) (zg (Y2 hx rfl T.xi.toXC hi hfn Fi (hr.mono ∅) Bi rfl T.g (za (pv 3) ze)))
     zr))) (zi (kL (pv 0) (pv 1) rfl) (zg (kL (pv 0) (xp yR rfl B.list PySem.Pv.boot_list (za (pv 2) ze)) rfl)))),?_]
  have s16:=zW;change Same H H'/\vg k l ns ps 0=Bv/\∃v3 v4,σ=[!!x,!!o,!!a,v3,v4]
  ·ac_rfl;refine#[#[_,SqL.of hA],ForEL.by (xs:=xs) (λi σ H'=>Same H H'/\(∀(j:Nat) (p:zu),j<i->ps[j]? = Bu p->zO k l ns p.2 p.1=Bw)/\∃v3 v4,σ=[!!x,!!o,!!a,v3,v4]) #[Same.refl _,λj p h=>y4 h (bX j),_,_,rfl] ?_ ?_ ?_]
   ·rintro i σ H' _ ⟨hs,_⟩;exact SqL.of (hs _ _ hA)
   ·rintro i y σ H' p hy ⟨hs,hb,v3,v4,rfl⟩ hpn;obtain⟨r,pr,hri,rfl,hqr⟩:=hI.getR hy;have hm:=hP r (ae hri);have s2:=hs.trans (zd (o:=.tup [.int (i:Nat),.ref pr]) hpn);have ho2:=ho.same s2;have hq2:=zo s2 hqr;obtain⟨C,dy,fs,hf,hoC,hn,_⟩:=ho2.fam;have hn1:fs.lookup ("before" : tw)=Bv:=hn _ ∅ ∅;ac_rfl;refine#[_,SqT.of zc,rfl,_,_,rfl,_,_,rfl,rfl,C,hf,dy,fs,hoC,hn1,_,rfl,_,hq2,_,rfl,_,rfl,_,hq2,_,rfl,o,k,l,ns,r.2,r.1,rfl,ho2,hG,hm.2.1,hm.1,hm.2.2.2,hm.2.2.1,λH3 s3=>?_];have s16:=zW;refine#[_,rfl,yE (λe=>#[⋯,Qk (q1 i (by have:=WM (j:=0) hb hri e;simpa using this) H3 (s2.trans s3))]) λe=>#[s2.trans s3,λj p' hj hp'=>?_]];by_cases hj':j<i
    ·exact hb j p' hj' hp'
    ·have:j=i:=⋯;rw[this,hri]at hp';cases hp';simpa using e
   ·rintro σ H' ⟨hs,hb,v3,v4,rfl⟩;have hxl:=hI.len;rw[ac]at hxl;exact#[hs,u7 λm p e=>hb m p (by have:=(BB.mp e).1;lia) e,v3,v4,rfl]
  rintro σ H1 ⟨s1,hf,v3,v4,rfl⟩:_;right;change H'=upd H1 x (.ins CH dx [("order",.ref o)])/\σ=[!!x,!!o,!!a,v3,v4]
  ·ac_rfl;exact#[_,_,_,s1 _ _ hx0,TS.cl,TS.no,∅,rfl]
  rintro σ H2 ⟨rfl,rfl⟩:_;right;ac_rfl;have hax:a≠x:=λe=>by rw[e,hx0]at hA;cases hA
  refine#[xs,.inl (SqL.of (by rw[zq hax];exact s1 _ _ hA)),λq hq=>?_];have hqx:q≠x:=λe=>by rw[e,zc]at hq;cases hq
  rw[zq hqx]at hq
  have hqH:H q=Bv:=by
   cases e:H q with
   | none=>rfl
   | some o'=>rw[s1 _ _ e]at hq;cases hq
  refine#[CH,dx,_,by rw[zq hqx.symm,zc],TS.cl,TS.nr,by show 1<1000;decide,q2 hf q _ (λb o' hb e=>?_) zc (by rw[zq hqx,zc]) hqH];rw[zq hb,zq (λz=>by rw[z,hqH]at e;cases e),zq hb];exact s1 _ _ e
def KG(K:sV)(CH:sX)(H:Hp)(y o q:sX)(ps:List zu):Prop:=∃dx xs,H y=Bu (.ins CH dx [("order",.ref o),("rules",.ref q)])/\H q=Bu (.lst xs)/\Iss K H (ps.map dR) xs
end in def xb(l m:())(k:Nat):Bool:=decide ((l.drop k).take m.length=m.take (l.length - k))
end in def lf(rs:List zu)(i:Nat):():=(rs.getD i ([],[])).1
def wJ{r:zu}(h:rs[i]? = Bu r):lf rs i=r.1:=by unfold lf;rw[af,h];rfl
end in def Yx(rs:List zu)(i j n:Nat):List N3:=((aN n).filter λk=>(decide (i≠j) || decide (k≠0)) && xb (lf rs i) (lf rs j) k).map λk=>(i,j,k)
end in def ovI(rs:List zu)(i m:Nat):List N3:=(aN m).flatMap λj=>Yx rs i j (lf rs i).length
end in def ovA(rs:List zu)(m:Nat):List N3:=(aN m).flatMap λi=>ovI rs i rs.length
def jr(rs:List zu)(i j n:Nat):Yx rs i j (n+1)=Yx rs i j n ++ (if ((decide (i≠j) || decide (n≠0)) && xb (lf rs i) (lf rs j) n)=Bw then [(i,j,n)]else []):=by
 unfold Yx;rw[cE,cP,au];congr 1
 erw[eZ,dm]
 split <;> rfl
def qH(rs:List zu)(i m:Nat):ovI rs i (m+1)=ovI rs i m ++ Yx rs i m (lf rs i).length:=by unfold ovI;rw[cE,dh];simp
def ZP(rs:List zu)(m:Nat):ovA rs (m+1)=ovA rs m ++ ovI rs m rs.length:=by unfold ovA;rw[cE,dh];simp
def qO(rs:List zu)(i j n:Nat):(Yx rs i j n).length<=n:=by unfold Yx;rw[ac];have:=cX (λk=>(decide (i≠j) || decide (k≠0)) && xb (lf rs i) (lf rs j) k) (aN n);rw[cw]at this;exact this
theorem zdY(h:ZL rs)(i:Nat):(lf rs i).length<=100:=by
 cases e:rs[i]? with
 | none=>unfold lf;rw[af,e];exact aG _
 | some r=>rw[wJ e];exact (h.2 r (ae e)).1
theorem Xo(h:ZL rs)(i m:Nat):(ovI rs i m).length<=m * 100:=by
 induction m with
 | zero=>exact aG _
 | succ m ih =>
  rw[qH,aj];have h1:=qO rs i m (lf rs i).length;have h2:=zdY h i;lia
theorem UP(h:ZL rs)(m:Nat):(ovA rs m).length<=m * 3000:=by
 induction m with
 | zero=>exact aG _
 | succ m ih =>
  rw[ZP,aj];have h1:=Xo h m rs.length;have h2:=h.1;lia
theorem VG(l m:())(k:Nat):xb l m k=Bw ↔ ∀j,j<m.length->k+j<l.length->l[k+j]? = m[j]?:=by
 unfold xb;rw[decide_eq_true_eq];constructor
 ·intro h j hj hk;have h1:((l.drop k).take m.length)[j]? =(m.take (l.length - k))[j]?:=by rw[h]
  rw[br hj,eF,br ⋯]at h1;exact h1
 ·intro h;refine eM λj=>?_;by_cases hj:j<m.length
  ·rw[br hj,eF];by_cases hk:k+j<l.length
   ·rw[br ⋯];exact h j hj hk
   ·rw[bh ⋯,bh (by rw[aE];lia)]
  ·rw[bh (by rw[aE];lia),bh (by rw[aE];lia)]
def Z4:Sp:=λvs H Q _=>∃(l m:()) (k:Nat),vs=[.str (tx l),.str (tx m),.int (k:Nat)]/\l.length<=1000/\m.length<=1000/\k<=l.length/\Q (.bl (xb l m k)) H
def Yr{l m:()}(h1:l.length<=1000)(h2:m.length<=1000)(h3:k<=l.length)(h:Q (.bl (xb l m k)) H):Z4 [.str (tx l),.str (tx m),.int (k:Nat)] H Q E:=#[l,m,k,rfl,h1,h2,h3,h]
def Ky:sQz 3 ["one","other","place"] XU:=by nofun
theorem KC(B:Bt mg)(F:("agree"^^^XU)) :(1&&&["one","other","place"]) Z4:=by
 exists F.ok Ky
 ·obtain⟨l,m,k,rfl,hl,hm,hk,q⟩:=h;refine#[_,(zg (zl (yI wF (zR y8 (pv 0) (zU (pv 2)) (zU (zD yn (pv 2) (zB B.len (pv 1))))) (zR y8 (pv 1) yA (zU (zD ut (zB B.len (pv 0)) (pv 2)))) (zA _)))),?_];have s16:=zW
  rfl'
  refine#[⋯,⋯,⋯,⋯,?_];rw[QZ _ ⋯ ⋯,qu _ ⋯];have e1:((k:Int)+(m.length:Int) - (k:Int)).toNat=m.length:=⋯;have e2:((l.length:Int) - (k:Int)).toNat=l.length - k:=⋯;rw[e1,e2];exact q
def vW(K:sV):Sp:=λvs H Q _=>∃(a:sX) (rs:List zu),vs=[.ref a]/\Is K H (.lst (rs.map dR)) (.ref a)/\ZL rs/\∀D H',H D=Bv->Same H H'->LsA K H' D ((ovA rs rs.length).map d3)->Q (.ref D) H'
def Yy(h1:Is K H (.lst (rs.map dR)) (.ref a))(h2:ZL rs)(h:∀D H',H D=Bv->Same H H'->LsA K H' D ((ovA rs rs.length).map d3)->Q (.ref D) H'):vW K [.ref a] H Q E:=#[a,rs,rfl,h1,h2,h]
def ik:sQz 1 ["rules","found","i","one","j","other","place"] qe:=by nofun
theorem Xu(B:Bt mg)(F:("overlaps"^^^qe))(sw:(1<<<"agree") ["one","other","place"] [] Z4):(2&&&["rules"]) (vW K):=by
 exists F.ok ik
 ·obtain⟨a,rs,rfl,hR,ok,q⟩:=h
  refine#[_,(zG (zC 1 ik.nd (uK ze)) (zG (z7 r9 rfl (xy rfl B.enum (za (pv 0) ze)) (vm (n:=2) rfl (zP (zt (i:=2) ik.nd rfl (.inl rfl)) (zP (zt (i:=3) ik.nd rfl (.inl rfl)) xC))) (zg (z7 r9 rfl (xy rfl B.enum (za (pv 0) ze)) (vm (n:=2) rfl (zP (zt (i:=4) ik.nd rfl (.inl rfl)) (zP (zt (i:=5) ik.nd rfl (.inl rfl)) xC))) (zg (z7 r9 rfl (Yz rfl B.range (za (vF (zy wF (pv 2) (pv 4) (zA _)) zf zf) (za (zB B.len (!-3)) ze))) (zt (i:=6) ik.nd rfl (.inl rfl)) (zg (zN (yF (cl0 sw hr .nil rfl (za (!-3) (za (!-5) (za (pv 6) ze)))) (λ_=>rfl)) (zg (vn (ux bV cI cJ wQ (pv 1) (za (zS (za (pv 2) (za (pv 4) (za (pv 6) ze)))) ze))))
       zr))))))) (zg (zl (pv 1))))),?_]
  have s16:=zW
  rfl'
  erw[Is]at hR
  obtain⟨_,xs,e,hX,hI⟩:=hR;cases e;refine#[⋯,λD hD=>#[#[_,(zd hD).seq hX],ForEL.by (xs:=xs) (λi σ H'=>∃v2 v3 v4 v5 v6,σ=[!!a,!!D,v2,v3,v4,v5,v6]/\Same H H'/\LsA K H' D ((ovA rs i).map d3)) #[Bv,Bv,Bv,Bv,Bv,rfl,zd hD,LsA.nil] ?_ ?_ ?_]]
  ·rintro i σ H' hi ⟨v2,v3,v4,v5,v6,rfl,hs,_⟩;exact hs.seq hX
  ·rintro i x σ H' p hx ⟨v2,v3,v4,v5,v6,rfl,hs,hL⟩ hp;obtain⟨r,pr,hri,rfl,hqr⟩:=hI.getR hx;have er:=wJ hri;have hr1:=(ok.2 r (ae hri)).1
   rfl'
   refine#[_,SqT.of zc,rfl,_,_,rfl,_,_,rfl,rfl,#[_,((hs.trans (zd hp)).seq hX)],ForEL.by (xs:=xs) (λj σ H''=>∃v4 v5 v6,σ=[!!a,!!D,-~~~i,!!pr,v4,v5,v6]/\Same H H''/\LsA K H'' D ((ovA rs i ++ ovI rs i j).map d3)) #[v4,v5,v6,rfl,hs.trans (zd hp),by rw[show ovI rs i 0=[]from rfl,aT];exact hL.same (zd hp)] ?_ ?_ ?_]
   ·rintro j σ H2 hj ⟨v4,v5,v6,rfl,hs2,_⟩;exact hs2.seq hX
   ·rintro j y σ H2 p2 hy ⟨v4,v5,v6,rfl,hs2,hL2⟩ hp2;obtain⟨r2,pr2,hri2,rfl,hqr2⟩:=hI.getR hy;have er2:=wJ hri2;have hr2:=(ok.2 r2 (ae hri2)).1;have hs3:=hs2.trans (zd (o:=.tup [.int (j:Nat),.ref pr2]) hp2);have hq1:=zo hs3 hqr;have el:(tx r.1).length=r.1.length:=zK _
    rfl'
    refine#[_,SqT.of zc,rfl,_,_,rfl,_,_,rfl,rfl,rfl,yE (λh=>?_) λh=>?_]
    ·have hij:i=j:=by injection h with h;lia
     have z0:Yx rs i j (1+0)=[]:=by
      subst hij;rw[show 1+0=0+1 from rfl,jr];simp [Yx]
     have zn:Yx rs i j (1+((r.1.length:Int) - 1).toNat)=Yx rs i j r.1.length:=by
      by_cases h0:r.1.length=0
      ·rw[h0];exact z0
      ·rw[show 1+((r.1.length:Int) - 1).toNat=r.1.length by lia]
     refine#[_,hq1,_,rfl,_,#[⋯,rfl],∅,∅,⋯,⋯,ForR.by (λt σ H3=>∃v6,σ=[!!a,!!D,-~~~i,!!pr,-~~~j,!!pr2,v6]/\Same H H3/\LsA K H3 D ((ovA rs i ++ ovI rs i j ++ Yx rs i j (1+t)).map d3)) #[v6,rfl,hs3,(by rw[z0,aT];exact hL2.same (zd hp2))] ?_ ?_]
     ·refine nm3 ?_;rintro n σ H3 hn ⟨v6,rfl,hs4,hL4⟩:_;have hn':1+n<r.1.length:=⋯;have en:((1:Int)+(n:Int))=((1+n:Nat):Int):=⋯;right;dsimp only;rw[en];obtain⟨ys,hY,hJ⟩:=hL4;have hlen:=hJ.len;have l1:=UP ok i;have l2:=Xo ok i j;have l3:=qO rs i j (1+n);have i1:=(BB.mp hri).1;have i2:=(BB.mp hri2).1;have i3:=ok.1
      erw[ac,aj]at hlen
      have es:=jr rs i j (1+n);have etest:(decide (i≠j) || decide (1+n≠0))=Bw:=by rw[show decide (1+n≠0)=Bw from w9 ⋯,dQ]
      rw[etest,fY,er,er2]at es
      rfl'
      refine#[_,zo hs4 hqr,_,rfl,_,zo hs4 hqr2,_,rfl,Yr ⋯ ⋯ ⋯ #[_,rfl,yE (λhb=>#[.inl #[_,SqL.of hY],⋯,λt ht=>#[_,zd ht _ _ hY,⋯,zE (hs4.trans (zd ht)) hD,?_]]) λhb=>#[hs4,ys,hY,?_]]]
      ·rw[hb,y6 rfl]at es;rw[show 1+(n+1)=1+n+1 by lia,es,<- ao,au];exact LsA.pushT hY hJ ht zdn (Vi _) (by erw[z8,xB,and_self])
      ·have hb':xb r.1 r2.1 (1+n)=Bx:=by simpa using hb
       rw[hb',y9 aD,aT]at es;rw[show 1+(n+1)=1+n+1 by lia,es];exact hJ
     ·rintro σ H3 ⟨v6,rfl,hs4,hL4⟩;refine#[#[_,_,_,rfl],hs4,?_];rw[qH,er,<- ao];rw[el,zn]at hL4;exact hL4
    ·have hij:i≠j:=λz=>h (by rw[z]);refine#[_,hq1,_,rfl,_,#[⋯,rfl],∅,∅,⋯,⋯,ForR.by (λt σ H3=>∃v6,σ=[!!a,!!D,-~~~i,!!pr,-~~~j,!!pr2,v6]/\Same H H3/\LsA K H3 D ((ovA rs i ++ ovI rs i j ++ Yx rs i j (0+t)).map d3)) #[v6,rfl,hs3,(by rw[show Yx rs i j (0+0)=[]from rfl,aT];exact hL2.same (zd hp2))] ?_ ?_]
     ·refine nm3 ?_;rintro n σ H3 hn ⟨v6,rfl,hs4,hL4⟩:_;have hn':0+n<r.1.length:=⋯;have en:((0:Int)+(n:Int))=((0+n:Nat):Int):=⋯;right;dsimp only;rw[en];obtain⟨ys,hY,hJ⟩:=hL4;have hlen:=hJ.len;have l1:=UP ok i;have l2:=Xo ok i j;have l3:=qO rs i j (0+n);have i1:=(BB.mp hri).1;have i2:=(BB.mp hri2).1;have i3:=ok.1
      erw[ac,aj]at hlen
      have es:=jr rs i j (0+n);have etest:(decide (i≠j) || decide (0+n≠0))=Bw:=by rw[show decide (i≠j)=Bw from w9 hij,Bool.true_or]
      rw[etest,fY,er,er2]at es
      rfl'
      refine#[_,zo hs4 hqr,_,rfl,_,zo hs4 hqr2,_,rfl,Yr ⋯ ⋯ ⋯ #[_,rfl,yE (λhb=>#[.inl #[_,SqL.of hY],⋯,λt ht=>#[_,zd ht _ _ hY,⋯,zE (hs4.trans (zd ht)) hD,?_]]) λhb=>#[hs4,ys,hY,?_]]]
      ·rw[hb,y6 rfl]at es;rw[show 0+(n+1)=0+n+1 by lia,es,<- ao,au];exact LsA.pushT hY hJ ht zdn (Vi _) (by erw[z8,xB,and_self])
      ·have hb':xb r.1 r2.1 (0+n)=Bx:=by simpa using hb
       rw[hb',y9 aD,aT]at es;rw[show 0+(n+1)=0+n+1 by lia,es];exact hJ
     ·rintro σ H3 ⟨v6,rfl,hs4,hL4⟩;refine#[#[_,_,_,rfl],hs4,?_];rw[qH,er,<- ao];rw[el,show 0+((r.1.length:Int) - 0).toNat=r.1.length by lia]at hL4;exact hL4
   ·rintro σ H2 ⟨v4,v5,v6,rfl,hs2,hL2⟩;have e:=hI.len;rw[ac]at e;rw[e,<- ZP]at hL2;exact#[#[_,_,_,_,_,rfl],hs2,hL2]
  ·rintro σ H' ⟨v2,v3,v4,v5,v6,rfl,hs,hL⟩;have e:=hI.len;rw[ac]at e;rw[e]at hL
   rfl'
   exact q D H' hD hs hL
end in def yf(l m:())(k:Nat):():=l ++ m.drop (l.length - k)
theorem wY(l m:())(k:Nat)(hk:k<=l.length):(yf l m k).length=max l.length (k+m.length):=by unfold yf;rw[aj,aS];lia
theorem kB(l m:())(k:Nat):zx (yf l m k) 0 l=Bw:=by unfold zx yf;refine w9 #[∅,by rw[aj];lia,?_];rw[show (0:Int).toNat=0 from rfl,et,aR (al _),aJ]
theorem jE{l m:()}(hk:k<=l.length)(h:xb l m k=Bw):zx (yf l m k) (k:Nat) m=Bw:=by
 unfold xb at h;rw[decide_eq_true_eq]at h;have hl:=wY l m k hk;unfold zx;refine w9 #[⋯,⋯,?_];rw[show ((k:Nat):Int).toNat=k from rfl];unfold yf;rw[bD hk];by_cases hm:m.length<=l.length - k
 ·rw[aR (by rw[aS];lia),h,bc hm]
 ·rw[bc (by rw[aS];lia)]at h;rw[h,aZ,aJ]
def J4{i j n:Nat}{t:N3}(h:t ∈ Yx rs i j n):t.1=i/\t.2.1=j/\t.2.2<n/\xb (lf rs i) (lf rs j) t.2.2=Bw:=by unfold Yx at h;obtain⟨k,hk,rfl⟩:=BC.mp h;rw[List.mem_filter,fL,cA]at hk;exact#[rfl,rfl,hk.1,hk.2.2]
def uX{t:N3}(h:t ∈ ovA rs rs.length):t.1<rs.length/\t.2.1<rs.length/\t.2.2<(lf rs t.1).length/\xb (lf rs t.1) (lf rs t.2.1) t.2.2=Bw:=by unfold ovA ovI at h;obtain⟨i,hi,h⟩:=BP.mp h;obtain⟨j,hj,h⟩:=BP.mp h;obtain⟨e1,e2,e3,e4⟩:=J4 h;rw[e1,e2];exact#[BK.mp hi,BK.mp hj,e3,e4]
def ZI(K:sV):Sp:=λvs H Q _=>∃(a t:sX) (rs:List zu) (i j k:Nat) (r r2:zu),vs=[.ref a,.ref t]/\Is K H (.lst (rs.map dR)) (.ref a)/\SqT K H t [.int (i:Nat),.int (j:Nat),.int (k:Nat)]/\ZL rs/\rs[i]? = Bu r/\rs[j]? = Bu r2/\k<=r.1.length/\xb r.1 r2.1 k=Bw /\
 ∀p H',H p=Bv->Same H H'->H' p=Bu (.tup [.str (tx (yf r.1 r2.1 k)),.str (tx (yV (yf r.1 r2.1 k) 0 r.1 r.2)),.str (tx (yV (yf r.1 r2.1 k) (k:Nat) r2.1 r2.2))])->Q (.ref p) H'
def Wn{a t:sX}{i j k:Nat}{r r2:zu}(h1:Is K H (.lst (rs.map dR)) (.ref a))(h2:SqT K H t [.int (i:Nat),.int (j:Nat),.int (k:Nat)])(h3:ZL rs)(h4:rs[i]? = Bu r)(h5:rs[j]? = Bu r2)(h6:k<=r.1.length)(h7:xb r.1 r2.1 k=Bw)(h:∀p H',H p=Bv->Same H H'->H' p=Bu (.tup [.str (tx (yf r.1 r2.1 k)),.str (tx (yV (yf r.1 r2.1 k) 0 r.1 r.2)),.str (tx (yV (yf r.1 r2.1 k) (k:Nat) r2.1 r2.2))])->Q (.ref p) H'):ZI K [.ref a,.ref t] H Q E:=#[a,t,rs,i,j,k,r,r2,rfl,h1,h2,h3,h4,h5,h6,h7,h]
def Ua{CU:sX}{l o n:()}{k:Int}(h1:l.length<=10000)(h2:o.length<=10000)(h3:n.length<=10000)(hs:zx l k o=Bw)(q:Q (.str (tx (yV l k o n))) H):WW CU [.str (tx l),.int k,.str (tx o),.str (tx n)] H Q E:=#[l,o,n,k,rfl,h1,h2,h3,λ_=>q,λh=>by rw[hs]at h;cases h]
def nM:sQz 2 ["rules","overlap","one","other","place","word"] QV:=by nofun
theorem zcQ{f CU:sX}(B:Bt mg)(F:("peak"^^^QV))(rF:(3>>>"put") ["word","place","old","new"] [] (WW CU)):(4&&&["rules","overlap"]) (ZI K):=by
 exists F.ok nM
 ·obtain⟨a,t,rs,i,j,k,r,r2,rfl,hR,ht,ok,hr1,hr2,hk,hag,q⟩:=h
  refine#[_,(zi (zC 2 nM.nd (zk ix_list (pv 0) (!-1))) (zi (zC 3 nM.nd (zk ix_list (pv 0) (!-1))) (zi (zC 4 nM.nd (!-1)) (zi (zC 5 nM.nd (zD zQ (!-2) (zR za9 (!-3) (zU (zD ut (zB B.len (!-2)) (pv 4))) yA))) (zg (zl (zS (za (pv 5) (za (clP xe0 rF hr .nil rfl (za (pv 5) (za zf (za (!-2) (za (!-2) ze))))) (za (clP xe0 rF hr .nil rfl (za (pv 5) (za (pv 4) (za (!-3) (za (!-3) ze))))) ze)))))))))),?_]
  have s16:=zW
  erw[Is]at hR
  obtain⟨_,xs,e,hX,hI⟩:=hR;cases e;obtain⟨p1,a1,q1⟩:=zgi hI hr1;obtain⟨p2,a2,q2⟩:=zgi hI hr2;have b1:=ok.2 r (ae hr1);have b2:=ok.2 r2 (ae hr2);change H'=H/\σ=[!!a,!!t,!!p1,Bv,Bv,Bv]
  ·rfl'
   exact#[_,ht,_,rfl,_,rfl,_,hX,a1]
  rintro σ H1 ⟨rfl,rfl⟩:_;right;change H'=H1/\σ=[!!a,!!t,!!p1,!!p2,Bv,Bv]
  ·rfl'
   exact#[_,ht,_,rfl,_,rfl,_,hX,a2]
  rintro σ H2 ⟨rfl,rfl⟩:_;right;change H'=H2/\σ=[!!a,!!t,!!p1,!!p2,-~~~k,Bv]
  ·rfl'
   exact#[_,ht,rfl]
  rintro σ H3 ⟨rfl,rfl⟩:_;right;change H'=H3/\σ=[!!a,!!t,!!p1,!!p2,-~~~k,Bu (.str (tx (yf r.1 r2.1 k)))]
  ·rfl'
   refine#[_,q1,_,rfl,_,q2,_,rfl,_,q1,_,rfl,_,#[by rw[zK];lia,rfl],#[by rw[zK];lia,_,rfl,_,rfl,?_,rfl,?_]]
   ·erw[zK,qX]
    have:=w8 r2.1 (Bu ((r.1.length:Int) - (k:Int))) Bv;lia
   ·rw[zK,qX,yL,xK _ ⋯,show ((r.1.length:Int) - (k:Int)).toNat=r.1.length - k by lia];rfl
  rintro σ H4 ⟨rfl,rfl⟩:_;have hw:=wY r.1 r2.1 k hk;right
  rfl'
  exact#[_,q1,_,rfl,_,q1,_,rfl,Ua ⋯ ⋯ ⋯ (kB _ _ _) #[_,q2,_,rfl,_,q2,_,rfl,Ua ⋯ ⋯ ⋯ (jE hk hag) #[⋯,λp hp=>q p _ hp (zd hp) zc]]]
def FmOk(ps:List zu)(most:Int)(m:tw->Option V):Prop:=∀k v,m k=Bu v->∃(w:()) (J:Nat),k=tx w/\v=.str (tx (wAt ps w J))/\VZ ps w J/\zJ (wAt ps w J) ps=Bv/\(J:Int)<=most
def FmOk.get{most:Int}{m:tw->Option V}(h:FmOk ps most m){w:()}{v:V}(e:m (tx w)=Bu v){J:Nat}(hl:VZ ps w J)(hf:zJ (wAt ps w J) ps=Bv):v=.str (tx (wAt ps w J)):=by obtain⟨w',J',e1,e2,e3,e4,_⟩:=h _ _ e;have e5:=qo e1;subst e5;rw[e2,KU e3 e4 hl hf]
def FmOk.put{most:Int}{m:tw->Option V}(h:FmOk ps most m){w:()}{J:Nat}(hl:VZ ps w J)(hf:zJ (wAt ps w J) ps=Bv)(hJ:(J:Int)<=most):FmOk ps most (λx=>if x=tx w then Bu (.str (tx (wAt ps w J)))else m x):=λk v e=>by
 by_cases hk:k=tx w
 ·erw[hk,if_true]at e
  cases e;exact#[w,J,hk,rfl,hl,hf,hJ]
 ·erw[hk,if_false]at e
  exact h k v e
def Xb(P:tu)(w:tz)(K:sV)(CF:sX):Sp:=λvs H Q E=>∃(a F:sX) (l:()) (ps:List zu) (m:Int) (J n:Nat) (mp:tw->Option V),vs=[.ref a,.str (tx l),.int m,.ref F]/\LsA K H a (ps.map dR)/\NeL ps/\ps.length<=100/\(∀p ∈ ps,p.1.length<=1000/\p.2.length<=1000)/\Rd ps l J/\H F=Bu (jW P w F mp n)/\FmOk ps m mp/\n<=10000 /\
 ((zJ (wAt ps l J) ps=Bv/\(J:Int)<=m/\∀(mp':tw->Option V) (n':Nat) (H':Hp),SamT F H H'->H' F=Bu (jW P w F mp' n')->FmOk ps m mp'->n'<=n+1->Q (.str (tx (wAt ps l J))) H') \/
  (zJ (wAt ps l J) ps≠Bv/\(J:Int)=m/\∀H',Same H H'->E (.ref CF) Bv H'))
def V3:sQz 4 ["rules","word","most","forms"] jx:=by nofun
theorem VM{f CF:sX}{lu:Ay}(B:Bt mg)(F:("form_of"^^^jx))(nI:(4>>>"gone") ["rules","word","most"] [] (xW K CF))(DD_gone:(4>>>"gone") ["rules","word","most"] [.int 4000 lu] (xW K CF)):(5|||["rules","word","most","forms"]) (Xb P w K CF):=by
 exists Fun.okX F V3,0
 ·obtain⟨a,F0,l,ps,m,J,n,mp,rfl,hA,hN,hpl,hP,hR,hF,hM,hn,hq⟩:=h
  refine#[_,(zi (zN (zy JZ (pv 1) (pv 3) (by with_unfolding_all rfl)) (zg (zba (zk w4 (clP hx nI hr .nil rfl (za (pv 0) (za (pv 1) (za (pv 2) ze)))) zf) (zdu (pv 3) (pv 1) KL (by intro _;rfl))))
    zr) (zg (zl (zk zcU (pv 3) (pv 1))))),?_]
  have s16:=zW;have s16:=zW;change SamT F0 H H'/\zJ (wAt ps l J) ps=Bv/\(J:Int)<=m/\(∃(mp':tw->Option V) (n':Nat),H' F0=Bu (jW P w F0 mp' n')/\FmOk ps m mp'/\n'<=n+1/\mp' (tx l)=Bu (.str (tx (wAt ps l J))))/\σ=[!!a,~~~l,~~~!m,!!F0]
  ·rfl'
   refine#[F0,mp,n,tx l,rfl,rfl,hF,_,rfl,yE (λhnone=>#[a,l,ps,m,J,rfl,hA,hN,hpl,hP,hR,?_]) λhsome=>?_]
   ·rcases hq with ⟨hf,hJ,_⟩ | h
    ·refine .inl #[hf,hJ,λp S H' s' hp _ _=>#[p,rfl,_,SqT.of hp,_,rfl,?_]]
     erw[zgA]
     rfl'
     exact#[F0,mp,n,tx l,rfl,rfl,s' _ _ hF,⋯,λb o hb e=>by rw[zq hb];exact s' _ _ e,hf,hJ,_,_,zc,hM.put hR.live hf hJ,al _,y6 rfl]
    ·exact .inr h
   ·cases hv:mp (tx l)with
    | none=>rw[hv]at hsome;exact y4 rfl hsome
    | some v =>
     obtain⟨w',J',e1,e2,e3,e4,e5⟩:=hM _ _ hv;have e6:=qo e1;subst e6;rcases hq with ⟨hf,hJ,_⟩ | ⟨hf,hJ,_⟩
     ·exact#[λb o _ e=>e,hf,hJ,mp,n,hF,hM,⋯,by rw[hM.get hv hR.live hf]at hv;exact hv]
     ·exfalso;rcases dU J' J with h | h
      ·exact hR.live J' h e4
      ·have:J'=J:=⋯;subst this;exact hf e4
  rintro σ H1 ⟨s1,hf,hJ,⟨mp',n',h1,h2,h3,h4⟩,rfl⟩:_;right
  rfl'
  refine#[F0,mp',n',tx l,_,rfl,rfl,h1,h4,?_];rcases hq with ⟨_,_,q⟩ | ⟨h,_⟩
  ·exact q mp' n' H1 s1 h1 h2 h3
  ·exact y4 hf h
end in def pkA(ps:List zu)(t:N3):():=yV (yf (lf ps t.1) (lf ps t.2.1) t.2.2) 0 (lf ps t.1) (ps.getD t.1 ([],[])).2
end in def pkB(ps:List zu)(t:N3):():=yV (yf (lf ps t.1) (lf ps t.2.1) t.2.2) (t.2.2:Nat) (lf ps t.2.1) (ps.getD t.2.1 ([],[])).2
inductive zc7(ps:List zu)(m:Int)(l:()):Option Nat->Prop where
 | yes {J:Nat} (h:Rd ps l J) (h1:zJ (wAt ps l J) ps=Bv) (h2:(J:Int)<=m):zc7 ps m l (Bu J)
 | no {J:Nat} (h:Rd ps l J) (h1:zJ (wAt ps l J) ps≠Bv) (h2:(J:Int)=m):zc7 ps m l Bv
def ZE(P:tu)(w:tz)(K:sV)(CF:sX):Sp:=λvs H Q E=>∃(a t F:sX) (ps:List zu) (tr:N3) (m:Int) (n:Nat) (mp:tw->Option V) (g1 g2:Option Nat),vs=[.ref a,.ref t,.int m,.ref F]/\LsA K H a (ps.map dR)/\NeL ps/\ZL ps/\SqT K H t [.int (tr.1:Nat),.int (tr.2.1:Nat),.int (tr.2.2:Nat)]/\tr ∈ ovA ps ps.length/\H F=Bu (jW P w F mp n)/\FmOk ps m mp/\n<=9000/\zc7 ps m (pkA ps tr) g1/\zc7 ps m (pkB ps tr) g2 /\
 (∀(J1 J2:Nat) (mp':tw->Option V) (n':Nat) (H':Hp),g1=Bu J1->g2=Bu J2->SamT F H H'->H' F=Bu (jW P w F mp' n')->FmOk ps m mp'->n'<=n+2->Q (.bl (decide (wAt ps (pkA ps tr) J1=wAt ps (pkB ps tr) J2))) H') /\
 ((g1=Bv\/g2=Bv)->∀H',SamT F H H'->E (.ref CF) Bv H')
theorem Vb{P:tu}{w:tz}{CF a F:sX}{l:()}{m:Int}{mp:tw->Option V}{g:Option Nat}(hA:LsA K H a (ps.map dR))(hN:NeL ps)(hok:ZL ps)(hF:H F=Bu (jW P w F mp n))(hM:FmOk ps m mp)(hn:n<=10000)(hg:zc7 ps m l g)(h1:∀(J:Nat) (mp':tw->Option V) (n':Nat) (H':Hp),g=Bu J->SamT F H H'->H' F=Bu (jW P w F mp' n')->FmOk ps m mp'->n'<=n+1->Q (.str (tx (wAt ps l J))) H') (h2:g=Bv->∀H',Same H H'->E (.ref CF) Bv H'):Xb P w K CF [.ref a,.str (tx l),.int m,.ref F] H Q E:=by
 have hP:∀p ∈ ps,p.1.length<=1000/\p.2.length<=1000:=λp hp=>by have:=hok.2 p hp;lia
 have hl:ps.length<=100:=by have:=hok.1;lia
 cases hg with
 | yes h e1 e2=>exact#[a,F,l,ps,m,_,n,mp,rfl,hA,hN,hl,hP,h,hF,hM,hn,.inl #[e1,e2,λmp' n' H' a1 a2 a3 a4=>h1 _ mp' n' H' rfl a1 a2 a3 a4]]
 | no h e1 e2=>exact#[a,F,l,ps,m,_,n,mp,rfl,hA,hN,hl,hP,h,hF,hM,hn,.inr #[e1,e2,h2 rfl]]
def ju{F t:sX}{H H':Hp}{P:tu}{w:tz}{mp:tw->Option V}{xs:List V}(s:SamT F H H')(hF:H F=Bu (jW P w F mp n))(h:SqT K H t xs):SqT K H' t xs:=by
 rcases h with (h | ⟨o,h⟩) | h
 ·exact .inl (.inl (s _ _ (λz=>by rw[z,hF]at h;cases h) h))
 ·exact .inl (.inr #[o,s _ _ (λz=>by rw[z,hF]at h;cases h) h])
 ·exact .inr h
def Wc{F a:sX}{H H':Hp}{P:tu}{w:tz}{mp:tw->Option V}(s:SamT F H H')(hF:H F=Bu (jW P w F mp n))(h:LsA K H a (ps.map dR)):LsA K H' a (ps.map dR):=by
 obtain⟨xs,h1,h2⟩:=h;refine#[xs,s _ _ (λz=>by rw[z,hF]at h1;cases h1) h1,?_]
 have key:∀(qs:List zu) (vs:List V),Iss K H (qs.map dR) vs->Iss K H' (qs.map dR) vs:=by
  intro qs
  induction qs with
  | nil=>intro vs h;erw[aO,Iss]at h ⊢;exact h
  | cons q qs ih =>
   intro vs h
   erw[av,Iss]at h ⊢
   obtain⟨v,r,e,h3,h4⟩:=h;obtain⟨p,rfl,h5⟩:=zeS h3;exact#[_,r,e,zfW (ju s hF h5),ih r h4]
 exact key ps xs h2
def nA:sQz 4 ["rules","overlap","most","forms","sides","one","other"] Zp:=by nofun
theorem Qd{f CF:sX}(B:Bt mg)(F:("is_met"^^^Zp))(rK:(4<<<"peak") ["rules","overlap"] [] (ZI K))(rg:(5>>>"form_of") ["rules","word","most","forms"] [] (Xb P w K CF)):(6|||["rules","overlap","most","forms"]) (ZE P w K CF):=by
 exists Fun.okX F nA,0
 ·obtain⟨a,t,F0,ps,tr,m,n,mp,g1,g2,rfl,hA,hN,hok,ht,htr,hF,hM,hn,hg1,hg2,q1,q2⟩:=h
  refine#[_,(zi (zC 4 nA.nd (cl0 rK hr .nil rfl (za (pv 0) (za (pv 1) ze)))) (zi (zC 5 nA.nd (clP hx rg hr .nil rfl (za (pv 0) (za (!-4) (za (pv 2) (za (pv 3) ze)))))) (zi (zC 6 nA.nd (clP hx rg hr .nil rfl (za (pv 0) (za (!-4) (za (pv 2) (za (pv 3) ze)))))) (zg (zl (yI wF (pv 5) (pv 6) (zA _))))))),?_]
  have s16:=zW;have s16:=zW;obtain⟨i1,i2,i3,i4⟩:=uX htr;obtain⟨r,hr⟩:∃r,ps[tr.1]? = Bu r:=#[_,ah i1];obtain⟨r2,hr2⟩:∃r,ps[tr.2.1]? = Bu r:=#[_,ah i2];have l1:=wJ hr;have l2:=wJ hr2;have d1:ps.getD tr.1 ([],[])=r:=by rw[af,hr];rfl
  have d2:ps.getD tr.2.1 ([],[])=r2:=by rw[af,hr2];rfl
  have eA:pkA ps tr=yV (yf r.1 r2.1 tr.2.2) 0 r.1 r.2:=by unfold pkA;rw[l1,l2,d1]
  have eB:pkB ps tr=yV (yf r.1 r2.1 tr.2.2) (tr.2.2:Nat) r2.1 r2.2:=by unfold pkB;rw[l1,l2,d2]
  rw[l1]at i3;rw[l1,l2]at i4;change Same H H'/\∃p:sX,(∃x,H' p=Bu (.tup [x,.str (tx (pkA ps tr)),.str (tx (pkB ps tr))]))/\σ=[!!a,!!t,~~~!m,!!F0,!!p,Bv,Bv]
  ·rfl'
   exact Wn hA.is ht hok hr hr2 ⋯ i4 λp H' _ s' hp=>#[s',p,#[_,by rw[eA,eB];exact hp],rfl]
  rintro σ H1 ⟨s1,p,⟨x,hp⟩,rfl⟩:_;have hF1:=s1 _ _ hF;right;change SamT F0 H1 H'/\∃(J1:Nat),g1=Bu J1/\(∃mp' n',H' F0=Bu (jW P w F0 mp' n')/\FmOk ps m mp'/\n'<=n+1)/\σ=[!!a,!!t,~~~!m,!!F0,!!p,Bu (.str (tx (wAt ps (pkA ps tr) J1))),Bv]
  ·rfl'
   refine#[_,SqT.of hp,_,rfl,Vb (hA.same s1) hN hok hF1 hM ⋯ hg1 (λJ mp' n' H' e a1 a2 a3 a4=>?_) λe H' s'=>q2 (.inl e) H' (SamT.of (s1.trans s'))];exact#[a1,J,e,#[mp',n',a2,a3,a4],rfl]
  rintro σ H2 ⟨s2,J1,e1,⟨mp1,n1,hF2,hM2,hn2⟩,rfl⟩:_;have s12:SamT F0 H H2:=(SamT.of s1).trans s2;have hpF:p≠F0:=λz=>by rw[z,hF1]at hp;cases hp
  right;change SamT F0 H2 H'/\∃(J2:Nat),g2=Bu J2/\(∃mp' n',H' F0=Bu (jW P w F0 mp' n')/\FmOk ps m mp'/\n'<=n+2)/\σ=[!!a,!!t,~~~!m,!!F0,!!p,Bu (.str (tx (wAt ps (pkA ps tr) J1))),Bu (.str (tx (wAt ps (pkB ps tr) J2)))]
  ·rfl'
   exact#[_,SqT.of (s2 _ _ hpF hp),_,rfl,Vb (Wc s2 hF1 (hA.same s1)) hN hok hF2 hM2 ⋯ hg2 (λJ mp' n' H' e a1 a2 a3 a4=>#[a1,J,e,#[mp',n',a2,a3,⋯],rfl]) λe H' s'=>q2 (.inr e) H' (s12.trans (SamT.of s'))]
  rintro σ H3 ⟨s3,J2,e2,⟨mp2,n2,hF3,hM3,hn3⟩,rfl⟩:_;right
  rfl'
  exact q1 J1 J2 mp2 n2 H3 e1 e2 (s12.trans s3) hF3 hM3 hn3
def Zb(K:sV)(CH:sX):Sp:=λvs H Q _=>∃(y o q:sX) (ps:List zu),vs=[.ref y]/\KG K CH H y o q ps/\∀(r:sX) (H':Hp),Same H H'->LsA K H' r (ps.map dR)->H r=Bv->Q (.ref r) H'
def vK:sQz 1 ["self"] yO:=by nofun
def vL{f CH:sX}(B:Bt mg)(TS:zey K mg CH)(F:Fun K "rules_told" "System.rules_told" yO f fd) :(1&&&["self"]) (Zb K CH):=by
 exists F.ok vK
 ·obtain⟨y,o,q,ps,rfl,hy,k⟩:=h;refine#[_,(zg (zl (xp yR rfl B.list PySem.Pv.boot_list (za (uj (pv 0) rfl) ze)))),?_];have s16:=zW
  rfl'
  obtain⟨dx,xs,h1,h2,h3⟩:=hy;exact#[_,_,_,h1,TS.cl,TS.nr,_,rfl,_,rfl,_,.inl (SqL.of h2),λr hr'=>k r _ (zd hr') #[xs,zc,Iss.same (zd hr') _ _ h3] hr']
end in def goJ(ps:List zu)(m:Nat)(v:()):Option Nat:=(aN (m+1)).find? λj=>(zJ (wAt ps v j) ps).isNone
theorem JW{m:Nat}{v:()}(e:goJ ps m v=Bu i):i<=m/\VZ ps v i/\zJ (wAt ps v i) ps=Bv:=by
 unfold goJ at e;have h1:=dX e;have h2:zJ (wAt ps v i) ps=Bv:=Option.isNone_iff_eq_none.mp h1;have hm:=BK.mp (eO e);refine#[⋯,λn hn hno=>?_,h2];obtain⟨_,as,bs,e2,h3⟩:=List.find?_eq_some_iff_append.mp e
 have hlen:as.length=i:=by
  have:=congrArg (λl=>l[as.length]?) e2
  erw[bA (al _),e7,cK]at this
  obtain⟨h7,h8⟩:=BB.mp this;rw[gh]at h8;exact h8
 have h9:(aN (m+1))[n]? = as[n]?:=by rw[e2,bC ⋯]
 have h10:n<(aN (m+1)).length:=by rw[cw];lia
 rw[ah h10,gh]at h9;have:=h3 n (ae h9.symm);rw[hno]at this;cases this
theorem Ku{m:Nat}{v:()}(e:goJ ps m v=Bv):∀j,j<=m->zJ (wAt ps v j) ps≠Bv:=λj hj hno=>by
 unfold goJ at e;have:=BZ.mp e j (BK.mpr ⋯);rw[hno]at this;exact this rfl
theorem Q5{m:Nat}{v:()}(hl:∀j,j<=m->(wAt ps v j).length<=10000)(hm:m<=10000):zc7 ps (m:Int) v (goJ ps m v):=by
 cases e:goJ ps m v with
 | some i =>
  obtain⟨h1,h2,h3⟩:=JW e;exact .yes #[h2,λj hj=>hl j ⋯,⋯] h3 ⋯
 | none =>
  have h:=Ku e;exact .no (J:=m) #[λi hi=>h i ⋯,λj hj=>hl j hj,hm] (h m (al _)) rfl
end in def zdb(ps:List zu)(m:Nat)(v:()):():=wAt ps v ((goJ ps m v).getD 0)
end in def JK(ps:List zu)(m:Nat)(t:N3):Bool:=decide (zdb ps m (pkA ps t)=zdb ps m (pkB ps t))
def OkG(ps:List zu)(m:Nat)(t:N3):Prop:=(goJ ps m (pkA ps t)).isSome=Bw/\(goJ ps m (pkB ps t)).isSome=Bw
def zgv(ps:List zu)(m:Nat):Prop:=m<=10000/\∀t ∈ ovA ps ps.length,(∀j,j<=m->(wAt ps (pkA ps t) j).length<=10000)/\∀j,j<=m->(wAt ps (pkB ps t) j).length<=10000
def zbp{t:N3}{m J1 J2:Nat}(e1:goJ ps m (pkA ps t)=Bu J1)(e2:goJ ps m (pkB ps t)=Bu J2):decide (wAt ps (pkA ps t) J1=wAt ps (pkB ps t) J2)=JK ps m t:=by unfold JK zdb;rw[e1,e2];rfl
def zeJ{m:Nat}{t:N3}(h:goJ ps m (pkA ps t)=Bv\/goJ ps m (pkB ps t)=Bv):¬ OkG ps m t:=λho=>by
 obtain⟨h1,h2⟩:=ho;rcases h with h | h
 ·rw[h]at h1;cases h1
 ·rw[h]at h2;cases h2
def FmOk.nil{m:Int}:FmOk ps m λ_=>Bv:=λk v e=>by cases e
theorem Y5{F:sX}{H H':Hp}{P:tu}{w:tz}{mp:tw->Option V}(s:SamT F H H')(hF:H F=Bu (jW P w F mp n)):∀{ts:List N3} {vs:List V},Iss K H (ts.map d3) vs->Iss K H' (ts.map d3) vs
 | [],vs,h=>by erw[aO,Iss]at h ⊢;exact h
 | t::ts,vs,h=>by
  erw[av,Iss]at h ⊢
  obtain⟨v,r,e,h3,h4⟩:=h;refine#[v,r,e,?_,Y5 s hF h4]
  erw[d3,Is]at h3 ⊢
  obtain⟨a,xs,e1,e2,e3⟩:=h3;refine#[a,xs,e1,ju s hF e2,?_]
  erw[Iss,Is]at e3 ⊢
  exact e3
end in def unG(ps:List zu)(m:Nat):List N3:=(ovA ps ps.length).filter λt=>!JK ps m t
def uI(K:sV)(CH CF:sX):Sp:=λvs H Q E=>∃(y o q:sX) (ps:List zu) (m:Nat),vs=[.ref y,.int (m:Nat)]/\KG K CH H y o q ps/\NeL ps/\ZL ps/\(ovA ps ps.length).length<=4000/\zgv ps m /\
 ((∀t ∈ ovA ps ps.length,OkG ps m t)->∀D H',Same H H'->H D=Bv->LsA K H' D ((unG ps m).map d3)->Q (.ref D) H')/\(∀t ∈ ovA ps ps.length,¬ OkG ps m t->∀H',Same H H'->E (.ref CF) Bv H')
def oZ:sQz 2 ["system","most","rules","forms"] xU:=by nofun
theorem KN{f CF CH:sX}{dV:sY}(B:Bt mg)(TS:zey K mg CH)(F:FunD K "unmet" "unmet" xU dV f fd)(rV:(2<<<"overlaps") ["rules"] [] (vW K))(so:(6>>>"is_met") ["rules","overlap","most","forms"] [] (ZE P w K CF))(M_system_rules_told:DM P w K mg base CX0 1 CH "rules_told" ["self"] (Zb K CH)):(7|||["system","most"]) (uI K CH CF):=by
 exists FunD.okX F oZ,0
 ·obtain⟨y,o,q,ps,m,rfl,hy,hN,hok,hlen,hE,k1,k2⟩:=h
  refine#[_,(zi (jF (i:=2) oZ.nd rfl (Or.inr rfl) (me0 M_system_rules_told TS.cl hr (pv 0))) (zi (jF (i:=3) oZ.nd rfl (Or.inr rfl) zb7) (zg (zl (YB (EX:=E) (own:=["overlap"]) (caps:=["rules","most","forms"]) (ix:=[2,1,3]) (tt:=(zdd (tBl (wL (ZE P w K CF) [] E (zL (z6 1) (zL (z6 0) (zL (z6 2) (zL (z6 3) xx)))))))) (te:=(z6 0)) rfl (zM (sc:=zh xU) rfl (!0) (!0) (!0) rfl (!0) (!0) rfl) #[rfl,rfl] hx (z9 (cl0 rV hr .nil rfl (za (pv 2) ze))) (λ_ _ _ _ _ _=>zt (i:=0) (show List.Nodup [_,_,_,_] by decide) rfl (.inl rfl)) (λ_ _ _ _ _ _ _ hx'=>(Ug (zZ (yF (clP hx' so hr .nil rfl (za (pv 1) (za (pv 0) (za (pv 2) (za (pv 3) ze))))) (λ_=>rfl))))) (λ_ _ _ _ _ _ _ _=>(pv 0))))))),?_]
  have s16:=zW;have s16:=zW;obtain⟨dx,xs0,h1,h2,h3⟩:=id hy;change Same H H'/\∃r:sX,LsA K H' r (ps.map dR)/\σ=[!!y,-~~~m,!!r,Bv]
  ·rfl'
   exact#[_,_,h1,rfl,y,o,q,ps,rfl,hy,λr H1 s1 hA hr'=>#[s1,r,hA,rfl]]
  rintro σ H1 ⟨s1,r,hA,rfl⟩:_;right;change Same H H'/\LsA K H' r (ps.map dR)/\∃F:sX,H F=Bv/\H' F=Bu (jW P w F (λ_=>Bv) 0)/\σ=[!!y,-~~~m,!!r,!!F]
  ·rfl'
   erw[zeq]
   intro F hF;have s2:=zd (o:=jW P w F (λ_=>Bv) 0) hF
   rfl'
   exact#[s1.trans s2,hA.same s2,F,s1.free hF,zc,rfl]
  rintro σ H2 ⟨s2,hA2,F,hF0,hF,rfl⟩:_;right
  rfl'
  refine Yy hA2.is hok λO H3 hO s3 hL=>#[O,rfl,?_,λD hD=>?_]
  ·obtain⟨xs,hX,_⟩:=hL;exact#[_,SqL.of hX]
  obtain⟨xs,hX,hI⟩:=hL;have hxl:=hI.len;rw[ac]at hxl;have hF3:=s3 _ _ hF;have s03:=s2.trans s3;have hDF:D≠F:=λz=>by rw[z,hF3]at hD;cases hD
  have hOF:O≠F:=λz=>by rw[z,hF3]at hX;cases hX
  have back:∀{G:Hp},SamT F H3 G->Same H G:=λ{G} sT b o' e=>sT b o' (λz=>by rw[z,hF0]at e;cases e) (s03 b o' e);refine CompL.by (xs:=xs) (λi BA H'=>SamT F H3 H'/\H' D=Bu (.lst BA)/\(∃(mp:tw->Option V) (n:Nat),H' F=Bu (jW P w F mp n)/\FmOk ps (m:Nat) mp/\n<=2 * i)/\Iss K H3 ((((ovA ps ps.length).take i).filter λt=>!JK ps m t).map d3) BA/\∀t ∈ (ovA ps ps.length).take i,OkG ps m t) #[SamT.of (zd hD),zc,#[_,0,by rw[zq (λz=>hDF z.symm)];exact hF3,FmOk.nil,⋯],by erw[bN,dm,aO,Iss],λt ht=>by simp at ht] (λi BA H' _ h=>SqL.of (h.1 _ _ hOF hX)) ?_ ?_
  ·refine nm4 ?_;rintro i x BA H' hx ⟨sT,hH,⟨mp,n,hFm,hM,hn⟩,hI',hle⟩:_;have hil:=(BB.mp hx).1;obtain⟨t,p,ht,rfl,hp⟩:=hI.get3 hx;have htm:=ae ht;have hE':=hE.2 t htm
   have hal:BA.length<=i:=by
    have:=hI'.len;rw[ac]at this;have h5:=cX (λt=>!JK ps m t) ((ovA ps ps.length).take i);rw[aE]at h5;lia
   right
   erw[zdd,tBl]
   rfl'
   refine#[yH,r,p,F,ps,t,(m:Nat),n,mp,_,_,rfl,Wc sT hF3 (hA2.same s3),hN,hok,ju sT hF3 hp,htm,hFm,hM,⋯,Q5 hE'.1 hE.1,Q5 hE'.2 hE.1,λJ1 J2 mp' n' H5 e1 e2 s5 hF5 hM5 hn5=>?_,λh H5 s5=>k2 t htm (zeJ h) H5 (back (sT.trans s5))]
   have hle':∀t' ∈ (ovA ps ps.length).take (i+1),OkG ps m t':=λt' ht'=>by
    rw[zV ht]at ht';rcases BD.mp ht' with h | h
    ·exact hle t' h
    ·rw[BF.mp h];exact#[by rw[e1];rfl,by rw[e2];rfl]
   rw[zbp e1 e2]
   have hcase:∀b,JK ps m t=b->(!b)=Bw->Iss K H3 ((((ovA ps ps.length).take (i+1)).filter λt=>!JK ps m t).map d3) (BA ++ [.ref p]):=λb hb hb'=>by
    rw[zV ht,cP,au];refine Iss.append hI' ?_;rw[eZ,hb,y6 hb']
    erw[dm,av,aO,Iss]
    refine#[_,[],rfl,?_,rfl]
    erw[d3,Is,Iss]
    exact#[p,_,rfl,hp,_,_,rfl,rfl,_,_,rfl,rfl,_,_,rfl,rfl,rfl]
   refine#[_,rfl,?_]
   cases hb:JK ps m t with
   | false =>
    rw[y6 rfl];refine#[s5 _ _ hDF hH,⋯,CNx.mk hil #[λb o' hbF e=>?_,zc,#[mp',n',by rw[zq (λz=>hDF z.symm)];exact hF5,hM5,⋯],hcase _ hb rfl,hle']];rw[zq (λz=>by rw[z,hD]at e;cases e)];exact s5 b o' hbF (sT b o' hbF e)
   | true =>
    rw[y9 ∅];refine CNx.mk hil #[sT.trans s5,s5 _ _ hDF hH,#[mp',n',hF5,hM5,⋯],?_,hle'];rw[zV ht,cP,eZ,hb]
    erw[fX,bB,if_false,dm,aT]
    exact hI'
  ·rintro BA H' ⟨sT,hH,_,hI',hle⟩;rw[hxl,aJ]at hI' hle;exact k1 hle D H' (back sT) (s03.free hD) #[BA,hH,Y5 sT hF3 hI']
theorem zbd{p:sX}{a b:V}{i j:Nat}{σ:L2.St}{R:L2.St->Hp->Prop}(h:SqT K H p [a,b])(k:R ((σ.set i (Bu a)).set j (Bu b)) H):zcB K 2 (kg (yK i) (kg (yK j) zcd)) (.ref p) σ H R:=by
 erw[zcB,kg,yK,zcd]
 first
 | exact⟨_,_,rfl,h,rfl,_,_,rfl,_,_,rfl,rfl,k⟩
 | exact⟨_,_,rfl,.inr h,rfl,_,_,rfl,_,_,rfl,rfl,k⟩
theorem EnsA.app{fs:List Ent}{us:List V}(hf:EnsA K H fs us):∀{es:List Ent} {vs:List V},EnsA K H es vs->EnsA K H (es ++ fs) (vs ++ us)
 | [],vs,h=>by
  erw[EnsA]at h
  subst h;exact hf
 | e::es,vs,h=>by
  erw[EnsA]at h
  obtain⟨x,r,rfl,hx,hr⟩:=h
  erw[bv,EnsA]
  exact#[x,r ++ us,rfl,hx,hf.app hr]
abbrev MkS(P:tu)(w:tz)(K:sV)(mg:tw->Option sY)(base:tE)(CO CR CW CT CH:sX):Prop:=DMk P w K mg base (CXx P w) 5 CH ["self","order","rules"] (qR K CO CR CW CT CH)
def zcA{Q:sX->Hp->Prop}{CO CR CW CT CH o a:sX}{l:()}(ho:OrdAt CO CR CW H o k l ns)(hG:OG l ns k)(hA:LsA K H a (ps.map dR))(hin:InL l ps)(hf:vg k l ns ps 0=Bv)(q:∀(y qa:sX) (H':Hp),Same H H'->KG K CH H' y o qa ps->Q y H'):∀x dx,H x=Bv->H dx=Bv->dx≠x->qR K CO CR CW CT CH [.ref x,.ref o,.ref a] (upd (upd H dx (.own x)) x (.ins CH dx [])) (λv H'=>v=.non/\Q x H') E0:=by
 intro x dx hx hdx hne;obtain⟨xs,hX,hI⟩:=hA;have sd:=zd (o:=.own x) hdx
 have k1:Same H (upd (upd H dx (.own x)) x (.ins CH dx [])):=λb' o' e=>by
  rw[zq (zI e hx)];exact sd _ _ e
 refine#[x,dx,o,a,k,l,ns,ps,xs,rfl,zc,ho.same k1,hG,k1 _ _ hX,Iss.same k1 _ _ hI,hin,(λi e=>by rw[hf]at e;cases e),λ_ q1 H'' kp hx' hq' hqn=>#[rfl,?_]];have k3:Same H H'':=λb' o' e=>kp b' o' (λz=>by rw[z,hx]at e;cases e) (k1 _ _ e);exact q x q1 H'' k3 #[dx,xs,hx',hq',Iss.same k3 _ _ hI]
def BG.inL{l:()}(h:BG k l ns bs):InL l (zb bs):=λp hp=>by
 obtain⟨e,he,rfl⟩:=BC.mp hp;have b:=h.e e he;exact#[aK b.a ∅,aK b.b ∅,b.ma,b.mb]
def BG.fault{l:()}(h:BG k l ns bs):vg k l ns (zb bs) 0=Bv:=u7 λm p e=>by
 obtain⟨e',he,rfl⟩:=BC.mp (ae e);exact h.lt e' he
def Vl(K:sV)(CO CR CW CH:sX):Sp:=λvs H Q _=>∃(o a:sX) (k:Nat) (l:()) (ns:List Int) (bs:List Ent),vs=[.ref o,.ref a]/\OrdAt CO CR CW H o k l ns/\OG l ns k/\EnsL K H a bs/\BG k l ns bs/\∀(y qa:sX) (H':Hp),Same H H'->KG K CH H' y o qa (zb bs)->Q (.ref y) H'
def Yg:sQz 2 ["order","entries"] vZ:=by nofun
theorem Yu{f CO CR CW CT CH:sX}(B:Bt mg)(TS:zey K mg CH)(MS:MkS P w K mg base CO CR CW CT CH)(F:("system_by"^^^vZ))(gL:(1<<<"pairs_of") ["entries"] [] (wy K)):(7&&&["order","entries"]) (Vl K CO CR CW CH):=by
 exists F.ok Yg
 ·obtain⟨o,a,k,l,ns,bs,rfl,ho,hG,hA,hB,q⟩:=h;refine#[_,(zg (zl (zfo xe0 MS hr rfl TS.g (za (pv 0) (za (cl0 gL hr .nil rfl (za (pv 1) ze)) ze))))),?_];have s16:=zW;ac_rfl;refine wj hA.is (by have:=hB.n;lia) λD H' _ s' hL=>?_;exact zcA (ho.same s') hG hL hB.inL hB.fault λy qa H'' s'' hy=>q y qa H'' (s'.trans s'') hy
end in def fE(i:Nat)(p:zu):Ent:=(p.1,p.2,[((i:Int),(0:Int),Bw)])
end in def fEs(rs:List zu):Nat->List Ent
 | 0=>[]
 | n+1=>fEs rs n ++ ((rs[n]?).map (fE n)).toList
def JS{p:zu}(h:rs[n]? = Bu p):fEs rs (n+1)=fEs rs n ++ [fE n p]:=by show fEs rs n ++ ((rs[n]?).map (fE n)).toList=_;rw[h];rfl
theorem Js(rs:List zu):∀n,(fEs rs n).length<=n
 | 0=>al _
 | n+1=>by
  have:=Js rs n;show (fEs rs n ++ ((rs[n]?).map (fE n)).toList).length<=_;rw[aj]
  cases rs[n]? with
  | none=>simp;lia
  | some p=>simp;lia
theorem kZ:∀{n:Nat} {e:Ent},e ∈ fEs rs n->∃i p,i<n/\rs[i]? = Bu p/\e=fE i p
 | 0,e,h=>(nomatch h)
 | n+1,e,h=>by
  have h':e ∈ fEs rs n ++ ((rs[n]?).map (fE n)).toList:=h;rcases BD.mp h' with h | h
  ·obtain⟨i,p,hi,hp,he⟩:=kZ h;exact#[i,p,⋯,hp,he]
  ·cases hn:rs[n]? with
   | none=>rw[hn]at h;simp at h
   | some p =>
    rw[hn]at h;exact#[n,p,⋯,hn,by simpa using h]
def Wb(K:sV):Sp:=λvs H Q _=>∃(a:sX) (rs:List zu),vs=[.ref a]/\LsA K H a (rs.map dR)/\rs.length<=20/\∀(D:sX) (H':Hp),Same H H'->H D=Bv->EnsM K H' D (fEs rs rs.length)->Q (.ref D) H'
def qz:sQz 1 ["pacts"] yW:=by nofun
theorem qx(B:Bt mg)(F:("first_entries"^^^yW)) :(1&&&["pacts"]) (Wb K):=by
 exists F.ok qz
 ·obtain⟨a,rs,rfl,hA,hrl,q⟩:=h;refine#[_,(zg (zl (yP (g:=zcB K 2 (kg (yK 0) (kg (yK 1) zcd))) (own:=["number","pact"]) (caps:=[]) (ix:=[]) (tt:=xw) (te:=(Jl (zL (tOp (vv K) (z6 1) (tC (.int 0))) (zL (tOp (vv K) (z6 1) (tC (.int 1))) (zL (zeu (zL (Jl (zL (z6 0) (zL (tC (.int 0)) (zL (tC (.bl Bw)) xx)))) xx)) xx))))) rfl (zM (sc:=zh yW) rfl (!0) (!0) (!0) rfl (!0) (!0) rfl) (xy rfl B.enum (za (pv 0) ze)) (λ_ _ _ _ _ _=>vm (n:=2) rfl (zP (zt (i:=0) (show List.Nodup [_,_] by decide) rfl (.inl rfl)) (zP (zt (i:=1) (show List.Nodup [_,_] by decide) rfl (.inl rfl)) xC))) (λ_ _ _ _ _ _=>yg) (λ_ _ _ _ _ _=>(zS (za (!-1) (za (!-1) (za (uK (za (zS (za (pv 0) (za zf (za yt ze)))) ze)) ze)))))))),?_];have s16:=zW;have s16:=zW;obtain⟨xs,hX,hI⟩:=id hA;have hxl:=hI.len;rw[ac]at hxl;ac_rfl;rw[zd0];ac_rfl;refine#[#[_,SqL.of hX],λD hD=>CompEL.by (xs:=xs) (λi BA H'=>Same H H'/\H' D=Bu (.lst BA)/\BA.length<=i/\EnsA K (j3 D H') (fEs rs i) BA) #[zd hD,zc,al _,rfl] (λi BA H' _ h=>SqL.of (h.1 _ _ hX)) ?_ ?_]
  ·rintro i x BA H' p hx ⟨hs,hH,hal,hEn⟩ hp;have hil:=(BB.mp hx).1;obtain⟨r,pr,hri,rfl,hqr⟩:=hI.getR hx;have u1:=zd (o:=HO.tup [.int (i:Nat),.ref pr]) hp;have hq:=zo (hs.trans u1) hqr;refine zbd (SqT.of zc) ?_
   erw[xw]
   rfl'
   refine#[zak,_,hq,_,rfl,_,hq,_,rfl,⋯,λp1 hp1=>#[⋯,λp2 hp2=>#[⋯,λp3 hp3=>?_]]];have u2:=zd (o:=HO.tup [.int (i:Nat),.int 0,.bl Bw]) hp1;have u3:=zd (o:=HO.lst [.ref p1]) hp2;have u4:=zd (o:=HO.tup [.str (tx r.1),.str (tx r.2),.ref p2]) hp3;have u:=u1.trans (u2.trans (u3.trans u4));have hD4:=u _ _ hH;have hp2D:p2≠D:=λz=>by rw[z,u2 _ _ (u1 _ _ hH)]at hp2;cases hp2
   refine#[hD4,⋯,CNx.mk hil #[zE (hs.trans u) hD,zc,by rw[aj];erw[aL,cj];lia,?_]];rw[JS hri];refine (hEn.same ((wT u).trans xN)).snoc (EnA.same ?_ xN);refine EnA.new (e:=fE i r) hD4 zc #[_,u4 _ _ zc,?_] hp2D;show Iss K _ [dSt ((i:Int),(0:Int),Bw)] _;exact zbE (X8 (SqT.of (u4 _ _ (u3 _ _ zc))))
  ·rintro BA H' ⟨hs,hH,hal,hEn⟩;rw[hxl]at hEn;exact q D H' hs hD #[BA,hH,hEn.same va]
end in def j4(es:List Ent):Bool:=decide (12<es.length) || es.any λe=>decide (10<max e.1.length e.2.1.length)
structure TMc(mg:tw->Option sY):Prop where
 u:∃t,mg "MOST_USES_completing" = Bu (.int 40 t)
 e:∃t,mg "MOST_ENTRIES" = Bu (.int 12 t)
 d:∃t,mg "MOST_SIDE_completing" = Bu (.int 10 t)
 p:∃t,mg "MOST_PEAKS" = Bu (.int 8 t)
def YF(K:sV):Sp:=λvs H Q _=>∃(a:sX) (es:List Ent),vs=[.ref a]/\EnsL K H a es/\es.length<64/\(∀e ∈ es,e.1.length<=10000/\e.2.1.length<=10000)/\∀H',Same H H'->Q (.bl (j4 es)) H'
def Yn:sQz 1 ["entries"] wE:=by nofun
theorem YG(B:Bt mg)(hany:zgJ mg)(TM:TMc mg)(F:("is_beyond"^^^wE)) :(1&&&["entries"]) (YF K):=by
 obtain⟨⟨t9,g9⟩,⟨t8,g8⟩⟩:=And.intro TM.e TM.d
 exists F.ok Yn
 ·obtain⟨a,es,rfl,hA,hl,hE,q⟩:=h
  refine#[_,(zi (zN (zy QN (zB B.len (pv 0)) (yC (v:=.int 12) rfl g9 #[t9,rfl]) (zA _)) (zg (zl yt))
    zr) (zg (zl (yu (zdK rfl) rfl hany fO (za (yP (own:=["entry"]) (caps:=[]) (ix:=[]) (tt:=xw) (te:=(tOp zfe (tCB zaa (zL (tCB (Wp K) (zL (tOp (vv K) (z6 0) (tC (.int 0))) xx)) (zL (tCB (Wp K) (zL (tOp (vv K) (z6 0) (tC (.int 1))) xx)) xx))) (tC (.int 10)))) rfl (zM (sc:=zh wE) rfl (!0) (!0) (!0) rfl (!0) (!0) rfl) (z9 (pv 0)) (λ_ _ _ _ _ _=>zt (i:=0) (show List.Nodup [_] by decide) rfl (.inl rfl)) (λ_ _ _ _ _ _=>yg) (λ_ _ _ _ _ _=>(yI QN (yu (Uy rfl) rfl B.max qL (za (zB B.len (!-0)) (za (zB B.len (!-0)) ze))) (yC (v:=.int 10) rfl g8 #[t8,rfl]) (zA _)))) ze))))),?_]
  have s16:=zW;have s16:=zW;obtain⟨xs,hX,hEn⟩:=id hA;have hxl:=hEn.len;change H'=H/\¬ 12<es.length/\σ=[!!a]
  ·ac_rfl;refine#[_,.inl #[_,hX,rfl],yE (λh=>?_) λh=>by lia]
   have e:j4 es=Bw:=by
    unfold j4;rw[w9 ⋯,Bool.true_or]
   rw[<- e];exact q H (Same.refl _)
  rintro σ H1 ⟨rfl,h12,rfl⟩:_;right;ac_rfl;refine#[#[_,hX],λD hD=>CompL.by (xs:=xs) (λi BA H'=>Same H1 H'/\H' D=Bu (.lst BA)/\BA=((es.take i).map λe=>decide (10<max e.1.length e.2.1.length)).map V.bl) #[zd hD,zc,rfl] (λi BA H' _ h=>h.1.seq hX) ?_ ?_]
  ·refine nm4 ?_;rintro i x BA H' hx ⟨hs,hH,rfl⟩:_;have hil:=(BB.mp hx).1;obtain⟨e,p,s,he,rfl,hp,_⟩:=hEn.get hx;have hq:=zo hs hp;have hb:=hE e (ae he);right
   erw[xw]
   rfl'
   refine#[yH,_,hq,_,rfl,_,#[by rw[zK];lia,rfl],_,hq,_,rfl,_,#[by rw[zK];lia,rfl],hH,by rw[ac,ac,aE];lia,CNx.mk hil #[zE hs hD,zc,?_]];rw[zV he,au,au,zK,zK];congr 1;show [V.bl _]=[V.bl _];congr 2;refine decide_eq_decide.mpr ?_;split <;> lia
  ·rintro BA H' ⟨hs,hH,rfl⟩;rw[hxl,aJ]at hH;refine#[D,_,rfl,SqL.of hH,?_]
   have e:(es.map λe=>decide (10<max e.1.length e.2.1.length)).any id=j4 es:=by
    unfold j4;rw[y3 h12,Bool.false_or,List.any_map];rfl
   rw[e];exact q H' hs
theorem ZB(h:j4 es=Bx):es.length<=12/\∀e ∈ es,e.1.length<=10/\e.2.1.length<=10:=by unfold j4 at h;rw[Bool.or_eq_false_iff]at h;refine#[by have:=of_decide_eq_false h.1;lia,λe he=>?_];have:=List.any_eq_false.mp h.2 e he;have h2:¬ 10<max e.1.length e.2.1.length:=λz=>this (w9 z);lia
def zaI(K:sV)(CO CR CW T:sX):Sp:=λvs H Q _=>∃(o a:sX) (k:Nat) (l:()) (ns:List Int) (es:List Ent),vs=[.ref o,.ref a]/\OrdAt CO CR CW H o k l ns/\OG l ns k/\EnsL K H a es/\es.length<64/\(∀e ∈ es,EB l e)/\TabOk H T lp lq /\
 (∀(bs:List Ent) (D:sX) (H':Hp),vS k l ns 20 es (Bu bs)->BG k l ns bs->j4 bs=Bx->SamT T H H'->TabOk H' T lp lq->EnsM K H' D bs->Q (.ref D) H')/\((vS k l ns 20 es Bv\/∃bs,vS k l ns 20 es (Bu bs)/\j4 bs=Bw)->∀H',SamT T H H'->TabOk H' T lp lq->Q .non H')
structure zf8(K:sV)(CF:sX):Prop where
 s:df K (.ref CF) (.ref CF)=Bu Bw
def mJ:sQz 2 ["order","entries","slim"] xq:=by nofun
def uP{f CO CR CW TB CF:sX}(B:Bt mg)(TFx:zbY K mg CF)(TSb:zf8 K CF)(F:("thinned_within"^^^xq))(si:(7>>>"thinned") ["order","entries"] [] (QR K CO CR CW TB CF))(rR:(1<<<"is_beyond") ["entries"] [] (YF K)):(8&&&["order","entries"]) (zaI K CO CR CW TB):=by
 exists F.ok mJ
 ·obtain⟨o,a,k,l,ns,es,rfl,ho,hG,hA,hz,hE,hTab,q1,q2⟩:=h
  refine#[_,(zi (J5 (i:=2) (th:=(zaQ (tC .non))) mJ.nd rfl (.inl rfl) (.inl rfl) #[rfl,rfl] (clX si hr .nil rfl (za (pv 0) (za (pv 1) ze))) rfl TFx.g TFx.xi.ok (λe=>(zg (zl ym)))) (zg (zl (vF (yF (cl0 rR hr .nil rfl (za (pv 2) ze)) (λ_=>rfl)) ym (pv 2))))),?_]
  have s16:=zW;have s16:=zW;change SamT TB H H'/\TabOk H' TB lp lq/\∃(bs:List Ent) (D:sX),vS k l ns 20 es (Bu bs)/\BG k l ns bs/\EnsM K H' D bs/\σ=[!!o,!!a,!!D]
  ·erw[zaW]
   ac_rfl;exact#[o,a,k,l,ns,es,rfl,ho,hG,hA,hz,hE,hTab,λbs D H' h1 h2 h3 h4 h5=>#[h3,h4,bs,h1,h2,D,h5,rfl],λh H' h3 h4=>#[CF,rfl,TSb.s,λx hx=>q2 (.inl h) _ (h3.trans (SamT.of (zd hx))) (h4.same (zd hx))]]
  rintro σ H1 ⟨s1,hT1,bs,D,hTh,hB,hM,rfl⟩:_;right;ac_rfl;exact#[D,bs,rfl,hM.l,hB.n,λe he=>#[aK (hB.e e he).a ∅,aK (hB.e e he).b ∅],λH' s'=>#[_,rfl,yE (λh=>q2 (.inr #[bs,hTh,h]) H' (s1.trans (SamT.of s')) (hT1.same s')) λh=>q1 bs D H' hTh hB (by simpa using h) (s1.trans (SamT.of s')) (hT1.same s') (hM.same s')]]
def qU(w:())(k:Int)(o n:()):(yV w k o n).length<=w.length+n.length:=by unfold yV;rw[aj,aj,aE,aS,dw];exact dY (ze0 _ _ _) _
def BG.ok{l:()}(h:BG k l ns bs)(hl:bs.length<=30):ZL (zb bs):=by refine#[by unfold zb;rw[ac];exact hl,λr hr=>?_];obtain⟨e,he,rfl⟩:=BC.mp hr;exact#[aK (h.e e he).a ∅,aK (h.e e he).b ∅]
theorem zdy(hok:∀r ∈ ps,r.1.length<=60/\r.2.length<=60){t:N3}(ht:t ∈ ovA ps ps.length):(pkA ps t).length<=180/\(pkB ps t).length<=180:=by
 obtain⟨i1,i2,i3,i4⟩:=uX ht;obtain⟨r,hr⟩:∃r,ps[t.1]? = Bu r:=#[_,ah i1];obtain⟨r2,hr2⟩:∃r,ps[t.2.1]? = Bu r:=#[_,ah i2];have l1:=wJ hr;have l2:=wJ hr2;have d1:ps.getD t.1 ([],[])=r:=by rw[af,hr];rfl
 have d2:ps.getD t.2.1 ([],[])=r2:=by rw[af,hr2];rfl
 rw[l1]at i3;have b1:=hok r (ae hr);have b2:=hok r2 (ae hr2);have hp:=wY r.1 r2.1 t.2.2 ⋯;have p1:=qU (yf r.1 r2.1 t.2.2) 0 r.1 r.2;have p2:=qU (yf r.1 r2.1 t.2.2) (t.2.2:Nat) r2.1 r2.2;unfold pkA pkB;rw[l1,l2,d1,d2];lia
theorem zeh(hN:NeL ps)(hok:∀r ∈ ps,r.1.length<=60/\r.2.length<=60):zgv ps 40:=by
 refine#[∅,λt ht=>?_];obtain⟨h1,h2⟩:=zdy hok ht
 have key:∀(v:()),v.length<=180->∀j,j<=40->(wAt ps v j).length<=10000:=λv hv j hj=>by
  have:=ja (l:=v) hN (λp hp=>(hok p hp).2) j;have h3:j * 60<=40 * 60:=fF hj (al _);lia
 exact#[key _ h1,key _ h2]
def zaR(K:sV)(CO CR CW:sX):Sp:=λvs H Q _=>∃(o a:sX) (k:Nat) (l:()) (ns:List Int) (bs:List Ent),vs=[.ref o,.ref a]/\OrdAt CO CR CW H o k l ns/\OG l ns k/\EnsL K H a bs/\BG k l ns bs/\bs.length<=30/\(ovA (zb bs) (zb bs).length).length<=4000 /\
 ((∀t ∈ ovA (zb bs) (zb bs).length,OkG (zb bs) 40 t)->∀D H',Same H H'->LsA K H' D ((unG (zb bs) 40).map d3)->Q (.ref D) H')/\(∀t ∈ ovA (zb bs) (zb bs).length,¬ OkG (zb bs) 40 t->∀H',Same H H'->Q .non H')
def jP:sQz 2 ["order","entries"] xV:=by nofun
def jA{f CO CR CW CF CH:sX}{nN:Ay}(B:Bt mg)(TFx:zbY K mg CF)(TSb:zf8 K CF)(TM:TMc mg)(F:("unmet_within"^^^xV))(sy:(7>>>"unmet") ["system","most"] [] (uI K CH CF))(DD_unmet:(7>>>"unmet") ["system","most"] [.int 4000 nN] (uI K CH CF))(rS:(7<<<"system_by") ["order","entries"] [] (Vl K CO CR CW CH)):(9&&&["order","entries"]) (zaR K CO CR CW):=by
 obtain⟨t9,g9⟩:=TM.u
 exists F.ok jP
 ·obtain⟨o,a,k,l,ns,bs,rfl,ho,hG,hA,hB,hbl,hol,q1,q2⟩:=h;refine#[_,(zg (WG (th:=(zaQ (tC .non))) #[rfl,rfl] (clX sy hr .nil rfl (za (cl0 rS hr .nil rfl (za (pv 0) (za (pv 1) ze))) (za (yC (v:=.int 40) rfl g9 #[t9,rfl]) ze))) rfl TFx.g TFx.xi.ok (λe=>(zg (zl ym))))),?_];have s16:=zW;have s16:=zW
  erw[Jt]
  ac_rfl
  have hsd:∀r ∈ zb bs,r.1.length<=60/\r.2.length<=60:=λr hr=>by
   obtain⟨e,he,rfl⟩:=BC.mp hr;exact#[(hB.e e he).a,(hB.e e he).b]
  exact#[o,a,k,l,ns,bs,rfl,ho,hG,hA,hB,λy qa H' s' hy=>#[y,o,qa,zb bs,40,rfl,hy,hB.ne hG,hB.ok hbl,hol,zeh (hB.ne hG) hsd,λh D H'' s'' _ hL=>q1 h D H'' (s'.trans s'') hL,λt ht h H'' s''=>#[CF,rfl,TSb.s,λx hx=>q2 t ht h _ (s'.trans (s''.trans (zd hx)))]]]
end in def ko(es:List Ent)(t:N3):Ent:=(pkA (zb es) t,pkB (zb es) t,byL es [((t.1:Int),(0:Int),Bx),((t.2.1:Int),(t.2.2:Int),Bw)])
def Zw(K:sV):Sp:=λvs H Q _=>∃(a t:sX) (es:List Ent) (tr:N3),vs=[.ref a,.ref t]/\EnsL K H a es/\SqT K H t [.int (tr.1:Nat),.int (tr.2.1:Nat),.int (tr.2.2:Nat)]/\tr ∈ ovA (zb es) (zb es).length/\ZL (zb es)/\(∀e ∈ es,e.2.2.length<=600)/\∀(p s:sX) (H':Hp),Same H H'->H' p=Bu (.tup [.str (tx (ko es tr).1),.str (tx (ko es tr).2.1),.ref s])->LsA K H' s ((ko es tr).2.2.map dSt)->H s=Bv->Q (.ref p) H'
def nF:sQz 2 ["entries","overlap","sides","steps"] uT:=by nofun
theorem XY(B:Bt mg)(F:("entry_of"^^^uT))(rK:(4<<<"peak") ["rules","overlap"] [] (ZI K))(iM:(2<<<"by_pacts") ["entries","steps"] [] (Qb K))(gL:(1<<<"pairs_of") ["entries"] [] (wy K)):(5&&&["entries","overlap"]) (Zw K):=by
 exists F.ok nF
 ·obtain⟨a,t,es,tr,rfl,hA,ht,htr,hok,hst,q⟩:=h
  refine#[_,(zi (zC 2 nF.nd (cl0 rK hr .nil rfl (za (cl0 gL hr .nil rfl (za (pv 0) ze)) (za (pv 1) ze)))) (zi (zC 3 nF.nd (cl0 iM hr .nil rfl (za (pv 0) (za (uK (za (zS (za (!-1) (za zf (za yt ze)))) (za (zS (za (!-1) (za (!-1) (za yt ze)))) ze))) ze)))) (zg (zl (zS (za (!-2) (za (!-2) (za (pv 3) ze)))))))),?_]
  have s16:=zW;have s16:=zW;have hlp:(zb es).length=es.length:=by unfold zb;rw[ac]
  obtain⟨i1,i2,i3,i4⟩:=uX htr;obtain⟨r,hr1⟩:∃r,(zb es)[tr.1]? = Bu r:=#[_,ah i1];obtain⟨r2,hr2⟩:∃r,(zb es)[tr.2.1]? = Bu r:=#[_,ah i2];have l1:=wJ hr1;have l2:=wJ hr2;have d1:(zb es).getD tr.1 ([],[])=r:=by rw[af,hr1];rfl
  have d2:(zb es).getD tr.2.1 ([],[])=r2:=by rw[af,hr2];rfl
  have eA:pkA (zb es) tr=yV (yf r.1 r2.1 tr.2.2) 0 r.1 r.2:=by unfold pkA;rw[l1,l2,d1]
  have eB:pkB (zb es) tr=yV (yf r.1 r2.1 tr.2.2) (tr.2.2:Nat) r2.1 r2.2:=by unfold pkB;rw[l1,l2,d2]
  rw[l1]at i3;rw[l1,l2]at i4;change Same H H'/\∃p:sX,(∃x,H' p=Bu (.tup [x,.str (tx (pkA (zb es) tr)),.str (tx (pkB (zb es) tr))]))/\σ=[!!a,!!t,!!p,Bv]
  ·rfl'
   refine wj hA.is (by have:=hok.1;lia) λD H1 _ s1 hL=>?_;exact Wn hL.is (zo s1 ht) hok hr1 hr2 ⋯ i4 λp H' _ s' hp=>#[s1.trans s',p,#[_,by rw[eA,eB];exact hp],rfl]
  rintro σ H1 ⟨s1,p,⟨x,hp⟩,rfl⟩:_;right;change Same H1 H'/\∃S:sX,H S=Bv/\LsA K H' S ((ko es tr).2.2.map dSt)/\σ=[!!a,!!t,!!p,!!S]
  ·have ht1:=zo s1 ht
   rfl'
   refine#[_,ht1,_,rfl,⋯,λp1 hp1=>?_];have u1:=zd (o:=HO.tup [.int (tr.1:Nat),.int 0,.bl Bx]) hp1;refine#[_,zo u1 ht1,_,rfl,_,zo u1 ht1,_,rfl,⋯,λp2 hp2=>#[⋯,λp3 hp3=>?_]];have u2:=zd (o:=HO.tup [.int (tr.2.1:Nat),.int (tr.2.2:Nat),.bl Bw]) hp2;have u3:=zd (o:=HO.lst [.ref p1,.ref p2]) hp3;have u:=u1.trans (u2.trans u3);refine WE (us:=[((tr.1:Int),(0:Int),Bx),((tr.2.1:Int),(tr.2.2:Int),Bw)]) (hA.same (s1.trans u)).is (LsA.is #[_,zc,?_]) (by simp) hst (λv hv=>?_) λD H' hDn s' hL=>#[u.trans s',D,(s1.trans u).free hDn,hL,rfl]
   ·erw[av,aO,Iss]
    exact#[_,_,rfl,X8 (SqT.of (u3 _ _ (u2 _ _ zc))),_,_,rfl,X8 (SqT.of (u3 _ _ zc)),rfl]
   ·erw[dL,eY,or_false]at hv
    rcases hv with rfl | rfl
    ·exact#[by simp,by show (tr.1:Int)<_;lia]
    ·exact#[by simp,by show (tr.2.1:Int)<_;lia]
  rintro σ H2 ⟨s2,S,hSn,hS,rfl⟩:_;right
  rfl'
  exact#[_,SqT.of (s2 _ _ hp),_,rfl,_,SqT.of (s2 _ _ hp),_,rfl,⋯,λp' hp'=>q p' S _ (s1.trans (s2.trans (zd hp'))) zc (hS.same (zd hp')) hSn]
theorem JO{l:()}(h:¬ jX e):¬ jX (yz k l ns e):=by
 unfold yz;split
 ·exact h
 ·unfold jX at h ⊢;rw[xm];show ¬ (240<e.2.2.length\/60<e.2.1.length\/60<e.1.length);lia
theorem VC{l:()}{bs es:List Ent}{r:Option (List Ent)}(h:xt k l ns bs es r):(∀e ∈ bs,¬ jX e)->∀fs,r=Bu fs->∀e ∈ fs,¬ jX e:=by
 induction h with
 | nil bs=>exact λh fs e=>by cases e;exact h
 | same _ _ _ _ ih=>exact ih
 | new _ _ _ h4 _ ih =>
  intro h;refine ih λe he=>?_;rcases BD.mp he with he | he
  ·exact h e he
  ·rw[BF.mp he];exact JO h4
 | far _ _ _ _=>exact λ_ fs e=>by cases e
 | stuck _=>exact λ_ fs e=>by cases e
theorem jH{k n:Nat}{l:()}{r:Option (List Ent)}(h:vS k l ns n es r):∀fs,r=Bu fs->∀e ∈ fs,¬ jX e:=by
 induction h with
 | out es=>exact λfs e=>by cases e
 | bad _ _=>exact λfs e=>by cases e
 | done _ h2 _=>exact λfs e=>by cases e;exact VC h2 (λe he=>(nomatch he)) _ rfl
 | more _ _ _ _ ih=>exact ih
def UB{M:Nat}(h:∀e ∈ es,e.2.2.length<=M)(u:Stp):(VY es u).length<=M:=by
 have hg:(es.getD u.1.toNat ([],[],[])).2.2.length<=M:=by
  rw[af]
  cases e:es[u.1.toNat]? with
  | none=>exact aG _
  | some x=>exact h x (ae e)
 unfold VY;rw[WN];split
 ·exact hg
 ·rw[xm];exact hg
inductive Cpl(k:Nat)(l:())(ns:List Int):Nat->List Ent->List Ent->Bool->List Ent->Prop where
 | out (kept fresh:List Ent):Cpl k l ns 0 kept fresh Bx kept
 | slim {n:Nat} {kept fresh:List Ent} (h:vS k l ns 20 fresh Bv\/∃bs,vS k l ns 20 fresh (Bu bs)/\j4 bs=Bw):Cpl k l ns (n+1) kept fresh Bx kept
 | far {n:Nat} {kept fresh bs:List Ent} {t:N3} (h:vS k l ns 20 fresh (Bu bs)) (hb:j4 bs=Bx) (ht:t ∈ ovA (zb bs) (zb bs).length) (ho:¬ OkG (zb bs) 40 t):Cpl k l ns (n+1) kept fresh Bx bs
 | whole {n:Nat} {kept fresh bs:List Ent} (h:vS k l ns 20 fresh (Bu bs)) (hb:j4 bs=Bx) (ho:∀t ∈ ovA (zb bs) (zb bs).length,OkG (zb bs) 40 t) (hu:unG (zb bs) 40=[]):Cpl k l ns (n+1) kept fresh Bw bs
 | more {n:Nat} {kept fresh bs es:List Ent} {w:Bool} (h:vS k l ns 20 fresh (Bu bs)) (hb:j4 bs=Bx) (ho:∀t ∈ ovA (zb bs) (zb bs).length,OkG (zb bs) 40 t) (hu:unG (zb bs) 40≠[]) (r:Cpl k l ns n bs (bs ++ ((unG (zb bs) 40).take 8).map (ko bs)) w es):Cpl k l ns (n+1) kept fresh w es
theorem zd9(hl:ps.length<=12)(h:∀r ∈ ps,r.1.length<=10):(ovA ps ps.length).length<=4000:=by
 have lfl:∀i,(lf ps i).length<=10:=λi=>by
  cases e:ps[i]? with
  | none=>unfold lf;rw[af,e];exact aG _
  | some r=>rw[wJ e];exact h r (ae e)
 have oI:∀i m,(ovI ps i m).length<=m * 10:=λi m=>by
  induction m with
  | zero=>exact aG _
  | succ m ih =>
   rw[qH,aj];have h1:=qO ps i m (lf ps i).length;have h2:=lfl i;lia
 have oA:∀m,(ovA ps m).length<=m * 120:=λm=>by
  induction m with
  | zero=>exact aG _
  | succ m ih =>
   rw[ZP,aj];have h1:=oI m ps.length;lia
 have:=oA ps.length;lia
theorem zfI{l:()}(hin:∀r ∈ ps,(∀c ∈ r.1,c ∈ l)/\∀c ∈ r.2,c ∈ l)(h10:∀r ∈ ps,r.1.length<=10/\r.2.length<=10){t:N3}(ht:t ∈ ovA ps ps.length):((pkA ps t).length<=40/\∀c ∈ pkA ps t,c ∈ l)/\(pkB ps t).length<=40/\∀c ∈ pkB ps t,c ∈ l:=by
 obtain⟨i1,i2,i3,i4⟩:=uX ht;obtain⟨r,hr⟩:∃r,ps[t.1]? = Bu r:=#[_,ah i1];obtain⟨r2,hr2⟩:∃r,ps[t.2.1]? = Bu r:=#[_,ah i2];have l1:=wJ hr;have l2:=wJ hr2;have d1:ps.getD t.1 ([],[])=r:=by rw[af,hr];rfl
 have d2:ps.getD t.2.1 ([],[])=r2:=by rw[af,hr2];rfl
 rw[l1]at i3;have b1:=h10 r (ae hr);have b2:=h10 r2 (ae hr2);have n1:=hin r (ae hr);have n2:=hin r2 (ae hr2);have hp:=wY r.1 r2.1 t.2.2 ⋯;have p1:=qU (yf r.1 r2.1 t.2.2) 0 r.1 r.2;have p2:=qU (yf r.1 r2.1 t.2.2) (t.2.2:Nat) r2.1 r2.2
 have hw:∀c ∈ yf r.1 r2.1 t.2.2,c ∈ l:=λc hc=>by
  unfold yf at hc;rcases BD.mp hc with h | h
  ·exact n1.1 c h
  ·exact n2.1 c (cr h)
 have put:∀(k:Int) (o n:()),(∀c ∈ n,c ∈ l)->∀c ∈ yV (yf r.1 r2.1 t.2.2) k o n,c ∈ l:=λk o n hn c hc=>by
  unfold yV at hc;rcases BD.mp hc with hc | hc
  ·rcases BD.mp hc with hc | hc
   ·exact hw c (bo hc)
   ·exact hn c hc
  ·exact hw c (cr hc)
 unfold pkA pkB;rw[l1,l2,d1,d2];exact#[#[⋯,put _ _ _ n1.2],⋯,put _ _ _ n2.2]
theorem Qx{l:()}(hB:BG k l ns bs)(hb:j4 bs=Bx)(hs:∀e ∈ bs,e.2.2.length<=240){t:N3}(ht:t ∈ ovA (zb bs) (zb bs).length):EB l (ko bs t):=by
 obtain⟨b1,b2⟩:=ZB hb
 obtain⟨h1,h2⟩:=zfI (l:=l) (ps:=zb bs) (λr hr=>by
  obtain⟨e,he,rfl⟩:=BC.mp hr
  exact#[(hB.e e he).ma,(hB.e e he).mb]) (λr hr=>by
  obtain⟨e,he,rfl⟩:=BC.mp hr
  exact b2 e he) ht
 refine#[aK h1.1 ∅,aK h2.1 ∅,?_,h1.2,h2.2];show (byL bs [((t.1:Int),(0:Int),Bx),((t.2.1:Int),(t.2.2:Int),Bw)]).length<=600;unfold byL;rw[List.flatMap_cons,List.flatMap_cons,List.flatMap_nil,aT,aj];have o1:=UB hs ((t.1:Int),(0:Int),Bx);have o2:=UB hs ((t.2.1:Int),(t.2.2:Int),Bw);lia
def EnsM.samT{T:sX}{H H':Hp}{ps:Array sY}(h:EnsM K H a es)(s:SamT T H H')(hT:H T=Bu (.tbl ps)):EnsM K H' a es:=by obtain⟨xs,h1,h2⟩:=h;exact#[xs,s.at hT h1 (λ_ z=>by cases z),EnsA.samT s hT h2]
def zfq(K:sV)(T:sX)(H:Hp)(k:Nat)(l:())(ns:List Int)(rs:List zu)(m n:Nat)(H':Hp)(Dk Df:sX):Prop:=∃kept fresh:List Ent,SamT T H H'/\TabOk H' T lp lq/\EnsM K H' Dk kept/\EnsL K H' Df fresh/\fresh.length<64/\(∀e ∈ fresh,EB l e)/\BG k l ns kept/\∀w es,Cpl k l ns n kept fresh w es->Cpl k l ns m [] (fEs rs rs.length) w es
def JE(K:sV)(CO CR CW T:sX):Sp:=λvs H Q _=>∃(o a:sX) (k:Nat) (l:()) (ns:List Int) (rs:List zu) (m:Nat),vs=[.ref o,.ref a,.int (m:Nat)]/\OrdAt CO CR CW H o k l ns/\OG l ns k/\LsA K H a (rs.map dR)/\rs.length<=20/\InL l rs/\(∀r ∈ rs,r.1.length<=60/\r.2.length<=60)/\m<=1000/\TabOk H T lp lq/\∀(w:Bool) (es:List Ent) (p D:sX) (H':Hp),Cpl k l ns (m+1) [] (fEs rs rs.length) w es->BG k l ns es->SamT T H H'->TabOk H' T lp lq->H' p=Bu (.tup [.bl w,.ref D])->EnsM K H' D es->Q (.ref p) H'
def gM:sQz 3 ["order","pacts","rounds","kept","fresh","turn","slim","lacking"] wC:=by nofun
theorem YE{f CO CR CW TB:sX}(B:Bt mg)(TM:TMc mg)(F:("completed"^^^wC))(pJ:(1<<<"first_entries") ["pacts"] [] (Wb K))(pb:(8<<<"thinned_within") ["order","entries"] [] (zaI K CO CR CW TB))(pX:(9<<<"unmet_within") ["order","entries"] [] (zaR K CO CR CW))(rW:(5<<<"entry_of") ["entries","overlap"] [] (Zw K)):(10&&&["order","pacts","rounds"]) (JE K CO CR CW TB):=by
 obtain⟨t9,g9⟩:=TM.p
 exists F.ok gM
 ·obtain⟨o,a,k,l,ns,rs,m,rfl,ho,hG,hA,hrl,hin,h60,hm,hTab,q⟩:=h
  refine#[_,(zi (jF (i:=3) gM.nd rfl (Or.inr rfl) (uK ze)) (zi (zC 4 gM.nd (cl0 pJ hr .nil rfl (za (pv 1) ze))) (zi (z7 r9 rfl (yB rfl B.range (za (zD yn (pv 2) zf) ze)) (zt (i:=5) gM.nd rfl (.inl rfl)) (zi (zC 6 gM.nd (cl0 pb hr .nil rfl (za (pv 0) (za (pv 4) ze)))) (zi (zN (zy op_isN' (pv 6) ym (zA _)) (zg (zl (zS (za yt (za (pv 3) ze)))))
     zr) (zi (jF (i:=3) gM.nd rfl (Or.inr rfl) (pv 6)) (zi (zC 7 gM.nd (cl0 pX hr .nil rfl (za (pv 0) (za (pv 3) ze)))) (zi (zN (zy op_isN' (pv 7) ym (zA _)) (zg (zl (zS (za yt (za (pv 3) ze)))))
     zr) (zi (zN (zy wF (zB B.len (pv 7)) zf (zA _)) (zg (zl (zS (za yt (za (pv 3) ze)))))
     zr) (zg (zC 4 gM.nd (zD uO (pv 3) (yP (own:=["overlap"]) (caps:=["kept"]) (ix:=[3]) (tt:=xw) (te:=(wL (Zw K) [] E0 (zL (z6 1) (zL (z6 0) xx)))) rfl (zM (sc:=zh wC) rfl (!0) (!0) (!0) rfl (!0) (!0) rfl) (z9 (zR XH (pv 7) yA (zU (yC (v:=.int 8) rfl g9 #[t9,rfl])))) (λ_ _ _ _ _ _=>zt (i:=0) (show List.Nodup [_,_] by decide) rfl (.inl rfl)) (λ_ _ _ _ _ _=>yg) (λ_ _ _ _ _ _=>(cl0 rW hr .nil rfl (za (pv 1) (za (pv 0) ze))))))))))))))) (zg (zl (zS (za yt (za (pv 3) ze)))))))),?_]
  have s16:=zW;have s16:=zW;have hTt:=hTab;obtain⟨tp,htp,_⟩:=hTt;change Same H H'/\∃Dk:sX,H' Dk=Bu (.lst [])/\σ=[!!o,!!a,-~~~m,!!Dk,Bv,Bv,Bv,Bv]
  ·ac_rfl;exact#[⋯,λp hp=>#[zd hp,zc]]
  rintro σ H1 ⟨s1,Dk0,hDk0,rfl⟩:_
  have hE0:∀e ∈ fEs rs rs.length,EB l e:=λe he=>by
   obtain⟨i,p,hi,hp,rfl⟩:=kZ he;have h1:=h60 p (ae hp);have h2:=hin p (ae hp);exact#[h1.1,h1.2,by show ([((i:Int),(0:Int),Bw)]:List Stp).length<=600;simp,h2.2.2.1,h2.2.2.2]
  right;change ∃Df:sX,zfq K TB H k l ns rs (m+1) (m+1) H' Dk0 Df/\σ=[!!o,!!a,-~~~m,!!Dk0,!!Df,Bv,Bv,Bv]
  ·ac_rfl;exact#[a,rs,rfl,hA.same s1,hrl,λDf H' s' _ hM=>#[Df,#[[],fEs rs rs.length,SamT.of (s1.trans s'),hTab.same (s1.trans s'),#[[],s' _ _ hDk0,rfl],hM.l,by have:=Js rs rs.length;lia,hE0,#[by simp,λe he=>(nomatch he),λe he=>(nomatch he)],λw es h=>h],rfl]]
  rintro σ H2 ⟨Df0,hC0,rfl⟩:_;right;change ∃(Dk Df:sX) (v5 v6 v7:Option V),zfq K TB H k l ns rs (m+1) 0 H' Dk Df/\σ=[!!o,!!a,-~~~m,!!Dk,!!Df,v5,v6,v7]
  ·ac_rfl;refine#[⋯,⋯,ForR.by (λi σ H'=>∃(Dk Df:sX) (v5 v6 v7:Option V),zfq K TB H k l ns rs (m+1) (m+1 - i) H' Dk Df/\σ=[!!o,!!a,-~~~m,!!Dk,!!Df,v5,v6,v7]) #[Dk0,Df0,Bv,Bv,Bv,hC0,rfl] ?_ ?_]
   ·refine nm3 ?_;rintro i σ H' hi ⟨Dk,Df,v5,v6,v7,⟨kept,fresh,sT,hT,hK,hF,hfl,hfE,hB,hcp⟩,rfl⟩:_;have hi':i<m+1:=⋯;have en:m+1 - i=(m+1 - (i+1))+1:=⋯;rw[en]at hcp;have hTt:=hT;obtain⟨tq,htq,_⟩:=hTt;have ho':=ho.samT sT htp;right
    erw[yK,aX,aW]
    refine zj (λσ' G=>SamT TB H' G/\TabOk G TB lp lq/\(((vS k l ns 20 fresh Bv\/∃bs,vS k l ns 20 fresh (Bu bs)/\j4 bs=Bw)/\σ'=[!!o,!!a,-~~~m,!!Dk,!!Df,Bu (.int (0+(i:Int))),Bu (.non),v7])\/∃(bs:List Ent) (D:sX),vS k l ns 20 fresh (Bu bs)/\BG k l ns bs/\j4 bs=Bx/\EnsM K G D bs/\σ'=[!!o,!!a,-~~~m,!!Dk,!!Df,Bu (.int (0+(i:Int))),!!D,v7])) ?_ ?_
    ·ac_rfl;exact#[o,Df,k,l,ns,fresh,rfl,ho',hG,hF,hfl,hfE,hT,λbs D G h1 h2 h3 h4 h5 h6=>#[h4,h5,.inr #[bs,h1,h2,h3,D,h6,rfl]],λh G h4 h5=>#[h4,h5,.inl #[h,rfl]]]
    rintro σ' G1 ⟨g1,hT1,hcase⟩:_;have hK1:=hK.samT g1 htq;right;refine zj (λσ' G=>Same G1 G/\∃(bs:List Ent) (D:sX),vS k l ns 20 fresh (Bu bs)/\BG k l ns bs/\j4 bs=Bx/\EnsM K G D bs/\σ'=[!!o,!!a,-~~~m,!!Dk,!!Df,Bu (.int (0+(i:Int))),!!D,v7]) ?_ ?_
    ·rcases hcase with ⟨hno,rfl⟩ | ⟨bs,D,h1,h2,h3,h4,rfl⟩
     ·ac_rfl;exact#[⋯,λp hp=>q Bx kept p Dk _ (hcp _ _ (.slim hno)) hB (sT.trans (g1.trans (SamT.of (zd hp)))) (hT1.same (zd hp)) zc (hK1.same (zd hp))]
     ·ac_rfl;exact#[Same.refl _,bs,h1,h2,h3,h4]
    rintro σ' G2 ⟨s2,bs,D,hTh,hBb,hbey,hD,rfl⟩:_;clear hcase;right;refine zj (λσ' G=>G=G2/\σ'=[!!o,!!a,-~~~m,!!D,!!Df,Bu (.int (0+(i:Int))),!!D,v7]) ?_ ?_
    ·ac_rfl
    rintro σ' G3 ⟨rfl,rfl⟩:_;have sT3:SamT TB H G3:=sT.trans (g1.trans (SamT.of s2));have hT3:=hT1.same s2;have ho3:=ho.samT sT3 htp;obtain⟨b12,b10⟩:=ZB hbey;have hpl:(zb bs).length=bs.length:=by unfold zb;rw[ac]
    have hol:=zd9 (ps:=zb bs) ⋯ λr hr=>by
     obtain⟨e,he,rfl⟩:=BC.mp hr;exact (b10 e he).1
    have hnear:∀e ∈ bs,e.2.2.length<=240:=λe he=>by
     have:=jH hTh bs rfl e he;unfold jX at this;lia
    right;refine zj (λσ' G=>Same G3 G/\(((∃t ∈ ovA (zb bs) (zb bs).length,¬ OkG (zb bs) 40 t)/\σ'=[!!o,!!a,-~~~m,!!D,!!Df,Bu (.int (0+(i:Int))),!!D,Bu (.non)])\/∃L:sX,(∀t ∈ ovA (zb bs) (zb bs).length,OkG (zb bs) 40 t)/\LsA K G L ((unG (zb bs) 40).map d3)/\σ'=[!!o,!!a,-~~~m,!!D,!!Df,Bu (.int (0+(i:Int))),!!D,!!L])) ?_ ?_
    ·ac_rfl;exact#[o,D,k,l,ns,bs,rfl,ho3,hG,hD.l,hBb,⋯,hol,λh L G s' hL=>#[s',.inr #[h,L,hL,rfl]],λt ht h G s'=>#[s',.inl #[#[t,ht,h],rfl]]]
    rintro σ' G4 ⟨s4,hcase⟩:_;right;refine zj (λσ' G=>Same G3 G/\∃L:sX,(∀t ∈ ovA (zb bs) (zb bs).length,OkG (zb bs) 40 t)/\LsA K G L ((unG (zb bs) 40).map d3)/\σ'=[!!o,!!a,-~~~m,!!D,!!Df,Bu (.int (0+(i:Int))),!!D,!!L]) ?_ ?_
    ·rcases hcase with ⟨⟨t,ht,hno⟩,rfl⟩ | ⟨L,h1,h2,rfl⟩
     ·ac_rfl;exact#[⋯,λp hp=>q Bx bs p D _ (hcp _ _ (.far hTh hbey ht hno)) hBb (sT3.trans (SamT.of (s4.trans (zd hp)))) (hT3.same (s4.trans (zd hp))) zc (hD.same (s4.trans (zd hp)))]
     ·ac_rfl;exact#[s4,h1,h2]
    rintro σ' G5 ⟨s5,L,hok,hL,rfl⟩:_;clear hcase;right;refine zj (λσ' G=>G=G5/\unG (zb bs) 40≠[]/\σ'=[!!o,!!a,-~~~m,!!D,!!Df,Bu (.int (0+(i:Int))),!!D,!!L]) ?_ ?_
    ·ac_rfl;obtain⟨xs,hX,hI⟩:=id hL;have hxl:=hI.len;rw[ac]at hxl;refine#[_,.inl #[_,SqL.of hX,rfl],yE (λh=>#[⋯,λp hp=>q Bw bs p D _ (hcp _ _ (.whole hTh hbey hok (BS.mp ⋯))) hBb (sT3.trans (SamT.of (s5.trans (zd hp)))) (hT3.same (s5.trans (zd hp))) zc (hD.same (s5.trans (zd hp)))]) λh z=>h ?_];rw[z]at hxl;show ((xs.length:Nat):Int)=0;rw[hxl];rfl
    rintro σ' G6 ⟨rfl,hne,rfl⟩:_;right;ac_rfl;obtain⟨xs,hX,hI⟩:=id hL;have hxl:=hI.len;rw[ac]at hxl;have hct:Kl xs Bv (Bu 8)=xs.take 8:=qu xs (k:=8) ∅;refine#[_,SqL.of hX,λp hp=>?_];rw[hct];have u1:=zd (o:=HO.lst (xs.take 8)) hp;have hS7:(upd G6 p (.lst (xs.take 8))) p=Bu (.lst (xs.take 8)):=zc;have hX7:=Iss.same u1 _ _ hI;have hD7:=hD.same (s5.trans u1);refine#[#[_,SqL.of hS7],λE1 hE1=>?_];generalize upd G6 p (.lst (xs.take 8))=G7 at *;refine CompL.by (xs:=xs.take 8) (λj BA H'=>Same G7 H'/\H' E1=Bu (.lst BA)/\BA.length<=j/\EnsA K (j3 E1 H') (((unG (zb bs) 40).take j).map (ko bs)) BA) #[zd hE1,zc,al _,rfl] (λj BA H' _ h=>SqL.of (h.1 _ _ hS7)) ?_ ?_
    ·refine nm4 ?_;rintro j x BA H' hx ⟨hs,hH,hal,hEn⟩:_;have hjl:=(BB.mp hx).1;have hj8:j<8:=by rw[aE]at hjl;lia
     rw[br hj8]at hx;obtain⟨t,pt,ht,rfl,hpt⟩:=hX7.get3 hx;have htm:=(BJ.mp (ae ht)).1;right
     erw[xw]
     rfl'
     refine#[yH,D,pt,bs,t,rfl,(hD7.same hs).l,zo hs hpt,htm,hBb.ok ⋯,λe he=>(hBb.e e he).s,λp' s' H5 h1 h2 h3 h4=>?_];have hH5:=h1 _ _ hH;have hsE:s'≠E1:=λz=>by rw[z,hH]at h4;cases h4
     refine#[hH5,⋯,CNx.mk hjl #[zE (hs.trans h1) hE1,zc,by rw[aj];erw[aL,cj];lia,?_]];rw[zV ht,au];exact (hEn.same ((wT h1).trans xN)).snoc ((EnA.new (e:=ko bs t) hH5 h2 h3 hsE).same xN)
    ·rintro BA H' ⟨hs,hH,hal,hEn⟩
     have hEn':EnsA K H' (((unG (zb bs) 40).take 8).map (ko bs)) BA:=by
      have h1:=hEn.same va;rw[aE,hxl]at h1
      have e:(unG (zb bs) 40).take (min 8 (unG (zb bs) 40).length)=(unG (zb bs) 40).take 8:=by
       rw[<- fM,aJ]
      rw[e]at h1;exact h1
     have hal8:BA.length<=8:=by rw[aE]at hal;lia
     obtain⟨xk,hxk,hek⟩:=hD7.same hs;have hkl:=hek.len;refine#[E1,rfl,xk,hxk,BA,hH,⋯,λp2 hp2=>#[D,p2,#[bs,_,sT3.trans (SamT.of (s5.trans (u1.trans (hs.trans (zd hp2))))),hT3.same (s5.trans (u1.trans (hs.trans (zd hp2)))),#[xk,zd hp2 _ _ hxk,hek.same (zd hp2)],#[xk ++ BA,SqL.of zc,(hEn'.same (zd hp2)).app (hek.same (zd hp2))],?_,λe he=>?_,hBb,λw es h=>hcp w es (.more hTh hbey hok hne h)],rfl,rfl]]
     ·rw[aj,ac,aE];lia
     ·rcases BD.mp he with he | he
      ·exact hBb.e e he
      ·obtain⟨t,ht,rfl⟩:=BC.mp he;exact Qx hBb hbey hnear (BJ.mp (bo ht)).1
   ·rintro σ H' ⟨Dk,Df,v5,v6,v7,hC,rfl⟩;rw[show ((m:Int)+1).toNat=m+1 by lia,e7]at hC;exact#[Dk,Df,hC,_,_,_,rfl]
  rintro σ H3 ⟨Dk,Df,v5,v6,v7,⟨kept,fresh,sT,hT,hK,hF,hfl,hfE,hB,hcp⟩,rfl⟩:_;right;ac_rfl;exact#[⋯,λp hp=>q Bx kept p Dk _ (hcp _ _ (.out kept fresh)) hB (sT.trans (SamT.of (zd hp))) (hT.same (zd hp)) zc (hK.same (zd hp))]
def yw{w:()}{i j:Nat}(h:zF ps w i)(g:zF ps w j):i=j:=by
 rcases dF i j with e | e | e
 ·exact y4 h.end_ (g.live i e)
 ·exact e
 ·exact y4 g.end_ (h.live j e)
theorem xn{l:()}{bs es:List Ent}{r r':Option (List Ent)}(h:xt k l ns bs es r)(g:xt k l ns bs es r'):r=r':=by
 induction h with
 | nil bs =>
  cases g;rfl
 | same h1 h2 h3 _ ih =>
  cases g with
  | same _ _ _ g4=>exact ih g4
  | new g1 g2 g3 _ _=>exact y4 (by rw[yw g1 h1,yw g2 h2];exact h3) g3
  | far g1 g2 g3 _=>exact y4 (by rw[yw g1 h1,yw g2 h2];exact h3) g3
  | stuck g=>exact g.elim (λg=>y4 h1 (g _)) λg=>y4 h2 (g _)
 | new h1 h2 h3 h4 _ ih =>
  cases g with
  | same g1 g2 g3 _=>exact y4 (by rw[yw h1 g1,yw h2 g2];exact g3) h3
  | new g1 g2 _ _ g5 =>
   rw[yw g1 h1,yw g2 h2]at g5;exact ih g5
  | far g1 g2 _ g4 =>
   rw[yw g1 h1,yw g2 h2]at g4;exact y4 g4 h4
  | stuck g=>exact g.elim (λg=>y4 h1 (g _)) λg=>y4 h2 (g _)
 | far h1 h2 h3 h4 =>
  cases g with
  | same g1 g2 g3 _=>exact y4 (by rw[yw h1 g1,yw h2 g2];exact g3) h3
  | new g1 g2 _ g4 _ =>
   rw[yw g1 h1,yw g2 h2]at g4;exact y4 h4 g4
  | far _ _ _ _=>rfl
  | stuck _=>rfl
 | stuck h =>
  cases g with
  | same g1 g2 _ _=>exact h.elim (λh=>y4 g1 (h _)) λh=>y4 g2 (h _)
  | new g1 g2 _ _ _=>exact h.elim (λh=>y4 g1 (h _)) λh=>y4 g2 (h _)
  | far _ _ _ _=>rfl
  | stuck _=>rfl
theorem uk{k n:Nat}{l:()}{r r':Option (List Ent)}(h:vS k l ns n es r)(g:vS k l ns n es r'):r=r':=by
 induction h with
 | out es =>
  cases g;rfl
 | bad h1 h2 =>
  cases g with
  | bad _ _=>rfl
  | done g1 g2 _ =>
   rw[g1.is,<- h1.is]at g2;cases xn h2 g2
  | more g1 g2 _ _ =>
   rw[g1.is,<- h1.is]at g2;cases xn h2 g2
 | done h1 h2 h3 =>
  cases g with
  | bad g1 g2 =>
   rw[g1.is,<- h1.is]at g2;cases xn h2 g2
  | done g1 g2 _ =>
   rw[g1.is,<- h1.is]at g2;exact xn h2 g2
  | more g1 g2 g3 _ =>
   rw[g1.is,<- h1.is]at g2 g3;cases xn h2 g2;exact y4 h3 g3
 | more h1 h2 h3 _ ih =>
  cases g with
  | bad g1 g2 =>
   rw[g1.is,<- h1.is]at g2;cases xn h2 g2
  | done g1 g2 g3 =>
   rw[g1.is,<- h1.is]at g2 g3;cases xn h2 g2;exact y4 g3 h3
  | more g1 g2 _ g4 =>
   rw[g1.is,<- h1.is]at g2;cases xn h2 g2;exact ih g4
def yj{k n:Nat}{l:()}{es bs bs':List Ent}(h:vS k l ns n es (Bu bs))(g:vS k l ns n es (Bu bs')):bs=bs':=Option.some.inj (uk h g)
theorem zb1{k n:Nat}{l:()}{kept fresh es es':List Ent}{w w':Bool}(h:Cpl k l ns n kept fresh w es)(g:Cpl k l ns n kept fresh w' es'):w=w'/\es=es':=by
 induction h with
 | out kept fresh =>
  cases g;exact#[rfl,rfl]
 | slim h =>
  have no:∀{bs},vS k l ns 20 _ (Bu bs)->j4 bs=Bx->False:=λ{bs} g gb=>by
   rcases h with h | ⟨cs,h,hb⟩
   ·cases uk h g
   ·rw[yj h g,gb]at hb;cases hb
  cases g with
  | slim _=>exact#[rfl,rfl]
  | far g gb _ _=>exact (no g gb).elim
  | whole g gb _ _=>exact (no g gb).elim
  | more g gb _ _ _=>exact (no g gb).elim
 | far h hb ht ho =>
  cases g with
  | slim g =>
   rcases g with g | ⟨cs,g,gb⟩
   ·cases uk h g
   ·rw[yj g h,hb]at gb;cases gb
  | far g _ _ _=>exact#[rfl,yj h g]
  | whole g _ go _ =>
   rw[yj g h]at go;exact y4 (go _ ht) ho
  | more g _ go _ _ =>
   rw[yj g h]at go;exact y4 (go _ ht) ho
 | whole h hb ho hu =>
  cases g with
  | slim g =>
   rcases g with g | ⟨cs,g,gb⟩
   ·cases uk h g
   ·rw[yj g h,hb]at gb;cases gb
  | far g _ gt go =>
   rw[yj g h]at gt go;exact y4 (ho _ gt) go
  | whole g _ _ _=>exact#[rfl,yj h g]
  | more g _ _ gu _ =>
   rw[yj g h]at gu;exact y4 hu gu
 | more h hb ho hu _ ih =>
  cases g with
  | slim g =>
   rcases g with g | ⟨cs,g,gb⟩
   ·cases uk h g
   ·rw[yj g h,hb]at gb;cases gb
  | far g _ gt go =>
   rw[yj g h]at gt go;exact y4 (ho _ gt) go
  | whole g _ _ gu =>
   rw[yj g h]at gu;exact y4 gu hu
  | more g _ _ _ gr =>
   rw[yj g h]at gr;exact ih gr
theorem Za{w:()}{q:Int}{f:Bool}{r:zu}(hr:ps[i]? = Bu r)(h:zx w q (sdl r f).1=Bw):yJ ps w ((i:Int),q,f)=Bu (yV w q (sdl r f).1 (sdl r f).2):=by
 have hi:=(BB.mp hr).1
 have e:ps.getD ((i:Int),q,f).1.toNat ([],[])=r:=by
  show ps.getD ((i:Int)).toNat ([],[])=r;rw[az,af,hr];rfl
 rw[xl (show 0<=((i:Int),q,f).1/\((i:Int),q,f).1<ps.length by constructor <;> simp <;> lia),e,y6 h]
theorem KF(h:e ∈ fEs rs n):EOk rs e:=by
 obtain⟨i,p,hi,hp,rfl⟩:=kZ h;show yy rs p.1 [((i:Int),(0:Int),Bw)]=Bu p.2
 have hs:zx p.1 0 (sdl p Bw).1=Bw:=by
  show zx p.1 0 p.1=Bw;refine w9 #[⋯,⋯,?_];show (p.1.drop 0).take p.1.length=p.1;rw[et,aJ]
 erw[yy,Za hp hs,bZ]
 show Bu (yV p.1 0 p.1 p.2)=Bu p.2;congr 1;unfold yV;show p.1.take 0 ++ p.2 ++ p.1.drop (0+p.1.length)=p.2;rw[bN,bq,ba ⋯,aT]
theorem zcs(hb:∀e ∈ bs,EOk rs e){t:N3}(ht:t ∈ ovA (zb bs) (zb bs).length):EOk rs (ko bs t):=by
 obtain⟨i1,i2,i3,i4⟩:=uX ht;obtain⟨r,hr⟩:∃r,(zb bs)[t.1]? = Bu r:=#[_,ah i1];obtain⟨r2,hr2⟩:∃r,(zb bs)[t.2.1]? = Bu r:=#[_,ah i2];have l1:=wJ hr;have l2:=wJ hr2;have d1:(zb bs).getD t.1 ([],[])=r:=by rw[af,hr];rfl
 have d2:(zb bs).getD t.2.1 ([],[])=r2:=by rw[af,hr2];rfl
 rw[l1]at i3;rw[l1,l2]at i4;have eA:pkA (zb bs) t=yV (yf r.1 r2.1 t.2.2) 0 r.1 r.2:=by unfold pkA;rw[l1,l2,d1]
 have eB:pkB (zb bs) t=yV (yf r.1 r2.1 t.2.2) (t.2.2:Nat) r2.1 r2.2:=by unfold pkB;rw[l1,l2,d2]
 refine Zn hb ?_;show yy (zb bs) (pkA (zb bs) t) [((t.1:Int),(0:Int),Bx),((t.2.1:Int),(t.2.2:Int),Bw)]=Bu (pkB (zb bs) t);obtain⟨b1,b2⟩:=Ww r.2 (kB r.1 r2.1 t.2.2);rw[eA,eB];have h1:=Za (f:=Bx) (q:=0) hr (w:=yV (yf r.1 r2.1 t.2.2) 0 r.1 r.2) b1;have h2:=Za (f:=Bw) (q:=(t.2.2:Int)) hr2 (w:=yf r.1 r2.1 t.2.2) (jE ⋯ i4)
 have h1':yJ (zb bs) (yV (yf r.1 r2.1 t.2.2) 0 r.1 r.2) ((t.1:Int),(0:Int),Bx)=Bu (yf r.1 r2.1 t.2.2):=by
  rw[h1];congr 1
 have h2':yJ (zb bs) (yf r.1 r2.1 t.2.2) ((t.2.1:Int),(t.2.2:Int),Bw)=Bu (yV (yf r.1 r2.1 t.2.2) (t.2.2:Nat) r2.1 r2.2):=h2
 erw[yy,h1',h2',bZ]
theorem Ur{l:()}{es bs zs:List Ent}(h:vS k l ns 20 es (Bu bs))(hb:j4 bs=Bx)(hz:ThinL k l ns zs)(hp:zb bs=zb zs):BG k l ns bs:=by
 obtain⟨b1,_⟩:=ZB hb
 have key:∀e ∈ bs,∃z ∈ zs,z.1=e.1/\z.2.1=e.2.1:=λe he=>by
  have:(e.1,e.2.1) ∈ zb zs:=by rw[<- hp];exact BC.mpr #[e,he,rfl]
  obtain⟨z,hz,e2⟩:=BC.mp this;injection e2 with h1 h2;exact#[z,hz,h1,h2]
 refine#[⋯,λe he=>?_,λe he=>?_]
 ·obtain⟨z,hzm,h1,h2⟩:=key e he;have hE:=hz.rl.e z hzm;have hn:=jH h bs rfl e he;unfold jX at hn;exact#[⋯,⋯,⋯,by rw[<- h1];exact hE.ma,by rw[<- h2];exact hE.mb]
 ·obtain⟨z,hzm,h1,h2⟩:=key e he;rw[<- h1,<- h2];exact hz.rl.lt z hzm
def Gd(rs:List zu)(k:Nat)(l:())(ns:List Int)(es:List Ent):Prop:=(∀e ∈ es,EOk rs e)/\(es=[]\/(ThinL k l ns es/\j4 es=Bx/\BG k l ns es))
def X5{rs:List zu}{l:()}(G:OG l ns k){es bs:List Ent}(h:vS k l ns 20 es (Bu bs))(hb:j4 bs=Bx)(he:∀e ∈ es,EB l e)(ho:∀e ∈ es,EOk rs e):Gd rs k l ns bs:=by obtain⟨h1,zs,hz,hp⟩:=W8 (rs:=rs) G h bs rfl he ho;have hB:=Ur h hb hz hp;exact#[h1,.inr #[hz.pairs hp hB.e,hb,hB]]
theorem zdk{rs:List zu}{k n:Nat}{l:()}(G:OG l ns k){kept fresh es:List Ent}{w:Bool}(h:Cpl k l ns n kept fresh w es):(∀e ∈ fresh,EB l e)->(∀e ∈ fresh,EOk rs e)->Gd rs k l ns kept->Gd rs k l ns es:=by
 induction h with
 | out kept fresh=>exact λ_ _ h=>h
 | slim _=>exact λ_ _ h=>h
 | far h hb _ _=>exact λhe ho _=>X5 G h hb he ho
 | whole h hb _ _=>exact λhe ho _=>X5 G h hb he ho
 | @more n kept fresh bs es w h hb ho' hu r ih =>
  intro he ho _;have hg:=X5 (rs:=rs) G h hb he ho
  have hB:BG k l ns bs:=by
   obtain⟨h1,zs,hz,hp⟩:=W8 (rs:=rs) G h bs rfl he ho;exact Ur h hb hz hp
  have hnear:∀e ∈ bs,e.2.2.length<=240:=λe hm=>by
   have:=jH h bs rfl e hm;unfold jX at this;lia
  refine ih (λe hm=>?_) (λe hm=>?_) hg
  ·rcases BD.mp hm with hm | hm
   ·exact hB.e e hm
   ·obtain⟨t,ht,rfl⟩:=BC.mp hm;exact Qx hB hb hnear (BJ.mp (bo ht)).1
  ·rcases BD.mp hm with hm | hm
   ·exact hg.1 e hm
   ·obtain⟨t,ht,rfl⟩:=BC.mp hm;exact zcs hg.1 (BJ.mp (bo ht)).1
def WI{w o:()}{q:Nat}(h:zx w (q:Int) o=Bw):w.take q ++ o ++ w.drop (q+o.length)=w:=by
 unfold zx at h;obtain⟨_,_,e⟩:=w6 h;rw[az]at e
 calc w.take q ++ o ++ w.drop (q+o.length)=w.take q ++ ((w.drop q).take o.length ++ (w.drop q).drop o.length):=by rw[e,cU,ao]
  _=w.take q ++ w.drop q:=by rw[aZ]
  _=w:=aZ q w
def J8{w:()}{u:Nat × Nat}(h:zJ w ps=Bu u):∃p,ps[u.1]? = Bu p/\zx w (u.2:Int) p.1=Bw:=by unfold zJ at h;have hm:u ∈ xI w ps w.length:=fN h;obtain⟨_,h2⟩:=usesK_mem.mp hm;obtain⟨_,p,hp,hs⟩:=vp h2;exact#[p,hp,hs]
theorem Vm{l:()}{u v:()}(h:zO k l ns u v=Bw):zp k l ns u<=zp k l ns v:=by
 unfold zO at h;by_cases e:zp k l ns u=zp k l ns v
 ·lia
 ·rw[y9 e]at h;have:=w6 h;lia
def KA{l:()}{w:()}{p:zu}{q:Nat}(G:OG l ns k)(hp:zO k l ns p.2 p.1=Bw/\(∀c ∈ p.1,c ∈ l)/\∀c ∈ p.2,c ∈ l)(hw:∀c ∈ w,c ∈ l)(h2:zx w (q:Int) p.1=Bw):zO k l ns (yV w (q:Int) p.1 p.2) w=Bw/\∀c ∈ yV w (q:Int) p.1 p.2,c ∈ l:=by have e1:=WI h2;obtain⟨p1,p2,p3⟩:=hp;unfold yV;rw[az];have ha:∀c ∈ w.take q,c ∈ l:=λc hc=>hw c (bo hc);have hb:∀c ∈ w.drop (q+p.1.length),c ∈ l:=λc hc=>hw c (cr hc);generalize w.take q=a at *;generalize w.drop (q+p.1.length)=b at *;rw[<- e1];have ap:∀x:(),(∀c ∈ x,c ∈ l)->∀c ∈ a ++ x,c ∈ l:=λx hx c hc=>(BD.mp hc).elim (ha c) (hx c);refine#[?_,λc hc=>(BD.mp hc).elim (ap p.2 p3 c) (hb c)];rw[(uH G hb (ap p.2 p3) (ap p.1 p2)).2,(uH G ha p3 p2).1];exact p1
def KQ{t:N3}(ht:t ∈ ovA ps ps.length):∃r r2,ps[t.1]? = Bu r/\ps[t.2.1]? = Bu r2/\t.2.2<r.1.length/\xb r.1 r2.1 t.2.2=Bw/\pkA ps t=yV (yf r.1 r2.1 t.2.2) 0 r.1 r.2/\pkB ps t=yV (yf r.1 r2.1 t.2.2) (t.2.2:Nat) r2.1 r2.2:=by
 obtain⟨i1,i2,i3,i4⟩:=uX ht;obtain⟨r,hr⟩:∃r,ps[t.1]? = Bu r:=#[_,ah i1];obtain⟨r2,hr2⟩:∃r,ps[t.2.1]? = Bu r:=#[_,ah i2];have l1:=wJ hr;have l2:=wJ hr2;have d1:ps.getD t.1 ([],[])=r:=by rw[af,hr];rfl
 have d2:ps.getD t.2.1 ([],[])=r2:=by rw[af,hr2];rfl
 rw[l1]at i3;rw[l1,l2]at i4;exact#[r,r2,hr,hr2,i3,i4,by unfold pkA;rw[l1,l2,d1],by unfold pkB;rw[l1,l2,d2]]
theorem Wv{v:()}{J:Nat}(h:zJ (wAt ps v J) ps=Bv):∀d,wAt ps v (J+d)=wAt ps v J
 | 0=>rfl
 | d+1=>by
  show Vc ps (wAt ps v (J+d))=_;rw[Wv h d];unfold Vc;rw[h];rfl
def Rw(ps:List zu)(u v:()):Prop:=∃p,p ∈ ps/\∃a b,u=a ++ p.1 ++ b/\v=a ++ p.2 ++ b
inductive Rws(ps:List zu):()->()->Prop where
 | nil {u:()}:Rws ps u u
 | cons {u v w:()} (h:Rw ps u v) (h2:Rws ps v w):Rws ps u w
theorem Rws.trans{u v w:()}(h:Rws ps u v)(h2:Rws ps v w):Rws ps u w:=by
 induction h with
 | nil=>exact h2
 | cons s _ ih=>exact .cons s (ih h2)
def Rws.one{u v:()}(h:Rw ps u v):Rws ps u v:=.cons h .nil
def Rw.ctx{u v:()}(h:Rw ps u v)(c d:()):Rw ps (c ++ u ++ d) (c ++ v ++ d):=by obtain⟨p,hp,a,b,rfl,rfl⟩:=h;exact#[p,hp,c ++ a,b ++ d,by erw[ao],by erw[ao]]
theorem Rws.ctx{u v:()}(h:Rws ps u v)(c d:()):Rws ps (c ++ u ++ d) (c ++ v ++ d):=by
 induction h with
 | nil=>exact .nil
 | cons s _ ih=>exact .cons (s.ctx c d) ih
def jM{w:()}{p:zu}{q:Nat}(h:zx w (q:Int) p.1=Bw):w=w.take q ++ p.1 ++ w.drop (q+p.1.length)/\yV w (q:Int) p.1 p.2=w.take q ++ p.2 ++ w.drop (q+p.1.length):=by refine#[(WI h).symm,?_];unfold yV;rw[az]
def zcT{w:()}{p:zu}{q:Nat}(hp:p ∈ ps)(h:zx w (q:Int) p.1=Bw):Rw ps w (yV w (q:Int) p.1 p.2) :=
 #[p,hp,_,_,(jM h).1,(jM h).2]
def Qt{w:()}{u:Nat × Nat}(h:zJ w ps=Bu u):Rw ps w (Y7 w ps u):=by obtain⟨p,h1,h2⟩:=J8 h;unfold Y7;rw[xG h1];exact zcT (ae h1) h2
theorem jh{ps:List zu}{w:()}:∀j,Rws ps w (wAt ps w j)
 | 0=>.nil
 | j+1=>by
  have ih:=jh (ps:=ps) (w:=w) j
  cases e:zJ (wAt ps w j) ps with
  | none =>
   have:=Wv e 1;rw[this];exact ih
  | some u =>
   rw[wn e];exact ih.trans (.one (Qt e))
theorem zaE{a o b:()}:zx (a ++ o ++ b) (a.length:Int) o=Bw:=by refine w9 #[⋯,by erw[aj];lia,?_];rw[az,ao,cC,cH]
def zem{i j k:Nat}(hi:i<ps.length)(hj:j<ps.length)(hk:k<(lf ps i).length)(hne:i≠j\/k≠0)(ha:xb (lf ps i) (lf ps j) k=Bw):((i,j,k):N3) ∈ ovA ps ps.length:=by unfold ovA ovI Yx;refine BP.mpr #[i,BK.mpr hi,BP.mpr #[j,BK.mpr hj,BC.mpr #[k,BJ.mpr #[BK.mpr hk,?_],rfl]]];rw[ha,eJ,fm,decide_eq_true_iff,decide_eq_true_iff];exact hne
theorem YY(hmet:∀t ∈ ovA ps ps.length,∃f,Rws ps (pkA ps t) f/\Rws ps (pkB ps t) f){p p':zu}(hp:p ∈ ps)(hp':p' ∈ ps){a b a' b':()}(e:a ++ p.1 ++ b=a' ++ p'.1 ++ b')(hle:a.length<=a'.length):∃t,Rws ps (a ++ p.2 ++ b) t/\Rws ps (a' ++ p'.2 ++ b') t:=by
 obtain⟨m,rfl⟩:∃m,a'=a ++ m:=by
  have h1:a=(a' ++ p'.1 ++ b').take a.length:=by rw[<- e,ao,cH]
  rw[ao,aR hle]at h1;exact#[a'.drop a.length,by conv=>rhs;rw[h1];simp [cp hle]]
 have e1:p.1 ++ b=m ++ p'.1 ++ b':=by
  erw[ao]at e
  have:=dA e;rw[this,ao]
 by_cases hk:p.1.length<=m.length
 ·obtain⟨m',rfl⟩:∃m',m=p.1 ++ m':=by
   have h1:p.1=(m ++ p'.1 ++ b').take p.1.length:=by rw[<- e1,cH]
   rw[ao,aR hk]at h1;exact#[m.drop p.1.length,by conv=>rhs;rw[h1];simp [cp hk]]
  have e2:b=m' ++ p'.1 ++ b':=by
   erw[ao]at e1
   have:=dA e1;rw[this,ao]
  refine#[a ++ p.2 ++ (m' ++ p'.2 ++ b'),.one #[p',hp',a ++ p.2 ++ m',b',by rw[e2];erw[ao],by erw[ao]],.one #[p,hp,a,m' ++ p'.2 ++ b',by erw[ao],rfl]]
 ·have hk':m.length<p.1.length:=Nat.lt_of_not_le hk;by_cases hsame:p=p'/\m=[]
  ·obtain⟨rfl,rfl⟩:=hsame;rw[bq]at e1;have:b=b':=dA e1;rw[this,aT];exact#[_,.nil,.nil]
  ·obtain⟨i,hi⟩:=BM.mp hp;obtain⟨j,hj⟩:=BM.mp hp';have li:=wJ hi;have lj:=wJ hj
   have hne:i≠j\/m.length≠0:=by
    by_cases hij:i=j
    ·refine .inr λh0=>hsame #[?_,BS.mp h0];rw[hij,hj]at hi;exact (Option.some.inj hi).symm
    ·exact .inl hij
   have hag:xb p.1 p'.1 m.length=Bw:=(VG _ _ _).mpr λn hn hkn=>by
    have h1:(p.1 ++ b)[m.length+n]? =(m ++ (p'.1 ++ b'))[m.length+n]?:=by rw[e1,ao]
    rw[bC hkn,bA ⋯,Nat.add_sub_cancel_left,bC hn]at h1;exact h1
   have hov:((i,j,m.length):N3) ∈ ovA ps ps.length:=zem (BB.mp hi).1 (BB.mp hj).1 (by rw[li];exact hk') hne (by rw[li,lj];exact hag);obtain⟨f,f1,f2⟩:=hmet _ hov;obtain⟨r,r2,hr,hr2,_,_,eA,eB⟩:=KQ hov
   have er:r=p:=by
    have h:ps[i]? = Bu r:=hr;rw[hi]at h;exact (Option.some.inj h).symm
   have er2:r2=p':=by
    have h:ps[j]? = Bu r2:=hr2;rw[hj]at h;exact (Option.some.inj h).symm
   subst er er2
   have eb:b=r2.1.drop (r.1.length - m.length) ++ b'.drop (r.1.length - m.length - r2.1.length):=by
    have h1:(r.1 ++ b).drop r.1.length=(m ++ (r2.1 ++ b')).drop r.1.length:=by rw[e1,ao]
    rw[cC,List.drop_append,ba ⋯,bq,List.drop_append]at h1;exact h1
   generalize hc:b'.drop (r.1.length - m.length - r2.1.length)=c at eb
   have hpw:yf r.1 r2.1 m.length ++ c=m ++ r2.1 ++ b':=by
    unfold yf;rw[ao,<- eb,e1]
   have hpl:=wY r.1 r2.1 m.length ⋯
   have hA:pkA ps (i,j,m.length)=r.2 ++ r2.1.drop (r.1.length - m.length):=by
    rw[eA];unfold yV yf;show [] ++ r.2 ++ List.drop (0+r.1.length) _=_;rw[dW,cC,bq]
   have hB:pkB ps (i,j,m.length) ++ c=m ++ r2.2 ++ b':=by
    rw[eB];unfold yV;rw[az]
    have t1:(yf r.1 r2.1 m.length).take m.length=m:=by
     have:=congrArg (List.take m.length) hpw;rw[aR ⋯,ao,cH]at this;exact this
    have t2:(yf r.1 r2.1 m.length).drop (m.length+r2.1.length) ++ c=b':=by
     have:=congrArg (List.drop (m.length+r2.1.length)) hpw;rw[bD ⋯,show m.length+r2.1.length=(m ++ r2.1).length by rw[aj],cC]at this;rw[aj]at this;exact this
    show (yf r.1 r2.1 m.length).take m.length ++ r2.2 ++ (yf r.1 r2.1 m.length).drop (m.length+r2.1.length) ++ c=_;rw[t1,ao,t2]
   refine#[a ++ f ++ c,?_,?_]
   ·have:=f1.ctx a c;rw[hA]at this;rw[eb]
    erw[ao]at this ⊢
    exact this
   ·have:=f2.ctx a c;rw[ao a,hB]at this
    erw[ao]at this ⊢
    exact this
def VE(hmet:∀t ∈ ovA ps ps.length,∃f,Rws ps (pkA ps t) f/\Rws ps (pkB ps t) f){u v1 v2:()}(h1:Rw ps u v1)(h2:Rw ps u v2):∃t,Rws ps v1 t/\Rws ps v2 t:=by
 obtain⟨p,hp,a,b,e1,rfl⟩:=h1;obtain⟨p',hp',a',b',e2,rfl⟩:=h2;rcases Nat.le_total a.length a'.length with h | h
 ·exact YY hmet hp hp' (e1.symm.trans e2) h
 ·obtain⟨t,t1,t2⟩:=YY hmet hp' hp (e2.symm.trans e1) h;exact#[t,t2,t1]
section
variable{k:Nat}{l:()}{ws:List Int}{ps:List zu}
def Below(k:Nat)(l:())(ws:List Int)(w v:()):Prop:=(∀c ∈ v,c ∈ l)/\(v=w\/zO k l ws v w=Bw)
def ur(G:OG l ws k)(hp:∀p ∈ ps,zO k l ws p.2 p.1=Bw/\(∀c ∈ p.1,c ∈ l)/\∀c ∈ p.2,c ∈ l){u v:()}(hu:∀c ∈ u,c ∈ l)(h:Rw ps u v):zO k l ws v u=Bw/\∀c ∈ v,c ∈ l:=by obtain⟨p,hpm,a,b,rfl,rfl⟩:=h;have:=KA (q:=a.length) G (hp p hpm) hu zaE;rw[(jM zaE).2]at this;rw[ao a,cH,show a.length+p.1.length=(a ++ p.1).length by rw[aj],<- ao,cC]at this;exact this
def Below.step(G:OG l ws k)(hp:∀p ∈ ps,zO k l ws p.2 p.1=Bw/\(∀c ∈ p.1,c ∈ l)/\∀c ∈ p.2,c ∈ l){w u v:()}(hu:Below k l ws w u)(h:Rw ps u v):Below k l ws w v:=by
 obtain⟨h1,h2⟩:=ur G hp hu.1 h;refine#[h2,.inr ?_];rcases hu.2 with rfl | h3
 ·exact h1
 ·exact yM h1 h3
end in def mu(k:Nat)(l:())(ws:List Int)(Ws:List (()))(v:()):Nat:=Ws.countP λy=>zO k l ws y v
theorem Yh{α:Type}{p q:α->Bool}:∀{xs:List α} {x:α},(∀z ∈ xs,p z=Bw->q z=Bw)->x ∈ xs->q x=Bw->p x=Bx->xs.countP p<xs.countP q
 | y::xs,x,h,hx,hq,hp=>by
  have mono:xs.countP p<=xs.countP q:=List.countP_mono_left λz hz=>h z (am _ hz);rcases BE.mp hx with rfl | hx
  ·rw[cL hq,dB (by rw[hp];decide)];lia
  ·have ih:=Yh (λz hz=>h z (am _ hz)) hx hq hp;by_cases hy:p y=Bw
   ·rw[cL hy,cL (h y aA hy)];lia
   ·rw[dB hy];by_cases hy2:q y=Bw
    ·rw[cL hy2];lia
    ·rw[dB hy2];exact ih
def zcj{Ws:List (())}{x y:()}(hx:x ∈ Ws)(h:zO k l ws x y=Bw):mu k l ws Ws x<mu k l ws Ws y :=
 Yh (λz _ hz=>yM hz h) hx h yd
end
inductive EqR(ps:List zu):()->()->Prop where
 | refl (u:()):EqR ps u u
 | symm {u v:()} (h:EqR ps u v):EqR ps v u
 | trans {u v w:()} (h:EqR ps u v) (h2:EqR ps v w):EqR ps u w
 | one {u v:()} (h:Rw ps u v):EqR ps u v
theorem Vd(ps:List zu):JX (EqR ps):=#[.refl,.symm,.trans,λ{u v} a b h=>by
 induction h with
 | refl u=>exact .refl _
 | symm _ ih=>exact .symm ih
 | trans _ _ i1 i2=>exact .trans i1 i2
 | one h=>exact .one (h.ctx a b)]
def Uo{p:zu}(h:p ∈ ps):EqR ps p.1 p.2:=.one #[p,h,[],[],by simp,by simp]
theorem zcz{R:()->()->Prop}(hR:JX R)(hp:∀p ∈ ps,R p.1 p.2){u v:()}(h:EqR ps u v):R u v:=by
 induction h with
 | refl u=>exact hR.refl _
 | symm _ ih=>exact hR.symm ih
 | trans _ _ i1 i2=>exact hR.trans i1 i2
 | one h =>
  obtain⟨p,hm,a,b,rfl,rfl⟩:=h;exact hR.ctx a b (hp p hm)
section
variable{k:Nat}{l:()}{ws:List Int}{ps:List zu}
def Dwn(k:Nat)(l:())(ws:List Int)(ps:List zu):Prop:=∀p ∈ ps,zO k l ws p.2 p.1=Bw/\(∀c ∈ p.1,c ∈ l)/\∀c ∈ p.2,c ∈ l
def zge(hp:Dwn k l ws ps){u v:()}(h:Rw ps u v):(∀c ∈ u,c ∈ l) ↔ ∀c ∈ v,c ∈ l:=by
 obtain⟨p,hm,a,b,rfl,rfl⟩:=h;obtain⟨_,h1,h2⟩:=hp p hm
 erw[List.mem_append]
 exact#[λh c hc=>hc.elim (λhc=>hc.elim (λhc=>h c (.inl (.inl hc))) (h2 c)) (λhc=>h c (.inr hc)),λh c hc=>hc.elim (λhc=>hc.elim (λhc=>h c (.inl (.inl hc))) (h1 c)) (λhc=>h c (.inr hc))]
theorem Wq(hp:Dwn k l ws ps){u v:()}(h:EqR ps u v):(∀c ∈ u,c ∈ l) ↔ ∀c ∈ v,c ∈ l:=by
 induction h with
 | refl u=>exact .rfl
 | symm _ ih=>exact ih.symm
 | trans _ _ i1 i2=>exact i1.trans i2
 | one h=>exact zge hp h
end in def zf5(l:()):Nat->List (())
 | 0=>[[]]
 | n+1=>[]::(zf5 l n).flatMap λw=>l.map (·::w)
theorem W4:∀(n:Nat) (v:()),v.length<=n->(∀c ∈ v,c ∈ l)->v ∈ zf5 l n
 | 0,v,h,_=>by rw[BS.mp (Nat.le_zero.mp h)];exact aA
 | n+1,[],_,_=>aA
 | n+1,c::v,h,hm=>am _ (BP.mpr #[v,W4 n v (Nat.le_of_succ_le_succ h) λx hx=>hm x (am _ hx),BC.mpr #[c,hm c aA,rfl]])
theorem JF(G:OG l ws k):∀{v:()},(∀c ∈ v,c ∈ l)->(v.length:Int)<=zp k l ws v
 | [],_=>wv G λc hc=>(nomatch hc)
 | c::v,hm=>by
  have h1:=JF G (v:=v) λx hx=>hm x (am _ hx);have h2:=qi (u:=[c]) G (λx hx=>hm x (by rw[BF.mp hx];exact aA)) (by simp);have h3:=yS (k:=k) (l:=l) (ns:=ws) [c] v;rw[show c::v=[c] ++ v from rfl,h3,aj]
  erw[cT]
  lia
theorem Yl(G:OG l ws k)(w:()):∃Ws:List (()),∀v,Below k l ws w v->v ∈ Ws:=by
 refine#[zf5 l (zp k l ws w).toNat,λv hv=>W4 _ v ?_ hv.1];have h1:=JF G hv.1
 have h2:zp k l ws v<=zp k l ws w:=by
  rcases hv.2 with rfl | h
  ·exact eC _
  ·exact Vm h
 lia
theorem X1(G:OG l ws k)(hp:Dwn k l ws ps)(hmet:∀t ∈ ovA ps ps.length,∃f,Rws ps (pkA ps t) f/\Rws ps (pkB ps t) f){w:()}{Ws:List (())}(hin:∀v,Below k l ws w v->v ∈ Ws):∀(n:Nat) (x:()),mu k l ws Ws x<n->Below k l ws w x->∀v1 v2,Rws ps x v1->Rws ps x v2->∃t,Rws ps v1 t/\Rws ps v2 t
 | 0,x,h,_=>y4 h (bX _)
 | n+1,x,hn,hx=>λv1 v2 h1 h2=>by
  cases h1 with
  | nil=>exact#[v2,h2,.nil]
  | @cons _ y1 _ s1 r1 =>
   cases h2 with
   | nil=>exact#[v1,.nil,.cons s1 r1]
   | @cons _ y2 _ s2 r2 =>
    have b1:=hx.step G hp s1;have b2:=hx.step G hp s2;have m1:=zcj (Ws:=Ws) (hin _ b1) (ur G hp hx.1 s1).1;have m2:=zcj (Ws:=Ws) (hin _ b2) (ur G hp hx.1 s2).1;obtain⟨s,j1,j2⟩:=VE hmet s1 s2;obtain⟨t1,a1,a2⟩:=X1 G hp hmet hin n y1 ⋯ b1 v1 s r1 j1;obtain⟨t,c1,c2⟩:=X1 G hp hmet hin n y2 ⋯ b2 t1 v2 (j2.trans a2) r2;exact#[t,a1.trans c1,c2]
def Met(ps:List zu):Prop:=∀t ∈ ovA ps ps.length,∃f,Rws ps (pkA ps t) f/\Rws ps (pkB ps t) f
def zbX(G:OG l ws k)(hp:Dwn k l ws ps)(hmet:Met ps){x v1 v2:()}(hx:∀c ∈ x,c ∈ l)(h1:Rws ps x v1)(h2:Rws ps x v2):∃t,Rws ps v1 t/\Rws ps v2 t:=by obtain⟨Ws,hin⟩:=Yl G x;exact X1 G hp hmet hin _ x (da _) #[hx,.inl rfl] v1 v2 h1 h2
theorem zdU(G:OG l ws k)(hp:Dwn k l ws ps)(hmet:Met ps){u v:()}(h:EqR ps u v):(∀c ∈ u,c ∈ l)->∃t,Rws ps u t/\Rws ps v t:=by
 induction h with
 | refl u=>exact λ_=>#[u,.nil,.nil]
 | symm h ih =>
  intro hu;obtain⟨t,h1,h2⟩:=ih ((Wq hp h).mpr hu);exact#[t,h2,h1]
 | trans h _ i1 i2 =>
  intro hu;have hv:=(Wq hp h).mp hu;obtain⟨t1,a1,a2⟩:=i1 hu;obtain⟨t2,b1,b2⟩:=i2 hv;obtain⟨t,c1,c2⟩:=zbX G hp hmet hv a2 b1;exact#[t,a1.trans c1,b2.trans c2]
 | one h=>exact λ_=>#[_,.one h,.nil]
theorem Vg(G:OG l ws k)(hp:Dwn k l ws ps){u v:()}(h:Rws ps u v):(∀c ∈ u,c ∈ l)->Below k l ws u v:=by
 induction h with
 | nil=>exact λhu=>#[hu,.inl rfl]
 | @cons u v w s _ ih =>
  intro hu;obtain⟨h1,h2⟩:=ur G hp hu s;obtain⟨h3,h4⟩:=ih h2;refine#[h3,.inr ?_];rcases h4 with rfl | h4
  ·exact h1
  ·exact yM h4 h1
theorem Ym{u v:()}(h:Rws ps u v)(hn:∀p ∈ ps,¬ Within p.1 u):v=u:=by
 cases h with
 | nil=>rfl
 | cons s _ =>
  obtain⟨p,hm,a,b,e,_⟩:=s;exact y4 #[a,b,e] (hn p hm)
end
section
variable{k:Nat}{l:()}{ws:List Int}{es fs:List Ent}
end
def zeX(h:unG ps 40=[]):Met ps:=λt ht=>by
 have hm:JK ps 40 t=Bw:=by
  cases e:JK ps 40 t with
  | true=>rfl
  | false =>
   have:t ∈ unG ps 40:=BJ.mpr #[ht,by rw[e];rfl];rw[h]at this;cases this
 have e:zdb ps 40 (pkA ps t)=zdb ps 40 (pkB ps t):=w6 hm;refine#[zdb ps 40 (pkA ps t),jh _,?_];rw[e];exact jh _
theorem zbu{k n:Nat}{l:()}{kept fresh es:List Ent}{w:Bool}(h:Cpl k l ns n kept fresh w es):w=Bw->Met (zb es):=by
 induction h with
 | out kept fresh=>exact λe=>by cases e
 | slim _=>exact λe=>by cases e
 | far _ _ _ _=>exact λe=>by cases e
 | whole _ _ _ hu=>exact λ_=>zeX hu
 | more _ _ _ _ _ ih=>exact ih
theorem Q2{R:()->()->Prop}(hR:JX R){k n:Nat}{l:()}{kept fresh es:List Ent}{w:Bool}(h:Cpl k l ns n kept fresh w es):w=Bw->ub R es->ub R fresh:=by
 induction h with
 | out kept fresh=>exact λe=>by cases e
 | slim _=>exact λe=>by cases e
 | far _ _ _ _=>exact λe=>by cases e
 | whole h _ _ _=>exact λ_ hk=>(zaU hR h _ rfl).mp hk
 | more h _ _ _ _ ih=>exact λe hk=>(zaU hR h _ rfl).mp λx hx=>ih e hk x (bn _ hx)
theorem Qs{p:zu}(h:rs[i]? = Bu p):∀{n:Nat},i<n->fE i p ∈ fEs rs n
 | n+1,hi=>by
  show _ ∈ fEs rs n ++ ((rs[n]?).map (fE n)).toList;rcases Cd.mp hi with hi | rfl
  ·exact bn _ (Qs h hi)
  ·rw[h];exact aF _ aA
def WL(K:sV):List V->Hp->VK->Prop:=λxs H Q=>∃p ys,xs=[.ref p]/\(SqL K H p ys\/SqT K H p ys)/\∀l,H l=Bv->Q (.ref l) (upd H l (.lst ys))
structure TabAt(H:Hp)(t:sX)(rs:List sX)(tab:List (List Int)):Prop where
 top:H t=Bu (.lst (rs.map V.ref))
 len:rs.length=tab.length
 row:∀(i:Nat) (r:sX) (x:List Int),rs[i]? = Bu r->tab[i]? = Bu x->H r=Bu (.lst (x.map V.int))
def TabAt.same{H H':Hp}{t:sX}{rs:List sX}{tab:List (List Int)}(h:TabAt H t rs tab)(e:Same H H'):TabAt H' t rs tab:=#[e _ _ h.top,h.len,λi r x h1 h2=>e _ _ (h.row i r x h1 h2)]
structure wU(l:())(tab:List (List Int)):Prop where
 lo:1<=tab.length
 hi:tab.length<=8
 wd:∀x ∈ tab,x.length=l.length
 rm:∀x ∈ tab,∀n ∈ x,0<=n/\n<(tab.length:Int)
theorem TabAt.get{t:sX}{rs:List sX}{tab:List (List Int)}(h:TabAt H t rs tab){i:Int}(h0:0<=i)(h1:i<(tab.length:Int)):∃r x,atI (rs.map V.ref) i=Bu (.ref r)/\tab[i.toNat]? = Bu x/\H r=Bu (.lst (x.map V.int)):=by have hl:=h.len;obtain⟨v,e1,e2⟩:=jD (xs:=rs.map V.ref) h0 (by rw[ac];lia);rw[ar]at e2;obtain⟨r,hr,rfl⟩:=BH.mp e2;have hx:tab[i.toNat]? = Bu (tab[i.toNat]'⋯):=ah ⋯;exact#[r,_,e1,hx,h.row _ _ _ hr hx]
theorem VU{t:sX}{rs:List sX}{tab:List (List Int)}{σ:L2.St}{D:sX}{g:TG}(hg:g=yK 0)(h:TabAt H t rs tab)(hb:tab.length<=1000)(hD:H D=Bv)(q:∀(rs':List sX) (H':Hp),Same H H'->TabAt H' D rs' tab->(∀r ∈ D::rs',H r=Bv)->D ∉ rs'->Q (.ref D) H') :
  CompL K t g xw (tCB (WL K) (zL (z6 0) xx)) 1 [] σ H Q D:=by
 have s16:=zW;have hl:=h.len;subst hg;refine CompL.by (xs:=rs.map V.ref) (λi BA H'=>∃rs':List sX,BA=rs'.map V.ref/\rs'.length=i/\Same H H'/\H' D=Bu (.lst BA)/\(∀r ∈ rs',H r=Bv/\r≠D)/\∀(j:Nat) (r:sX) (x:List Int),rs'[j]? = Bu r->tab[j]? = Bu x->H' r=Bu (.lst (x.map V.int))) #[[],rfl,rfl,zd hD,zc,λr h=>(nomatch h),λj r x h=>by simp at h] (λi BA H' _ h'=>by obtain⟨_,_,_,hs,_⟩:=h';exact SqL.of (hs _ _ h.top)) ?_ ?_
 ·refine nm4 ?_;rintro i v BA H' hv ⟨rs',rfl,hi,hs,hH,hf,hr⟩:_;rw[ar]at hv;obtain⟨r,hr0,rfl⟩:=BH.mp hv;have hil:=(BB.mp hr0).1;have hx:tab[i]? = Bu (tab[i]'⋯):=ah ⋯;right;generalize tab[i]'⋯=x at hx;have hrow:=hs _ _ (h.row i r x hr0 hx)
  erw[xw]
  rfl'
  erw[WL]
  rfl'
  refine#[yH,_,.inl (SqL.of hrow),λp hp=>#[zd hp _ _ hH,by rw[ac];lia,CNx.mk (by rw[ac];lia) #[rs' ++ [p],by rw[au];rfl,by rw[aj,hi];rfl,zE (hs.trans (zd hp)) hD,zc,?_,?_]]]
  ·intro r' hr';rcases BD.mp hr' with h' | h'
   ·exact hf r' h'
   ·rw[BF.mp h'];refine#[?_,λe=>by rw[e]at hp;rw[hp]at hH;cases hH]
    cases e:H p with
    | none=>rfl
    | some o=>have:=hs _ _ e;rw[hp]at this;cases this
  ·intro j r' x' h1 h2;by_cases hj:j<i
   ·rw[bC ⋯]at h1;have hm:=hf r' (ae h1);rw[zq hm.2];exact zd hp _ _ (hr j r' x' h1 h2)
   ·rw[bA ⋯]at h1
    have hj0:j=i:=by
     have:=(BB.mp h1).1;simp at this;lia
    subst hj0;rw[hi,e7]at h1;cases h1;rw[hx]at h2;cases h2;rw[zq (λe=>by rw[e]at hp;rw[hp]at hH;cases hH)];exact zc
 ·rintro BA H' ⟨rs',rfl,hi,hs,hH,hf,hr⟩;rw[ac]at hi
  exact q rs' H' hs #[hH,⋯,hr] (λr hr'=>by
   rcases BE.mp hr' with rfl | h'
   ·exact hD
   ·exact (hf r h').1) λh'=>(hf D h').2 rfl
def Us{t:sX}{rs:List sX}{tab:List (List Int)}{σ:L2.St}{D:sX}{g:TG}(hg:g=yK 0)(h:TabAt H t rs tab)(hb:tab.length<=1000)(hD:H D=Bv)(q:∀(rs':List sX) (H':Hp),Same H H'->TabAt H' D rs' tab->(∀r ∈ D::rs',H r=Bv)->Q (.ref D) H') :
  CompL K t g xw (tCB (WL K) (zL (z6 0) xx)) 1 [] σ H Q D :=
 VU hg h hb hD λrs' H' s' t' f' _=>q rs' H' s' t' f'
structure zdg(K:sV)(mg:tw->Option sY)(C:sX):Prop where
 xi:XI K C
 ini:ag K (.ref C) "__init__" = Bu (Bu (.builtin "ValueError.__init__"))
 g:mg "NoWorld" = Bu (.ref C)
 most:∃t,mg "MOST_ROOMS" = Bu (.int 8 t)
def ji:Sp:=λvs H Q _=>∃(l:()) (a:sX) (rs:List sX) (tab:List (List Int)),vs=[.str (tx l),.ref a]/\l.length<=6/\TabAt H a rs tab/\wU l tab/\∀(t:sX) (rs':List sX) (H':Hp),Same H H'->TabAt H' t rs' tab->(∀r ∈ t::rs',H r=Bv)->Q (.ref t) H'
def nG:sQz 2 ["letters","table","row","room"] vA:=by nofun
theorem XJ{f CQ:sX}(B:Bt mg)(TNw:zdg K mg CQ)(F:("table_of"^^^vA)) :(1|||["letters","table"]) ji:=by
 obtain⟨t6,g6⟩:=TNw.most
 exists Fun.okX F nG,0
 ·obtain⟨l,a,rs,tab,rfl,hl6,hT,hG,q⟩:=h
  refine#[_,(zi (zN (zZ (uB xM xM zf (zB B.len (pv 1)) (yC (v:=.int 8) rfl g6 #[t6,rfl]))) (zg (ye hx rfl TNw.xi.toXC TNw.ini rfl TNw.g (za yc ze)))
    zr) (zi (z7 PassesOwn.leaving rfl (z9 (pv 1)) (zt (i:=2) nG.nd rfl (.inl rfl)) (zG (zN (zy uE (zB B.len (pv 2)) (zB B.len (pv 0)) (zA _)) (zg (ye hx rfl TNw.xi.toXC TNw.ini rfl TNw.g (za yc ze)))
     zr) (zg (z7 PassesOwn.leaving rfl (z9 (pv 2)) (zt (i:=3) nG.nd rfl (.inl rfl)) (zg (zN (zZ (uB xM Jk zf (pv 3) (zB B.len (pv 1)))) (zg (ye hx rfl TNw.xi.toXC TNw.ini rfl TNw.g (za yc ze)))
      zr)))))) (zg (zl (yP (own:=["row"]) (caps:=[]) (ix:=[]) (tt:=xw) (te:=(tCB (WL K) (zL (z6 0) xx))) rfl (zM (sc:=zh vA) rfl (!0) (!0) (!0) rfl (!0) (!0) rfl) (z9 (pv 1)) (λ_ _ _ _ _ _=>zt (i:=0) (show List.Nodup [_] by decide) rfl (.inl rfl)) (λ_ _ _ _ _ _=>yg) (λ_ _ _ _ _ _=>(xp yR rfl B.list PySem.Pv.boot_list (za (pv 0) ze)))))))),?_]
  have s16:=zW;have hlen:=hT.len;have hlo:=hG.lo;have hhi:=hG.hi;change H'=H/\σ=[~~~l,!!a,Bv,Bv]
  ·ac_rfl;exact#[_,.inl #[_,SqL.of hT.top,rfl],yE (λ_=>yE (λh=>y4 (by rw[ac];lia) h) λ_=>trivial) λh=>y4 (by rw[ac];lia) h]
  rintro σ H1 ⟨rfl,rfl⟩:_;right;change H'=H1/\∃v2 v3,σ=[~~~l,!!a,v2,v3]
  ·ac_rfl;refine#[#[_,SqL.of hT.top],ForL.by (xs:=rs.map V.ref) (λi σ H'=>H'=H1/\∃v2 v3,σ=[~~~l,!!a,v2,v3]) #[rfl,Bv,Bv,rfl] (λi σ H' _ h=>by rw[h.1];exact SqL.of hT.top) ?_ λσ H' h=>h];refine nm4 ?_;rintro i y σ H' hy ⟨rfl,v2,v3,rfl⟩:_;rw[ar]at hy;obtain⟨r,hr,rfl⟩:=BH.mp hy;have hil:=(BB.mp hr).1;have hx:tab[i]? = Bu (tab[i]'⋯):=ah ⋯;right;generalize tab[i]'⋯=x at hx;have hrow:=hT.row i r x hr hx;have hmx:=ae hx;have hw:=hG.wd x hmx;ac_rfl;refine#[_,.inl #[_,SqL.of hrow,rfl],⋯,yE (λh=>y4 (by rw[ac];lia) h) λ_=>#[#[_,SqL.of hrow],ForL.by (xs:=x.map V.int) (λi σ H''=>H''=H'/\∃v2 v3,σ=[~~~l,!!a,v2,v3]) #[rfl,_,_,rfl] (λi σ H'' _ h=>by rw[h.1];exact SqL.of hrow) ?_ λσ H' h=>h]];refine nm4 ?_;rintro j y σ H'' hy ⟨rfl,v2,v3,rfl⟩:_;rw[ar]at hy;obtain⟨n,hn,rfl⟩:=BH.mp hy;obtain⟨n1,n2⟩:=hG.rm x hmx n (ae hn);right;ac_rfl;exact yE (λ_=>#[_,.inl #[_,SqL.of hT.top,rfl],yE (λh=>y4 (by rw[ac];lia) h) λ_=>trivial]) λh=>y4 n1 h
  rintro σ H2 ⟨rfl,v2,v3,rfl⟩:_;right;ac_rfl;exact#[#[_,SqL.of hT.top],λD hD=>Us rfl hT ⋯ hD λrs' H' s' t' f'=>q D rs' H' s' t' f']
structure zaB(K:sV)(mg:tw->Option sY)(CV:sX):Prop where
 cl:Cls K CV
 g:mg "World" = Bu (.ref CV)
 nl:NoAttr K CV "letters"
 nt:NoAttr K CV "table"
def WorAt(CV:sX)(H:Hp)(o:sX)(l:())(t:sX)(rs:List sX)(tab:List (List Int)):Prop:=∃dx,H o=Bu (.ins CV dx [("letters",.str (tx l)),("table",.ref t)])/\TabAt H t rs tab
def WorAt.same{CV:sX}{H H':Hp}{o t:sX}{l:()}{rs:List sX}{tab:List (List Int)}(h:WorAt CV H o l t rs tab)(e:Same H H'):WorAt CV H' o l t rs tab:=by obtain⟨dx,h1,h2⟩:=h;exact#[dx,e _ _ h1,h2.same e]
def TabAt.updI{p C dx t:sX}{fs gs:List (tw × V)}{rs:List sX}{tab:List (List Int)}(hp:H p=Bu (.ins C dx fs))(h:TabAt H t rs tab):TabAt (upd H p (.ins C dx gs)) t rs tab:=by
 refine#[?_,h.len,λi r x h1 h2=>?_]
 ·rw[zq (λe=>by have:=h.top;rw[e,hp]at this;cases this)];exact h.top
 ·have h3:=h.row i r x h1 h2;rw[zq (λe=>by rw[e,hp]at h3;cases h3)];exact h3
def uF(CV:sX):Sp:=λvs H Q _=>∃(x dx a:sX) (l:()) (rs:List sX) (tab:List (List Int)),vs=[.ref x,.str (tx l),.ref a]/\ue l=Bw/\TabAt H a rs tab/\wU l tab/\H x=Bu (.ins CV dx []) /\
 ∀(t:sX) (rs':List sX) (H':Hp),(∀b o,b≠x->H b=Bu o->H' b=Bu o)->(∀r ∈ t::rs',H r=Bv)->WorAt CV H' x l t rs' tab->Q .non H'
def Zt:sQz 3 ["self","letters","table"] wP:=by nofun
theorem k7{f C CV:sX}(B:Bt mg)(CLw:zaB K mg CV)(F:Fun K "__init__" "World.__init__" wP f fd)(mL:(2>>>"letters_of") ["text"] [] (wu C))(rX:(1>>>"table_of") ["letters","table"] [] ji):(4|||["self","letters","table"]) (uF CV):=by
 exists Fun.okX F Zt,0
 ·obtain⟨x,dx,a,l,rs,tab,rfl,hg,hT,hG,hX,q⟩:=h
  refine#[_,(zi (kL (pv 0) (clP hx mL hr .nil rfl (za (pv 1) ze)) rfl) (zg (kL (pv 0) (clP hx rX hr .nil rfl (za (pv 1) (za (pv 2) ze))) rfl))),?_]
  have s16:=zW;have hg':=w6 hg;change H'=upd H x (.ins CV dx [("letters",.str (tx l))])/\σ=[!!x,~~~l,!!a]
  ·ac_rfl;exact#[l,rfl,⋯,λ_=>#[_,_,_,hX,CLw.cl,CLw.nl,∅,rfl],λe=>by rw[hg]at e;cases e]
  rintro σ H1 ⟨rfl,rfl⟩:_;right;ac_rfl;refine#[l,a,rs,tab,rfl,⋯,hT.updI hX,hG,λt rs' H' s' t' f'=>?_];have hX2:=s' _ _ (zc (H:=H) (a:=x) (o:=.ins CV dx [("letters",.str (tx l))]))
  have fr:∀r ∈ t::rs',H r=Bv/\r≠x:=λr hr'=>by
   have h1:=f' r hr';have h2:r≠x:=λe=>by rw[e,zc]at h1;cases h1
   rw[zq h2]at h1;exact#[h1,h2]
  exact#[_,_,_,hX2,CLw.cl,CLw.nt,by show 1<1000;decide,q t rs' _ (λb o hb e=>by rw[zq hb];exact s' _ _ (by rw[zq hb];exact e)) (λr hr'=>(fr r hr').1) #[dx,zc,t'.updI hX2]]
theorem Uq{CV a:sX}{l:()}{rs:List sX}{tab:List (List Int)}{R:sX->Hp->Prop}(hg:ue l=Bw)(hT:TabAt H a rs tab)(hG:wU l tab)(q:∀(x t:sX) (rs':List sX) (H':Hp),Same H H'->H x=Bv->(∀r ∈ t::rs',H r=Bv)->WorAt CV H' x l t rs' tab->R x H') :
  ∀x dx,H x=Bv->H dx=Bv->dx≠x->uF CV [.ref x,.str (tx l),.ref a] (upd (upd H dx (.own x)) x (.ins CV dx [])) (λv H2=>v=.non/\R x H2) E:=by
 intro x dx hx hdx hne;have sd:=zd (o:=.own x) hdx;have hx1:(upd H dx (.own x)) x=Bv:=by rw[zq hne.symm];exact hx
 have sx:=sd.trans (zd (o:=.ins CV dx []) hx1);refine#[x,dx,a,l,rs,tab,rfl,hg,hT.same sx,hG,zc,λt rs' H' k f hc=>#[rfl,q x t rs' H' (λb o e=>k b o (zI e hx) (sx b o e)) hx (λr hr=>?_) hc]]
 cases e:H r with
 | none=>rfl
 | some o=>have:=sx _ _ e;rw[f r hr]at this;cases this
def qI(CV:sX):Sp:=λvs H Q _=>∃(o t:sX) (l:()) (rs:List sX) (tab:List (List Int)),vs=[.ref o]/\WorAt CV H o l t rs tab/\Q (.int (tab.length:Nat)) H
def j0:sQz 1 ["self"] wB:=by nofun
def ke{f CV:sX}(B:Bt mg)(CLw:zaB K mg CV)(F:Fun K "rooms" "World.rooms" wB f fd) :(1&&&["self"]) (qI CV):=by
 exists F.ok j0
 ·obtain⟨o,t,l,rs,tab,rfl,hW,q⟩:=h;refine#[_,(zg (zl (zB B.len (uj (pv 0) rfl)))),?_];have s16:=zW
  rfl'
  obtain⟨dx,ho,hT⟩:=hW;exact#[_,_,_,ho,CLw.cl,CLw.nt,_,rfl,_,.inl #[_,SqL.of hT.top,rfl],by rw[ac,hT.len];exact q]
def Uk{CV o t:sX}{l:()}{rs:List sX}{tab:List (List Int)}(h:WorAt CV H o l t rs tab)(q:Q (.int (tab.length:Nat)) H):qI CV [.ref o] H Q E:=#[o,t,l,rs,tab,rfl,h,q]
end in def Xq(l:())(tab:List (List Int))(r:Int)(c:Nat):Int:=(tab.getD r.toNat []).getD (l.idxOf c) 0
end in def kq(l:())(tab:List (List Int))(r:Int)(w:()):Int:=w.foldl (Xq l tab) r
theorem K2{l:()}{tab:List (List Int)}(hG:wU l tab){r:Int}(h0:0<=r)(h1:r<(tab.length:Int)){c:Nat}(hc:c ∈ l):0<=Xq l tab r c/\Xq l tab r c<(tab.length:Int):=by have hx:tab[r.toNat]? = Bu (tab[r.toNat]'⋯):=ah ⋯;generalize tab[r.toNat]'⋯=x at hx;have hm:=ae hx;have hi:=bf hc;rw[<- hG.wd x hm]at hi;have hn:x[l.idxOf c]? = Bu x[l.idxOf c]:=ah hi;unfold Xq;rw[af (l:=tab),hx,e8,af,hn,e8];exact hG.rm x hm _ (ae hn)
theorem Qy{l:()}{tab:List (List Int)}(hG:wU l tab):∀{w:()} {r:Int},0<=r->r<(tab.length:Int)->(∀c ∈ w,c ∈ l)->0<=kq l tab r w/\kq l tab r w<(tab.length:Int)
 | [],r,h0,h1,_=>#[h0,h1]
 | c::w,r,h0,h1,hw=>by
  obtain⟨a,b⟩:=K2 hG h0 h1 (hw c (by simp));exact Qy hG (w:=w) a b λx hx=>hw x (by simp [hx])
def QD{l:()}{tab:List (List Int)}{r:Int}{w:()}{i c:Nat}(h:w[i]? = Bu c):kq l tab r (w.take (i+1))=Xq l tab (kq l tab r (w.take i)) c:=by unfold kq;rw[zV h,List.foldl_append];rfl
def zek{l:()}{tab:List (List Int)}(hG:wU l tab){r:Int}{x:List Int}(hx:tab[r.toNat]? = Bu x){c:Nat}(hc:c ∈ l):atI (x.map V.int) ((l.idxOf c:Nat):Int)=Bu (.int (Xq l tab r c)):=by have hm:=ae hx;have hi:=bf hc;rw[<- hG.wd x hm]at hi;have hn:x[l.idxOf c]? = Bu x[l.idxOf c]:=ah hi;refine wX ?_;unfold Xq;rw[ar,hn,af (l:=tab),hx,e8,af,hn];rfl
def jO(CV:sX):Sp:=λvs H Q _=>∃(o t:sX) (l:()) (rs:List sX) (tab:List (List Int)) (r:Int) (w:()),vs=[.ref o,.int r,.str (tx w)]/\WorAt CV H o l t rs tab/\wU l tab/\0<=r/\r<(tab.length:Int)/\(∀c ∈ w,c ∈ l)/\Q (.int (kq l tab r w)) H
def mN:sQz 3 ["self","room","word","letter"] ud:=by nofun
def Y3{f CV:sX}(B:Bt mg)(CLw:zaB K mg CV)(F:Fun K "led" "World.led" ud f fd) :(1&&&["self","room","word"]) (jO CV):=by
 exists F.ok mN
 ·obtain⟨o,t,l,rs,tab,r,w,rfl,hW,hG,h0,h1,hw,q⟩:=h
  refine#[_,(zG (z7 r9 rfl (kN (pv 2)) (zt (i:=3) mN.nd rfl (.inl rfl)) (zg (zC 1 mN.nd (zk ix_list (zk ix_list (uj (pv 0) rfl) (pv 1)) (ux bp fA fB JB (uj (pv 0) rfl) (za (pv 3) ze)))))) (zg (zl (pv 1)))),?_]
  have s16:=zW
  rfl'
  obtain⟨dx,ho,hT⟩:=hW;refine ForS.by (λi σ H'=>H'=H/\∃v3,σ=[!!o,Bu (.int (kq l tab r (w.take i))),~~~w,v3]) #[rfl,Bv,rfl] ?_ ?_
  ·refine nm4 ?_;rintro i c σ H' hc ⟨rfl,v3,rfl⟩:_;have hcl:=hw c (ae hc);obtain⟨a,b⟩:=Qy hG (w:=w.take i) h0 h1 λx hx=>hw x (bo hx);obtain⟨r',x,e1,e2,e3⟩:=hT.get a b;right;ac_rfl;exact#[_,_,_,ho,CLw.cl,CLw.nt,_,rfl,_,rfl,_,SqL.of hT.top,_,e1,_,_,_,ho,CLw.cl,CLw.nl,_,rfl,trivial,_,rfl,_,WZ hcl,_,rfl,_,SqL.of e3,by rw[QD hc];exact zek hG e2 hcl]
  ·rintro σ H' ⟨rfl,v3,rfl⟩
   rfl'
   rw[aJ];exact q
def qK{CV o t:sX}{l:()}{rs:List sX}{tab:List (List Int)}{r:Int}{w:()}(h:WorAt CV H o l t rs tab)(hG:wU l tab)(h0:0<=r)(h1:r<(tab.length:Int))(hw:∀c ∈ w,c ∈ l)(q:Q (.int (kq l tab r w)) H):jO CV [.ref o,.int r,.str (tx w)] H Q E:=#[o,t,l,rs,tab,r,w,rfl,h,hG,h0,h1,hw,q]
end in def qy(l:())(tab:List (List Int))(u v:()):Option Nat:=(aN tab.length).find? λr=>decide (kq l tab (r:Int) u≠kq l tab (r:Int) v)
end in def vO:Option Nat->V
 | none=>.non
 | some r=>.int (r:Nat)
def Je{l:()}{tab:List (List Int)}{u v:()}{r:Nat}(h1:r<tab.length)(h2:kq l tab (r:Int) u≠kq l tab (r:Int) v)(h3:∀j:Nat,j<r->kq l tab (j:Int) u=kq l tab (j:Int) v):qy l tab u v=Bu r:=by unfold qy;rw[List.find?_eq_some_iff_getElem];refine#[by simpa using h2,r,by simpa using h1,by simp,λj hj=>?_];simpa using h3 j hj
def Qp{l:()}{tab:List (List Int)}{u v:()}(h:∀j:Nat,j<tab.length->kq l tab (j:Int) u=kq l tab (j:Int) v):qy l tab u v=Bv:=by unfold qy;rw[gg];intro j hj;simpa using h j (by simpa using hj)
def vI(CV:sX):Sp:=λvs H Q _=>∃(o t:sX) (l:()) (rs:List sX) (tab:List (List Int)) (u v:()),vs=[.ref o,.str (tx u),.str (tx v)]/\WorAt CV H o l t rs tab/\wU l tab/\(∀c ∈ u,c ∈ l)/\(∀c ∈ v,c ∈ l)/\Q (vO (qy l tab u v)) H
def Xv{CV o t:sX}{l:()}{rs:List sX}{tab:List (List Int)}{u v:()}(h:WorAt CV H o l t rs tab)(hG:wU l tab)(hu:∀c ∈ u,c ∈ l)(hv:∀c ∈ v,c ∈ l)(q:Q (vO (qy l tab u v)) H):vI CV [.ref o,.str (tx u),.str (tx v)] H Q E:=#[o,t,l,rs,tab,u,v,rfl,h,hG,hu,hv,q]
def nB:sQz 3 ["self","one","other","room"] xZ:=by nofun
theorem jz{f CV:sX}(B:Bt mg)(CL:zaB K mg CV)(F:Fun K "parted" "World.parted" xZ f fd)(M_world_rooms:DM P w K mg base CX0 1 CV "rooms" ["self"] (qI CV))(M_world_led:DM P w K mg base CX0 1 CV "led" ["self","room","word"] (jO CV)):(2&&&["self","one","other"]) (vI CV):=by
 exists F.ok nB
 ·obtain⟨o,t,l,rs,tab,u,v,rfl,hW,hG,hu,hv,q⟩:=h
  refine#[_,(zG (z7 r9 rfl (yB rfl B.range (za (me0 M_world_rooms CL.cl hr (pv 0)) ze)) (zt (i:=3) nB.nd rfl (.inl rfl)) (zg (zN (zy uE (me1 M_world_led CL.cl hr (pv 0) (za (pv 3) (za (pv 1) ze))) (me1 M_world_led CL.cl hr (pv 0) (za (pv 3) (za (pv 2) ze))) (zA _)) (zg (zl (pv 3)))
     zr))) (zg (zl ym))),?_]
  have s16:=zW
  rfl'
  obtain⟨dx,ho,hT⟩:=id hW;have hhi:=hG.hi;refine#[_,_,ho,rfl,Uk hW ?_];refine#[_,rfl,⋯,⋯,ForR.by (λi σ H'=>H'=H/\(∀j:Nat,j<i->kq l tab (j:Int) u=kq l tab (j:Int) v)/\∃v3,σ=[!!o,~~~u,~~~v,v3]) #[rfl,λj h=>y4 h (bX j),Bv,rfl] ?_ ?_]
  ·refine nm3 ?_;rintro i σ H' hi ⟨rfl,hb,v3,rfl⟩:_;have hi':i<tab.length:=⋯;have e0:(0:Int)+(i:Int)=(i:Int):=⋯;right;ac_rfl;refine#[_,_,ho,rfl,qK hW hG ⋯ ⋯ hu #[_,_,ho,rfl,qK hW hG ⋯ ⋯ hv ?_]];rw[e0];ac_rfl;refine yE (λh=>?_) λh j hj=>?_
   ·rw[Je hi' h hb]at q;exact q
   ·by_cases hj':j<i
    ·exact hb j hj'
    ·have:j=i:=⋯;rw[this];exact Decidable.not_not.mp h
  ·rintro σ H' ⟨rfl,hb,v3,rfl⟩;ac_rfl;rw[Qp λj hj=>hb j ⋯]at q;exact q
end in def vP(l:())(tab:List (List Int)):List zu->Nat->Option (Nat × Nat)
 | [],_=>Bv
 | p::ps,i=>match qy l tab p.1 p.2 with
  | some r=>Bu (i,r)
  | none=>vP l tab ps (i+1)
theorem kG{l:()}{tab:List (List Int)}:∀{ps:List zu} {i k:Nat} {p:zu},ps[i]? = Bu p->(∀(j:Nat) (q:zu),j<i->ps[j]? = Bu q->qy l tab q.1 q.2=Bv)->∀r,qy l tab p.1 p.2=Bu r->vP l tab ps k=Bu (k+i,r)
 | q::ps,0,k,p,h,_,r,hr=>by
  cases h
  erw[vP,hr,Nat.add_zero]
 | q::ps,i+1,k,p,h,hb,r,hr=>by
  have h0:=hb 0 q ⋯ rfl
  erw[vP,h0]
  rw[kG (ps:=ps) (i:=i) (k:=k+1) h (λj q' hj e=>hb (j+1) q' ⋯ e) r hr];congr 2;lia
theorem kK{l:()}{tab:List (List Int)}:∀{ps:List zu} {k:Nat},(∀(j:Nat) (q:zu),ps[j]? = Bu q->qy l tab q.1 q.2=Bv)->vP l tab ps k=Bv
 | [],_,_=>rfl
 | q::ps,k,hb=>by
  erw[vP,hb 0 q rfl]
  exact kK λj q' e=>hb (j+1) q' e
def uZ(K:sV)(CV:sX):Sp:=λvs H Q _=>∃(o t a:sX) (l:()) (rs:List sX) (tab:List (List Int)) (ps:List zu),vs=[.ref o,.ref a]/\LsA K H a (ps.map dR)/\WorAt CV H o l t rs tab/\wU l tab/\(∀p ∈ ps,(∀c ∈ p.1,c ∈ l)/\∀c ∈ p.2,c ∈ l) /\
 (vP l tab ps 0=Bv->∀H',Same H H'->Q .non H')/\∀i r,vP l tab ps 0=Bu (i,r)->∀p H',Same H H'->H' p=Bu (.tup [.int (i:Nat),.int (r:Nat)])->Q (.ref p) H'
def iI:sQz 2 ["self","pacts","number","pact","room"] wa:=by nofun
theorem jb{f CV:sX}(B:Bt mg)(CL:zaB K mg CV)(F:Fun K "broken" "World.broken" wa f fd)(M_world_parted:DM P w K mg base CX0 2 CV "parted" ["self","one","other"] (vI CV)):(3&&&["self","pacts"]) (uZ K CV):=by
 exists F.ok iI
 ·obtain⟨o,t,a,l,rs,tab,ps,rfl,hA,hW,hG,hp,q1,q2⟩:=h
  refine#[_,(zG (z7 r9 rfl (xy rfl B.enum (za (pv 1) ze)) (vm (n:=2) rfl (zP (zt (i:=2) iI.nd rfl (.inl rfl)) (zP (zt (i:=3) iI.nd rfl (.inl rfl)) xC))) (zG (zC 4 iI.nd (me1 M_world_parted CL.cl hr (pv 0) (za (!-3) (za (!-3) ze)))) (zg (zN (zy op_notN' (pv 4) ym (zA _)) (zg (zl (zS (za (pv 2) (za (pv 4) ze)))))
     zr)))) (zg (zl ym))),?_]
  have s16:=zW
  rfl'
  obtain⟨xs,hX,hI⟩:=id hA;have hXL:=hI.len;rw[ac]at hXL;refine#[#[_,SqL.of hX],ForEL.by (xs:=xs) (λi σ H'=>Same H H'/\(∀(j:Nat) (p:zu),j<i->ps[j]? = Bu p->qy l tab p.1 p.2=Bv)/\∃v2 v3 v4,σ=[!!o,!!a,v2,v3,v4]) #[Same.refl _,λj p h=>y4 h (bX j),_,_,_,rfl] ?_ ?_ ?_]
  ·rintro i σ H' _ ⟨hs,_⟩;exact SqL.of (hs _ _ hX)
  ·rintro i x σ H' p hx ⟨hs,hb,v2,v3,v4,rfl⟩ hpn;obtain⟨r,pr,hri,rfl,hqr⟩:=hI.getR hx;have hm:=hp r (ae hri);have s2:=hs.trans (zd (o:=.tup [.int (i:Nat),.ref pr]) hpn);have hW2:=hW.same s2;obtain⟨dx,ho,_⟩:=id hW2;have hq2:=zo s2 hqr;ac_rfl;refine#[_,SqT.of zc,rfl,_,_,rfl,_,_,rfl,rfl,_,_,ho,rfl,_,rfl,_,hq2,_,rfl,_,rfl,_,hq2,_,rfl,Xv hW2 hG hm.1 hm.2 ?_]
   cases e:qy l tab r.1 r.2 with
   | none =>
    erw[vO]
    ac_rfl;refine#[s2,λj p' hj hp'=>?_];by_cases hj':j<i
    ·exact hb j p' hj' hp'
    ·have:j=i:=⋯;rw[this,hri]at hp';cases hp';exact e
   | some z =>
    erw[vO]
    ac_rfl;have hbr:=kG (k:=0) hri hb z e;rw[dW]at hbr;exact#[⋯,λp3 hp3=>q2 i z hbr p3 _ (s2.trans (zd hp3)) zc]
  ·rintro σ H' ⟨hs,hb,v2,v3,v4,rfl⟩;ac_rfl;exact q1 (kK λj p' e=>hb j p' (by have:=(BB.mp e).1;lia) e) H' hs
structure Kk(K:sV)(mg:tw->Option sY)(CM:sX):Prop where
 xi:XI K CM
 ini:ag K (.ref CM) "__init__" = Bu (Bu (.builtin "ValueError.__init__"))
 g:mg "TooMany" = Bu (.ref CM)
 most:∃t,mg "MOST_TABLES" = Bu (.int 1000 t)
def zfU{n k:Nat}(h1:n<=8)(h2:k<=6):n * k<=48:=fF h1 h2
def qJ:Sp:=λvs H Q _=>∃(l:()) (n:Nat),vs=[.str (tx l),.int (n:Nat)]/\l.length<=6/\n<=8/\Q (.int ((n ^ (n * l.length):Nat):Int)) H
def YI{l:()}(h1:l.length<=6)(h2:n<=8)(q:Q (.int ((n ^ (n * l.length):Nat):Int)) H):qJ [.str (tx l),.int (n:Nat)] H Q E:=#[l,n,rfl,h1,h2,q]
def Ka(n i:Nat):((n ^ i:Nat):Int) * (n:Int)=((n ^ (i+1):Nat):Int):=by rw[Nat.pow_succ,dZ]
def iO:sQz 2 ["letters","rooms","count","cell"] wo:=by nofun
theorem kj(B:Bt mg)(F:("table_count"^^^wo)) :(1&&&["letters","rooms"]) qJ:=by
 exists F.ok iO
 ·obtain⟨l,n,rfl,h1,h2,q⟩:=h
  refine#[_,(zG (zC 2 iO.nd zf) (zG (z7 r9 rfl (yB rfl B.range (za (zD ZG (pv 1) (zB B.len (pv 0))) ze)) (zt (i:=3) iO.nd rfl (.inl rfl)) (zg (zC 2 iO.nd (zD ZG (pv 2) (pv 1))))) (zg (zl (pv 2))))),?_]
  have s16:=zW
  rfl'
  have hm:=zfU h2 h1;have em:((n:Int) * (l.length:Int))=((n * l.length:Nat):Int):=by rw[dZ]
  refine#[⋯,.inl #[⋯,⋯],?_];rw[em];refine#[⋯,⋯,ForR.by (λi σ H'=>H'=H/\∃v3,σ=[~~~l,-~~~n,Bu (.int ((n ^ i:Nat):Int)),v3]) #[rfl,_,rfl] ?_ ?_]
  ·refine nm3 ?_;rintro i σ H' hi ⟨rfl,v3,rfl⟩:_;right
   rfl'
   exact#[.inr #[⋯,⋯],Ka n i]
  ·rintro σ H' ⟨rfl,v3,rfl⟩
   rfl'
   rw[az];exact q
def um:Sp:=λvs H Q _=>∃(l:()) (n:Nat),vs=[.str (tx l),.int (n:Nat)]/\l.length<=6/\n<=8/\Q (.bl (decide (n ^ (n * l.length)<=1000))) H
def kA{l:()}(h1:l.length<=6)(h2:n<=8)(q:Q (.bl (decide (n ^ (n * l.length)<=1000))) H):um [.str (tx l),.int (n:Nat)] H Q E:=#[l,n,rfl,h1,h2,q]
theorem Kp(a:Nat):decide ((a:Int)<=1000)=decide (a<=1000):=by
 by_cases h:a<=1000
 ·rw[w9 h,w9 ⋯]
 ·rw[y3 h,y3 ⋯]
def qB:sQz 2 ["letters","rooms"] xH:=by nofun
def qA{f CM:sX}(B:Bt mg)(TM:Kk K mg CM)(F:("tables_within"^^^xH))(mm:(1<<<"table_count") ["letters","rooms"] [] qJ):(2&&&["letters","rooms"]) um:=by
 obtain⟨t9,g9⟩:=TM.most
 exists F.ok qB
 ·obtain⟨l,n,rfl,h1,h2,q⟩:=h;refine#[_,(zg (zl (yI xM (cl0 mm hr .nil rfl (za (pv 0) (za (pv 1) ze))) (yC (v:=.int 1000) rfl g9 #[t9,rfl]) (zA _)))),?_];have s16:=zW
  rfl'
  refine YI h1 h2 ?_
  rfl'
  rw[Kp];exact q
end in def kn(n N i:Nat):Int:=((N / n ^ i % n:Nat):Int)
end in def zc8(n k N r:Nat):List Int:=(aN k).map λj=>kn n N (n * k - 1 - (r * k+j))
end in def ZX(n k N:Nat):List (List Int):=(aN n).map λr=>zc8 n k N r
theorem zcy{n N i:Nat}(h:1<=n):0<=kn n N i/\kn n N i<(n:Int):=by have:=Nat.mod_lt (N / n ^ i) (show 0<n by lia);unfold kn;lia
def ZH(n k N:Nat):(ZX n k N).length=n:=by simp [ZX]
def X9{l:()}(N:Nat)(h1:1<=n)(h8:n<=8):wU l (ZX n l.length N):=by
 refine#[by rw[ZH];exact h1,by rw[ZH];exact h8,λx hx=>?_,λx hx z hz=>?_]
 ·obtain⟨r,_,rfl⟩:=BC.mp hx;simp [zc8]
 ·obtain⟨r,_,rfl⟩:=BC.mp hx;obtain⟨j,_,rfl⟩:=BC.mp hz;rw[ZH];exact zcy h1
theorem zbI{n k N r:Nat}(hr:r<n):((((aN (n * k)).map (kn n N)).reverse).drop (r * k)).take k=zc8 n k N r:=by
 have hb:r * k+k<=n * k:=by
  have:=d4 k (show r+1<=n by lia);rw[Nat.add_mul,Nat.one_mul]at this;exact this
 apply eM;intro j;by_cases hj:j<k
 ·rw[br hj,eF,bz (by simp;lia),ar,d9 (by simp;lia),zc8,ar,d9 hj];simp
 ·rw[bh (by simp [aE];lia),bh (by simp [zc8];lia)]
def QM(n N i:Nat):N / n ^ i / n=N / n ^ (i+1):=by rw[Nat.div_div_eq_div_mul,Nat.pow_succ]
def vU:Sp:=λvs H Q _=>∃(l:()) (n N:Nat),vs=[.str (tx l),.int (n:Nat),.int (N:Nat)]/\1<=l.length/\l.length<=6/\1<=n/\n<=8/\∀(t:sX) (rs:List sX) (H':Hp),Same H H'->TabAt H' t rs (ZX n l.length N)->(∀r ∈ t::rs,H r=Bv)->Q (.ref t) H'
def YX{l:()}{n N:Nat}(h1:1<=l.length)(h2:l.length<=6)(h3:1<=n)(h4:n<=8)(q:∀(t:sX) (rs:List sX) (H':Hp),Same H H'->TabAt H' t rs (ZX n l.length N)->(∀r ∈ t::rs,H r=Bv)->Q (.ref t) H'):vU [.str (tx l),.int (n:Nat),.int (N:Nat)] H Q E:=#[l,n,N,rfl,h1,h2,h3,h4,q]
theorem zbz{n k:Nat}(h1:1<=n)(h2:1<=k):(p9 0 ((n * k:Nat):Int) (k:Int)).toNat=n:=by
 have hp:0<n * k:=Nat.mul_pos h1 h2;unfold p9;rw[y6 ⋯,y6 ⋯];have e:(((n * k:Nat):Int) - 0 - 1)=((n * k - 1:Nat):Int):=⋯
 have e2:(n * k - 1) / k=n - 1:=by
  obtain⟨m,rfl⟩:∃m,n=m+1:=#[n - 1,⋯];rw[Nat.add_mul,Nat.one_mul,show m * k+k - 1=(k - 1)+m * k by lia,Nat.add_mul_div_right _ _ ⋯,Nat.div_eq_of_lt ⋯];lia
 rw[e,<- Int.natCast_ediv,e2];lia
theorem Jo{c:sX}{l:()}{n N:Nat}{σ:L2.St}{D:sX}{g:TG}{ix:()}{te:TE}(hg:g=yK 0)(hte:te=tSl (zez K) (z6 1) (Ys (z6 0)) (Ys (tOp Y1 (z6 0) (tCB (Wp K) (zL (z6 2) xx)))))(hi:vx σ 1 ix=[Bv,!!c,~~~l])(hc:H c=Bu (.lst ((((aN (n * l.length)).map (kn n N)).reverse).map V.int))) (h1:1<=l.length) (h2:l.length<=6) (h3:1<=n) (h4:n<=8) (hD:H D=Bv)(q:∀(rs:List sX) (H':Hp),Same H H'->TabAt H' D rs (ZX n l.length N)->(∀r ∈ D::rs,H r=Bv)->Q (.ref D) H'):CompK 0 (l.length:Nat) n g xw te 1 ix σ H Q D:=by
 have s16:=zW;have hmm:=zfU h4 h2;subst hg hte;refine CompK.by (λi BA H'=>∃rs:List sX,BA=rs.map V.ref/\rs.length=i/\Same H H'/\H' D=Bu (.lst BA)/\(∀r ∈ rs,H r=Bv/\r≠D)/\∀(j:Nat) (r:sX),rs[j]? = Bu r->H' r=Bu (.lst ((zc8 n l.length N j).map V.int))) #[[],rfl,rfl,zd hD,zc,λr h=>(nomatch h),λj r h=>by simp at h] ?_ ?_
 ·refine nm3 ?_;rintro i BA H' hin ⟨rs,rfl,hrl,hs,hH,hf,hr⟩:_;have hc':=hs _ _ hc;have ei:(0:Int)+(i:Int) * (l.length:Int)=((i * l.length:Nat):Int):=by rw[Int.zero_add,dZ]
  right;dsimp only;rw[ei];have hil:i * l.length<=48:=aK (d4 _ (by lia:i<=n)) hmm
  erw[xw,yK,hi]
  rfl'
  refine#[yH,⋯,_,SqL.of hc',λp hp=>?_];rw[U3 _ ⋯ ⋯];have e1:(((i * l.length:Nat):Int)).toNat=i * l.length:=az _;have e2:(((i * l.length:Nat):Int)+(l.length:Int) - ((i * l.length:Nat):Int)).toNat=l.length:=⋯;rw[e1,e2,zbI hin];have hpD:p≠D:=λe=>by rw[e]at hp;rw[hp]at hH;cases hH
  refine#[zd hp _ _ hH,by rw[ac];lia,CNx.mk hin #[rs ++ [p],by rw[au];rfl,by rw[aj,hrl];rfl,zE (hs.trans (zd hp)) hD,zc,λr' hr'=>?_,λj r' h1=>?_]]
  ·rcases BD.mp hr' with h' | h'
   ·exact hf r' h'
   ·rw[BF.mp h'];refine#[?_,hpD]
    cases e:H p with
    | none=>rfl
    | some o=>have:=hs _ _ e;rw[hp]at this;cases this
  ·by_cases hj:j<i
   ·rw[bC ⋯]at h1;rw[zq (hf r' (ae h1)).2];exact zd hp _ _ (hr j r' h1)
   ·rw[bA ⋯]at h1
    have hj0:j=i:=by
     have:=(BB.mp h1).1;simp at this;lia
    subst hj0;rw[hrl,e7]at h1;cases h1;rw[zq hpD];exact zc
 ·rintro BA H' ⟨rs,rfl,hrl,hs,hH,hf,hr⟩
  refine q rs H' hs #[hH,by rw[ZH,hrl],λi r x h1 h2=>?_] λr hr'=>by
   rcases BE.mp hr' with rfl | h'
   ·exact hD
   ·exact (hf r h').1
  rw[hr i r h1];unfold ZX at h2;rw[ar]at h2;obtain⟨z,hz,rfl⟩:=BH.mp h2;have:=(BB.mp hz).2;simp at this;rw[this]
def ml:sQz 3 ["letters","rooms","number","cells","cell"] vE:=by nofun
theorem Xz(B:Bt mg)(F:("table_at"^^^vE)) :(1&&&["letters","rooms","number"]) vU:=by
 exists F.ok ml
 ·obtain⟨l,n,N,rfl,h1,h2,h3,h4,q⟩:=h
  refine#[_,(zi (jF (i:=3) ml.nd rfl (Or.inr rfl) (uK ze)) (zi (z7 r9 rfl (yB rfl B.range (za (zD ZG (pv 1) (zB B.len (pv 0))) ze)) (zt (i:=4) ml.nd rfl (.inl rfl)) (zG (vn (ux bV cI cJ wQ (pv 3) (za (zD xO (pv 2) (pv 1)) ze))) (zg (zC 2 ml.nd (zD xE (pv 2) (pv 1)))))) (zi (vn (zeM bV PySem.F.slot_list_reverse PySem.F.type_list_reverse VB (pv 3))) (zg (zl (yP (own:=["start"]) (caps:=["cells","letters"]) (ix:=[3,0]) (tt:=xw) (te:=(tSl (zez K) (z6 1) (Ys (z6 0)) (Ys (tOp Y1 (z6 0) (tCB (Wp K) (zL (z6 2) xx)))))) rfl (zM (sc:=zh vE) rfl (!0) (!0) (!0) rfl (!0) (!0) rfl) (Q1 rfl B.range (za zf (za (zB B.len (pv 3)) (za (zB B.len (pv 0)) ze)))) (λ_ _ _ _ _ _=>zt (i:=0) (show List.Nodup [_,_,_] by decide) rfl (.inl rfl)) (λ_ _ _ _ _ _=>yg) (λ_ _ _ _ _ _=>(zR za9 (pv 1) (zU (pv 0)) (zU (zD uO (pv 0) (zB B.len (pv 2)))))))))))),?_]
  have s16:=zW;have hm:=zfU h4 h2;have em:((n:Int) * (l.length:Int))=((n * l.length:Nat):Int):=by rw[dZ]
  change ∃c,H c=Bv/\Same H H'/\H' c=Bu (.lst [])/\σ=[~~~l,-~~~n,-~~~N,!!c,Bv]
  ·rfl'
   exact#[⋯,λc hc=>#[c,hc,zd hc,zc,rfl]]
  rintro σ H1 ⟨c,hcn,s1,hc,rfl⟩:_;right;change ∃v2 v4,Same H H'/\H' c=Bu (.lst (((aN (n * l.length)).map (kn n N)).map V.int))/\σ=[~~~l,-~~~n,v2,!!c,v4]
  ·rfl'
   refine#[⋯,.inl #[⋯,⋯],?_];rw[em];refine#[⋯,⋯,ForR.by (λi σ H'=>∃v4,Same H H'/\H' c=Bu (.lst (((aN i).map (kn n N)).map V.int))/\σ=[~~~l,-~~~n,Bu (.int ((N / n ^ i:Nat):Int)),!!c,v4]) #[_,s1,hc,by rw[Nat.pow_zero,Nat.div_one]] ?_ ?_]
   ·refine nm3 ?_;rintro i σ H' hi ⟨v4,hs,hc',rfl⟩:_;rw[az]at hi;right
    rfl'
    refine#[.inl #[_,SqL.of hc'],⋯,_,hc',by erw[ac,cw];lia,#[⋯,⋯],?_];refine#[zE hs hcn,?_,?_]
    ·rw[zc,cE,au,au,<- Int.natCast_emod];rfl
    ·rw[<- Int.natCast_ediv,QM]
   ·rintro σ H' ⟨v4,hs,hc',rfl⟩;rw[az]at hc';exact#[hs,hc',_,_,rfl]
  rintro σ H2 ⟨v2,v4,s2,hc2,rfl⟩:_;right;change Same H H'/\H' c=Bu (.lst ((((aN (n * l.length)).map (kn n N)).reverse).map V.int))/\σ=[~~~l,-~~~n,v2,!!c,v4]
  ·rfl'
   erw[W3]
   rfl'
   refine#[.inl #[_,SqL.of hc2],_,hc2,zE s2 hcn,?_];rw[zc,eX]
  rintro σ H3 ⟨s3,hc3,rfl⟩:_;right
  erw[zaQ,zet]
  rfl'
  refine#[_,.inl #[_,SqL.of hc3,rfl],⋯,∅,∅,⋯,by erw[ac,bE,cw];lia,⋯,⋯,λD hD=>?_]
  have en:(p9 0 (((List.map V.int ((List.map (kn n N) (aN (n * l.length))).reverse)).length:Nat):Int) (l.length:Nat)).toNat=n:=by
   rw[ac,bE,ac,cw];exact zbz h3 h1
  rw[en]
  exact Jo rfl rfl rfl hc3 h1 h2 h3 h4 hD λrs H' s' hT hf=>q D rs H' (s3.trans s') hT λr hr'=>by
   cases e:H r with
   | none=>rfl
   | some o=>have:=s3 _ _ e;rw[hf r hr']at this;cases this
end in def qd(l:())(tab:List (List Int))(ps:List zu)(u v:()):Bool:=decide (kq l tab 0 u≠kq l tab 0 v) && (vP l tab ps 0).isNone
abbrev zc9(l:())(u:()):Prop:=∀c ∈ u,c ∈ l
abbrev InP(l:())(ps:List zu):Prop:=∀p ∈ ps,(∀c ∈ p.1,c ∈ l)/\∀c ∈ p.2,c ∈ l
def Zg(K:sV)(CV:sX):Sp:=λvs H Q _=>∃(o t a:sX) (l:()) (rs:List sX) (tab:List (List Int)) (ps:List zu) (u v:()),vs=[.ref o,.ref a,.str (tx u),.str (tx v)]/\LsA K H a (ps.map dR)/\WorAt CV H o l t rs tab/\wU l tab/\InP l ps/\zc9 l u/\zc9 l v/\∀H',Same H H'->Q (.bl (qd l tab ps u v)) H'
def UH{CV o t a:sX}{l:()}{rs:List sX}{tab:List (List Int)}{u v:()}(h1:LsA K H a (ps.map dR))(h2:WorAt CV H o l t rs tab)(h3:wU l tab)(h4:InP l ps)(h5:zc9 l u)(h6:zc9 l v)(q:∀H',Same H H'->Q (.bl (qd l tab ps u v)) H'):Zg K CV [.ref o,.ref a,.str (tx u),.str (tx v)] H Q E:=#[o,t,a,l,rs,tab,ps,u,v,rfl,h1,h2,h3,h4,h5,h6,q]
def kh:sQz 4 ["world","pacts","one","other"] wH:=by nofun
theorem ka{f CV:sX}(B:Bt mg)(CL:zaB K mg CV)(F:("tells_apart"^^^wH))(M_world_led:DM P w K mg base CX0 1 CV "led" ["self","room","word"] (jO CV))(M_world_broken:DM P w K mg base CX0 3 CV "broken" ["self","pacts"] (uZ K CV)):(4&&&["world","pacts","one","other"]) (Zg K CV):=by
 exists F.ok kh
 ·obtain⟨o,t,a,l,rs,tab,ps,u,v,rfl,hA,hW,hG,hp,hu,hv,q⟩:=h
  refine#[_,(zG (zN (zy wF (me1 M_world_led CL.cl hr (pv 0) (za zf (za (pv 2) ze))) (me1 M_world_led CL.cl hr (pv 0) (za zf (za (pv 3) ze))) (zA _)) (zg (zl yt))
    zr) (zg (zl (yI op_isN' (me1 M_world_broken CL.cl hr (pv 0) (za (pv 1) ze)) ym (zA _))))),?_]
  have s16:=zW
  rfl'
  obtain⟨dx,ho,hT⟩:=id hW;have hlo:=hG.lo;refine#[_,_,ho,rfl,qK hW hG ⋯ ⋯ hu #[_,_,ho,rfl,qK hW hG ⋯ ⋯ hv ?_]]
  rfl'
  refine yE (λh=>?_) λh=>?_
  ·have e:qd l tab ps u v=Bx:=by
    unfold qd;rw[y3 (λg=>g h)];rfl
   rw[e]at q;exact q _ (Same.refl _)
  ·have e:qd l tab ps u v=(vP l tab ps 0).isNone:=by
    unfold qd;rw[w9 h,fY]
   rw[e]at q;refine#[_,_,ho,rfl,o,t,a,l,rs,tab,ps,rfl,hA,hW,hG,hp,λhb H' s'=>?_,λi r hb p H' s' hp'=>?_]
   ·rw[hb]at q;exact q H' s'
   ·rw[hb]at q;exact q H' s'
def Ear(l:())(ps:List zu)(u v:())(n N:Nat):Prop:=∀n' N':Nat,1<=n'->N'<n' ^ (n' * l.length)->(n'<n\/n'=n/\N'<N)->qd l (ZX n' l.length N') ps u v=Bx
theorem Kb{l:()}{u v:()}:Ear l ps u v 1 0:=λn' N' h1 _ h=>by lia
theorem K4{l:()}{u v:()}{n N:Nat}(h:Ear l ps u v n N)(hf:qd l (ZX n l.length N) ps u v=Bx):Ear l ps u v n (N+1):=λn' N' h1 h2 h3=>by
 rcases h3 with h3 | ⟨rfl,h3⟩
 ·exact h n' N' h1 h2 (.inl h3)
 ·by_cases e:N'=N
  ·rw[e];exact hf
  ·exact h n' N' h1 h2 (.inr #[rfl,⋯])
theorem zcM{l:()}{u v:()}(h:Ear l ps u v n (n ^ (n * l.length))):Ear l ps u v (n+1) 0:=λn' N' h1 h2 h3=>by
 rcases dU n' n with h4 | h4
 ·exact h n' N' h1 h2 (.inl h4)
 ·have e:n'=n:=⋯;subst e;exact h n' N' h1 h2 (.inr #[rfl,h2])
theorem K6{n m k:Nat}(h1:1<=n)(h:n<=m):n ^ (n * k)<=m ^ (m * k):=aK (Nat.pow_le_pow_left h _) (fS ⋯ (d4 k h))
def Va(K:sV)(CM:sX):Sp:=λvs H Q E=>∃(a:sX) (l:()) (ps:List zu) (u v:()) (m:Nat),vs=[.str (tx l),.ref a,.str (tx u),.str (tx v),.int (m:Nat)]/\ue l=Bw/\LsA K H a (ps.map dR)/\InP l ps/\zc9 l u/\zc9 l v/\m<=8/\(1000<m ^ (m * l.length)->E (.ref CM) Bv H) /\
 (m ^ (m * l.length)<=1000->Ear l ps u v (m+1) 0->∀H',Same H H'->Q .non H') /\
 (m ^ (m * l.length)<=1000->∀n N:Nat,1<=n->n<=m->N<n ^ (n * l.length)->qd l (ZX n l.length N) ps u v=Bw->Ear l ps u v n N->∀(t:sX) (rs:List sX) (H':Hp),Same H H'->TabAt H' t rs (ZX n l.length N)->(∀r ∈ t::rs,H r=Bv)->Q (.ref t) H')
def iP:sQz 5 ["letters","pacts","one","other","most","rooms","number","table"] ww:=by nofun
theorem kd{f CM CV:sX}(B:Bt mg)(TM:Kk K mg CM)(CL:zaB K mg CV)(F:("world_apart"^^^ww))(lv:(2<<<"tables_within") ["letters","rooms"] [] um)(mm:(1<<<"table_count") ["letters","rooms"] [] qJ)(rY:(1<<<"table_at") ["letters","rooms","number"] [] vU)(rh:(4<<<"tells_apart") ["world","pacts","one","other"] [] (Zg K CV))(M_world_init:DMk P w K mg base (CXx P w) 4 CV ["self","letters","table"] (uF CV)):(6|||["letters","pacts","one","other","most"]) (Va K CM):=by
 exists Fun.okX F iP,0
 ·obtain⟨a,l,ps,u,v,m,rfl,hg,hA,hp,hu,hv,m8,q1,q2,q3⟩:=h
  refine#[_,(zi (zN (zZ (yF (cl0 lv hr .nil rfl (za (pv 0) (za (pv 4) ze))) (λ_=>rfl))) (zg (ye hx rfl TM.xi.toXC TM.ini rfl TM.g (za yc ze)))
    zr) (zi (z7 PassesOwn.leaving rfl (Yz rfl B.range (za zf (za (zD uO (pv 4) zf) ze))) (zt (i:=5) iP.nd rfl (.inl rfl)) (zg (z7 PassesOwn.leaving rfl (yB rfl B.range (za (cl0 mm hr .nil rfl (za (pv 0) (za (pv 5) ze))) ze)) (zt (i:=6) iP.nd rfl (.inl rfl)) (zi (zC 7 iP.nd (cl0 rY hr .nil rfl (za (pv 0) (za (pv 5) (za (pv 6) ze))))) (zg (zN (yF (cl0 rh hr .nil rfl (za (zfo hx M_world_init hr rfl CL.g (za (pv 0) (za (pv 7) ze))) (za (pv 1) (za (pv 2) (za (pv 3) ze))))) (λ_=>rfl)) (zg (zl (pv 7)))
      zr)))))) (zg (zl ym)))),?_]
  have s16:=zW;obtain⟨l1,l6,_,_⟩:=w6 hg;change H'=H/\m ^ (m * l.length)<=1000/\σ=[~~~l,!!a,~~~u,~~~v,-~~~m,Bv,Bv,Bv]
  ·rfl'
   refine kA ⋯ m8 #[_,rfl,?_];by_cases hw:m ^ (m * l.length)<=1000
   ·rw[w9 hw]
    rfl'
    exact hw
   ·rw[y3 hw]
    rfl'
    exact#[⋯,q1 ⋯]
  rintro σ H1 ⟨rfl,hw,rfl⟩:_;right;change Same H1 H'/\Ear l ps u v (m+1) 0/\∃v5 v6 v7,σ=[~~~l,!!a,~~~u,~~~v,-~~~m,v5,v6,v7]
  ·rfl'
   refine#[⋯,⋯,⋯,⋯,ForR.by (λi σ H'=>Same H1 H'/\Ear l ps u v (i+1) 0/\∃v5 v6 v7,σ=[~~~l,!!a,~~~u,~~~v,-~~~m,v5,v6,v7]) #[Same.refl _,Kb,_,_,_,rfl] ?_ ?_]
   ·refine nm3 ?_;rintro i σ H' hi ⟨hs,hE,v5,v6,v7,rfl⟩:_;have him:i+1<=m:=⋯;have e0:(1:Int)+(i:Int)=((i+1:Nat):Int):=⋯;have hpw:=K6 (k:=l.length) ⋯ him;right;dsimp only;rw[e0]
    rfl'
    refine YI ⋯ ⋯ ?_;refine#[_,rfl,⋯,⋯,ForR.by (λj σ H'=>Same H1 H'/\Ear l ps u v (i+1) j/\∃v6 v7,σ=[~~~l,!!a,~~~u,~~~v,-~~~m,Bu (.int ((i+1:Nat):Int)),v6,v7]) #[hs,hE,_,_,rfl] ?_ ?_]
    ·refine nm3 ?_;rintro j σ H'' hj ⟨hs2,hE2,v6,v7,rfl⟩:_;rw[az]at hj;have e1:(0:Int)+(j:Int)=(j:Int):=⋯;right;dsimp only;rw[e1]
     erw[yK,aX,aW]
     refine zj (λσ G=>∃(t:sX) (rs:List sX),Same H1 G/\TabAt G t rs (ZX (i+1) l.length j)/\(∀r ∈ t::rs,H1 r=Bv)/\σ=[~~~l,!!a,~~~u,~~~v,-~~~m,Bu (.int ((i+1:Nat):Int)),Bu (.int (j:Int)),!!t]) ?_ ?_
     ·rfl'
      exact YX l1 ⋯ ⋯ ⋯ λt rs G sG hT hf=>#[hs2.trans sG,t,rs,hT,(λr hr=>by
       cases e:H1 r with
       | none=>rfl
       | some o=>have:=hs2 _ _ e;rw[hf r hr]at this;cases this),rfl]
     rintro σ G ⟨t,rs,sG,hT,hf,rfl⟩:_;have hG:=X9 (l:=l) j (show 1<=i+1 by lia) ⋯;right
     rfl'
     refine Uq hg hT hG λx t' rs' H' s' _ _ hW=>UH ((hA.same sG).same s') hW hG hp hu hv λH'' s''=>#[_,rfl,?_];have sA:=sG.trans (s'.trans s'')
     cases hfit:qd l (ZX (i+1) l.length j) ps u v with
     | true =>
      rfl'
      exact q3 hw (i+1) j ⋯ him hj hfit hE2 t rs H'' sA (hT.same (s'.trans s'')) hf
     | false =>
      rfl'
      exact#[sA,K4 hE2 hfit]
    ·rintro σ H'' ⟨hs2,hE2,v6,v7,rfl⟩;rw[az]at hE2;exact#[hs2,zcM hE2,_,_,_,rfl]
   ·rintro σ H' ⟨hs,hE,v5,v6,v7,rfl⟩;exact#[hs,by rw[show (((m:Nat):Int)+1 - 1).toNat=m by lia]at hE;exact hE,_,_,_,rfl]
  rintro σ H2 ⟨s2,hE,v5,v6,v7,rfl⟩:_;right
  rfl'
  exact q2 hw hE H2 s2
structure TMj(mg:tw->Option sY):Prop where
 u:∃t,mg "MOST_USES_judging" = Bu (.int 40 t)
 s:∃t,mg "MOST_STEPS_judging" = Bu (.int 2000 t)
def zdj(K:sV):Sp:=λvs H Q _=>∃(a:sX) (k:Nat) (l:()) (ns:List Int) (bs:List Ent) (w:()),vs=[.ref a,.str (tx w)]/\OG l ns k/\EnsL K H a bs/\BG k l ns bs/\w.length<=60 /\
 (∀(i:Nat) (p S:sX) (H':Hp),zF (zb bs) w i->Same H H'->H' p=Bu (.tup [.ref S,.str (tx (wAt (zb bs) w i))])->LsA K H' S ((stS (sAt (zb bs) w i)).map dSt)->Q (.ref p) H')/\((∀i,¬ zF (zb bs) w i)->∀H',Same H H'->Q .non H')
def jZ:sQz 2 ["entries","word"] wA:=by nofun
theorem j6{f CF:sX}{lu:Ay}(B:Bt mg)(TFx:zbY K mg CF)(TSb:zf8 K CF)(TM:TMj mg)(F:("gone_within"^^^wA))(nI:(4>>>"gone") ["rules","word","most"] [] (xW K CF))(DD_gone:(4>>>"gone") ["rules","word","most"] [.int 4000 lu] (xW K CF))(gL:(1<<<"pairs_of") ["entries"] [] (wy K)):(5&&&["entries","word"]) (zdj K):=by
 obtain⟨t9,g9⟩:=TM.u
 exists F.ok jZ
 ·obtain⟨a,k,l,ns,bs,w,rfl,hG,hA,hB,hw,q1,q2⟩:=h;refine#[_,(zg (WG (th:=(zaQ (tC .non))) #[rfl,rfl] (clX nI hr .nil rfl (za (cl0 gL hr .nil rfl (za (pv 0) ze)) (za (pv 1) (za (yC (v:=.int 40) rfl g9 #[t9,rfl]) ze)))) rfl TFx.g TFx.xi.ok (λe=>(zg (zl ym))))),?_];have s16:=zW;have s16:=zW;have hpl:=wZ bs;have hbl:=hB.n
  erw[Jt]
  ac_rfl;exact wj hA.is ⋯ λD H1 _ s1 hL=>qb hL (hB.ne hG) ⋯ hB.le hw (λi p S H' hi s' hp hS _=>q1 i p S H' hi (s1.trans s') hp (by rw[Qv]at hS;exact hS)) λhno H' s'=>#[CF,rfl,TSb.s,λx hx=>q2 hno _ ((s1.trans s').trans (zd hx))]
def GwV(K:sV)(ps:List zu)(w:())(H:Hp)(v:V):Prop:=(v=.non/\∀i,¬ zF ps w i)\/∃(i:Nat) (p S:sX),v=.ref p/\zF ps w i/\H p=Bu (.tup [.ref S,.str (tx (wAt ps w i))])/\LsA K H S ((stS (sAt ps w i)).map dSt)
def GwV.same{w:()}{H H':Hp}{v:V}(h:GwV K ps w H v)(s:Same H H'):GwV K ps w H' v:=by
 rcases h with h | ⟨i,p,S,h1,h2,h3,h4⟩
 ·exact .inl h
 ·exact .inr #[i,p,S,h1,h2,s _ _ h3,h4.same s]
end in abbrev Yw(bs:List Ent)(u v:())(i j:Nat):List Stp:=byL bs (stS (sAt (zb bs) u i) ++ yX (stS (sAt (zb bs) v j)))
def NoR(bs:List Ent)(b:Bool)(u v:()):Prop:=(∀i,¬ zF (zb bs) u i)\/(∀j,¬ zF (zb bs) v j)\/∃i j,zF (zb bs) u i/\zF (zb bs) v j/\((wAt (zb bs) u i≠wAt (zb bs) v j/\b=Bx)\/(wAt (zb bs) u i=wAt (zb bs) v j/\2000<(Yw bs u v i j).length))
def zaM(K:sV):Sp:=λvs H Q _=>∃(a:sX) (k:Nat) (l:()) (ns:List Int) (bs:List Ent) (b:Bool) (u v:()),vs=[.bl b,.ref a,.str (tx u),.str (tx v)]/\OG l ns k/\EnsL K H a bs/\BG k l ns bs/\u.length<=60/\v.length<=60/\(NoR bs b u v->∀H',Same H H'->Q .non H') /\
 (∀(i j:Nat) (p:sX) (H':Hp),b=Bw->zF (zb bs) u i->zF (zb bs) v j->wAt (zb bs) u i≠wAt (zb bs) v j->Same H H'->H' p=Bu (.tup [.str "forms",.ref a,.str (tx (wAt (zb bs) u i)),.str (tx (wAt (zb bs) v j))])->Q (.ref p) H') /\
 ∀(i j:Nat) (p S:sX) (H':Hp),zF (zb bs) u i->zF (zb bs) v j->wAt (zb bs) u i=wAt (zb bs) v j->Same H H'->H' p=Bu (.tup [.str "alike",.ref S])->LsA K H' S ((Yw bs u v i j).map dSt)->(Yw bs u v i j).length<=2000->Q (.ref p) H'
def ic:sQz 4 ["whole","kept","one","other","ahead","behind","steps"] xh:=by nofun
theorem uh(B:Bt mg)(TM:TMj mg)(F:("judged_by_roads"^^^xh))(nV:(5<<<"gone_within") ["entries","word"] [] (zdj K))(iM:(2<<<"by_pacts") ["entries","steps"] [] (Qb K))(mM:(1<<<"back") ["steps"] [] (uS K)):(6&&&["whole","kept","one","other"]) (zaM K):=by
 obtain⟨t9,g9⟩:=TM.s
 exists F.ok ic
 ·obtain⟨a,k,l,ns,bs,b,u,v,rfl,hG,hA,hB,hu,hv,q1,q3,q2⟩:=h
  refine#[_,(zi (zC 4 ic.nd (cl0 nV hr .nil rfl (za (pv 1) (za (pv 2) ze)))) (zi (zC 5 ic.nd (cl0 nV hr .nil rfl (za (pv 1) (za (pv 3) ze)))) (zi (zN (PW.pt (vM (zy op_isN' (pv 4) ym (zA _)) (wI (zy op_isN' (pv 5) ym (zA _))))) (zg (zl ym))
    zr) (zi (zN (zy uE (!-4) (!-5) (zA _)) (zg (zl (vF (yF (pv 0) (λ_=>rfl)) (zS (za yc (za (pv 1) (za (!-4) (za (!-5) ze))))) ym)))
    zr) (zi (zC 6 ic.nd (cl0 iM hr .nil rfl (za (pv 1) (za (zD W7 (!-4) (cl0 mM hr .nil rfl (za (!-5) ze))) ze)))) (zg (zl (vF (zy xM (zB B.len (pv 6)) (yC (v:=.int 2000) rfl g9 #[t9,rfl]) (zA _)) (zS (za yc (za (pv 6) ze))) ym)))))))),?_]
  have s16:=zW;have s16:=zW;have hbl:=hB.n;have hpl:=wZ bs;have hst:∀e ∈ bs,e.2.2.length<=600:=λe he=>(hB.e e he).s;change Same H H'/\∃v4,GwV K (zb bs) u H' v4/\σ=[Bu (.bl b),!!a,~~~u,~~~v,Bu (v4),Bv,Bv]
  ·rfl'
   exact#[a,k,l,ns,bs,u,rfl,hG,hA,hB,hu,λi p S H' h1 s' h2 h3=>#[s',.inr #[i,p,S,rfl,h1,h2,h3]],λhno H' s'=>#[s',.inl #[rfl,hno]]]
  rintro σ H1 ⟨s1,v4,hv4,rfl⟩:_;right;change Same H1 H'/\∃v5,GwV K (zb bs) v H' v5/\σ=[Bu (.bl b),!!a,~~~u,~~~v,Bu (v4),Bu (v5),Bv]
  ·rfl'
   exact#[a,k,l,ns,bs,v,rfl,hG,hA.same s1,hB,hv,λi p S H' h1 s' h2 h3=>#[s',.inr #[i,p,S,rfl,h1,h2,h3]],λhno H' s'=>#[s',.inl #[rfl,hno]]]
  rintro σ H2 ⟨s2,v5,hv5,rfl⟩:_;have s12:=s1.trans s2;have hv4':=hv4.same s2;right;change H'=H2/\v4≠.non/\v5≠.non/\σ=[Bu (.bl b),!!a,~~~u,~~~v,Bu (v4),Bu (v5),Bv]
  ·rfl'
   refine yE (λh=>?_) λh=>yE (λh'=>?_) λh'=>#[h,h']
   ·rcases hv4' with ⟨_,hno⟩ | ⟨i,p,S,e,_⟩
    ·exact q1 (.inl hno) _ s12
    ·rw[e]at h;cases h
   ·rcases hv5 with ⟨_,hno⟩ | ⟨i,p,S,e,_⟩
    ·exact q1 (.inr (.inl hno)) _ s12
    ·rw[e]at h';cases h'
  rintro σ H3 ⟨rfl,n4,n5,rfl⟩:_;obtain⟨i,p1,S1,rfl,hi,hp1,hS1⟩:=hv4'.resolve_left λz=>n4 z.1;obtain⟨j,p2,S2,rfl,hj,hp2,hS2⟩:=hv5.resolve_left λz=>n5 z.1;right;change H'=H3/\wAt (zb bs) u i=wAt (zb bs) v j/\σ=[Bu (.bl b),!!a,~~~u,~~~v,!!p1,!!p2,Bv]
  ·rfl'
   refine#[_,SqT.of hp1,_,rfl,_,SqT.of hp2,_,rfl,rfl,yE (λh=>yE (λhb'=>#[_,SqT.of hp1,_,rfl,_,SqT.of hp2,_,rfl,⋯,λp hp=>q3 i j p _ hb' hi hj (λz=>h (by rw[z])) (s12.trans (zd hp)) zc]) λhb'=>q1 (.inr (.inr #[i,j,hi,hj,.inl #[λz=>h (by rw[z]),by simpa using hb']])) _ s12) λh=>?_];have:=Classical.not_not.mp h;injection this with this;exact qo this
  rintro σ H4 ⟨rfl,he,rfl⟩:_;have him:=hi.most;have hjm:=hj.most;have hl1:(stS (sAt (zb bs) u i)).length=i:=by rw[ZQ,qY]
  have hl2:(stS (sAt (zb bs) v j)).length=j:=by rw[ZQ,qY]
  right;change Same H4 H'/\∃S:sX,LsA K H' S ((Yw bs u v i j).map dSt)/\σ=[Bu (.bl b),!!a,~~~u,~~~v,!!p1,!!p2,!!S]
  ·rfl'
   refine#[_,SqT.of hp1,_,rfl,_,SqT.of hp2,_,rfl,qP hS2.is ⋯ λB1 G1 _ t1 hB1=>?_];obtain⟨c1,hc1,ic1⟩:=hS1.same t1;obtain⟨c2,hc2,ic2⟩:=id hB1;have n1:=ic1.len;have n2:=ic2.len;rw[ac]at n1 n2;rw[xm]at n2;refine#[S1,rfl,B1,rfl,c1,hc1,c2,hc2,⋯,λp hp=>?_];have sp:=zd (o:=.lst (c1 ++ c2)) hp;refine WE (Is.same (s12.trans (t1.trans sp)) _ _ hA.is) (LsA.is #[_,zc,by rw[au];exact Iss.append (Iss.same sp _ _ ic1) (Iss.same sp _ _ ic2)]) (by rw[aj,xm];lia) hst (λx hx=>?_) λD H' _ s' hL=>#[t1.trans (sp.trans s'),D,hL,rfl];rw[<- hpl];rcases BD.mp hx with h | h
   ·exact Wy hi.live x h
   ·exact Q9 (Wy hj.live) x h
  rintro σ H5 ⟨s5,S,hS,rfl⟩:_;obtain⟨xs,hX,hI⟩:=id hS;have hxl:=hI.len;rw[ac]at hxl;right
  rfl'
  exact#[_,.inl #[_,SqL.of hX,rfl],yE (λhn=>#[⋯,λp hp=>q2 i j p S _ hi hj he ((s12.trans s5).trans (zd hp)) zc (hS.same (zd hp)) ⋯]) λhn=>q1 (.inr (.inr #[i,j,hi,hj,.inr #[he,⋯]])) _ (s12.trans s5)]
def BG.dwn{l:()}(h:BG k l ns bs):Dwn k l ns (zb bs):=λp hp=>by
 unfold zb at hp;obtain⟨e,he,rfl⟩:=BC.mp hp;exact#[h.lt e he,(h.e e he).ma,(h.e e he).mb]
theorem Q6{u v:()}(h:Rws ps u v):EqR ps u v:=by
 induction h with
 | nil=>exact .refl _
 | cons s _ ih=>exact .trans (.one s) ih
def zer{l:()}(h:∀p ∈ rs,p.1.length<=60/\p.2.length<=60/\(∀c ∈ p.1,c ∈ l)/\∀c ∈ p.2,c ∈ l):∀e ∈ fEs rs rs.length,EB l e:=λe he=>by
 obtain⟨i,p,hi,hp,rfl⟩:=kZ he;obtain⟨g1,g2,g3,g4⟩:=h p (ae hp);exact#[g1,g2,by show ([((i:Int),(0:Int),Bw)]:List Stp).length<=600;simp,g3,g4]
def Ud{k n:Nat}{l:()}{k1 es:List Ent}(h:Cpl k l ns n k1 (fEs rs rs.length) Bw es){u v:()}(hu:EqR rs u v):EqR (zb es) u v:=by refine zcz (Vd _) (λp hp=>?_) hu;obtain⟨i,hi⟩:=BM.mp hp;exact Q2 (Vd _) h rfl (λe he=>Uo (p:=(e.1,e.2.1)) (BC.mpr #[e,he,rfl])) (fE i p) (Qs hi (BB.mp hi).1)
def zaL(K:sV):Sp:=λvs H Q _=>∃(a:sX) (l:()) (ps:List zu) (u v:()) (m:Nat),vs=[.str (tx l),.ref a,.str (tx u),.str (tx v),.int (m:Nat)]/\ue l=Bw/\LsA K H a (ps.map dR)/\InP l ps/\(∀c ∈ u,c ∈ l)/\(∀c ∈ v,c ∈ l)/\m<=8/\m ^ (m * l.length)<=1000/\(Ear l ps u v (m+1) 0->∀(p:sX) (H':Hp),Same H H'->H' p=Bu (.tup [.str "open"])->Q (.ref p) H') /\
 ∀(n N:Nat) (p t:sX) (rs:List sX) (H':Hp),1<=n->n<=m->N<n ^ (n * l.length)->qd l (ZX n l.length N) ps u v=Bw->Ear l ps u v n N->Same H H'->H' p=Bu (.tup [.str "world",.ref t])->TabAt H' t rs (ZX n l.length N)->Q (.ref p) H'
def JwV(l:())(ps:List zu)(u v:())(m:Nat)(H:Hp)(x:V):Prop:=(x=.non/\Ear l ps u v (m+1) 0)\/∃(n N:Nat) (t:sX) (rs:List sX),x=.ref t/\1<=n/\n<=m/\N<n ^ (n * l.length)/\qd l (ZX n l.length N) ps u v=Bw/\Ear l ps u v n N/\TabAt H t rs (ZX n l.length N)
def lP:sQz 5 ["letters","pacts","one","other","most","table"] yY:=by nofun
theorem vX{f CM:sX}(B:Bt mg)(F:("judged_by_worlds"^^^yY))(rj:(6>>>"world_apart") ["letters","pacts","one","other","most"] [] (Va K CM)):(7&&&["letters","pacts","one","other","most"]) (zaL K):=by
 exists F.ok lP
 ·obtain⟨a,l,ps,u,v,m,rfl,hg,hA,hp,hu,hv,m8,hm,q1,q2⟩:=h
  refine#[_,(zi (zC 5 lP.nd (clP xe0 rj hr .nil rfl (za (pv 0) (za (pv 1) (za (pv 2) (za (pv 3) (za (pv 4) ze))))))) (zg (zl (vF (zy op_isN' (pv 5) ym (zA _)) (zS (za yc ze)) (zS (za yc (za (pv 5) ze))))))),?_]
  have s16:=zW;have s16:=zW;change Same H H'/\∃x,JwV l ps u v m H' x/\σ=[~~~l,!!a,~~~u,~~~v,-~~~m,Bu (x)]
  ·rfl'
   exact#[a,l,ps,u,v,m,rfl,hg,hA,hp,hu,hv,m8,λh=>by lia,λ_ h H' s'=>#[s',.inl #[rfl,h]],λ_ n N h1 h2 h3 h4 h5 t rs H' s' h6 _=>#[s',.inr #[n,N,t,rs,rfl,h1,h2,h3,h4,h5,h6]]]
  rintro σ H1 ⟨s1,x,hx,rfl⟩:_;right;rcases hx with ⟨rfl,hE⟩ | ⟨n,N,t,rs,rfl,h1,h2,h3,h4,h5,h6⟩
  ·rfl'
   exact#[⋯,λp hp=>q1 hE p _ (s1.trans (zd hp)) zc]
  ·rfl'
   exact#[⋯,λp hp=>q2 n N p t rs _ h1 h2 h3 h4 h5 (s1.trans (zd hp)) zc (h6.same (zd hp))]
inductive JOut(K:sV)(H:Hp)(k:Nat)(l:())(ns:List Int)(rs:List zu)(u v:())(r m:Nat)(p:sX):Prop where
 | alike (w:Bool) (es:List Ent) (i j:Nat) (S:sX) (hc:Cpl k l ns (r+1) [] (fEs rs rs.length) w es) (hb:BG k l ns es) (hi:zF (zb es) u i) (hj:zF (zb es) v j) (he:wAt (zb es) u i=wAt (zb es) v j) (hl:(Yw es u v i j).length<=2000) (hp:H p=Bu (.tup [.str "alike",.ref S])) (hS:LsA K H S ((Yw es u v i j).map dSt))
 | forms (es:List Ent) (i j:Nat) (D:sX) (hc:Cpl k l ns (r+1) [] (fEs rs rs.length) Bw es) (hb:BG k l ns es) (hi:zF (zb es) u i) (hj:zF (zb es) v j) (hn:wAt (zb es) u i≠wAt (zb es) v j) (hp:H p=Bu (.tup [.str "forms",.ref D,.str (tx (wAt (zb es) u i)),.str (tx (wAt (zb es) v j))])) (hD:EnsM K H D es)
 | world (w:Bool) (es:List Ent) (n N:Nat) (t:sX) (ts:List sX) (hc:Cpl k l ns (r+1) [] (fEs rs rs.length) w es) (hb:BG k l ns es) (hno:NoR es w u v) (h1:1<=n) (h2:n<=m) (h3:N<n ^ (n * l.length)) (h4:qd l (ZX n l.length N) rs u v=Bw) (h5:Ear l rs u v n N) (hp:H p=Bu (.tup [.str "world",.ref t])) (ht:TabAt H t ts (ZX n l.length N))
 | open_ (w:Bool) (es:List Ent) (hc:Cpl k l ns (r+1) [] (fEs rs rs.length) w es) (hb:BG k l ns es) (hno:NoR es w u v) (h5:Ear l rs u v (m+1) 0) (hp:H p=Bu (.tup [.str "open"]))
def zdG(K:sV)(CO CR CW TB:sX):Sp:=λvs H Q _=>∃(o a:sX) (k:Nat) (l:()) (ns:List Int) (rs:List zu) (u v:()) (r m:Nat),vs=[.ref o,.ref a,.str (tx u),.str (tx v),.int (r:Nat),.int (m:Nat)]/\OrdAt CO CR CW H o k l ns/\OG l ns k/\LsA K H a (rs.map dR)/\rs.length<=20/\(∀p ∈ rs,p.1.length<=60/\p.2.length<=60/\(∀c ∈ p.1,c ∈ l)/\∀c ∈ p.2,c ∈ l)/\u.length<=60/\v.length<=60/\(∀c ∈ u,c ∈ l)/\(∀c ∈ v,c ∈ l)/\r<=1000/\m<=8/\m ^ (m * l.length)<=1000/\TabOk H TB lp lq /\
 ∀(p:sX) (H':Hp),SamT TB H H'->TabOk H' TB lp lq->JOut K H' k l ns rs u v r m p->Q (.ref p) H'
def JrV(K:sV)(H:Hp)(es:List Ent)(w:Bool)(u v:())(D:sX)(x:V):Prop:=(x=.non/\NoR es w u v)\/∃p:sX,x=.ref p/\((∃i j,w=Bw/\zF (zb es) u i/\zF (zb es) v j/\wAt (zb es) u i≠wAt (zb es) v j/\H p=Bu (.tup [.str "forms",.ref D,.str (tx (wAt (zb es) u i)),.str (tx (wAt (zb es) v j))]))\/∃i j S,zF (zb es) u i/\zF (zb es) v j/\wAt (zb es) u i=wAt (zb es) v j/\(Yw es u v i j).length<=2000/\H p=Bu (.tup [.str "alike",.ref S])/\LsA K H S ((Yw es u v i j).map dSt))
def om:sQz 6 ["order","pacts","one","other","rounds","most","outcome","answer"] ZR:=by nofun
theorem Qc{f CO CR CW TB CM:sX}(B:Bt mg)(TO:TOrd K mg CO CR CW)(TM:Kk K mg CM)(F:("judged"^^^ZR))(nH:(10<<<"completed") ["order","pacts","rounds"] [] (JE K CO CR CW TB))(oQ:(6<<<"judged_by_roads") ["whole","kept","one","other"] [] (zaM K))(lv:(2<<<"tables_within") ["letters","rooms"] [] um)(oo:(7<<<"judged_by_worlds") ["letters","pacts","one","other","most"] [] (zaL K)):(11|||["order","pacts","one","other","rounds","most"]) (zdG K CO CR CW TB):=by
 exists Fun.okX F om,0
 ·obtain⟨o,a,k,l,ns,rs,u,v,r,m,rfl,ho,hG,hA,hrl,hrs,hul,hvl,hu,hv,hr',hm8,hm,hTab,q⟩:=h
  refine#[_,(zi (zN (zZ (yF (cl0 lv hr .nil rfl (za (uj (pv 0) rfl) (za (pv 5) ze))) (λ_=>rfl))) (zg (ye hx rfl TM.xi.toXC TM.ini rfl TM.g (za yc ze)))
    zr) (zi (zC 6 om.nd (cl0 nH hr .nil rfl (za (pv 0) (za (pv 1) (za (pv 4) ze))))) (zi (zC 7 om.nd (cl0 oQ hr .nil rfl (za (!-6) (za (!-6) (za (pv 2) (za (pv 3) ze)))))) (zi (zN (zy op_isN' (pv 7) ym (zA _)) (zg (zl (cl0 oo hr .nil rfl (za (uj (pv 0) rfl) (za (pv 1) (za (pv 2) (za (pv 3) (za (pv 5) ze))))))))
    zr) (zg (zl (pv 7))))))),?_]
  have s16:=zW;have s16:=zW;obtain⟨l1,l6,lsm,lnd⟩:=w6 hG.g;obtain⟨C,dy,fs,hf,ho1,_,hlk⟩:=ho.fam
  have hC:Cls K C/\NoAttr K C "letters":=by
   rcases hf with rfl | rfl | rfl
   ·exact#[TO.cO,TO.lO]
   ·exact#[TO.cR,TO.lR]
   ·exact#[TO.cW,TO.lW]
  change H'=H/\σ=[!!o,!!a,~~~u,~~~v,-~~~r,-~~~m,Bv,Bv]
  ·rfl'
   refine#[_,_,_,ho1,hC.1,hC.2,_,hlk,kA l6 hm8 ?_];rw[w9 hm];exact#[Bw,rfl,ZY rfl]
  rintro σ H1 ⟨rfl,rfl⟩:_;right;change SamT TB H1 H'/\TabOk H' TB lp lq/\∃(w:Bool) (es:List Ent) (p D:sX),Cpl k l ns (r+1) [] (fEs rs rs.length) w es/\BG k l ns es/\H' p=Bu (.tup [.bl w,.ref D])/\EnsM K H' D es/\σ=[!!o,!!a,~~~u,~~~v,-~~~r,-~~~m,!!p,Bv]
  ·rfl'
   exact#[o,a,k,l,ns,rs,r,rfl,ho,hG,hA,hrl,λp hp=>#[by have:=hrs p hp;lia,by have:=hrs p hp;lia,(hrs p hp).2.2],λp hp=>#[(hrs p hp).1,(hrs p hp).2.1],hr',hTab,λw es p D H' h1 h2 h3 h3' h4 h5=>#[h3,h3',w,es,h1,h2,p,D,h4,h5,rfl]]
  rintro σ H2 ⟨s2,hT2,w,es,p,D,hCp,hB,hp,hD,rfl⟩:_;obtain⟨tbl,htb,_⟩:=id hTab;right;change Same H2 H'/\∃v7,JrV K H' es w u v D v7/\σ=[!!o,!!a,~~~u,~~~v,-~~~r,-~~~m,!!p,Bu (v7)]
  ·rfl'
   exact#[_,SqT.of hp,_,rfl,_,SqT.of hp,_,rfl,D,k,l,ns,es,w,u,v,rfl,hG,hD.l,hB,hul,hvl,λhno H' s'=>#[s',.inl #[rfl,hno]],λi j p H' hw hi hj hn s' h1=>#[s',.inr #[p,rfl,.inl #[i,j,hw,hi,hj,hn,h1]]],λi j p S H' hi hj hij s' h1 h2 h3=>#[s',.inr #[p,rfl,.inr #[i,j,S,hi,hj,hij,h3,h1,h2]]]]
  rintro σ H3 ⟨s3,v7,hv7,rfl⟩:_;have sT:=s2.trans (SamT.of s3);have hT3:=hT2.same s3;have hA3:=hA.samT sT htb;right;rcases hv7 with ⟨rfl,hno⟩ | ⟨p',rfl,hv7⟩
  ·refine kT (λ_ _=>False) ?_ λ_ _ h=>h.elim
   rfl'
   exact#[_,_,_,sT.at htb ho1 (λ_ z=>by cases z),hC.1,hC.2,_,hlk,a,l,rs,u,v,m,rfl,hG.g,hA3,λp hp=>(hrs p hp).2.2,hu,hv,hm8,hm,λhE p H' s' h=>q p H' (sT.trans (SamT.of s')) (hT3.same s') (.open_ w es hCp hB hno hE h),λn N p t ts H' h1 h2 h3 h4 h5 s' h6 h7=>q p H' (sT.trans (SamT.of s')) (hT3.same s') (.world w es n N t ts hCp hB hno h1 h2 h3 h4 h5 h6 h7)]
  ·change H'=H3/\σ=[!!o,!!a,~~~u,~~~v,-~~~r,-~~~m,!!p,!!p']
   ·rfl'
   rintro σ H4 ⟨rfl,rfl⟩:_;right
   rfl'
   refine q p' _ sT hT3 ?_;rcases hv7 with ⟨i,j,rfl,hi,hj,hn,h1⟩ | ⟨i,j,S,hi,hj,he,hl,h1,h2⟩
   ·exact .forms es i j D hCp hB hi hj hn h1 (hD.same s3)
   ·exact .alike w es i j S hCp hB hi hj he hl h1 h2
structure KXs(K:sV):Prop where
 ss:aQ K (.type "str") (.type "str")=Bu Bw
def Ju(K:sV):Sp:=λvs H Q _=>∃(a:sX) (es:List Ent),vs=[.ref a]/\Is K H (.lst (es.map dE)) (.ref a)/\Q (.bl Bw) H
def pK:sQz 1 ["_law_found","_law_entry"] jS:=by nofun
def Vx(B:Bt mg)(T:TLs K)(TX:KXs K)(F:("_law_entries"^^^jS))(pY:(2<<<"_law_steps") ["_law_found"] [] (ZO K)):(3&&&["_law_found"]) (Ju K):=by
 exists F.ok pK
 ·obtain⟨a,es,rfl,hA,q⟩:=h
  refine#[_,(zi (zN (zZ (yF (yN rfl B.isi (pv 0) rfl B.list PySem.Pv.boot_list) (λ_=>rfl))) (zg (zl yt))
    zr) (zi (z7 r9 rfl (z9 (pv 0)) (zt (i:=1) pK.nd rfl (.inl rfl)) (zi (zN (PW.pt (vM (zZ (yF (yN rfl B.isi (pv 1) rfl B.tuple PySem.Pv.boot_tuple) (λ_=>rfl))) (vM (zy uE (zB B.len (pv 1)) zf (zA _)) (wI (zZ (yF (cl0 pY hr .nil rfl (za (!-1) ze)) (λ_=>rfl))))))) (zg (zl yt))
     zr) (zg (zN (PW.pt (vM (zZ (yF (yN rfl B.isi (!-1) rfl B.str PySem.Pv.boot_str) (λ_=>rfl))) (wI (zZ (yF (yN rfl B.isi (!-1) rfl B.str PySem.Pv.boot_str) (λ_=>rfl)))))) (zg (zl yt))
     zr)))) (zg (zl yt)))),?_]
  have s16:=zW
  erw[Is]at hA
  obtain⟨_,xs,e,hX,hI⟩:=hA;cases e;change H'=H/\σ=[!!a,Bv]
  ·rfl'
   exact#[_,.inr (.inr (.inl #[_,_,rfl,rfl,hX])),Bw,T.ll,ZY trivial]
  rintro σ H1 ⟨rfl,rfl⟩:_;right;change H'=H1/\∃v1,σ=[!!a,v1]
  ·rfl'
   refine#[#[_,hX],ForL.by (xs:=xs) (λi σ H'=>H'=H1/\∃v1,σ=[!!a,v1]) #[rfl,_,rfl] (λi σ H' _ h=>by rw[h.1];exact hX) ?_ λσ H' h=>h];refine nm4 ?_;rintro i x σ H' hx ⟨rfl,v1,rfl⟩:_;obtain⟨e,pe,se,hei,rfl,hqe,hse⟩:=Wi hI hx;right
   erw[yK,aX,aW]
   refine zj (λσ H''=>H''=H'/\σ=[!!a,!!pe]) ?_ ?_
   ·rfl'
    exact#[_,.inr (.inr (.inr #[_,_,rfl,rfl,hqe])),Bw,T.tt,ZY #[_,.inr #[_,hqe,rfl],yE (λh=>y4 rfl h) λ_=>#[_,hqe,_,rfl,se,e.2.2,rfl,hse,Bw,rfl,ZY rfl]]]
   rintro σ G ⟨rfl,rfl⟩:_;right
   rfl'
   exact#[_,hqe,_,rfl,_,.inl (.str _),Bw,TX.ss,ZY #[_,hqe,_,rfl,_,.inl (.str _),Bw,TX.ss,ZY trivial]]
  rintro σ H2 ⟨rfl,v1,rfl⟩:_;right
  rfl'
  exact q
def V9(K:sV):Sp:=λvs H Q _=>∃(t:sX) (rs:List sX) (tab:List (List Int)) (l:()),vs=[.ref t,.int (l.length:Nat)]/\TabAt H t rs tab/\wU l tab/\l.length<=6/\∀H',Same H H'->Q (.bl Bw) H'
def zb5{t:sX}{rs:List sX}{tab:List (List Int)}{l:()}(h1:TabAt H t rs tab)(h2:wU l tab)(h3:l.length<=6)(q:∀H',Same H H'->Q (.bl Bw) H'):V9 K [.ref t,.int (l.length:Nat)] H Q E:=#[t,rs,tab,l,rfl,h1,h2,h3,q]
def oY:sQz 2 ["_law_table","_law_many","_law_row"] vB:=by nofun
theorem XF(B:Bt mg)(T:TLs K)(F:("_law_table_ok"^^^vB))(oN:(1<<<"_law_whole") ["_law_found"] [] uD):(2&&&["_law_table","_law_many"]) (V9 K):=by
 exists F.ok oY
 ·obtain⟨t,rs,tab,l,rfl,hT,hG,l6,q⟩:=h
  refine#[_,(zi (zN (PW.pt (vM (zZ (yF (yN rfl B.isi (pv 0) rfl B.list PySem.Pv.boot_list) (λ_=>rfl))) (wI (zy VH (zB B.len (pv 0)) zf (zA _))))) (zg (zl yt))
    zr) (zi (z7 r9 rfl (z9 (pv 0)) (zt (i:=2) oY.nd rfl (.inl rfl)) (zi (zN (PW.pt (vM (zZ (yF (yN rfl B.isi (pv 2) rfl B.list PySem.Pv.boot_list) (λ_=>rfl))) (wI (zy uE (zB B.len (pv 2)) (pv 1) (zA _))))) (zg (zl yt))
     zr) (zg (zN (zZ (yF (yu (zcH rfl) rfl B.all dO (za (yP (own:=["_law_room"]) (caps:=["_law_table"]) (ix:=[0]) (tt:=xw) (te:=(Uh (wL uD [] E0 (zL (z6 0) xx)) (kP ze7 ze6 (tC (.int 0)) (z6 0) (tCB (Wp K) (zL (z6 1) xx))))) rfl (zM (sc:=zh vB) rfl (!0) (!0) (!0) rfl (!0) (!0) rfl) (z9 (pv 2)) (λ_ _ _ _ _ _=>zt (i:=0) (show List.Nodup [_,_] by decide) rfl (.inl rfl)) (λ_ _ _ _ _ _=>yg) (λ_ _ _ _ _ _=>(kH (cl0 oN hr .nil rfl (za (pv 0) ze)) (ky (Wt xM Jk zf (pv 0) (zB B.len (pv 1))))))) ze)) (λ_=>rfl))) (zg (zl yt))
     zr)))) (zg (zl yt)))),?_]
  have s16:=zW;have s16:=zW;have hlo:=hG.lo;have hhi:=hG.hi;have hln:=hT.len;change H'=H/\σ=[!!t,Bu (.int (l.length:Nat)),Bv]
  ·rfl'
   exact#[_,.inr (.inr (.inl #[_,_,rfl,rfl,SqL.of hT.top])),Bw,T.ll,ZY #[_,.inl #[_,SqL.of hT.top,rfl],yE (λh=>by rw[ac]at h;lia) λ_=>trivial]]
  rintro σ H1 ⟨rfl,rfl⟩:_;right;change Same H1 H'/\∃v2,σ=[!!t,Bu (.int (l.length:Nat)),v2]
  ·rfl'
   refine#[#[_,SqL.of hT.top],ForL.by (xs:=rs.map V.ref) (λi σ H'=>Same H1 H'/\∃v2,σ=[!!t,Bu (.int (l.length:Nat)),v2]) #[Same.refl _,_,rfl] (λi σ H' _ h=>SqL.of (h.1 _ _ hT.top)) ?_ λσ H' h=>h];refine nm4 ?_;rintro i x σ H' hx ⟨hs,v2,rfl⟩:_;rw[ar]at hx;obtain⟨r,hr,rfl⟩:=BH.mp hx;have hil:=(BB.mp hr).1;have hy:tab[i]? = Bu (tab[i]'⋯):=ah ⋯;right;generalize tab[i]'⋯=y at hy;have hym:=ae hy;have hR:=hs _ _ (hT.row i r y hr hy)
   erw[yK,aX,aW]
   refine zj (λσ G=>G=H'/\σ=[!!t,Bu (.int (l.length:Nat)),!!r]) ?_ ?_
   ·rfl'
    exact#[_,.inr (.inr (.inl #[_,_,rfl,rfl,SqL.of hR])),Bw,T.ll,ZY #[_,.inl #[_,SqL.of hR,rfl],yE (λh=>y4 (by rw[ac,hG.wd y hym]) h) λ_=>trivial]]
   rintro σ H2 ⟨rfl,rfl⟩:_;right
   rfl'
   refine#[#[_,SqL.of hR],λD hD=>CompL.by (xs:=y.map V.int) (λi BA G=>Same H2 G/\G D=Bu (.lst BA)/\BA=aP i (V.bl Bw)) #[zd hD,zc,rfl] (λi BA G _ h=>SqL.of (h.1 _ _ hR)) ?_ ?_]
   ·refine nm4 ?_;rintro n x BA G hx ⟨hs2,hH,rfl⟩:_;rw[ar]at hx;obtain⟨z,hz,rfl⟩:=BH.mp hx;have hzl:=(BB.mp hz).1;have hzb:=hG.rm y hym z (ae hz);have hyl:=hG.wd y hym;right
    erw[xw]
    rfl'
    have ht2:=hs2 _ _ (hs _ _ hT.top);refine#[yH,jC #[Bw,rfl,zf9 (yE (λ_=>#[_,.inl #[_,SqL.of ht2,rfl],hH,by rw[bx];lia,CNx.mk (by rw[ac];exact hzl) #[zE hs2 hD,zc,?_]]) λh=>y4 hzb.1 h)]];rw[ac,w9 ⋯,de]
   ·rintro BA G ⟨hs2,hH,rfl⟩;refine#[D,aP y.length Bw,rfl,?_,?_]
    ·rw[List.map_replicate,ac]at *;exact SqL.of hH
    ·have e:(aP y.length Bw).all id=Bw:=by simp
     rw[e];exact#[Bw,rfl,ZY (hs.trans hs2)]
  rintro σ H2 ⟨s2,v2,rfl⟩:_;right
  rfl'
  exact q _ s2
structure TAn(K:sV):Prop where
 tt:aQ K (.type "tuple") (.type "tuple")=Bu Bw
 ss:aQ K (.type "str") (.type "str")=Bu Bw
inductive zfT(K:sV)(H:Hp)(l:())(p:sX):Prop where
 | open_ (h:H p=Bu (.tup [.str "open"]))
 | alike (S:sX) (ss:List Stp) (h:H p=Bu (.tup [.str "alike",.ref S])) (hS:LsA K H S (ss.map dSt))
 | forms (D:sX) (es:List Ent) (f g:()) (h:H p=Bu (.tup [.str "forms",.ref D,.str (tx f),.str (tx g)])) (hD:EnsM K H D es)
 | world (t:sX) (ts:List sX) (tab:List (List Int)) (h:H p=Bu (.tup [.str "world",.ref t])) (ht:TabAt H t ts tab) (hG:wU l tab)
theorem JOut.ans{l:()}{u v:()}{r m:Nat}{p:sX}(h:JOut K H k l ns rs u v r m p)(hm:m<=8):zfT K H l p:=by
 cases h with
 | alike w es i j S hc hb hi hj he hl hp hS=>exact .alike S _ hp hS
 | forms es i j D hc hb hi hj hn hp hD=>exact .forms D es _ _ hp hD
 | world w es n N t ts hc hb hno h1 h2 h3 h4 h5 hp ht=>exact .world t ts _ hp ht (X9 N h1 ⋯)
 | open_ w es hc hb hno h5 hp=>exact .open_ hp
def U0(K:sV):Sp:=λvs H Q _=>∃(p:sX) (l:()),vs=[.ref p,.int (l.length:Nat)]/\l.length<=6/\zfT K H l p/\∀H',Same H H'->Q (.bl Bw) H'
def US:sQz 2 ["_law_found","_law_many"] Ya:=by nofun
theorem UD(B:Bt mg)(T:TAn K)(F:("_law_answer"^^^Ya))(pY:(2<<<"_law_steps") ["_law_found"] [] (ZO K))(rZ:(2<<<"_law_table_ok") ["_law_table","_law_many"] [] (V9 K))(sj:(3<<<"_law_entries") ["_law_found"] [] (Ju K)):(4&&&["_law_found","_law_many"]) (U0 K):=by
 exists F.ok US
 ·obtain⟨p,l,rfl,l6,hA,q⟩:=h
  refine#[_,(zi (zN (PW.pt (vM (zZ (yF (yN rfl B.isi (pv 0) rfl B.tuple PySem.Pv.boot_tuple) (λ_=>rfl))) (vM (zy Jk (zB B.len (pv 0)) zf (zA _)) (wI (zZ (yF (yN rfl B.isi (!-0) rfl B.str PySem.Pv.boot_str) (λ_=>rfl))))))) (zg (zl yt))
    zr) (zi (zN (zy wF (!-0) yc (zA _)) (zg (zl (kH (yI wF (zB B.len (pv 0)) zf (zA _)) (ky (cl0 pY hr .nil rfl (za (!-0) ze))))))
    zr) (zi (zN (zy wF (!-0) yc (zA _)) (zi (zN (PW.pt (vM (zy uE (zB B.len (pv 0)) zf (zA _)) (wI (zZ (yF (cl0 sj hr .nil rfl (za (!-0) ze)) (λ_=>rfl)))))) (zg (zl yt))
     zr) (zg (zl (kH (yN rfl B.isi (!-0) rfl B.str PySem.Pv.boot_str) (ky (yN rfl B.isi (!-0) rfl B.str PySem.Pv.boot_str))))))
    zr) (zi (zN (zy wF (!-0) yc (zA _)) (zg (zl (kH (yI wF (zB B.len (pv 0)) zf (zA _)) (ky (cl0 rZ hr .nil rfl (za (!-0) (za (pv 1) ze)))))))
    zr) (zg (zl (yI (U1 (vV hr)) (pv 0) (zS (za yc ze)) (zA _)))))))),?_]
  have s16:=zW;have s16:=zW;change H'=H/\σ=[!!p,Bu (.int (l.length:Nat))]
  ·rfl'
   have key:∀(a:tw) (xs:List V),H p=Bu (.tup (.str a::xs))->∃x,TyX K H (.ref p) x/\∃x_1,aQ K x (.type "tuple")=Bu x_1/\if x_1=Bx then Q (.bl Bx) H else ∃x,((∃xs,SqL K H p xs/\x=xs.length)\/∃xs,SqT K H p xs/\x=xs.length)/\if (x:Int)<1 then Q (.bl Bx) H else ∃xs,SqT K H p xs/\∃v,atI xs 0=Bu v/\∃x,TyX K H v x/\∃x_2,aQ K x (.type "str")=Bu x_2/\if x_2=Bx then Q (.bl Bx) H else True:=λa xs h =>
    #[_,.inr (.inr (.inr #[_,_,rfl,rfl,SqT.of h])),Bw,T.tt,ZY #[_,.inr #[_,SqT.of h,rfl],yE (λz=>by rw[aL]at z;lia) λ_=>#[_,SqT.of h,.str a,wX (j:=0) rfl,_,.inl (.str _),Bw,T.ss,ZY trivial]]]
   cases hA with
   | open_ h=>exact key _ _ h
   | alike S ss h hS=>exact key _ _ h
   | forms D es f g h hD=>exact key _ _ h
   | world t ts tab h ht hG=>exact key _ _ h
  rintro σ H1 ⟨rfl,rfl⟩:_;have skip:∀{a b:tw} {xs:List V} {A:Prop} {B:Prop},H1 p=Bu (.tup (.str a::xs))->a≠b->B->∃xs,SqT K H1 p xs/\∃v,atI xs 0=Bu v/\JL v (.str b)=Bw/\if v=.str b then A else B:=λ{a b xs A B} h hne hB=>#[_,SqT.of h,.str a,wX (j:=0) rfl,rfl,yE (λz=>y4 (V.str.inj z) hne) λ_=>hB];right
  cases hA with
  | alike S ss h hS =>
   refine kT (λ_ _=>False) ?_ λ_ _ h=>h.elim
   rfl'
   exact#[_,SqT.of h,_,rfl,rfl,yE (λ_=>#[_,.inr #[_,SqT.of h,rfl],yE (λ_=>#[_,SqT.of h,_,rfl,S,ss,rfl,hS.is,q _ (Same.refl _)]) λz=>y4 rfl z]) λz=>y4 rfl z]
  | forms D es f g h hD =>
   change H'=H1/\σ=[!!p,Bu (.int (l.length:Nat))]
   ·rfl'
    exact skip h ∅ trivial
   rintro σ H2 ⟨rfl,rfl⟩:_;right;refine kT (λ_ _=>False) ?_ λ_ _ h=>h.elim
   rfl'
   refine#[_,SqT.of h,_,rfl,rfl,yE (λ_=>?_) λz=>y4 rfl z];change H'=H2/\σ=[!!p,Bu (.int (l.length:Nat))]
   ·rfl'
    exact#[_,.inr #[_,SqT.of h,rfl],yE (λz=>y4 rfl z) λ_=>#[_,SqT.of h,_,rfl,D,es,rfl,hD.l.is,Bw,rfl,ZY rfl]]
   rintro σ H3 ⟨rfl,rfl⟩:_;right
   rfl'
   exact#[_,SqT.of h,_,rfl,_,.inl (.str _),Bw,T.ss,zf9 #[_,SqT.of h,_,rfl,_,.inl (.str _),Bw,T.ss,q _ (Same.refl _)]]
  | world t ts tab h ht hG =>
   change H'=H1/\σ=[!!p,Bu (.int (l.length:Nat))]
   ·rfl'
    exact skip h ∅ trivial
   rintro σ H2 ⟨rfl,rfl⟩:_;right;change H'=H2/\σ=[!!p,Bu (.int (l.length:Nat))]
   ·rfl'
    exact skip h ∅ trivial
   rintro σ H3 ⟨rfl,rfl⟩:_;right;refine kT (λ_ _=>False) ?_ λ_ _ h=>h.elim
   rfl'
   exact#[_,SqT.of h,_,rfl,rfl,yE (λ_=>#[_,.inr #[_,SqT.of h,rfl],yE (λ_=>#[_,SqT.of h,_,rfl,zb5 ht hG l6 q]) λz=>y4 rfl z]) λz=>y4 rfl z]
  | open_ h =>
   change H'=H1/\σ=[!!p,Bu (.int (l.length:Nat))]
   ·rfl'
    exact skip h ∅ trivial
   rintro σ H2 ⟨rfl,rfl⟩:_;right;change H'=H2/\σ=[!!p,Bu (.int (l.length:Nat))]
   ·rfl'
    exact skip h ∅ trivial
   rintro σ H3 ⟨rfl,rfl⟩:_;right;change H'=H3/\σ=[!!p,Bu (.int (l.length:Nat))]
   ·rfl'
    exact skip h ∅ trivial
   rintro σ H4 ⟨rfl,rfl⟩:_;right
   rfl'
   refine#[⋯,λp1 hp1=>Xj (l:=[.str "open"]) (m:=[.str "open"]) (.inr #[?_,?_]) ∅ ?_]
   ·erw[Is,Iss]
    exact#[_,_,rfl,SqT.of (zd hp1 _ _ h),_,_,rfl,rfl,rfl]
   ·erw[Is,Iss]
    exact#[_,_,rfl,SqT.of zc,_,_,rfl,rfl,rfl]
   ·rw[wf];exact q _ (zd hp1)
theorem za5{k:Nat}{l:()}(G:OG l ws k)(h3:∀n ∈ ws,n<=3):∀{v:()},(∀c ∈ v,c ∈ l)->zp k l ws v<=3 * (v.length:Int)
 | [],_=>by
  rw[yT (w:=[]) G λc hc=>y4 hc eY];exact eC _
 | c::v,hm=>by
  have h1:=za5 G h3 (v:=v) λx hx=>hm x (am _ hx);have h4:=yS (k:=k) (l:=l) (ns:=ws) [c] v
  have h2:zp k l ws [c]<=3:=by
   rw[yT G λx hx=>by rw[BF.mp hx];exact hm c aA];have hlt:=bf (hm c aA);have hl:=G.nl;show wt k ws ((l.idxOf c:Nat):Int)+0<=3;unfold wt;split
   ·rw[az,af,ah ⋯];have:=h3 _ (eS (l:=ws) (n:=l.idxOf c) ⋯);show ws[l.idxOf c]+0<=3;lia
   ·decide
  rw[show c::v=[c] ++ v from rfl,h4,aj]
  erw[cT]
  lia
theorem zdO{l:()}(G:OG l ws k)(h3:∀n ∈ ws,n<=3)(hD:Dwn k l ws ps){w v:()}(hw:∀c ∈ w,c ∈ l)(h:Rws ps w v):v.length<=3 * w.length:=by
 obtain⟨v1,v2⟩:=Vg G hD h hw;have h1:=JF G v1;have h2:=za5 G h3 hw
 have h4:zp k l ws v<=zp k l ws w:=by
  rcases v2 with e | h
  ·rw[e];exact eC _
  ·exact Vm h
 lia
def AtR(v:())(ps:List zu)(i:Nat)(x y:Int):Prop:=(x=(v.length:Int)+1/\∀j p,j<i->ps[j]? = Bu p->¬ Within p.1 v)\/∃(n j:Nat) (p:zu),x=(n:Int)/\y=(j:Int)/\ps[j]? = Bu p/\n+p.1.length<=v.length/\(v.drop n).take p.1.length=p.1
theorem AtR.no{v:()}{x y z:Int}{r:zu}(h:AtR v ps i x y)(hr:ps[i]? = Bu r)(hz:ze5 v r.1 z)(h0:¬ 0<=z):AtR v ps (i+1) x y:=by
 rcases h with ⟨h1,h2⟩ | h
 ·refine .inl #[h1,λj p hj hp=>?_];rcases Cd.mp hj with hj | rfl
  ·exact h2 j p hj hp
  ·rw[hr]at hp;cases hp;rcases hz with ⟨_,hz⟩ | ⟨n,rfl,_⟩
   ·rintro⟨a,c,e⟩;refine hz a.length #[?_,?_]
    ·rw[e,aj,aj];lia
    ·rw[e,ao,cC,cH]
   ·exact y4 (bI n) h0
 ·exact .inr h
theorem AtR.yes{v:()}{x y z:Int}{r:zu}(h:AtR v ps i x y)(hr:ps[i]? = Bu r)(hz:ze5 v r.1 z)(h0:0<=z):if z<x\/(z=x/\(i:Int)<y)then AtR v ps (i+1) z (i:Int)else AtR v ps (i+1) x y:=by
 obtain⟨n,rfl,h1,h2⟩:=hz.resolve_left λh=>by have:=h.1;lia
 split
 ·exact .inr #[n,i,r,rfl,rfl,hr,h1,h2]
 ·rename_i hn;rcases h with ⟨rfl,_⟩ | h
  ·exact y4 (.inl ⋯) hn
  ·exact .inr h
def vD(K:sV):Sp:=λvs H Q _=>∃(a:sX) (k:Nat) (l:()) (ws:List Int) (ps:List zu) (w:()),vs=[.ref a,.str (tx w)]/\LsA K H a (ps.map dR)/\OG l ws k/\(∀n ∈ ws,n<=3)/\Dwn k l ws ps/\(∀p ∈ ps,p.2.length<=60)/\ps.length<=1000/\(∀c ∈ w,c ∈ l)/\w.length<=100/\∀(v:()) (H':Hp),Same H H'->Rws ps w v->(∀p ∈ ps,¬ Within p.1 v)->Q (.str (tx v)) H'
def wc{l:()}{w:()}(h1:LsA K H a (ps.map dR))(h2:OG l ws k)(h3:∀n ∈ ws,n<=3)(h4:Dwn k l ws ps)(h5:∀p ∈ ps,p.2.length<=60)(h8:ps.length<=1000)(h6:∀c ∈ w,c ∈ l)(h7:w.length<=100)(h:∀(v:()) (H':Hp),Same H H'->Rws ps w v->(∀p ∈ ps,¬ Within p.1 v)->Q (.str (tx v)) H'):vD K [.ref a,.str (tx w)] H Q E:=#[a,k,l,ws,ps,w,rfl,h1,h2,h3,h4,h5,h8,h6,h7,h]
structure HMn(mg:tw->Option sY):Prop where
 m:mg "min" = Bv
def iQ:sQz 2 ["_law_rules","_law_word_here","_law_first","_law_number","_law_rule","_law_at","_law_behind"] Jh:=by nofun
theorem zbc(B:Bt mg)(HM:HMn mg)(F:("_law_form"^^^Jh)) :(1&&&["_law_rules","_law_word_here"]) (vD K):=by
 exists F.ok iQ
 ·obtain⟨a,k,l,ws,ps,w,rfl,hA,hG,h3,hD,h60,hpl,hw,hwl,q⟩:=h
  refine#[_,(zg (Z6 r9 (yF yt (λ_=>rfl)) (zi (zC 2 iQ.nd (zS (za (zD yn (zB B.len (pv 1)) zf) (za zf ze)))) (zi (z7 r9 rfl (xy rfl B.enum (za (pv 0) ze)) (vm (n:=2) rfl (zP (zt (i:=3) iQ.nd rfl (.inl rfl)) (zP (zt (i:=4) iQ.nd rfl (.inl rfl)) xC))) (zi (zC 5 iQ.nd (ux bp cY cZ zcD (pv 1) (za (!-4) ze))) (zg (zN (zy op_ge' (pv 5) zf (zA _)) (zg (zC 2 iQ.nd (yu (zeO rfl (vV hr)) rfl HM.m fP (za (pv 2) (za (zS (za (pv 5) (za (pv 3) ze))) ze)))))
      zr)))) (zi (zN (zy VT (!-2) (zB B.len (pv 1)) (zA _)) (zg (zl (pv 1)))
     zr) (zi (zC 4 iQ.nd (zk ix_list (pv 0) (!-2))) (zi (zC 6 iQ.nd (zR y8 (pv 1) (zU (zD yn (!-2) (zB B.len (!-4)))) yA)) (zg (zC 1 iQ.nd (zD zQ (zD zQ (zR y8 (pv 1) yA (zU (!-2))) (!-4)) (pv 6))))))))))),?_]
  have s16:=zW;have s16:=zW;obtain⟨xs,hX,hI⟩:=id hA;have hxl:=hI.len;rw[ac]at hxl;obtain⟨Ws,hin⟩:=Yl hG w;unfold WX;refine#[λm σ H'=>Same H H'/\∃(v:()) (v2 v3 v4 v5 v6:Option V),(m=mu k l ws Ws v/\Rws ps w v)/\σ=[!!a,~~~v,v2,v3,v4,v5,v6],#[_,Same.refl _,w,Bv,Bv,Bv,Bv,Bv,#[rfl,.nil],rfl],?_];rintro m σ H1 ⟨s1,v,v2,v3,v4,v5,v6,⟨rfl,hv⟩,rfl⟩;obtain⟨hv1,hv2⟩:=Vg hG hD hv hw;have hvl:=zdO hG h3 hD hw hv
  rfl'
  refine#[λσ' H''=>Same H H''/\∃(u:()) (v2 v3 v4 v5 v6:Option V),Rw ps v u/\σ'=[!!a,~~~u,v2,v3,v4,v5,v6],?_,?_]
  ·rintro σ' H'' ⟨s2,u,v2,v3,v4,v5,v6,h,rfl⟩;have b1:=Below.step hG hD #[hv1,hv2] h;have m1:=zcj (Ws:=Ws) (hin _ b1) (ur hG hD hv1 h).1;exact#[mu k l ws Ws u,m1,s2,u,rfl,hv.trans (.one h),v2,v3,v4,v5,v6,rfl]
  change Same H H'/\∃q:sX,H' q=Bu (.tup [.int ((v.length:Int)+1),.int 0])/\σ=[!!a,~~~v,!!q,v3,v4,v5,v6]
  ·rfl'
   exact#[⋯,⋯,λp hp=>#[s1.trans (zd hp),zc]]
  rintro σ H2 ⟨s2,q0,hq0,rfl⟩:_;right;change Same H H'/\∃(q0:sX) (x y:Int),H' q0=Bu (.tup [.int x,.int y])/\AtR v ps ps.length x y/\∃v3 v4 v5:Option V,σ=[!!a,~~~v,!!q0,v3,v4,v5,v6]
  ·rfl'
   refine#[#[_,SqL.of (s2 _ _ hX)],ForEL.by (xs:=xs) (λi σ H'=>Same H H'/\∃(q0:sX) (x y:Int),H' q0=Bu (.tup [.int x,.int y])/\AtR v ps i x y/\∃v3 v4 v5:Option V,σ=[!!a,~~~v,!!q0,v3,v4,v5,v6]) #[s2,q0,_,_,hq0,.inl #[rfl,λj p h=>y4 h (bX _)],v3,v4,v5,rfl] (λi σ H' _ h=>SqL.of (h.1 _ _ hX)) ?_ ?_]
   ·rintro i x σ H3 p3 hx ⟨s3,q0,x0,y0,hq0,hat,v3,v4,v5,rfl⟩ hp3;have hi:=(BB.mp hx).1;obtain⟨r,p,hr,rfl,hsq⟩:=hI.getR hx;have sp3:=zd (o:=.tup [.int (i:Nat),.ref p]) hp3;have s4:=s3.trans sp3;have hq4:=sp3 _ _ hq0;have hsq4:=zo s4 hsq
    rfl'
    refine#[_,SqT.of zc,rfl,_,_,rfl,_,_,rfl,rfl,?_];generalize upd H3 p3 (.tup [.int (i:Nat),.ref p])=H4 at s4 hq4 hsq4;change H'=H4/\∃z:Int,ze5 v r.1 z/\σ=[!!a,~~~v,!!q0,-~~~i,!!p,~~~!z,v6]
    ·rfl'
     exact#[_,hsq4,_,rfl,v,r.1,rfl,rfl,λz hz=>#[rfl,z,hz,rfl]]
    rintro σ H5 ⟨rfl,z,hz,rfl⟩:_;right
    rfl'
    refine yE (λh0=>#[⋯,λp5 hp5=>?_]) λh0=>#[s4,q0,x0,y0,hq4,hat.no hr hz h0,rfl];have sp5:=zd (o:=.tup [.int z,.int (i:Nat)]) hp5;refine#[q0,p5,x0,y0,z,(i:Nat),rfl,SqT.of (sp5 _ _ hq4),SqT.of zc,s4.trans sp5,?_];have hy:=hat.yes hr hz h0;by_cases g:z<x0\/(z=x0/\(i:Int)<y0)
    ·rw[y6 g]at hy ⊢;exact#[p5,_,_,zc,hy,rfl]
    ·rw[y9 g]at hy ⊢;exact#[q0,_,_,sp5 _ _ hq4,hy,rfl]
   ·rintro σ H' ⟨s',q0,x,y,h1,h2,v3,v4,v5,rfl⟩;exact#[s',q0,x,y,h1,by rw[<- hxl];exact h2,v3,v4,v5,rfl]
  rintro σ H3 ⟨s3,q0,x,y,hq0,hat,v3,v4,v5,rfl⟩:_;right;change H'=H3/\(∃(n j:Nat) (p:zu),x=(n:Int)/\y=(j:Int)/\ps[j]? = Bu p/\n+p.1.length<=v.length/\(v.drop n).take p.1.length=p.1)/\σ=[!!a,~~~v,!!q0,v3,v4,v5,v6]
  ·rfl'
   refine#[_,SqT.of hq0,_,rfl,⋯,_,rfl,yE (λhg=>?_) λhg=>?_]
   ·rcases hat with ⟨_,h2⟩ | ⟨n,j,p,rfl,_,_,h,_⟩
    ·refine q v H3 s3 hv λp hp=>?_;obtain⟨j,hj⟩:=BM.mp hp;exact h2 j p (BB.mp hj).1 hj
    ·lia
   ·obtain⟨n,j,p,a1,a2,a3,a4,a5⟩:=hat.resolve_left λh=>hg (by have:=h.1;lia);exact#[n,a1,j,a2,p,a3,a4,a5]
  rintro σ H4 ⟨rfl,⟨n,j,r,rfl,rfl,hr,hn1,hn2⟩,rfl⟩:_;have hrm:=ae hr;have hrl:=h60 r hrm
  have hsp:v=v.take n ++ r.1 ++ v.drop (n+r.1.length):=by
   conv=>lhs;rw[<- aZ n v,<- aZ r.1.length (v.drop n),hn2,cU]
   rw[ao]
  obtain⟨x3,hx3,hsq3⟩:∃p3:sX,xs[j]? = Bu (.ref p3)/\SqT K H4 p3 [.str (tx r.1),.str (tx r.2)]:=by
   have hj:=(BB.mp hr).1;have hx:xs[j]? = Bu (xs[j]'⋯):=ah ⋯;obtain⟨r',p,hr',e,hsq⟩:=hI.getR hx;rw[hr]at hr';cases hr';exact#[p,by rw[hx,e],zo s3 hsq]
  right;change H'=H4/\σ=[!!a,~~~v,!!q0,v3,!!x3,v5,v6]
  ·rfl'
   exact#[_,SqT.of hq0,_,rfl,_,rfl,_,SqL.of (s3 _ _ hX),wX hx3]
  rintro σ H5 ⟨rfl,rfl⟩:_;right;change H'=H5/\σ=[!!a,~~~v,!!q0,v3,!!x3,v5,Bu (.str (tx (v.drop (n+r.1.length))))]
  ·rfl'
   refine#[_,SqT.of hq0,_,rfl,_,hsq3,_,rfl,_,#[by rw[zK];lia,rfl],_,rfl,⋯,?_];rw[zK,<- Int.natCast_add,xK v (bI _),az]
  rintro σ H6 ⟨rfl,rfl⟩:_;right
  rfl'
  refine#[_,SqT.of hq0,_,rfl,_,rfl,⋯,_,hsq3,_,rfl,_,rfl,?_,?_,s3,_,#[r,hrm,_,_,hsp,rfl],?_]
  all_goals erw[zK,yL,qu v (bI _),az,aj,aE,aS]
  ·lia
  ·lia
def qF{l:()}(G:OG l ws k)(hp:Dwn k l ws ps)(hm:Met ps){w u v v':()}(hw:∀c ∈ w,c ∈ l)(he:EqR ps w u)(h1:Rws ps w v)(n1:∀p ∈ ps,¬ Within p.1 v)(h2:Rws ps u v')(n2:∀p ∈ ps,¬ Within p.1 v'):v'=v/\zO k l ws u v=Bx:=by
 have hu:=(Wq hp he).mp hw;have hv:=(Vg G hp h1 hw).1;obtain⟨t,r1,r2⟩:=zdU G hp hm (.trans (.symm (Q6 h1)) (.trans he (Q6 h2))) hv;have e:v'=v:=(Ym r2 n2).symm.trans (Ym r1 n1);subst e;refine#[rfl,BX.mpr λhl=>?_];rcases (Vg G hp h2 hu).2 with e | e
 ·rw[e,yd]at hl;cases hl
 ·have:=yM hl e;rw[yd]at this;cases this
def zf4:List V->Hp->VK->Prop:=λxs H Q=>∃i j,xs=[.int i,.int j]/\Q (.int (if j<i then j else i)) H
def zdH{X:Cx}(hc:X.calm=Bw):wK X (.builtin "min") zf4:=JG hc
theorem J6{r o:zu}(hr:r ∈ ps)(ho:o ∈ ps){n sz:Nat}(hn:n<r.1.length)(hs:sz=min (r.1.length - n) o.1.length)(h:(r.1.drop n).take sz=o.1.take sz):EqR ps (r.2 ++ o.1.drop sz) ((r.1 ++ o.1.drop sz).take n ++ o.2 ++ (r.1 ++ o.1.drop sz).drop (n+o.1.length)):=by
 have e:r.1 ++ o.1.drop sz=(r.1 ++ o.1.drop sz).take n ++ o.1 ++ (r.1 ++ o.1.drop sz).drop (n+o.1.length):=by
  have e1:((r.1 ++ o.1.drop sz).drop n).take o.1.length=o.1:=by
   rw[bD ⋯];rcases Nat.le_total (r.1.length - n) o.1.length with hle | hle
   ·rw[cp hle]at hs;rw[bc (by rw[aS];lia)]at h;rw[h,aZ,aJ]
   ·rw[dc hle]at hs;subst hs;rw[dN,aT,h,aJ]
  conv=>lhs;rw[<- aZ n (r.1 ++ o.1.drop sz),<- aZ o.1.length ((r.1 ++ o.1.drop sz).drop n),e1,cU]
  rw[ao]
 refine .trans (.symm (.one #[r,hr,[],o.1.drop sz,rfl,rfl])) (.one #[o,ho,_,_,?_,rfl]);exact e
def zep{A B C X Y:Prop}[Decidable A][Decidable B][Decidable C](h1:A->X)(h2:Y):if A then (if B then X else if C then X else Y)else Y:=by by_cases a:A <;> by_cases b:B <;> by_cases c:C <;> simp [a,b,c,h1,h2]
def Vp(K:sV):Sp:=λvs H Q _=>∃(a:sX) (k:Nat) (l:()) (ws:List Int) (ps:List zu),vs=[.ref a]/\LsA K H a (ps.map dR)/\OG l ws k/\(∀n ∈ ws,n<=3)/\Dwn k l ws ps/\(∀p ∈ ps,p.1.length<=20/\p.2.length<=20)/\ps.length<=1000/\Met ps/\∀H':Hp,Same H H'->Q (.bl Bw) H'
def gY:sQz 1 ["_law_rules","_law_k","_law_rule","_law_n","_law_other","_law_place","_law_size","_law_agree","_law_word_here","_law_left","_law_behind","_law_right"] Uv:=by nofun
theorem zcw(B:Bt mg)(HM:HMn mg)(F:("_law_meet"^^^Uv))(mP:(1<<<"_law_form") ["_law_rules","_law_word_here"] [] (vD K)):(2&&&["_law_rules"]) (Vp K):=by
 exists F.ok gY
 ·obtain⟨a,k,l,ws,ps,rfl,hA,hG,h3,hD,hsd,hpl,hmt,q⟩:=h
  refine#[_,(zi (z7 r9 rfl (xy rfl B.enum (za (pv 0) ze)) (vm (n:=2) rfl (zP (zt (i:=1) gY.nd rfl (.inl rfl)) (zP (zt (i:=2) gY.nd rfl (.inl rfl)) xC))) (zg (z7 r9 rfl (xy rfl B.enum (za (pv 0) ze)) (vm (n:=2) rfl (zP (zt (i:=3) gY.nd rfl (.inl rfl)) (zP (zt (i:=4) gY.nd rfl (.inl rfl)) xC))) (zg (z7 r9 rfl (yB rfl B.range (za (zB B.len (!-2)) ze)) (zt (i:=5) gY.nd rfl (.inl rfl)) (zi (zC 6 gY.nd (yu (zdH rfl) rfl HM.m fP (za (zD ut (zB B.len (!-2)) (pv 5)) (za (zB B.len (!-4)) ze)))) (zi (zC 7 gY.nd (yI wF (zR y8 (!-2) (zU (pv 5)) (zU (zD yn (pv 5) (pv 6)))) (zR y8 (!-4) yA (zU (pv 6))) (zA _))) (zg (zN (PW.pt (zdS (yF (pv 7) (λ_=>rfl)) (zb9 (PW.pt (vM (zy uE (pv 1) (pv 3) (zA _)) (wI (zy VT (pv 5) zf (zA _)))))))) (zi (zC 8 gY.nd (zD zQ (!-2) (zR y8 (!-4) (zU (pv 6)) yA))) (zi (zC 9 gY.nd (zD zQ (!-2) (zR y8 (!-4) (zU (pv 6)) yA))) (zi (zC 10 gY.nd (zR y8 (pv 8) (zU (zD yn (pv 5) (zB B.len (!-4)))) yA)) (zi (zC 11 gY.nd (zD zQ (zD zQ (zR y8 (pv 8) yA (zU (pv 5))) (!-4)) (pv 10))) (zg (zN (zy uE (cl0 mP hr .nil rfl (za (pv 0) (za (pv 9) ze))) (cl0 mP hr .nil rfl (za (pv 0) (za (pv 11) ze))) (zA _)) (zg (zl yt))
        zr))))))
       zr))))))))) (zg (zl yt))),?_]
  have s16:=zW;have s16:=zW;obtain⟨xs,hX,hI⟩:=id hA;have hxl:=hI.len;rw[ac]at hxl
  refine kT (λσ H'=>Same H H') ?_ λσ H' s'=>by
   rfl'
   exact q H' s'
  rfl'
  refine#[#[_,SqL.of hX],ForEL.by (xs:=xs) (λi σ H'=>Same H H'/\∃v1 v2 v3 v4 v5 v6 v7 v8 v9 v10 v11:Option V,σ=[!!a,v1,v2,v3,v4,v5,v6,v7,v8,v9,v10,v11]) #[Same.refl _,Bv,Bv,Bv,Bv,Bv,Bv,Bv,Bv,Bv,Bv,Bv,rfl] (λi σ H' _ h=>SqL.of (h.1 _ _ hX)) ?_ λσ H' h=>h.1];rintro i x σ H1 p1 hx ⟨s1,v1,v2,v3,v4,v5,v6,v7,v8,v9,v10,v11,rfl⟩ hp1;obtain⟨r,p,hr,rfl,hsq⟩:=hI.getR hx;have hrm:=ae hr;obtain⟨r1,r2⟩:=hsd r hrm;have s2:=s1.trans (zd (o:=.tup [.int (i:Nat),.ref p]) hp1);refine zbd (SqT.of zc) ?_;generalize upd H1 p1 (.tup [.int (i:Nat),.ref p])=H2 at s2
  rfl'
  refine#[#[_,SqL.of (s2 _ _ hX)],ForEL.by (xs:=xs) (λj σ H'=>Same H H'/\∃v3 v4 v5 v6 v7 v8 v9 v10 v11:Option V,σ=[!!a,-~~~i,!!p,v3,v4,v5,v6,v7,v8,v9,v10,v11]) #[s2,v3,v4,v5,v6,v7,v8,v9,v10,v11,rfl] (λi σ H' _ h=>SqL.of (h.1 _ _ hX)) ?_ ?_]
  rotate_left
  ·rintro σ H' ⟨s',v3,v4,v5,v6,v7,v8,v9,v10,v11,rfl⟩;exact#[s',_,_,_,_,_,_,_,_,_,_,_,rfl]
  rintro j x σ H3 p3 hx3 ⟨s3,v3,v4,v5,v6,v7,v8,v9,v10,v11,rfl⟩ hp3;obtain⟨o,po,ho,rfl,hso⟩:=hI.getR hx3;have hom:=ae ho;obtain⟨o1,o2⟩:=hsd o hom;have s4:=s3.trans (zd (o:=.tup [.int (j:Nat),.ref po]) hp3);refine zbd (SqT.of zc) ?_;generalize upd H3 p3 (.tup [.int (j:Nat),.ref po])=H4 at s4
  rfl'
  refine#[_,zo s4 hsq,_,rfl,_,#[by rw[zK];lia,rfl],⋯,by rw[zK];lia,?_];rw[zK];refine ForR.by (λn σ H'=>Same H H'/\∃v5 v6 v7 v8 v9 v10 v11:Option V,σ=[!!a,-~~~i,!!p,-~~~j,!!po,v5,v6,v7,v8,v9,v10,v11]) #[s4,v5,v6,v7,v8,v9,v10,v11,rfl] ?_ ?_
  rotate_left
  ·rintro σ H' ⟨s',v5,v6,v7,v8,v9,v10,v11,rfl⟩;exact#[s',_,_,_,_,_,_,_,_,_,rfl]
  rintro n σ H5 hn ⟨s5,v5,v6,v7,v8,v9,v10,v11,rfl⟩;have hn':n<r.1.length:=⋯
  erw[yK,aX,aW]
  rw[show (0:Int)+(n:Int)=(n:Int) by lia];have hsq5:=zo s5 hsq;have hso5:=zo s5 hso;change H'=H5/\∃sz:Nat,sz=min (r.1.length - n) o.1.length/\σ=[!!a,-~~~i,!!p,-~~~j,!!po,-~~~n,-~~~sz,v7,v8,v9,v10,v11]
  ·rfl'
   refine#[_,hsq5,_,rfl,_,#[by rw[zK];lia,rfl],_,hso5,_,rfl,_,#[by rw[zK];lia,rfl],_,_,rfl,rfl,?_];rw[zK,zK];refine congrArg V.int ?_;split <;> lia
  rintro σ H6 ⟨rfl,sz,hsz,rfl⟩:_;right;change H'=H6/\σ=[!!a,-~~~i,!!p,-~~~j,!!po,-~~~n,-~~~sz,Bu (.bl (decide ((r.1.drop n).take sz=o.1.take sz))),v8,v9,v10,v11]
  ·rfl'
   refine#[_,hsq5,_,rfl,_,rfl,by rw[zK];lia,_,hso5,_,rfl,_,rfl,by rw[zK];lia,?_];rw[qX,qX,qu _ (bI _),QZ _ (bI _) ⋯,az,az,show ((n:Int)+(sz:Int) - (n:Int)).toNat=sz by lia]
  rintro σ H7 ⟨rfl,rfl⟩:_;right
  rfl'
  refine zep (λhag=>?_) ?_
  rotate_left
  ·exact s5
  have hw:=J6 hrm hom hn' hsz hag;have hsl:(o.1.drop sz).length<=20:=by rw[aS];lia
  change H'=H7/\σ=[!!a,-~~~i,!!p,-~~~j,!!po,-~~~n,-~~~sz,Bu (.bl (decide ((r.1.drop n).take sz=o.1.take sz))),Bu (.str (tx (r.1 ++ o.1.drop sz))),v9,v10,v11]
  ·rfl'
   refine#[_,hsq5,_,rfl,_,hso5,_,rfl,_,rfl,by rw[zK];lia,_,rfl,?_,?_]
   all_goals rw[qX,xK _ (bI _),az]
   ·rw[zK];lia
   ·rw[yL]
  rintro σ H8 ⟨rfl,rfl⟩:_;right;change H'=H8/\σ=[!!a,-~~~i,!!p,-~~~j,!!po,-~~~n,-~~~sz,Bu (.bl (decide ((r.1.drop n).take sz=o.1.take sz))),Bu (.str (tx (r.1 ++ o.1.drop sz))),Bu (.str (tx (r.2 ++ o.1.drop sz))),v10,v11]
  ·rfl'
   refine#[_,hsq5,_,rfl,_,hso5,_,rfl,_,rfl,by rw[zK];lia,_,rfl,?_,?_]
   all_goals rw[qX,xK _ (bI _),az]
   ·rw[zK];lia
   ·rw[yL]
  rintro σ H9 ⟨rfl,rfl⟩:_;have hwl:(r.1 ++ o.1.drop sz).length<=40:=by rw[aj];lia
  right;generalize hwd:r.1 ++ o.1.drop sz=wd at hw hwl;change H'=H9/\σ=[!!a,-~~~i,!!p,-~~~j,!!po,-~~~n,-~~~sz,Bu (.bl (decide ((r.1.drop n).take sz=o.1.take sz))),~~~wd,Bu (.str (tx (r.2 ++ o.1.drop sz))),Bu (.str (tx (wd.drop (n+o.1.length)))),v11]
  ·rfl'
   refine#[_,hso5,_,rfl,_,#[by rw[zK];lia,rfl],⋯,?_];rw[zK,<- Int.natCast_add,xK wd (bI _),az]
  rintro σ H10 ⟨rfl,rfl⟩:_;right;change H'=H10/\σ=[!!a,-~~~i,!!p,-~~~j,!!po,-~~~n,-~~~sz,Bu (.bl (decide ((r.1.drop n).take sz=o.1.take sz))),~~~wd,Bu (.str (tx (r.2 ++ o.1.drop sz))),Bu (.str (tx (wd.drop (n+o.1.length)))),Bu (.str (tx (wd.take n ++ o.2 ++ wd.drop (n+o.1.length))))]
  ·rfl'
   refine#[⋯,_,hso5,_,rfl,_,rfl,?_,?_,?_]
   all_goals erw[zK,yL,qu wd (bI _),az,aj,aE,aS]
   ·lia
   ·rw[dw];exact aK (dY (ze0 _ _ _) _) ⋯
  rintro σ H11 ⟨rfl,rfl⟩:_;right
  rfl'
  have hR:=hA.same s5;have hli:∀c ∈ r.2 ++ o.1.drop sz,c ∈ l:=λc hc=>(BD.mp hc).elim ((hD r hrm).2.2 c) λh=>(hD o hom).2.1 c (cr h);have hri:=(Wq hD hw).mp hli;have h20:∀p ∈ ps,p.2.length<=60:=λp hp=>aK (hsd p hp).2 ∅;refine wc hR hG h3 hD h20 hpl hli (by rw[aj];lia) λv1 H12 s12 a1 a2=>wc (hR.same s12) hG h3 hD h20 hpl hri (by erw[aj,aE,aS];rw[dw];exact aK (dY (ze0 _ _ _) _) ⋯) λv2 H13 s13 b1 b2=>?_;obtain⟨rfl,_⟩:=qF hG hD hmt hli hw a1 a2 b1 b2;exact#[rfl,by rw[y9 (λh=>h rfl)];exact s5.trans (s12.trans s13)]
section
variable{g:TG}{tt:TT}{te:TE}{own:Nat}{ix:()}{σ:L2.St}{H1:Hp}{Q:VK}{D:sX}
def CompT(K:sV)(a:sX)(g:TG)(tt:TT)(te:TE)(own:Nat)(ix:())(σ:L2.St)(H1:Hp)(Q:VK)(D:sX):Prop:=YM (Itt K a) g tt te own ix σ H1 Q D
def zgk{K:sV}{tl:TE}:jy (zfV K tl) g tt te own ix σ H Q=tl σ H λx H1=>∃a,x=.ref a/\(∃xs,SqT K H1 a xs)/\∀D,H1 D=Bv->CompT K a g tt te own ix σ H1 Q D:=rfl
theorem CompT.by{K:sV}{xs:List V}(Pv:Nat->List V->Hp->Prop)(h0:Pv 0 [] (upd H1 D (.lst [])))(hl:∀i BA H',i<=xs.length->Pv i BA H'->SqT K H' a xs)(hs:∀i x BA H',xs[i]? = Bu x->Pv i BA H'->g x (vx σ own ix) H' λσ3 H3=>xf (vx σ own ix) σ3/\tt σ3 H3 λb H4=>if b=Bw then
   te σ3 H4 λv H5=>H5 D=Bu (.lst BA)/\BA.length<sU/\CNx xs.length i Pv (BA ++ [v]) (upd H5 D (.lst (BA ++ [v])))else CNx xs.length i Pv BA H4)(hd:∀BA H',Pv xs.length BA H'->Q (.ref D) H'):CompT K a g tt te own ix σ H1 Q D:=by
 refine#[λi m BA H=>m=xs.length - i/\i<=xs.length/\Pv i BA H,#[xs.length,by simp,aG _,h0],?_];rintro i m BA H' ⟨rfl,hi,p⟩;have q:=hl i BA H' hi p;by_cases hlt:i<xs.length
 ·refine .inr #[#[xs,xs[i],q,by simp [hlt]],λx H2 y=>?_];obtain⟨e,y⟩:=y;subst e;exact hs i x BA _ (y xs q) p
 ·have e:i=xs.length:=⋯;subst e;exact .inl #[#[xs,q,al _],hd BA H' p]
end
def RkAt.updL{D R:sX}{xs ys:List V}{l:()}{u:()}(h:RkAt H R k l ws u)(hD:H D=Bu (.lst xs))(hn:xs≠(xS k l u).map V.int):RkAt (upd H D (.lst ys)) R k l ws u:=by
 obtain⟨R',h1,h2⟩:=h;refine#[R',?_,?_]
 ·rw[zq λe=>by rw[e,hD]at h1;cases h1];exact h1
 ·rw[zq λe=>hn (by rw[e,hD]at h2;cases h2;rfl)];exact h2
def zbr{k:Nat}{l:()}(G:OG l ws k){u v:()}(hu:∀c ∈ u,c ∈ l)(h:zO k l ws u v=Bw):[]≠(xS k l v).map V.int:=λe=>by
 have e2:=congrArg ft e
 have e3:(xS k l v).length=v.length:=by
  unfold xS qj yx;split <;> simp
 rw[ac,e3]at e2;have e4:v=[]:=BS.mp e2.symm;subst e4;by_cases hn:u=[]
 ·rw[hn,yd]at h;cases h
 ·have:=(Vn (k:=k) (l:=l) (ns:=ws) (t:=u) (u:=[]) (v:=[]) G hu (λd hd=>(nomatch hd)) (λd hd=>(nomatch hd)) (by simpa using hn)).1;have:=yM h (by simpa using this);rw[yd]at this;cases this
structure PG5(l:())(rs:List zu):Prop where
 n:rs.length<=6
 s:∀r ∈ rs,r.1.length<=3/\r.2.length<=3/\(∀x ∈ r.1,x ∈ l)/\∀x ∈ r.2,x ∈ l
theorem PG5.ok{l:()}(h:PG5 l rs):ZL rs:=#[by have:=h.n;lia,λr hr=>by have:=h.s r hr;lia]
structure FrS(rs:List zu)(k:Nat)(l:())(ws:List Int)(es:List Ent)(u v x y:()):Prop where
 G:OG l ws k
 w3:∀n ∈ ws,n<=3
 b:BG k l ws es
 n:es.length<=12
 s:∀e ∈ es,e.1.length<=10/\e.2.1.length<=10
 ok:∀e ∈ es,EOk rs e
 m:Met (zb es)
 p:PG5 l rs
 q:∀p ∈ rs,EqR (zb es) p.1 p.2
 ul:u.length<=6
 vl:v.length<=6
 ui:∀c ∈ u,c ∈ l
 vi:∀c ∈ v,c ∈ l
 fu:Rws (zb es) u x/\∀p ∈ zb es,¬ Within p.1 x
 fv:Rws (zb es) v y/\∀p ∈ zb es,¬ Within p.1 y
 ne:x≠y
def Uu{p:sX}{x y:()}(h:H p=Bu (.tup [.str (tx x),.str (tx y)])):Is K H (.tup [.str (tx x),.str (tx y)]) (.ref p):=by
 erw[Is,Iss]
 exact#[_,_,rfl,SqT.of h,_,_,rfl,rfl,_,_,rfl,rfl,rfl]
def za4(K:sV):Sp:=λvs H Q _=>∃(pa fp D rk W:sX) (k:Int) (l:()) (ws:List Int) (rs:List zu) (es:List Ent) (u v x y:()),vs=[.ref pa,.str (tx u),.str (tx v),.ref fp,.ref rk]/\0<=k/\k<3/\LsA K H pa (rs.map dR)/\H fp=Bu (.tup [.str "forms",.ref D,.str (tx x),.str (tx y)])/\EnsM K H D es/\H rk=Bu (.tup [.int k,.str (tx l),.ref W])/\H W=Bu (.lst (ws.map V.int))/\FrS rs k.toNat l ws es u v x y/\∀H',Q (.bl Bw) H'
def il:sQz 5 ["_law_pacts","_law_one","_law_other","_law_answer_here","_law_ranks","_law_rules","_law_rule","_law_sides","_law_forms"] yb:=by nofun
theorem j8(B:Bt mg)(hany:zgJ mg)(F:("_law_forms_stand"^^^yb))(sI:(2<<<"_law_meet") ["_law_rules"] [] (Vp K))(mP:(1<<<"_law_form") ["_law_rules","_law_word_here"] [] (vD K))(sJ:(1<<<"_law_rank") ["_law_kind","_law_letters_here","_law_weights","_law_word_here"] [] qV)(sM:(2<<<"_law_end") ["_law_pacts","_law_word_here","_law_steps_here"] [] (Wz K)):(3&&&["_law_pacts","_law_one","_law_other","_law_answer_here","_law_ranks"]) (za4 K):=by
 exists F.ok il
 ·obtain⟨pa,fp,D,rk,W,k,l,ws,rs,es,u,v,x,y,rfl,k0,k3,hP,hF,hM,hK,hW,hS,q⟩:=h
  refine#[_,(zi (jF (i:=5) il.nd rfl (Or.inr rfl) (yP (own:=["_law_entry"]) (caps:=[]) (ix:=[]) (tt:=xw) (te:=(Jl (zL (tOp (vv K) (z6 0) (tC (.int 0))) (zL (tOp (vv K) (z6 0) (tC (.int 1))) xx)))) rfl (zM (sc:=zh yb) rfl (!0) (!0) (!0) rfl (!0) (!0) rfl) (z9 (!-3)) (λ_ _ _ _ _ _=>zt (i:=0) (show List.Nodup [_] by decide) rfl (.inl rfl)) (λ_ _ _ _ _ _=>yg) (λ_ _ _ _ _ _=>(zS (za (!-0) (za (!-0) ze)))))) (zi (z7 r9 rfl (z9 (pv 5)) (zt (i:=6) il.nd rfl (.inl rfl)) (zi (zN (yF (yu (zdK rfl) rfl hany fO (za (yP (own:=["_law_sign"]) (caps:=["_law_ranks"]) (ix:=[4]) (tt:=xw) (te:=(tOp zfa (z6 0) (tOp (vv K) (z6 1) (tC (.int 1))))) rfl (zM (sc:=zh yb) rfl (!0) (!0) (!0) rfl (!0) (!0) rfl) (kN (zD zQ (!-6) (!-6))) (λ_ _ _ _ _ _=>zt (i:=0) (show List.Nodup [_,_] by decide) rfl (.inl rfl)) (λ_ _ _ _ _ _=>yg) (λ_ _ _ _ _ _=>(yI zde (pv 0) (!-1) (by with_unfolding_all rfl)))) ze)) (λ_=>rfl)) (zg (zl yt))
     zr) (zi (Xg (i:=7) il.nd rfl (.inl rfl) (.inl rfl) (own:=["_law_side"]) (caps:=["_law_ranks"]) (ix:=[4]) (tt:=xw) (te:=(wL qV [] E0 (zL (tOp (vv K) (z6 1) (tC (.int 0))) (zL (tOp (vv K) (z6 1) (tC (.int 1))) (zL (tOp (vv K) (z6 1) (tC (.int 2))) (zL (z6 0) xx)))))) rfl (zM (sc:=zh yb) rfl (!0) (!0) (!0) rfl (!0) (!0) rfl) (zeG (pv 6)) (λ_ _ _ _ _ _=>zt (i:=0) (show List.Nodup [_,_] by decide) rfl (.inl rfl)) (λ_ _ _ _ _ _=>yg) (λ_ _ _ _ _ _=>(cl0 sJ hr .nil rfl (za (!-1) (za (!-1) (za (!-1) (za (pv 0) ze))))))) (zg (zN (zZ (zy (zaT (vV hr)) (zk ix_list (pv 7) zf) (zk ix_list (pv 7) zf) (zA _))) (zg (zl yt))
     zr))))) (zi (zN (zZ (yF (yu (zcH rfl) rfl B.all dO (za (yP (own:=["_law_entry"]) (caps:=["_law_pacts"]) (ix:=[0]) (tt:=xw) (te:=(tOp rEq (wL (Wz K) [] E0 (zL (z6 1) (zL (tOp (vv K) (z6 0) (tC (.int 0))) (zL (tOp (vv K) (z6 0) (tC (.int 2))) xx)))) (tOp (vv K) (z6 0) (tC (.int 1))))) rfl (zM (sc:=zh yb) rfl (!0) (!0) (!0) rfl (!0) (!0) rfl) (z9 (!-3)) (λ_ _ _ _ _ _=>zt (i:=0) (show List.Nodup [_,_] by decide) rfl (.inl rfl)) (λ_ _ _ _ _ _=>yg) (λ_ _ _ _ _ _=>(yI wF (cl0 sM hr .nil rfl (za (pv 1) (za (!-0) (za (!-0) ze)))) (!-0) (zA _)))) ze)) (λ_=>rfl))) (zg (zl yt))
    zr) (zi (zN (zZ (yF (cl0 sI hr .nil rfl (za (pv 5) ze)) (λ_=>rfl))) (zg (zl yt))
    zr) (zi (zN (zZ (yF (yu (zcH rfl) rfl B.all dO (za (yP (own:=["_law_pact"]) (caps:=["_law_rules"]) (ix:=[5]) (tt:=xw) (te:=(tOp rEq (wL (vD K) [] E0 (zL (z6 1) (zL (tOp (vv K) (z6 0) (tC (.int 0))) xx))) (wL (vD K) [] E0 (zL (z6 1) (zL (tOp (vv K) (z6 0) (tC (.int 1))) xx))))) rfl (zM (sc:=zh yb) rfl (!0) (!0) (!0) rfl (!0) (!0) rfl) (z9 (pv 0)) (λ_ _ _ _ _ _=>zt (i:=0) (show List.Nodup [_,_] by decide) rfl (.inl rfl)) (λ_ _ _ _ _ _=>yg) (λ_ _ _ _ _ _=>(yI wF (cl0 mP hr .nil rfl (za (pv 1) (za (!-0) ze))) (cl0 mP hr .nil rfl (za (pv 1) (za (!-0) ze))) (zA _)))) ze)) (λ_=>rfl))) (zg (zl yt))
    zr) (zi (zC 8 il.nd (zS (za (cl0 mP hr .nil rfl (za (pv 5) (za (pv 1) ze))) (za (cl0 mP hr .nil rfl (za (pv 5) (za (pv 2) ze))) ze)))) (zg (zl (kH (yI (U1 (vV hr)) (pv 8) (zS (za (!-3) (za (!-3) ze))) (zA _)) (ky (yI uE (!-8) (!-8) (zA _)))))))))))),?_]
  have s16:=zW;have s16:=zW;have hG:=hS.G;have hpl:=wZ es;have hle:=hS.n;have hD:=hS.b.dwn
  have hb10:∀p ∈ zb es,p.1.length<=10/\p.2.length<=10:=λp hp=>by
   obtain⟨e,he,rfl⟩:=BC.mp hp;exact hS.s e he
  have hwb:=hG.nb;have hwl:=hG.nl;have hg:=hG.g;obtain⟨xe,hXe,hEn⟩:=id hM;have hxl:=hEn.len;change Same H H'/\∃R:sX,LsA K H' R ((zb es).map dR)/\σ=[!!pa,~~~u,~~~v,!!fp,!!rk,!!R,Bv,Bv,Bv]
  ·ac_rfl;refine#[_,SqT.of hF,_,rfl,D,rfl,#[_,SqL.of hXe],λD7 hD=>CompL.by (xs:=xe) (λi BA H'=>Same H H'/\H' D7=Bu (.lst BA)/\Iss K H' (((zb es).take i).map dR) BA) #[zd hD,zc,by erw[bN,aO,Iss]] (λi BA H' _ h=>SqL.of (h.1 _ _ hXe)) ?_ ?_]
   ·refine nm4 ?_;rintro i x BA H' hx ⟨hs,hH,hA⟩:_;have hi:=(BB.mp hx).1;obtain⟨e,pe,se,hei,rfl,hqe,_⟩:=hEn.get hx;have hm:(zb es)[i]? = Bu (e.1,e.2.1):=by unfold zb;rw[ar,hei];rfl
    have hal:=hA.len;rw[ac,aE]at hal;right
    erw[xw]
    rfl'
    refine#[yH,_,zo hs hqe,_,rfl,_,zo hs hqe,_,rfl,⋯,λp hp=>#[zd hp _ _ hH,⋯,CNx.mk hi #[zE (hs.trans (zd hp)) hD,zc,?_]]];rw[zV hm,au];exact uz hH hA hp zbZ (Zx _) (by erw[z8,xB,and_self])
   ·rintro BA H' ⟨hs,hH,hA⟩;rw[hxl,<- hpl,aJ]at hA;exact#[hs,D7,#[BA,hH,hA],rfl]
  rintro σ H6 ⟨s6,R,hR,rfl⟩:_;obtain⟨xr,hXr,hIr⟩:=id hR;have hrl:=hIr.len;rw[ac]at hrl;have hW6:=s6 _ _ hW;have hK6:=s6 _ _ hK;right;change Same H6 H'/\∃v6 v7:Option V,σ=[!!pa,~~~u,~~~v,!!fp,!!rk,!!R,v6,v7,Bv]
  ·rfl'
   refine#[#[_,SqL.of hXr],ForL.by (xs:=xr) (λi σ H'=>Same H6 H'/\∃v6 v7:Option V,σ=[!!pa,~~~u,~~~v,!!fp,!!rk,!!R,v6,v7,Bv]) #[Same.refl _,Bv,Bv,rfl] (λi σ H' _ h=>SqL.of (h.1 _ _ hXr)) ?_ λσ H' h=>h];refine nm4 ?_;rintro i x σ H7 hx ⟨s7,v6,v7,rfl⟩:_;obtain⟨r,p,hr,rfl,hsq⟩:=hIr.getR hx;have hrm:r ∈ zb es:=ae hr;obtain⟨d1,d2,d3⟩:=hD r hrm;obtain⟨b1,b2⟩:=hb10 r hrm;have hq7:=zo s7 hsq;right
   erw[yK,aX,aW]
   change Same H7 H'/\σ=[!!pa,~~~u,~~~v,!!fp,!!rk,!!R,!!p,v7,Bv]
   ·rfl'
    refine#[_,hq7,_,rfl,_,hq7,_,rfl,_,rfl,_,rfl,by rw[zK,zK];lia,λA2 hA2=>?_];rw[yL];have hmem:∀x ∈ r.1 ++ r.2,x ∈ l:=λx hx=>(BD.mp hx).elim (d2 x) (d3 x);have hfl:(r.1 ++ r.2).length<=120:=by rw[aj];lia
    generalize r.1 ++ r.2=fl at hmem hfl ⊢;refine CompS.by (λi BA H''=>Same H7 H''/\H'' A2=Bu (.lst BA)/\BA=(aP i Bx).map V.bl) #[zd hA2,zc,rfl] ?_ ?_
    ·refine nm4 ?_;rintro i c2 BA H'' hc2 ⟨hs2,hH2,rfl⟩:_;have hci:=(BB.mp hc2).1;have hcl:=hmem c2 (ae hc2);right
     erw[xw]
     rfl'
     refine#[yH,_,SqT.of ((s7.trans hs2) _ _ hK6),_,rfl,_,rfl,hH2,by rw[ac,bx];lia,CNx.mk hci #[zE hs2 hA2,zc,?_]];rw[de,au];simp [hcl]
    ·rintro BA H'' ⟨hs2,hH2,rfl⟩;refine#[A2,aP fl.length Bx,rfl,SqL.of hH2,Bx,by simp,?_];rw[y9 ∅];exact hs2
   rintro σ H8 ⟨s8,rfl⟩:_;right;change Same H8 H'/\∃S R1 R2:sX,(H' S=Bu (.lst [.ref R1,.ref R2])/\RkAt H' R1 k.toNat l ws r.1/\RkAt H' R2 k.toNat l ws r.2)/\σ=[!!pa,~~~u,~~~v,!!fp,!!rk,!!R,!!p,!!S,Bv]
   ·erw[qQ]
    rw[zgk]
    rfl'
    have hq8:=zo s8 hq7;have hW8:=(s7.trans s8) _ _ hW6;have hK8:=(s7.trans s8) _ _ hK6;refine#[#[_,hq8],λA2 hA2=>CompT.by (xs:=[.str (tx r.1),.str (tx r.2)]) (λi BA H'=>Same H8 H'/\H' A2=Bu (.lst BA)/\∃R1 R2:sX,BA=[V.ref R1,V.ref R2].take i/\(1<=i->RkAt H' R1 k.toNat l ws r.1)/\(2<=i->RkAt H' R2 k.toNat l ws r.2)) #[zd hA2,zc,0,0,rfl,λh=>by lia,λh=>by lia] (λi BA H' _ h=>zo h.1 hq8) ?_ ?_]
    ·refine nm4 ?_;rintro i x BA H' hx ⟨hs,hH,R1,R2,rfl,h1,h2⟩:_;have hi:=(BB.mp hx).1;have hk':=SqT.of (K:=K) (hs _ _ hK8);right;rcases (show i=0\/i=1 by erw[aL,cj]at hi;lia)with rfl | rfl
     ·cases hx
      erw[xw]
      rfl'
      refine#[yH,_,hk',_,rfl,_,hk',_,rfl,_,hk',_,rfl,Yi k0 k3 hg (hs _ _ hW8) hwl hwb ⋯ d2 λP1 P2 H'' s'' p1 p2=>#[s'' _ _ hH,by show 0<sU;lia,CNx.mk hi #[zE (hs.trans s'') hA2,zc,P1,0,rfl,λ_=>RkAt.updL #[P2,p1,p2] (s'' _ _ hH) (zbr hG d3 d1),λh=>by lia]]]
     ·cases hx
      erw[xw]
      rfl'
      have hr1:=h1 (al _);refine#[yH,_,hk',_,rfl,_,hk',_,rfl,_,hk',_,rfl,Yi k0 k3 hg (hs _ _ hW8) hwl hwb ⋯ d3 λP1 P2 H'' s'' p1 p2=>#[s'' _ _ hH,by show 1<sU;lia,CNx.mk hi #[zE (hs.trans s'') hA2,zc,R1,P1,rfl,λ_=>(hr1.same s'').updL (s'' _ _ hH) (λe=>?_),λ_=>RkAt.updL #[P2,p1,p2] (s'' _ _ hH) λe=>?_]]]
      all_goals
       have:=congrArg List.head? e;rw[List.head?_map]at this
       cases hh:(xS k.toNat l _).head? with
       | none=>rw[hh]at this;cases this
       | some _=>rw[hh]at this;cases this
    ·rintro BA H' ⟨hs,hH,R1,R2,rfl,h1,h2⟩;exact#[hs,A2,R1,R2,hH,h1 (by simp),h2 (by simp),rfl]
   rintro σ H9 ⟨s9,S,R1,R2,⟨hS9,hR1,hR2⟩,rfl⟩:_;right
   rfl'
   refine#[_,SqL.of hS9,_,rfl,_,SqL.of hS9,_,rfl,RkAt.lt hR2 hR1 ?_];rw[d1];refine#[Bw,rfl,?_];rw[y9 ∅];exact s7.trans (s8.trans s9)
  rintro σ H7 ⟨s7,v6,v7,rfl⟩:_;have hR7:=hR.same s7;have s67:=s6.trans s7;have hP7:=hP.same s67;have hF7:=s67 _ _ hF;obtain⟨xs2,hX2,hI2⟩:=hM.same s67;have hxl2:=hI2.len;right;change Same H7 H'/\σ=[!!pa,~~~u,~~~v,!!fp,!!rk,!!R,v6,v7,Bv]
  ·rfl'
   refine#[_,SqT.of hF7,_,rfl,D,rfl,#[_,SqL.of hX2],λJ hJ=>CompL.by (xs:=xs2) (λi BA H'=>Same H7 H'/\H' J=Bu (.lst BA)/\BA=(aP i Bw).map V.bl) #[zd hJ,zc,rfl] (λi BA H' _ h=>SqL.of (h.1 _ _ hX2)) ?_ ?_]
   ·refine nm4 ?_;rintro i x BA H' hx ⟨hs,hH,rfl⟩:_;have hi:=(BB.mp hx).1;obtain⟨e,pe,se,hei,rfl,hqe,hse⟩:=hI2.get hx;have hem:=ae hei;have hEe:=hS.b.e e hem;have hq2:=zo hs hqe;right
    erw[xw]
    rfl'
    refine#[yH,_,hq2,_,rfl,_,hq2,_,rfl,zbn (hP7.same hs).is hS.p.ok (by have:=hEe.a;lia) (hse.same hs).is (by have:=hEe.s;lia) (hS.ok e hem) #[_,hq2,_,rfl,rfl,hH,by rw[ac,bx];lia,CNx.mk hi #[zE hs hJ,zc,?_]]];rw[de,au];simp
   ·rintro BA H' ⟨hs,hH,rfl⟩;refine#[J,aP xs2.length Bw,rfl,SqL.of hH,Bw,by simp,?_];rw[y9 ∅];exact hs
  rintro σ H8 ⟨s8,rfl⟩:_;right;change Same H8 H'/\σ=[!!pa,~~~u,~~~v,!!fp,!!rk,!!R,v6,v7,Bv]
  ·rfl'
   exact#[R,_,l,ws,_,rfl,hR7.same s8,hG,hS.w3,hD,λp hp=>#[by have:=hb10 p hp;lia,by have:=hb10 p hp;lia],⋯,hS.m,λH' s'=>#[Bw,rfl,ZY s']]
  rintro σ H9 ⟨s9,rfl⟩:_;have hR9:=(hR7.same s8).same s9;have hP9:=(hP7.same s8).same s9;have h60:∀p ∈ zb es,p.2.length<=60:=λp hp=>by have:=hb10 p hp;lia
  obtain⟨px,hPx,hPi⟩:=id hP9;have hpxl:=hPi.len;rw[ac]at hpxl;have hpn:=hS.p.n;right;change Same H9 H'/\σ=[!!pa,~~~u,~~~v,!!fp,!!rk,!!R,v6,v7,Bv]
  ·rfl'
   refine#[#[_,SqL.of hPx],λJ hJ=>CompL.by (xs:=px) (λi BA H'=>Same H9 H'/\H' J=Bu (.lst BA)/\BA=(aP i Bw).map V.bl) #[zd hJ,zc,rfl] (λi BA H' _ h=>SqL.of (h.1 _ _ hPx)) ?_ ?_]
   ·refine nm4 ?_;rintro i x BA H' hx ⟨hs,hH,rfl⟩:_;have hi:=(BB.mp hx).1;obtain⟨r,p,hr,rfl,hsq⟩:=hPi.getR hx;have hrm:=ae hr;obtain⟨r1,r2,r3,r4⟩:=hS.p.s r hrm;have hq2:=zo hs hsq;have hRs:=hR9.same hs;right
    erw[xw]
    rfl'
    refine#[yH,_,hq2,_,rfl,wc hRs hG hS.w3 hD h60 ⋯ r3 ⋯ λv1 H1 t1 a1 a2=>#[_,zo t1 hq2,_,rfl,wc (hRs.same t1) hG hS.w3 hD h60 ⋯ r4 ⋯ λv2 H2 t2 c1 c2=>?_]];obtain⟨rfl,_⟩:=qF hG hD hS.m r3 (hS.q r hrm) a1 a2 c1 c2;refine#[rfl,(t1.trans t2) _ _ hH,by rw[ac,bx];lia,CNx.mk hi #[zE (hs.trans (t1.trans t2)) hJ,zc,?_]];rw[de,au];simp
   ·rintro BA H' ⟨hs,hH,rfl⟩;refine#[J,aP px.length Bw,rfl,SqL.of hH,Bw,by simp,?_];rw[y9 ∅];exact hs
  rintro σ H10 ⟨s10,rfl⟩:_;have hR10:=hR9.same s10;right;change Same H10 H'/\∃F:sX,H' F=Bu (.tup [.str (tx x),.str (tx y)])/\σ=[!!pa,~~~u,~~~v,!!fp,!!rk,!!R,v6,v7,!!F]
  ·rfl'
   refine wc hR10 hG hS.w3 hD h60 ⋯ hS.ui (by have:=hS.ul;lia) λv1 H1 t1 a1 a2=>wc (hR10.same t1) hG hS.w3 hD h60 ⋯ hS.vi (by have:=hS.vl;lia) λv2 H2 t2 c1 c2=>?_;obtain⟨rfl,_⟩:=qF hG hD hS.m hS.ui (.refl _) hS.fu.1 hS.fu.2 a1 a2;obtain⟨rfl,_⟩:=qF hG hD hS.m hS.vi (.refl _) hS.fv.1 hS.fv.2 c1 c2;exact#[⋯,λF hF=>#[t1.trans (t2.trans (zd hF)),zc]]
  rintro σ H11 ⟨s11,F,hFF,rfl⟩:_;have hF11:=((s8.trans s9).trans (s10.trans s11)) _ _ hF7;right
  rfl'
  refine#[_,SqT.of hF11,_,rfl,_,SqT.of hF11,_,rfl,⋯,λF2 hF2=>?_];have sF:=zd (o:=.tup [.str (tx x),.str (tx y)]) hF2;refine Xj (.inr #[Uu (sF _ _ hFF),Uu zc]) (by erw[vG,dpD];decide) ?_;rw[wf];refine#[Bw,rfl,?_];rw[y6 rfl];refine#[_,SqT.of (sF _ _ hFF),_,rfl,_,SqT.of (sF _ _ hFF),_,rfl,rfl,?_];rw[y3 λe=>hS.ne (qo (V.str.inj e))];exact q _
def QK{p D:sX}{w:Bool}(h:H p=Bu (.tup [.bl w,.ref D]))(hD:EnsM K H D es):Is K H (.tup [.bl w,.lst (es.map dE)]) (.ref p):=by
 have e:=hD.l.is
 erw[Iss,Is]at e ⊢
 exact#[_,_,rfl,SqT.of h,_,_,rfl,rfl,_,_,rfl,e,rfl]
theorem zex(es:List Ent):vG (es.map dE)<=10:=ZZ λd h=>by
 obtain⟨r,_,rfl⟩:=BC.mp h;have:=zbQ r.2.2
 erw[dE,dpD,vG]
 lia
theorem XZ{m n:Nat}(hn:n<=3)(hm:m=1\/m=2):m ^ (m * n)<=1000:=by
 rcases hm with rfl | rfl
 ·rw[Nat.one_pow];decide
 ·exact aK (fS ∅ (show 2 * n<=6 by lia)) ∅
def J82(K:sV)(H:Hp)(k:Nat)(l:())(ws:List Int)(rs:List zu)(u v:())(r:Nat)(p:sX):Prop:=(∃(s:tw) (xs:List V),s≠"forms"/\H p=Bu (.tup (.str s::xs)))\/∃(D:sX) (es:List Ent) (x y:()),H p=Bu (.tup [.str "forms",.ref D,.str (tx x),.str (tx y)])/\EnsM K H D es/\Cpl k l ws (r+1) [] (fEs rs rs.length) Bw es/\FrS rs k l ws es u v x y
theorem JOut.j82{l:()}{rs:List zu}{u v:()}{r m:Nat}{p:sX}(h:JOut K H k l ws rs u v r m p)(hG:OG l ws k)(w3:∀n ∈ ws,n<=3)(hp:PG5 l rs)(ul:u.length<=6)(vl:v.length<=6)(ui:∀c ∈ u,c ∈ l)(vi:∀c ∈ v,c ∈ l):J82 K H k l ws rs u v r p:=by
 cases h with
 | alike w es i j S hc hb hi hj he hl hp hS=>exact .inl #[_,_,∅,hp]
 | world w es n N t ts hc hb hno h1 h2 h3 h4 h5 hp ht=>exact .inl #[_,_,∅,hp]
 | open_ w es hc hb hno h5 hp=>exact .inl #[_,_,∅,hp]
 | forms es i j D hc hb hi hj hn hq hD =>
  have hg:=zdk (rs:=rs) hG hc (zer λp h=>#[by have:=hp.s p h;lia,by have:=hp.s p h;lia,(hp.s p h).2.2]) (λe he=>KF he) #[λe h=>(nomatch h),.inl rfl]
  have hby:es.length<=12/\∀e ∈ es,e.1.length<=10/\e.2.1.length<=10:=by
   rcases hg.2 with rfl | ⟨_,h,_⟩
   ·exact#[aG _,λe h=>(nomatch h)]
   ·exact ZB h
  exact .inr #[D,es,_,_,hq,hD,hc,hG,w3,hb,hby.1,hby.2,hg.1,zbu hc rfl,hp,λp h=>Ud hc (Uo h),ul,vl,ui,vi,#[jh i,Z2 (hb.ne hG) hi.end_],#[jh j,Z2 (hb.ne hG) hj.end_],hn]
structure Drw(H:Hp)(k:Int)(l:())(ws:List Int)(W:sX):Prop where
 k0:0<=k
 k3:k<3
 g:ue l=Bw
 l3:l.length<=3
 n:ws.length=l.length
 b:∀n ∈ ws,1<=n/\n<=3
 w:H W=Bu (.lst (ws.map V.int))
def WD(K:sV)(T:sX):Sp:=λvs H Q _=>∃(a:sX) (ns:List Int),vs=[.ref a]/\SqL K H a (ns.map V.int)/\(∀z ∈ ns,qE z)/\H T=Bu (.tbl #[])/\∀H',Q (.bl Bw) H'
def lb:sQz 1 ["_law_script","_law_kind","_law_letters_here","_law_weights","_law_count","_law_pacts","_law_one","_law_other","_law_order_here","_law_found"] km:=by nofun
theorem zeA{f CO CR CW TB:sX}(B:Bt mg)(F:("law"^^^km))(sK:(3<<<"_law_draw") ["_law_cell_here"] [] Ub)(oq:(1<<<"_law_cell") ["_law_script","_law_k"] [] (Zs K))(oj:(1<<<"_law_word") ["_law_number","_law_letters_here","_law_most"] [] Zv)(sB:(6<<<"_law_order") ["_law_kind","_law_letters_here","_law_weights"] [] (Wf K CO CR CW))(sq:(11>>>"judged") ["order","pacts","one","other","rounds","most"] [] (zdG K CO CR CW TB))(rn:(3<<<"_law_forms_stand") ["_law_pacts","_law_one","_law_other","_law_answer_here","_law_ranks"] [] (za4 K))(sL:(2<<<"_law_pair") ["_law_cell_here","_law_letters_here","_law_most"] [] Zj)(iN:(1<<<"_law_mixed") ["_law_cell_here","_law_turn"] [] vz)(su:(4<<<"_law_answer") ["_law_found","_law_many"] [] (U0 K))(nH:(10<<<"completed") ["order","pacts","rounds"] [] (JE K CO CR CW TB)):(12&&&["_law_script"]) (WD K TB):=by
 exists F.ok lb
 ·obtain⟨a,ns,rfl,hS,hB,hT,q⟩:=h
  refine#[_,(zi (zba (cl0 sK hr .nil rfl (za (cl0 oq hr .nil rfl (za (pv 0) (za zf ze))) ze)) (vm (n:=3) rfl (zP (zt (i:=1) lb.nd rfl (.inl rfl)) (zP (zt (i:=2) lb.nd rfl (Or.inr rfl)) (zP (zt (i:=3) lb.nd rfl (.inl rfl)) xC))))) (zi (zC 4 lb.nd (cl0 oq hr .nil rfl (za (pv 0) (za zf ze)))) (zi (Xg (i:=5) lb.nd rfl (.inl rfl) (.inl rfl) (own:=["_law_k"]) (caps:=["_law_script","_law_letters_here"]) (ix:=[0,2]) (tt:=xw) (te:=(wL Zj [] E0 (zL (wL (Zs K) [] E0 (zL (z6 1) (zL (tOp Y1 (tC (.int 2)) (z6 0)) xx))) (zL (z6 2) (zL (tC (.int 3)) xx))))) rfl (zM (sc:=zh km) rfl (!0) (!0) (!0) rfl (!0) (!0) rfl) (yB rfl B.range (za (zD xO (pv 4) zf) ze)) (λ_ _ _ _ _ _=>zt (i:=0) (show List.Nodup [_,_,_] by decide) rfl (.inl rfl)) (λ_ _ _ _ _ _=>yg) (λ_ _ _ _ _ _=>(cl0 sL hr .nil rfl (za (cl0 oq hr .nil rfl (za (pv 1) (za (zD uO zf (pv 0)) ze))) (za (pv 2) (za zf ze)))))) (zi (zC 6 lb.nd (cl0 oj hr .nil rfl (za (cl0 iN hr .nil rfl (za (cl0 oq hr .nil rfl (za (pv 0) (za zf ze))) (za zf ze))) (za (pv 2) (za zf ze))))) (zi (zC 7 lb.nd (cl0 oj hr .nil rfl (za (cl0 iN hr .nil rfl (za (cl0 oq hr .nil rfl (za (pv 0) (za zf ze))) (za zf ze))) (za (pv 2) (za zf ze))))) (zi (zC 8 lb.nd (cl0 sB hr .nil rfl (za (pv 1) (za (pv 2) (za (pv 3) ze))))) (zi (zC 9 lb.nd (clP xe0 sq hr .nil rfl (za (pv 8) (za (xp yR rfl B.list PySem.Pv.boot_list (za (pv 5) ze)) (za (pv 6) (za (pv 7) (za (zD xO (zD xE (pv 4) zf) zf) (za (zD uO zf (zD xO (zD xE (pv 4) zf) zf)) ze)))))))) (zi (zN (zZ (yF (cl0 su hr .nil rfl (za (pv 9) (za (zB B.len (pv 2)) ze))) (λ_=>rfl))) (zg (zl yt))
    zr) (zi (zN (zy uE (!-9) yc (zA _)) (zg (zl yt))
    zr) (zi (zN (zy (zdF (vV hr)) (cl0 nH hr .nil rfl (za (pv 8) (za (xp yR rfl B.list PySem.Pv.boot_list (za (pv 5) ze)) (za (zD xO (zD xE (pv 4) zf) zf) ze)))) (zS (za yt (za (!-9) ze))) (zA _)) (zg (zl yt))
    zr) (zg (zl (cl0 rn hr .nil rfl (za (pv 5) (za (pv 6) (za (pv 7) (za (pv 9) (za (zS (za (pv 1) (za (pv 2) (za (pv 3) ze)))) ze)))))))))))))))))),?_]
  have s16:=zW;have s16:=zW;have hTab:TabOk H TB lp lq:=#[#[],hT,trivial,.inl rfl];change Same H H'/\∃(k:Int) (l:()) (W:sX),(∃ws,Drw H' k l ws W)/\σ=[!!a,~~~!k,~~~l,!!W,Bv,Bv,Bv,Bv,Bv,Bv]
  ·rfl'
   refine uG hS hB ∅ λc hc=>#[c,rfl,hc,λk l ws p W H' a1 a2 a3 a4 a5 a6 s' hp hW=>?_];exact#[p,rfl,_,SqT.of hp,rfl,_,_,rfl,_,_,rfl,_,_,rfl,rfl,s',k,l,W,#[ws,a1,a2,a3,a4,a5,a6,hW],rfl,rfl,rfl]
  rintro σ H1 ⟨s1,k,l,W,⟨ws,k0,k3,hg,l3,hwl,hwb,hW⟩,rfl⟩:_;obtain⟨l1,l6,lsm,lnd⟩:=w6 hg;have hG:OG l ws k.toNat:=#[hg,⋯,hwl,λn hn=>by have:=hwb n hn;lia];have hS1:=s1.seq hS;right;change H'=H1/\∃n:Int,qE n/\σ=[!!a,~~~!k,~~~l,!!W,~~~!n,Bv,Bv,Bv,Bv,Bv]
  ·rfl'
   exact uG hS1 hB ∅ λc hc=>#[rfl,c,hc,rfl]
  rintro σ H1 ⟨rfl,n,hn,rfl⟩:_;right;change Same H1 H'/\∃pa:sX,(∃rs,LsA K H' pa (rs.map dR)/\PG5 l rs)/\σ=[!!a,~~~!k,~~~l,!!W,~~~!n,!!pa,Bv,Bv,Bv,Bv]
  ·rfl'
   have e0:=bQ n (b:=4) ∅;have e1:=bH n (b:=4) ∅;refine#[∅,⋯,⋯,λD hD=>CompR.by (λi BA H'=>Same H1 H'/\H' D=Bu (.lst BA)/\∃rs:List zu,Iss K H' (rs.map dR) BA/\rs.length=i/\∀r ∈ rs,r.1.length<=3/\r.2.length<=3/\(∀x ∈ r.1,x ∈ l)/\∀x ∈ r.2,x ∈ l) #[zd hD,zc,[],by erw[aO,Iss],rfl,λr h=>(nomatch h)] ?_ ?_]
   ·refine nm3 ?_;rintro i BA H' hi ⟨hs,hH,rs,hI,hrl,hrb⟩:_;have hal:=hI.len;rw[ac]at hal;have hi4:i<5:=⋯;right
    erw[xw]
    rfl'
    refine#[yH,uG (hs.seq hS1) hB ⋯ λc3 hc3=>Kn hc3 ⋯ ⋯ ∅ ∅ λo n p ho hn mo mn hp=>#[zd hp _ _ hH,⋯,CNx.mk hi #[zE (hs.trans (zd hp)) hD,zc,rs ++ [(o,n)],?_,by rw[aj,hrl];rfl,λr hr'=>?_]]]
    ·rw[au];exact uz hH hI hp zbZ (Zx rs) (by erw[z8,xB,and_self])
    ·rcases BD.mp hr' with h | h
     ·exact hrb r h
     ·rw[BF.mp h];exact#[by show o.length<=3;lia,by show n.length<=3;lia,mo,mn]
   ·rintro BA H' ⟨hs,hH,rs,hI,hrl,hrb⟩;exact#[hs,D,#[rs,#[BA,hH,hI],⋯,hrb],rfl]
  rintro σ H2 ⟨s2,pa,⟨rs,hP,hPG⟩,rfl⟩:_;have hpn:=hPG.n;have hS2:=s2.seq hS1;right;change H'=H2/\∃w:(),w.length<=6/\(∀c ∈ w,c ∈ l)/\σ=[!!a,~~~!k,~~~l,!!W,~~~!n,!!pa,~~~w,Bv,Bv,Bv]
  ·rfl'
   exact uG hS2 hB ∅ λc hc=>wk hc ∅ ∅ λz hz=>qT hz ⋯ ⋯ ∅ ∅ λw hw1 hw2=>#[rfl,w,⋯,hw2,rfl]
  rintro σ H3 ⟨rfl,u,hul,hui,rfl⟩:_;right;change H'=H3/\∃w:(),w.length<=6/\(∀c ∈ w,c ∈ l)/\σ=[!!a,~~~!k,~~~l,!!W,~~~!n,!!pa,~~~u,~~~w,Bv,Bv]
  ·rfl'
   exact uG hS2 hB ∅ λc hc=>wk hc ∅ ∅ λz hz=>qT hz ⋯ ⋯ ∅ ∅ λw hw1 hw2=>#[rfl,w,⋯,hw2,rfl]
  rintro σ H4 ⟨rfl,v,hvl,hvi,rfl⟩:_;right;change Same H4 H'/\∃o:sX,OrdAt CO CR CW H' o k.toNat l ws/\σ=[!!a,~~~!k,~~~l,!!W,~~~!n,!!pa,~~~u,~~~v,!!o,Bv]
  ·rfl'
   exact#[_,l,W,ws,rfl,k0,k3,hg,s2 _ _ hW,hwl,hG.nb,λo H' s' ho=>#[s',o,ho,rfl]]
  rintro σ H5 ⟨s5,o,ho,rfl⟩:_;have hP5:=hP.same s5;have hW5:=(s2.trans s5) _ _ hW;have hT5:=hTab.same (s1.trans (s2.trans s5));obtain⟨tp5,htp5,_⟩:=id hT5;have c0:=bQ (n / 4) (b:=4) ∅;have c4:=bH (n / 4) (b:=4) ∅;have d0:=bQ (n / 16) (b:=2) ∅;have d1:=bH (n / 16) (b:=2) ∅;have hrn:n / 4 % 4=((n / 4 % 4).toNat:Int):=⋯;have hr3:(n / 4 % 4).toNat<=3:=⋯;right;generalize (n / 4 % 4).toNat=r at hrn hr3;have hb60:∀p ∈ rs,p.1.length<=60/\p.2.length<=60/\(∀c ∈ p.1,c ∈ l)/\∀c ∈ p.2,c ∈ l:=λp hp=>#[by have:=hPG.s p hp;lia,by have:=hPG.s p hp;lia,(hPG.s p hp).2.2];change SamT TB H5 H'/\TabOk H' TB lp lq/\∃fp:sX,(zfT K H' l fp/\J82 K H' k.toNat l ws rs u v r fp)/\σ=[!!a,~~~!k,~~~l,!!W,~~~!n,!!pa,~~~u,~~~v,!!o,!!fp]
  ·rfl'
   obtain⟨px,hPx,hPi⟩:=id hP5;refine#[_,.inl (SqL.of hPx),λhd hh=>#[#[∅,∅],∅,#[∅,∅],∅,?_]];have sh:=zd (o:=.lst px) hh;rw[hrn,show 1+n / 16 % 2=((1+n / 16 % 2).toNat:Int) by lia];exact#[o,hd,k.toNat,l,ws,rs,u,v,r,_,rfl,ho.same sh,hG,#[px,zc,Iss.same sh _ _ hPi],⋯,hb60,⋯,⋯,hui,hvi,⋯,⋯,XZ ⋯ ⋯,hT5.same sh,λp H' sT hTk hJ=>#[(SamT.of sh).trans sT,hTk,p,hJ.ans ⋯,hJ.j82 hG (λn hn=>(hwb n hn).2) hPG hul hvl hui hvi,rfl]]
  rintro σ H6 ⟨s6,hT6,fp,⟨hA,hJ⟩,rfl⟩:_;obtain⟨tp6,htp6,_⟩:=id hT6;right;change Same H6 H'/\σ=[!!a,~~~!k,~~~l,!!W,~~~!n,!!pa,~~~u,~~~v,!!o,!!fp]
  ·rfl'
   exact#[⋯,fp,l,rfl,l6,hA,λH' s'=>#[Bw,rfl,ZY s']]
  rintro σ H7 ⟨s7,rfl⟩:_;right;rcases hJ with ⟨s,xs,hs,hfp⟩ | ⟨D,es,x,y,hfp,hD,hC,hFS⟩
  ·refine kT (λ_ _=>False) ?_ λ_ _ h=>h.elim
   rfl'
   exact#[_,SqT.of (s7 _ _ hfp),_,wX (j:=0) rfl,rfl,yE (λ_=>q _) λz=>y4 (λe=>hs (V.str.inj e)) z]
  change H'=H7/\σ=[!!a,~~~!k,~~~l,!!W,~~~!n,!!pa,~~~u,~~~v,!!o,!!fp]
  ·rfl'
   exact#[_,SqT.of (s7 _ _ hfp),_,rfl,rfl,yE (λz=>y4 rfl z) λ_=>trivial]
  rintro σ H8 ⟨rfl,rfl⟩:_;have hT8:=hT6.same s7;have hP8:=(hP5.samT s6 htp5).same s7;have ho8:=OrdAt.same (ho.samT s6 htp5) s7;have hW8:=s7 _ _ (s6.at htp5 hW5 (λ_ z=>by cases z));have hfp8:=s7 _ _ hfp;have hD8:=hD.same s7;right;change (H' fp=Bu (.tup [.str "forms",.ref D,.str (tx x),.str (tx y)])/\EnsM K H' D es/\LsA K H' pa (rs.map dR)/\H' W=Bu (.lst (ws.map V.int)))/\σ=[!!a,~~~!k,~~~l,!!W,~~~!n,!!pa,~~~u,~~~v,!!o,!!fp]
  ·rfl'
   obtain⟨px,hPx,hPi⟩:=id hP8;refine#[_,.inl (SqL.of hPx),λhd hh=>#[#[∅,∅],∅,?_]];have sh:=zd (o:=.lst px) hh;have hT9:=hT8.same sh;obtain⟨tp9,htp9,_⟩:=id hT9;rw[hrn];refine#[o,hd,k.toNat,l,ws,rs,r,rfl,ho8.same sh,hG,#[px,zc,Iss.same sh _ _ hPi],⋯,λp hp=>#[by have:=hPG.s p hp;lia,by have:=hPG.s p hp;lia,(hPG.s p hp).2.2],λp hp=>#[(hb60 p hp).1,(hb60 p hp).2.1],⋯,hT9,λw es' p D' H' hC' hB' hs' hTk hp hM=>?_];obtain⟨rfl,rfl⟩:=zb1 hC hC';have hfp':=hs'.at htp9 (sh _ _ hfp8) (λ_ z=>by cases z);have hD':=(hD8.same sh).samT hs' htp9;refine#[_,SqT.of hfp',_,rfl,⋯,λz hz=>?_];have sz:=zd (o:=.tup [.bl Bw,.ref D]) hz;refine zbH (.inr #[QK (sz _ _ hp) (hM.same sz),QK zc (hD'.same sz)]) (by have:=zex es;erw[vG,dpD];lia) ?_;refine#[_,rfl,yE (λe=>by rw[wf]at e;cases e) λ_=>#[sz _ _ hfp',hD'.same sz,((hP8.same sh).samT hs' htp9).same sz,sz _ _ (hs'.at htp9 (sh _ _ hW8) (λ_ z=>by cases z))]]
  rintro σ H9 ⟨⟨hfp9,hD9,hP9,hW9⟩,rfl⟩:_;right
  rfl'
  refine#[⋯,λrk hrk=>?_];have sr:=zd (o:=.tup [.int k,.str (tx l),.ref W]) hrk;exact#[pa,fp,D,rk,W,k,l,ws,rs,es,u,v,x,y,rfl,k0,k3,hP9.same sr,sr _ _ hfp9,hD9.same sr,zc,sr _ _ hW9,hFS,q]
end
def FnE(K:sV)(x q:tw)(st:tF)(f:sX):Prop:=∃fd,Fun K x q st f fd
def FnA(K:sV)(x:tw)(st:tF)(f:sX):Prop:=aw K sQ x=Bu (Bu (.ref f))/\FnE K x x st f
def FnA.mk{K:sV}{x:tw}{st:tF}{h:tE}{mg:tw->Option sY}(q:FnA K x st f)(X:K.In h)(G:h.Ns sQ mg):mg x=Bu (.ref f)/\aI K (.ref f)=Bw/\FnE K x x st f:=by obtain⟨a,fd,F⟩:=q;exact#[aH X G a,F.kp,fd,F]
def Yd{us:List sY}(h:us.length=1):∃a,us=[a]:=List.length_eq_one_iff.mp h
theorem vw{us:List sY}(h:us.length=2):∃a0 a1,us=[a0,a1]:=by
 cases us with
 | nil=>cases h
 | cons a r =>
  obtain⟨a1,rfl⟩:=Yd (Nat.succ.inj h);exact#[a,a1,rfl]
theorem Yb{us:List sY}(h:us.length=3):∃a0 a1 a2,us=[a0,a1,a2]:=by
 cases us with
 | nil=>cases h
 | cons a r =>
  obtain⟨a1,a2,rfl⟩:=vw (Nat.succ.inj h);exact#[a,a1,a2,rfl]
theorem zar{us:List sY}(h:us.length=4):∃a0 a1 a2 a3,us=[a0,a1,a2,a3]:=by
 cases us with
 | nil=>cases h
 | cons a r =>
  obtain⟨a1,a2,a3,rfl⟩:=Yb (Nat.succ.inj h);exact#[a,a1,a2,a3,rfl]
theorem zfd{us:List sY}(h:us.length=5):∃a0 a1 a2 a3 a4,us=[a0,a1,a2,a3,a4]:=by
 cases us with
 | nil=>cases h
 | cons a r =>
  obtain⟨a1,a2,a3,a4,rfl⟩:=zar (Nat.succ.inj h);exact#[a,a1,a2,a3,a4,rfl]
theorem zgF{us:List sY}(h:us.length=6):∃a0 a1 a2 a3 a4 a5,us=[a0,a1,a2,a3,a4,a5]:=by
 cases us with
 | nil=>cases h
 | cons a r =>
  obtain⟨a1,a2,a3,a4,a5,rfl⟩:=zfd (Nat.succ.inj h);exact#[a,a1,a2,a3,a4,a5,rfl]
theorem zg6{us:List sY}(h:us.length=7):∃a0 a1 a2 a3 a4 a5 a6,us=[a0,a1,a2,a3,a4,a5,a6]:=by
 cases us with
 | nil=>cases h
 | cons a r =>
  obtain⟨a1,a2,a3,a4,a5,a6,rfl⟩:=zgF (Nat.succ.inj h);exact#[a,a1,a2,a3,a4,a5,a6,rfl]
def dfm(P:tu)(w:tz){K:sV}{mg:tw->Option sY}(base:tE){CX:CXT}{nm:tw}{ps:List tw}{sp:Sp}(h:zY P w K mg base CX k f fd ps sp)(m:mg nm=Bu (.ref f))(p:aI K (.ref f)=Bw)(b:Binds K fd ps []):Df P w K mg base CX k nm ps [] sp:=#[_,_,h,m,p,b]
def FnA.df(P:tu)(w:tz){K:sV}{h:tE}{mg:tw->Option sY}(base:tE){x:tw}{st:tF}{f:_}{CX:CXT}{k:Nat}{ps:List tw}{sp:Sp}(q:FnA K x st f)(X:K.In h)(G:h.Ns sQ mg)(H:∀{fd},Fun K x x st f fd->zY P w K mg base CX k f fd ps sp)(hb:∀(kV doc pm:sY) (an:Option sX) (cdv ct:sY) (us:List sY),us.length=ps.length->bindArgs (bu x x (yZ st) (yq st) (zh st) .none kV doc pm an cdv ct) #[us,[]]=pure (ps.zip us)):Df P w K mg base CX k x ps [] sp:=by obtain⟨M,p,_,F⟩:=q.mk X G;exact dfm P w base (H F) M p (F.binds hb)
local macro_rules | `(tactic| injections)=>`(tactic| (intro _ _ _ _ _ _ us hl;first | (obtain⟨_,e⟩:=Yd hl;subst e;rfl) | (obtain⟨_,_,e⟩:=vw hl;subst e;rfl) | (obtain⟨_,_,_,e⟩:=Yb hl;subst e;rfl) | (obtain⟨_,_,_,_,e⟩:=zar hl;subst e;rfl) | (obtain⟨_,_,_,_,_,e⟩:=zfd hl;subst e;rfl) | (obtain⟨_,_,_,_,_,_,e⟩:=zgF hl;subst e;rfl)))
local macro_rules | `(nofun)=>`(by injections)
def all_mk{l:PySem.W.OpenLaw}{w:tz}{K:sV}{h:tE}{mg:tw->Option sY}{fa f0 f1 f2 f3 f4 f5 f6 f7 f8 f9 f10 f11 f12 f13 f14 f15 f16 f17 f18 f19 f20 f21 f22 f23 f24 f25 f26 f27 f28 f29 f30 f31 f32 f33 f34 f35 f36 f37 f38 f39 f40 f41 f42 f43 f44 f45 f46 f47 f48 f49 f50 f51 f52 f53 f54 f55 f56 f57 f58 rp gJ gN gD gC gB gF gG gX gH gP gE gQ:sX}{cc TB:sX}(X:K.In h)(G:h.Ns sQ mg)(hfa:mg "law" = Bu (.ref fa))(hlam:∃a o fd,mg "in_order" = Bu (.ref a)/\h.get? a=Bu o/\o.data=.func fd/\fd.code=.ref cc)(hgT:sQ≠TB)
{od6 an6 od12 an12 od34 an34 od58 an58:Option sX}{sl6 sl12 sl34 sl58:Array (Option sY)}{oc6 kV6 dc6 pm6 cd6 ct6 oc12 kV12 dc12 pm12 cd12 ct12 oc34 kV34 dc34 pm34 cd34 ct34 oc58 kV58 dc58 pm58 cd58 ct58:sY}
  {t6 t7:Ay}
  {fI:sX}
  {odI anI:Option sX}
  {slI:Array (Option sY)}
  {ocI kVI dcI pmI cdI ctI:sY}
  {t8:Ay}
  {fU:sX}
  {odU anU:Option sX}
  {slU:Array (Option sY)}
  {ocU kVU dcU pmU cdU ctU:sY}
  {t9:Ay}
  {tmt:Ay}
  {tmu tms tmd tmp:Ay}
  {tcu tce tcd tcp:Ay}
  {tju tjs:Ay}
  {iw:sX}
  {iJ:sX}
  {lg:sX}
  {iR:sX}
  {iS:sX}
  {iD:sX}
  {iz:sX}
  {ie:sX}
  {lT:sX}
  {im:sX}
  {mq:sX}
  {lV:sX}
  {mQ:sX}
  {lw:sX}
  {lx:sX}
  {oO:sX}
  {lu:Ay}
  {d1_gone:sY}
  {d2_gone:Option sX}
  {d3_gone:Nat}
  {d4_gone:Array (Option sY)}
  {nO:sX}
  {nN:Ay}
  {d1_unmet:sY}
  {d2_unmet:Option sX}
  {d3_unmet:Nat}
  {d4_unmet:Array (Option sY)}
  (a0:FnA K "is_small_letter" xg f0)
  (a1:FnA K "letters_of" vk f1)
  (a2:FnA K "stands_at" uc f2)
  (a3:FnA K "put" zcc f3)
  (a4:FnA K "first_within" xT f4)
  (a5:FnA K "first_from" vb f5)
  (a6:aw K sQ "gone" = Bu (Bu (.ref f6))) (l6:K.lookup f6=Bu #[oc6,od6,.func (bu "gone" "gone" (yZ vR) (yq vR) (zh vR) (.ref oO) kV6 dc6 pm6 an6 cd6 ct6),sl6]) (k6:bU K cd6 "gone" = Bw) (p6:aI K (.ref f6)=Bw)
  (a7:FnA K "back" Ve f7)
  (a8:FnA K "moved" Zf f8)
  (a9:FnA K "by_pacts" qc f9)
  (a10:FnA K "pairs_of" vC f10)
  (a11:FnA K "as_rule" je f11)
  (a12:aw K sQ "in_order" = Bu (Bu (.ref f12))) (l12:K.lookup f12=Bu #[oc12,od12,.func (bu "in_order" "in_order" (yZ yQ) (yq yQ) (zh yQ) .none kV12 dc12 pm12 an12 cd12 ct12),sl12]) (k12:bU K cd12 "in_order" = Bw) (p12:aI K (.ref f12)=Bw)
  (a13:FnA K "brought_down" xY f13)
  (a14:FnA K "refuse_beyond" xD f14)
  (a15:FnA K "built_anew" wM f15)
  (a16:FnA K "thinned" jG f16)
  (a17:FnA K "_law_cell" Ux f17)
  (a18:FnA K "_law_mixed" Xr f18)
  (a19:FnA K "_law_letters" qW f19)
  (a20:FnA K "_law_word" QE f20)
  (a21:FnA K "_law_pair" UO f21)
  (a22:FnA K "_law_whole" Xl f22)
  (a23:FnA K "_law_steps" Xn f23)
  (a24:FnA K "_law_used" UX f24)
  (a25:FnA K "_law_end" zby f25)
  (a26:FnA K "_law_order" XW f26)
  (a27:FnA K "_law_draw" Jb f27)
  (a28:FnA K "_law_rank" ku f28)
  (a29:FnA K "agree" XU f29)
  (a30:FnA K "overlaps" qe f30)
  (a31:FnA K "peak" QV f31)
  (a32:FnA K "form_of" jx f32)
  (a33:FnA K "is_met" Zp f33)
  (a34:aw K sQ "unmet" = Bu (Bu (.ref f34))) (l34:K.lookup f34=Bu #[oc34,od34,.func (bu "unmet" "unmet" (yZ xU) (yq xU) (zh xU) (.ref nO) kV34 dc34 pm34 an34 cd34 ct34),sl34]) (k34:bU K cd34 "unmet" = Bw) (p34:aI K (.ref f34)=Bw)
  (a35:FnA K "system_by" vZ f35)
  (a36:FnA K "first_entries" yW f36)
  (a37:FnA K "is_beyond" wE f37)
  (a38:FnA K "thinned_within" xq f38)
  (a39:FnA K "unmet_within" xV f39)
  (a40:FnA K "entry_of" uT f40)
  (a41:FnA K "completed" wC f41)
  (a42:FnA K "table_of" vA f42)
  (a43:FnA K "table_count" wo f43)
  (a44:FnA K "tables_within" xH f44)
  (a45:FnA K "table_at" vE f45)
  (a46:FnA K "tells_apart" wH f46)
  (a47:FnA K "world_apart" ww f47)
  (a48:FnA K "gone_within" wA f48)
  (a49:FnA K "judged_by_roads" xh f49)
  (a50:FnA K "judged_by_worlds" yY f50)
  (a51:FnA K "judged" ZR f51)
  (a52:FnA K "_law_entries" jS f52)
  (a53:FnA K "_law_table_ok" vB f53)
  (a54:FnA K "_law_answer" Ya f54)
  (a55:FnA K "_law_form" Jh f55)
  (a56:FnA K "_law_meet" Uv f56)
  (a57:FnA K "_law_forms_stand" yb f57)
  (a58:aw K sQ "law" = Bu (Bu (.ref f58))) (l58:K.lookup f58=Bu #[oc58,od58,.func (bu "law" "law" (yZ km) (yq km) (zh km) .none kV58 dc58 pm58 an58 cd58 ct58),sl58]) (k58:bU K cd58 "law" = Bw) (p58:aI K (.ref f58)=Bw)
  (g_LetterError:aw K sQ "LetterError" = Bu (Bu (.ref rp)))
  (g_NoLetters:aw K sQ "NoLetters" = Bu (Bu (.ref gJ)))
  (g_NoOrder:aw K sQ "NoOrder" = Bu (Bu (.ref gN)))
  (g_Order:aw K sQ "Order" = Bu (Bu (.ref gD)))
  (g_FromRight:aw K sQ "FromRight" = Bu (Bu (.ref gC)))
  (g_ByWeights:aw K sQ "ByWeights" = Bu (Bu (.ref gB)))
  (g_NotTurned:aw K sQ "NotTurned" = Bu (Bu (.ref gF)))
  (g_System:aw K sQ "System" = Bu (Bu (.ref gG)))
  (g_NoUse:aw K sQ "NoUse" = Bu (Bu (.ref gX)))
  (g_TooFar:aw K sQ "TooFar" = Bu (Bu (.ref gH)))
  (g_NoWorld:aw K sQ "NoWorld" = Bu (Bu (.ref gP)))
  (g_World:aw K sQ "World" = Bu (Bu (.ref gE)))
  (g_TooMany:aw K sQ "TooMany" = Bu (Bu (.ref gQ)))
  (kbb:aQ K (.type "bool") (.type "bool")=Bu Bw)
  (kt:aQ K (.type "tuple") (.type "tuple")=Bu Bw)
  (ki:aQ K (.type "int") (.type "int")=Bu Bw)
  (kb:aQ K (.type "int") (.type "bool")=Bu Bx)
  (kl:aQ K (.type "list") (.type "list")=Bu Bw)
  (XIl:XI K gJ)
  (xi:ag K (.ref gJ) "__init__" = Bu (Bu (.builtin "ValueError.__init__")))
  (XIo:XI K gN)
  (yi:ag K (.ref gN) "__init__" = Bu (Bu (.builtin "ValueError.__init__")))
  (most:aw K sQ "MOST_LETTERS" = Bu (Bu (.int 6 t6)))
  (mostw:aw K sQ "MOST_WEIGHT" = Bu (Bu (.int 1000000 t7)))
  (pc:bS K gD eD=Bw)
  (pf:bW K gD=Bw)
  (ph:cu K gD=Bw)
  (pi:ag K (.ref gD) "__setattr__" = Bu (Bu (.builtin "object.__setattr__")))
  (pj:cD K gD=Bw)
  (pq:aI K (.ref gD)=Bw)
  (pw:ag K (.ref gD) "letters" = Bu Bv)
  (rL:aQ K (.ref gD) (.ref gD)=Bu Bw)
  (rM:ag K (.ref gD) "__class__" = Bu (Bu (.builtin "object.__class__")))
  (rN:bF K gD (.type "object")=Bu Bw)
  (mS:bS K gC eD=Bw)
  (mT:bW K gC=Bw)
  (mU:cu K gC=Bw)
  (mV:ag K (.ref gC) "__setattr__" = Bu (Bu (.builtin "object.__setattr__")))
  (mX:cD K gC=Bw)
  (mY:aI K (.ref gC)=Bw)
  (mZ:ag K (.ref gC) "letters" = Bu Bv)
  (ot:aQ K (.ref gC) (.ref gD)=Bu Bw)
  (ou:ag K (.ref gC) "__class__" = Bu (Bu (.builtin "object.__class__")))
  (ow:bF K gC (.type "object")=Bu Bw)
  (nc:bS K gB eD=Bw)
  (ng:bW K gB=Bw)
  (nh:cu K gB=Bw)
  (ni:ag K (.ref gB) "__setattr__" = Bu (Bu (.builtin "object.__setattr__")))
  (nj:cD K gB=Bw)
  (nk:aI K (.ref gB)=Bw)
  (nq:ag K (.ref gB) "letters" = Bu Bv)
  (oy:aQ K (.ref gB) (.ref gD)=Bu Bw)
  (oz:ag K (.ref gB) "__class__" = Bu (Bu (.builtin "object.__class__")))
  (oB:bF K gB (.type "object")=Bu Bw)
  (nw_ByWeights:ag K (.ref gB) "weights" = Bu Bv)
  (sgO:cF K (.ref gD) "__getattribute__" = Bu (Bu (.builtin "type.__getattribute__")))
  (rdO:gw K gD (.type "type")=Bw)
  (win:aw K sQ "WINDOW" = Bu (Bu (.int 128 t8)))
  (XIt:XI K gF)
  (nn:ag K (.ref gF) "number" = Bu Bv)
  (ini:ag K (.ref gF) "__init__" = Bu (Bu (.ref fI)))
  (lI:K.lookup fI=Bu #[ocI,odI,.func (bu "__init__" "NotTurned.__init__" (yZ ya) (yq ya) (zh ya) .none kVI dcI pmI anI cdI ctI),slI])
  (kI:bU K cdI "NotTurned.__init__" = Bw)
  (pI:aI K (.ref fI)=Bw)
  (fnI:aU K (.ref fI)=Bw)
  (oE:bS K gG eD=Bw)
  (oF:bW K gG=Bw)
  (oG:cu K gG=Bw)
  (oH:ag K (.ref gG) "__setattr__" = Bu (Bu (.builtin "object.__setattr__")))
  (oJ:cD K gG=Bw)
  (oK:aI K (.ref gG)=Bw)
  (no_System:ag K (.ref gG) "order" = Bu Bv)
  (nr_System:ag K (.ref gG) "rules" = Bu Bv)
  (XIu:XI K gX)
  (ua:ag K (.ref gX) "at" = Bu Bv)
  (iniU:ag K (.ref gX) "__init__" = Bu (Bu (.ref fU)))
  (lU:K.lookup fU=Bu #[ocU,odU,.func (bu "__init__" "NoUse.__init__" (yZ yU) (yq yU) (zh yU) .none kVU dcU pmU anU cdU ctU),slU])
  (kU:bU K cdU "NoUse.__init__" = Bw)
  (pU:aI K (.ref fU)=Bw)
  (fnU:aU K (.ref fU)=Bw)
  (XIf:XI K gH)
  (vi:ag K (.ref gH) "__init__" = Bu (Bu (.builtin "ValueError.__init__")))
  (sFF:df K (.ref gH) (.ref gH)=Bu Bw)
  (XIq:XI K gP)
  (nwi:ag K (.ref gP) "__init__" = Bu (Bu (.builtin "ValueError.__init__")))
  (mostr:aw K sQ "MOST_ROOMS" = Bu (Bu (.int 8 t9)))
  (pz:bS K gE eD=Bw)
  (pA:bW K gE=Bw)
  (pB:cu K gE=Bw)
  (pC:ag K (.ref gE) "__setattr__" = Bu (Bu (.builtin "object.__setattr__")))
  (pD:cD K gE=Bw)
  (pE:aI K (.ref gE)=Bw)
  (pF:ag K (.ref gE) "letters" = Bu Bv)
  (nt_World:ag K (.ref gE) "table" = Bu Bv)
  (XIm:XI K gQ)
  (wi:ag K (.ref gQ) "__init__" = Bu (Bu (.builtin "ValueError.__init__")))
  (mostt:aw K sQ "MOST_TABLES" = Bu (Bu (.int 1000 tmt)))
  (ks:aQ K (.type "str") (.type "str")=Bu Bw)
  (nmin:aw K sQ "min" = Bu Bv)
  (nany:aw K sQ "any" = Bu Bv)
  (nsorted:aw K sQ "sorted" = Bu Bv)
  (mou:aw K sQ "MOST_USES_thinning" = Bu (Bu (.int 40 tmu)))
  (mos:aw K sQ "MOST_STEPS_thinning" = Bu (Bu (.int 240 tms)))
  (mod_:aw K sQ "MOST_SIDE_thinning" = Bu (Bu (.int 60 tmd)))
  (mop:aw K sQ "MOST_PASSES" = Bu (Bu (.int 20 tmp)))
  (mcu:aw K sQ "MOST_USES_completing" = Bu (Bu (.int 40 tcu)))
  (mce:aw K sQ "MOST_ENTRIES" = Bu (Bu (.int 12 tce)))
  (mcd:aw K sQ "MOST_SIDE_completing" = Bu (Bu (.int 10 tcd)))
  (mcp:aw K sQ "MOST_PEAKS" = Bu (Bu (.int 8 tcp)))
  (mju:aw K sQ "MOST_USES_judging" = Bu (Bu (.int 40 tju)))
  (mjs:aw K sQ "MOST_STEPS_judging" = Bu (Bu (.int 2000 tjs)))
  (mr:ag K (.ref gD) "__init__" = Bu (Bu (.ref iw)))
  (mv:FnE K "__init__" "Order.__init__" vj iw)
  (lh:aU K (.ref iw)=Bw)
  (ly:ag K (.ref gD) "weight" = Bu (Bu (.ref iJ)))
  (lA:FnE K "weight" "Order.weight" xQ iJ)
  (iK:aU K (.ref iJ)=Bw)
  (mw:ag K (.ref gD) "seen" = Bu (Bu (.ref lg)))
  (mx:FnE K "seen" "Order.seen" wS lg)
  (lm:aU K (.ref lg)=Bw)
  (iT:ag K (.ref gC) "seen" = Bu (Bu (.ref iR)))
  (iU:FnE K "seen" "FromRight.seen" xv iR)
  (iV:aU K (.ref iR)=Bw)
  (iW:ag K (.ref gB) "__init__" = Bu (Bu (.ref iS)))
  (iX:FnE K "__init__" "ByWeights.__init__" xu iS)
  (iY:aU K (.ref iS)=Bw)
  (iE:ag K (.ref gB) "weight" = Bu (Bu (.ref iD)))
  (iF:FnE K "weight" "ByWeights.weight" yv iD)
  (iG:aU K (.ref iD)=Bw)
  (my:ag K (.ref gD) "rank" = Bu (Bu (.ref iz)))
  (mz:FnE K "rank" "Order.rank" xJ iz)
  (iA:aU K (.ref iz)=Bw)
  (lB:ag K (.ref gD) "before" = Bu (Bu (.ref ie)))
  (lC:FnE K "before" "Order.before" xX ie)
  (ig:aU K (.ref ie)=Bw)
  (lX:ag K (.ref gG) "__init__" = Bu (Bu (.ref lT)))
  (lY:FnE K "__init__" "System.__init__" wD lT)
  (lZ:aU K (.ref lT)=Bw)
  (io:ag K (.ref gG) "rules_told" = Bu (Bu (.ref im)))
  (ip:FnE K "rules_told" "System.rules_told" yO im)
  (iq:aU K (.ref im)=Bw)
  (mB:ag K (.ref gE) "__init__" = Bu (Bu (.ref mq)))
  (mC:FnE K "__init__" "World.__init__" wP mq)
  (mD:aU K (.ref mq)=Bw)
  (md:ag K (.ref gE) "rooms" = Bu (Bu (.ref lV)))
  (me:FnE K "rooms" "World.rooms" wB lV)
  (mf:aU K (.ref lV)=Bw)
  (nv:ag K (.ref gE) "led" = Bu (Bu (.ref mQ)))
  (nw:FnE K "led" "World.led" ud mQ)
  (ny:aU K (.ref mQ)=Bw)
  (lD:ag K (.ref gE) "parted" = Bu (Bu (.ref lw)))
  (lE:FnE K "parted" "World.parted" xZ lw)
  (lF:aU K (.ref lw)=Bw)
  (lG:ag K (.ref gE) "broken" = Bu (Bu (.ref lx)))
  (lH:FnE K "broken" "World.broken" wa lx)
  (lJ:aU K (.ref lx)=Bw)
  (oP:K.lookup oO=Bu #[d1_gone,d2_gone,.seq #[.int 4000 lu] d3_gone,d4_gone])
  (nP:K.lookup nO=Bu #[d1_unmet,d2_unmet,.seq #[.int 4000 nN] d3_unmet,d4_unmet])
  (fcO:gx K (.ref gD) (.type "type") "__init__" = Bu (.val (.ref iw)))
  (fiR_init:ag K (.ref gC) "__init__" = Bu (Bu (.ref iw)))
  (fiR_weight:ag K (.ref gC) "weight" = Bu (Bu (.ref iJ)))
  (fiW_seen:ag K (.ref gB) "seen" = Bu (Bu (.ref lg)))
  (fiR_rank:ag K (.ref gC) "rank" = Bu (Bu (.ref iz)))
  (fiW_rank:ag K (.ref gB) "rank" = Bu (Bu (.ref iz)))
  (fiR_before:ag K (.ref gC) "before" = Bu (Bu (.ref ie)))
  (fiW_before:ag K (.ref gB) "before" = Bu (Bu (.ref ie)))
  (b0:aw K sQ "len" = Bu Bv)
  (b1:aw K sQ "range" = Bu Bv)
  (b2:aw K sQ "isinstance" = Bu Bv)
  (b3:aw K sQ "str" = Bu Bv)
  (b4:aw K sQ "int" = Bu Bv)
  (b5:aw K sQ "tuple" = Bu Bv)
  (b6:aw K sQ "list" = Bu Bv)
  (b7:aw K sQ "bool" = Bu Bv)
  (b8:aw K sQ "enumerate" = Bu Bv)
  (b9:aw K sQ "all" = Bu Bv)
  (b10:aw K sQ "ValueError" = Bu Bv)
  (b11:aw K sQ "max" = Bu Bv)
  (b12:aw K sQ "reversed" = Bu Bv)
  (b13:aw K sQ "zip" = Bu Bv)
  (b14:aw K sQ "sum" = Bu Bv)
  (b15:aw K sQ "sorted" = Bu Bv)
  : ∃fd:tj,(∀(s:sZ) (v:sY),AT s fd #[[v],[]] [("_law_script",v)])/\∀base:tE,K.In base->base.Ns sQ mg->base.BuiltinsAt mg TB->PySem.W.CodeHd base cc TB->zY l.prog w K mg base CX0 12 fa fd ["_law_script"] (WD K TB):=by
 have e:=hfa.symm.trans (aH X G a58);cases e;have B:Bt mg:=#[aM X G b0,aM X G b1,aM X G b2,aM X G b3,aM X G b4,aM X G b5,aM X G b6,aM X G b7,aM X G b8,aM X G b9,aM X G b10,aM X G b11,aM X G b12,aM X G b13,aM X G b14,aM X G b15];obtain⟨M1,p1,_,F1⟩:=a1.mk X G;have B1:=F1.binds (ps:=["text"]) nofun;have F6:FunD K "gone" "gone" vR (.ref oO) f6 (bu "gone" "gone" (yZ vR) (yq vR) (zh vR) (.ref oO) kV6 dc6 pm6 an6 cd6 ct6):=⟨#[_,_,_,_,_,_,_,_,_,rfl,l6,k6]⟩;have M6:=aH X G a6;have F12:=fun_mk (st:=yQ) l12 k12 p12;have M12:=aH X G a12;have F34:FunD K "unmet" "unmet" xU (.ref nO) f34 (bu "unmet" "unmet" (yZ xU) (yq xU) (zh xU) (.ref nO) kV34 dc34 pm34 an34 cd34 ct34):=⟨#[_,_,_,_,_,_,_,_,_,rfl,l34,k34]⟩;have M34:=aH X G a34;have F58:=fun_mk (st:=km) l58 k58 p58;have B58:=F58.binds (ps:=["_law_script"]) nofun;have M58:=aH X G a58
 have HCC:cd12=.ref cc:=by
  obtain⟨ai,oi,fdi,m1,m2,m3,m4⟩:=hlam;have e1:=m1.symm.trans (aH X G a12);cases e1;have e2:=m2.symm.trans (X _ _ l12);cases e2;cases m3;exact m4
 refine#[bu "law" "law" (yZ km) (yq km) (zh km) .none kV58 dc58 pm58 an58 cd58 ct58,λs v=>.of_eq rfl,λbase _ _ HBT HCH=>?_];have TL:zgp K mg gJ:=#[XIl,xi,aH X G g_NoLetters,t6,aH X G most];have TN:zgL K mg gN:=#[XIo,yi,aH X G g_NoOrder,t7,aH X G mostw];have TO:TOrd K mg gD gC gB:=#[#[pc,pf,ph,pi],#[mS,mT,mU,mV],#[nc,ng,nh,ni],aH X G g_Order,aH X G g_FromRight,aH X G g_ByWeights,pw,mZ,nq,nw_ByWeights];have TNt:TNT K mg gF:=#[XIt,aH X G g_NotTurned,nn];have FI:=fun_mk (st:=ya) lI kI pI;have BI:=FI.binds (ps:=["self","number"]) nofun;have TD:DNT l.prog w K mg base gF:=#[TNt,_,_,ini,fnI,uY TNt FI,BI];have TS:zey K mg gG:=#[#[oE,oF,oG,oH],aH X G g_System,no_System,nr_System];have TWi:zgM mg:=#[t8,aH X G win];have TNu:TNU K mg gX:=#[XIu,aH X G g_NoUse,ua];have FU:=fun_mk (st:=yU) lU kU pU;have BU:=FU.binds (ps:=["self","at"]) nofun;have TUd:DNU l.prog w K mg base gX:=#[TNu,_,_,iniU,fnU,kX TNu FU,BU];have TF:zbY K mg gH:=#[XIf,vi,aH X G g_TooFar];have TNw:zdg K mg gP:=#[XIq,nwi,aH X G g_NoWorld,t9,aH X G mostr];have CLw:zaB K mg gE:=#[#[pz,pA,pB,pC],aH X G g_World,pF,nt_World];have TM:Kk K mg gQ:=#[XIm,wi,aH X G g_TooMany,tmt,aH X G mostt];have TMk:TMo mg:=#[#[tmu,aH X G mou],#[tms,aH X G mos],#[tmd,aH X G mod_],#[tmp,aH X G mop]];have TMcc:TMc mg:=#[#[tcu,aH X G mcu],#[tce,aH X G mce],#[tcd,aH X G mcd],#[tcp,aH X G mcp]];have TMjj:TMj mg:=#[#[tju,aH X G mju],#[tjs,aH X G mjs]];have d:=λ{x st f CX k ps sp}(q:FnA K x st f) H hb=>FnA.df l.prog w base (CX:=CX) (k:=k) (ps:=ps) (sp:=sp) q X G H hb;have D0:=d a0 (λF=>KH F) nofun;have D1:=dfm l.prog w base (ZT B TL F1 D0) M1 p1 B1;have D2:=d a2 (λF=>YC B F) nofun;have D3:=d a3 (λF=>zeV B TUd F D2) nofun;obtain⟨_,iB⟩:=mv;have rq:=iB.kp;have mE:=iB.binds (ps:=["self","letters"]) nofun;have rz:DMk l.prog w K mg base CX0 3 gD ["self","letters"] (qN K):=#[_,_,#[pj,mr,lh,pq],wG B iB D1,mE];have DI:DOI l.prog w K mg base gD:=#[_,_,#[sgO,rdO,fcO,rq],wG B iB D1,mE];obtain⟨_,iL⟩:=lA;have nC:=iL.kp;have nE:=iL.binds (ps:=["self","word"]) nofun;have pL:DM l.prog w K mg base CX0 1 gD "weight" ["self","word"] k8:=#[_,_,#[ly,iK,nC],vd B iL,nE];obtain⟨_,ln⟩:=mx;have nW:=ln.kp;have nX:=ln.binds (ps:=["self","word"]) nofun;have rA:DM l.prog w K mg base CX0 1 gD "seen" ["self","word"] We:=#[_,_,#[mw,lm,nW],uM B ln,nX];obtain⟨_,iZ⟩:=iU;have oR:=iZ.kp;have oS:=iZ.binds (ps:=["self","word"]) nofun;have oU:DM l.prog w K mg base CX0 1 gC "seen" ["self","word"] Xf:=#[_,_,#[iT,iV,oR],qf B iZ,oS];obtain⟨_,la⟩:=iX;have sk:=la.kp;have oV:=la.binds (ps:=["self","letters","weights"]) nofun;have oW:DMk l.prog w K mg base (CXx l.prog w) 4 gB ["self","letters","weights"] (Z7 K gB):=#[_,_,#[nj,iW,iY,nk],qh B TO TN DI la,oV];obtain⟨_,iH⟩:=iF;have nY:=iH.kp;have nZ:=iH.binds (ps:=["self","word"]) nofun;have oa:DM l.prog w K mg base CX0 1 gB "weight" ["self","word"] (Xx gB):=#[_,_,#[iE,iG,nY],vY B TO iH,nZ];have TT:TWS l.prog w K mg base gD gC gB:=#[TO,rz,#[_,_,#[mX,fiR_init,lh,mY],wG B iB D1,mE],oW,pL,#[_,_,#[fiR_weight,iK,nC],vd B iL,nE],oa,rA,oU,#[_,_,#[fiW_seen,lm,nW],uM B ln,nX]];obtain⟨_,iC⟩:=mz;have mF:=iC.kp;have mG:=iC.binds (ps:=["self","word"]) nofun;have rB:DM l.prog w K mg base CX0 2 gD "rank" ["self","word"] (jg gD gC gB):=#[_,_,#[my,iA,mF],wq B TT iC,mG];have DRk:DR l.prog w K mg base gD gC gB:=⟨λC h=>by rcases h with e | e | e; (rw[e];exact#[TO.cO,rB]); (rw[e];exact#[TO.cR,#[_,_,#[fiR_rank,iA,mF],wq B TT iC,mG]]); (rw[e];exact#[TO.cW,#[_,_,#[fiW_rank,iA,mF],wq B TT iC,mG]])⟩;obtain⟨_,ij⟩:=lC;have lK:=ij.kp;have lL:=ij.binds (ps:=["self","one","other"]) nofun;have pM:DM l.prog w K mg base CX0 3 gD "before" ["self","one","other"] (UG gD gC gB):=#[_,_,#[lB,ig,lK],xF B DRk ij,lL];have DBk:DB l.prog w K mg base gD gC gB:=⟨λC h=>by rcases h with e | e | e; (rw[e];exact#[TO.cO,pM]); (rw[e];exact#[TO.cR,#[_,_,#[fiR_before,ig,lK],xF B DRk ij,lL]]); (rw[e];exact#[TO.cW,#[_,_,#[fiW_before,ig,lK],xF B DRk ij,lL]])⟩;have D4:=d a4 (λF=>jn B F) nofun;have D5:=d a5 (λF=>Z9 B TWi F D4) nofun;have O6:=zbN (P:=l.prog) (w:=w) (base:=base) B TF TUd F6 D5 D3;have D6:Df l.prog w K mg base (CXx l.prog w) 4 "gone" ["rules","word","most"] [] (xW K gH):=#[_,_,O6,M6,p6,λs us hK hl=>by obtain⟨_,_,_,rfl⟩:=Yb (us:=us) (by simpa using hl);exact BindsTo.of_defaults rfl (hK _ _ oP) rfl rfl rfl];have D6d:Df l.prog w K mg base (CXx l.prog w) 4 "gone" ["rules","word","most"] [.int 4000 lu] (xW K gH):=#[_,_,O6,M6,p6,λs us hK hl=>by obtain⟨_,_,rfl⟩:=vw (us:=us) (by simpa using hl);exact BindsTo.of_defaults rfl (hK _ _ oP) rfl rfl rfl];have D7:=d a7 (λF=>zck B F) nofun;have D8:=d a8 (λF=>K7 B F) nofun;have D9:=d a9 (λF=>X4 B F D8 D7) nofun;have D10:=d a10 (λF=>Xi B F) nofun;have D11:=d a11 (λF=>Vt B DBk F D7) nofun;have D12:=dfm l.prog w base (XQ B DRk (aM X G nsorted) HCH HBT hgT F12 HCC D11) M12 p12 (F12.binds nofun);have D13:=d a13 (λF=>jp B TMk F D10 D6 D6d D9 D7) nofun;have D14:=d a14 (λF=>qC B TF TMk F) nofun;have D15:=d a15 (λF=>Zq B F D13 D14 D11) nofun;have D16:=d a16 (λF=>V2 B TF TMk F D12 D15 D10) nofun;have D17:=d a17 (λF=>zcx B F) nofun;have D18:=d a18 (λF=>KP B F) nofun;have D19:=d a19 (λF=>Vs B F D18) nofun;have D20:=d a20 (λF=>zcR B F) nofun;have D21:=d a21 (λF=>zcK B F D20 D18) nofun;have D22:=d a22 (λF=>zag B #[ki,kb] F) nofun;have D23:=d a23 (λF=>Km B #[kl,kt,kbb] F D22) nofun;have D24:=d a24 (λF=>zbj B F) nofun;have D25:=d a25 (λF=>zd5 B F D24) nofun;have D26:=d a26 (λF=>KB B TT F) nofun;have D27:=d a27 (λF=>zcX B F D19 D18) nofun;have D28:=d a28 (λF=>zbC B F) nofun;obtain⟨_,mh⟩:=lY;have sC:=mh.kp;have pZ:=mh.binds (ps:=["self","order","rules"]) nofun;have ra:DMk l.prog w K mg base (CXx l.prog w) 5 gG ["self","order","rules"] (qR K gD gC gB gF gG):=#[_,_,#[oJ,lX,lZ,oK],j9 B TD TS DBk mh,pZ];have MS:MkS l.prog w K mg base gD gC gB gF gG:=ra;have D29:=d a29 (λF=>KC B F) nofun;have D30:=d a30 (λF=>Xu B F D29) nofun;have D31:=d a31 (λF=>zcQ B F D3) nofun;have D32:=d a32 (λF=>VM B F D6 D6d) nofun;have D33:=d a33 (λF=>Qd B F D31 D32) nofun;obtain⟨_,ir⟩:=ip;have nQ:=ir.kp;have nR:=ir.binds (ps:=["self"]) nofun;have nS:DM l.prog w K mg base CX0 1 gG "rules_told" ["self"] (Zb K gG):=#[_,_,#[io,iq,nQ],vL B TS ir,nR];have O34:=KN (P:=l.prog) (w:=w) (base:=base) B TS F34 D30 D33 nS;have D34:Df l.prog w K mg base (CXx l.prog w) 7 "unmet" ["system","most"] [] (uI K gG gH):=#[_,_,O34,M34,p34,λs us hK hl=>by obtain⟨_,_,rfl⟩:=vw (us:=us) (by simpa using hl);exact BindsTo.of_defaults rfl (hK _ _ nP) rfl rfl rfl];have D34d:Df l.prog w K mg base (CXx l.prog w) 7 "unmet" ["system","most"] [.int 4000 nN] (uI K gG gH):=#[_,_,O34,M34,p34,λs us hK hl=>by obtain⟨_,rfl⟩:=Yd (us:=us) (by simpa using hl);exact BindsTo.of_defaults rfl (hK _ _ nP) rfl rfl rfl];have D35:=d a35 (λF=>Yu B TS MS F D10) nofun;have D36:=d a36 (λF=>qx B F) nofun;have D37:=d a37 (λF=>YG B (aM X G nany) TMcc F) nofun;have D38:=d a38 (λF=>uP B TF ⟨sFF⟩ F D16 D37) nofun;have D39:=d a39 (λF=>jA B TF ⟨sFF⟩ TMcc F D34 D34d D35) nofun;have D40:=d a40 (λF=>XY B F D31 D9 D10) nofun;have D41:=d a41 (λF=>YE B TMcc F D36 D38 D39 D40) nofun;have D42:=d a42 (λF=>XJ B TNw F) nofun;obtain⟨_,mH⟩:=mC;have sE:=mH.kp;have rD:=mH.binds (ps:=["self","letters","table"]) nofun;have rE:DMk l.prog w K mg base (CXx l.prog w) 4 gE ["self","letters","table"] (uF gE):=#[_,_,#[pD,mB,mD,pE],k7 B CLw mH D1 D42,rD];obtain⟨_,mi⟩:=me;have rb:=mi.kp;have re:=mi.binds (ps:=["self"]) nofun;have rf:DM l.prog w K mg base CX0 1 gE "rooms" ["self"] (qI gE):=#[_,_,#[md,mf,rb],ke B CLw mi,re];obtain⟨_,nz⟩:=nw;have rO:=nz.kp;have rP:=nz.binds (ps:=["self","room","word"]) nofun;have oM:DM l.prog w K mg base CX0 1 gE "led" ["self","room","word"] (jO gE):=#[_,_,#[nv,ny,rO],Y3 B CLw nz,rP];obtain⟨_,lM⟩:=lE;have pN:=lM.kp;have pO:=lM.binds (ps:=["self","one","other"]) nofun;have pP:DM l.prog w K mg base CX0 2 gE "parted" ["self","one","other"] (vI gE):=#[_,_,#[lD,lF,pN],jz B CLw lM rf oM,pO];obtain⟨_,lN⟩:=lH;have pQ:=lN.kp;have pR:=lN.binds (ps:=["self","pacts"]) nofun;have pS:DM l.prog w K mg base CX0 3 gE "broken" ["self","pacts"] (uZ K gE):=#[_,_,#[lG,lJ,pQ],jb B CLw lN pP,pR];have D43:=d a43 (λF=>kj B F) nofun;have D44:=d a44 (λF=>qA B TM F D43) nofun;have D45:=d a45 (λF=>Xz B F) nofun;have D46:=d a46 (λF=>ka B CLw F oM pS) nofun;have D47:=d a47 (λF=>kd B TM CLw F D44 D43 D45 D46 rE) nofun;have D48:=d a48 (λF=>j6 B TF ⟨sFF⟩ TMjj F D6 D6d D10) nofun;have D49:=d a49 (λF=>uh B TMjj F D48 D9 D7) nofun;have D50:=d a50 (λF=>vX B F D47) nofun;have D51:=d a51 (λF=>Qc B TO TM F D41 D49 D44 D50) nofun;have D52:=d a52 (λF=>Vx B #[kl,kt,kbb] ⟨ks⟩ F D23) nofun;have D53:=d a53 (λF=>XF B #[kl,kt,kbb] F D22) nofun;have D54:=d a54 (λF=>UD B #[kt,ks] F D23 D53 D52) nofun;have D55:=d a55 (λF=>zbc B ⟨(aM X G nmin)⟩ F) nofun;have D56:=d a56 (λF=>zcw B ⟨(aM X G nmin)⟩ F D55) nofun;have D57:=d a57 (λF=>j8 B (aM X G nany) F D56 D55 D28 D25) nofun;exact zeA B F58 D27 D17 D20 D26 D51 D57 D21 D18 D54 D41
def walk{l:PySem.W.OpenLaw}{q:tu}{loose:List tw}{XP:(tw->Option sY)->tE->Prop}{YP:tz->tE->Prop}{d:DefRec}{K:Params->sV}(hn:l.most=Bu 63)(hdf:d.params.defaults=[])(hY:∀(w:tz) (h:tE),YP w h->(K w.params).In h) (hj:((PyProof.Rows.recsOf q).find? λr=>r.name ==("in_order" : tw)).isSome=Bw) (hno:∀w:tz,zcV (K w.params)=Bw)(F:∀(w:tz) (mg:tw->Option sY) (fa:sX) (h:tE) (cc T:sX),(K w.params).In h->h.Ns sQ mg->mg d.name=Bu (.ref fa)->(∃a o fd,mg "in_order" = Bu (.ref a)/\h.get? a=Bu o/\o.data=.func fd/\fd.code=.ref cc)->sQ≠T ->
   ∃fd:tj,(∀(s:sZ) (u:sY),AT s fd #[[u],[]] [("_law_script",u)])/\∀base:tE,(K w.params).In base->base.Ns sQ mg->base.BuiltinsAt mg T->PySem.W.CodeHd base cc T->zY l.prog w (K w.params) mg base CX0 12 fa fd ["_law_script"] (WD (K w.params) T)) :
  PySem.W.WalkO q loose XP YP l.row.toRowW d [] (λf vs=>gy f vs):=by
 obtain⟨din,hd⟩:=BQ.mp hj;have hnm:din.name="in_order":=by simpa using dX hd
 exact L3.walk_ofT (n:=63) (k:=12) (x:="_law_script") (CX:=λ_=>CX0) (din:=din) (sp:=λw T=>WD (K w.params) T) hn ∅ hdf #[rfl,∅,∅] (eO hd) hY hno (λw mg fa h cc T a b c e g=>F w mg fa h cc T a b c (by rw[hnm]at e;exact e) g) (λ_ _ a ns T hl hB hT hS=>#[a,ns,rfl,hS,hB,hT,λ_=>rfl]) λ_ _ _ _ _ z=>z
end LL
namespace PySem.W.Fast
local macro_rules | `(#print $s:str)=>do let c:=s.getString.toList;let d<-(List.range (c.length/11)).mapM λi=>`(def $(mkIdent (.mkSimple s!"tw{((c.drop (11*i)).take 11).foldl (λa x=>a*57+(x.toNat-35)) 0}")):ident:=Nat);return Lean.mkNullNode d.toArray
#print "ISV?X:Q(%)6BB/T=FSP-RL1X5HL%NR%V.?:54+)OY$19>=)9MN/K)#/C.LKV11NQD>,F:.I-F)N'<)%7J%N6R>A=KCY41[>MB%:J7XZT-OM97K'>FOP#@RQU5)9#*,)0G1;K;AL2VA@G+8'M6P45L9E.;P';TJ;@Y;(%?T<QT=YDHDR?DS<)L9-8T0/OQ;FQ<OE).#ORZ&UL+0I+?@@WL5*[6OSA3[=<',Q0>9FCL5BCRE[&-L+W@T@3-RNPURP8=PU9I4NSF/I>@E/8NWJ'N?'QN9H;6BP=1Q%UD)[Y;A)CL<NC;9@HS1/W7.XQ--SHI@9M'()NVJ3>2U=H*%W8%2)'31HK3*TS@U<;3/$$E;V+K+K*.2KDV,H6$/SGGPRJ76&K6E%<S1,D3Y5TF)+W<*/H61,3YBO%A*U$VP1Y(C8F?62VZH2,NF?Z=#S7=<WFSXL8<PC23N7CVY$W'XF86-F=0<BG>6)DA+8OTGO==5P7H-1)60V,6C:>H6K51%/TWG3N%L;B*1>?.LE6Q(EV:AAF)#%+FO%JB02S)+'#PID(G%#H,2?Z'%;$-0LOS$RG3$[(LHX0#24BEK@WX;=$+3L+[&;+223HWU,'7.,#I3E>VL6RK<VHSP7XMIZ*K*@D=X4O.21ZXE5C-.)[A5A?)N=N$F;60,8.5N;B*)C9?J7U6+O,4.JH1&(9BED)Y[IKLEZT?LD0/31SD+F''-PE1FEB*YEG'4VO.'[[>K,?ZF9+:D>*(EN,,Y1J:LCW+(Q*NI3ZQSO/[Q-#QN[A&%ZKBQP;/Q8[*@P=CY97K/'QW58@W.<'SBGJUS(P3GB%'AS5CM+1N,L>;R?)10RO.4P)GZ'LGEF5TG.FO>0A5D+T<E5+Y@2/(,F%84=8JQWJ7>5DBT?$93&Q'G$X<V#A9'$7D/<=>LLP8RX/9DFYHDP$F<>*&;BW$RU:SO&RF*[VPM*M:<HXDH<(F5-.I.M3I?[7Q08)/92>LA@87P#D?MR[((TDUGOFNO5-?U[<GOC059A4(=LX<D)$D:,BR(*XE-&3+MP@#&:&SBG9A&FG:#;0Q.8C.UM.G&K=&'B-DUG8MX;D4+0$G6=G>492?9/8.MO;[:(TLL-<(.&V/;RV#:#*E56X86=YS0+HS++%D=/P4*9G+G)A%)(&[ZCTSBJU/SFM(F8X'?FN*@IUWX5FU#5PZ/7-T(V8<'+*?V5GJ*(9N3#IG=)OA/F?IA.QW.:%0E<SK$),H(EF==WVQ'+TID4ZEJ6HKUNF#-&+E)RCG*IK(.%Z.ENP2%F&(M3NX<:73)@K9N)US0:6K'HY@AO1'F;*JDZW2X02+Z-4=,BKF?8*ITP[)=U/3*VNN<P1L:GM4Y)$:RS(X)-IVXX4#V?;=;8>SB&<+&G%'##F>K6Z%Q.@1G##:@X)WNPT6=+>D>I=%2A'S4)+GJ-D3)A>/GI:2OSB%7C<,WZ>-UP,W4Z7U8#R(A7S[%R?FA0:H.8&&8@XS8O*I+,Z/?9A[6QNV$$EJ*0U:)T<*RH183D>B<6O+8I&N&RJ5*Y,4;-9%@BAV;8'XCK;LV%U&:A*V+UX;GA$R$CVZ;W*YAAYF/)/O)Z.G+$8A2YNV@B'(T.)2$U$>VYIML9RN32.5O0B+FQ<>D?L+N?=TI3'5GZH9'6VM%F:LN2J7)/5SRY;(8QC+6.4%SXYAUBRZUD#X;-BB@U?[.BMQYVJ-1G:-XQNN-RP?Y>#0=EDR[T$'H)Y,)),N:%%Z.#WU;>J:J@/6FBQ4<X$IWEHM8Z:MZ&34S+VQJSG.F'QSX@M>AE84GO0<<10P,W?=8$A.4MYJ,)D8AI0UZS)G5O+Q8@J&2=..,9,9Q:66SQ<QU5K>06J#WENFWV$F$/:4M<C@6+GF(M++/;[DVLG)T(O7M'-S,EBIJ(R.),&H)XY[B+9R30H3*15EF:TK/&6D&1+8/-6'NPEPTM#6%KYRC=1RSG<(Z2R/IAEN?)-/B)'<R=()J5<%TAD@DM'GA(RK&)87?IXBM:M6LV[*#WUPX=W;-52O2<JG3T+E[=C-53O6,>%/R0T6<--%&O[,<Q=5P[.24&1O,>TP8'2'A/3C5,(7Y>ZB0:X1E=?0NDC-%PFO/5@9D&H%BRENE,RJ4)%F#0+'2.+0'-&:GXD#5GX6$';'L6[&>Z#>YLL@3MK?89#FI/$+QYC%2FB<OEO6BGCE7/Q%(U/-7<9)?H7P)[-8D*H052LY#H-,;&:C=5#QD>#'*[&/IGD3'&N$MM5@,E*P1W'MO/S4<9HLH)/W;V=GT'V;#XF'UA,BGQB<JMH?VKE<0G56:4#-&S(FF0>V0'9YN:,-4<=DFF<Y8B29;7/(AZ*.JO(#=*ZNHVPX.QE;A5*/:JK/0.*0F8.DK+W)'P/VK7;8Q%BKB9UH:.%44M(;6P5H[6D%GM8;L'T)B[EAVM*+Y9>'-L/EA8:OB51%**'>-R4*#UO<8ADUA7<CSW,IICRBZ<I.3FG2RHCY8HT9'L,TL36/W*+A,0,UPK(K;JSDZE1)>/%/VH&*JTH-T57(K2?>Q#M:5,+=5/8397OTKJ89=;G6>>QJ1S&GT0+HDAM'/D'1A4IOE[Q-;VB+/5R-MNJH4WIZ6V4#T>*9OZ)5H>+=,5Z6QQ&RO8C<8;C@M>>X>(V42+/$27H2M5GS?C.XOTGJFJW4U(O##9?9U#:?FIT)[K8*#&RZY5<:C'EHW)):8'WZNJ90:*QZ1GKA-#M0PS<>R968*NM'(X@YD=NT>E:7MBQL2PY@E-PO+1%M=9E;6%)=R/A(,(BK482XI@8U.*R8=,6YZU1@9,7'T-ZOGVGI(RAPD<;D&KGBV&+*QU3C>>FXT9(':HI3QI2I+X09+MJ'E)E#00)=&[<QD>LM@P(8I-W'.(&-=HVJ'@</>3';JS%2+AYA7)N3R1G;0*>,YXM=F/=>%D@2[,E<GRZH0$YS$S9'@DKW0*Y&0T0OL.GF$Y7>[&Y'+0Y%1/@&/=O0EEQ(0[TSZC[2>DLMX$$#1$AI[RRU%QIM:%=<[-H9)6UWVC?QR:?Q.#M-&+T$U*'/>&V,%+UU%/,X'+J063XZPGI&(DEQ4YTM)7Y/*>1,#6;NW,JVGLG?PWO7RW5#&&U'L+(9)92*%&G3'1MR/B?A2M&)W5R?)+MP<;CIU?6T./*X-YANZ+Z.RK7F-SU)P7LTH&J(N;W#(O?&&8YOP%J0(2#>H5(%EBUD/$YH8D0ML6QC>$=Q1PGHWB;C%,5,5[39GI8(%DM%CNVG9J'$U#:2+X@*/7O>T1%M1L:?;8'83O9>7P@X#B:MV7FL+UOXF9J6X59T#WC2(<K$/.-U:WP,<52>J)*L-2PDP0M8?K@JZ'R5WG?UV'MLMNO3Z;&':T0'Z1MR[-K<1*)8P@#F'>PKU9(?ZJVO@E*2X[VL@0(?3O7HLL.7L:S<L0.+8THJ>:9[L5NX%I$K4$I5XXQ,?2SG'1KU+RGD6O?W=VJ7C:$LSVF<+.EJLVYFZY1%O1GUES?-U#ED<T.SX35V;K&MT/OF&9'#)L?69D6MQ>?PXO8U10:C[7WT@9,8[G[[[$(Y3*8I9;TL(T=/-B0.3QOOZ.D#H6DSBPW1P2O3[?-PMS'U4SA=UM[S[SB/[*59?0;6:BP#*R'82)[WD%)KD9[82G#25I('0K+>,F[I(90G-T-#QR()#:E9*Q[X324$NPE890&(8U$25;T)=CQ$WWH)J>3+E'@75(#VD0JG*TF/%RL+;S%[,MO[8&21I,2H[EE99'48B(FF[CDY/34G,<[A?2DAZETC@L=+7K$0234:B'%E*H6;9-ZG,(C*24K5/:ME80P9=ON#&>%YM:(1J.=V5U7%DR:D#D5)?SG'YY+2+[UES'?C[=/GJR:JPE+KOD/%E6RMK$36@S1/'2G#Z1H):AA?(?X<V)OG(Y(5RX[EUM:(T8::QUHB*AY*:;'U2R%Z8D>Y-AC&0'0ER8,,@O+,$GDEVF*OT>=Q'44N4$)V@U72>X')*0T%0=?CT?HZ$8&V(P5#AFY9?4YJJ3GECQ54BOICYV47=,3GX*P>/4JS=@&,+?T%(BQF45%$AJU8(+I[>)&Q);,(:S7DT)AHY)HEP(8%K[;$1SV/JKT,OH@@8*1X$*#/XO$Q6.U##LU?8P#[2&VNB[X-*J:6T2M71P[9*ZLV=7SQ'1'=[IPPNOOF,FP#'#;<56/#6J:N+A8C$R:7OV?PM)MXHF12?G$.>98DIF$3LK@&Y&4ZDZ?78?72XK%JBBJ0VZHEW8EQBIBK[C[&:L;;S)#-L9/MW4?0B?YEY7F%XR6HT,JYWL@XG(-:N=197U136#*;@M1)2PA-E$6S'NH(G;'**KQL.'MOGLU/-@Z1[BMO$J=RXU=A.6X:RNFQ1AL%4.A5N=,:2;U*1'S1%0+GT,KR;P:-,SJ;.;S01;@F3+UK>K/7L>/G:0V1R8'TBS%73;WYD:<%9WP$'+:/6T+#PP&($JG3'WQ[9P.4R,YNS;'*@'IGNMUW#H(?UJAL.7IBHWJG4/SLAZ6[-%WRS<0JX:)*81<8(43EOS9B0PX:(B#Q[/29C6K&W#B$,[?CEE><WRM-Z=2O1;+5[.-6;=H$.'&*A2S50R"
end PySem.W.Fast
open PySem PySem.W PyProof.Rows
set_option maxRecDepth 100000 in
set_option maxHeartbeats 0 in
theorem PySem.Challenge.cw_letterlaw_k82_apart_by_forms_holds : PySem.Challenge.rw_letterlaw_k82_apart_by_forms.Holds := by
 w_on;o_law;k_head; (case hw=>w_witness2)
 k_fill
 refine LL.walk (l:=PySem.Challenge.rw_letterlaw_k82_apart_by_forms) rfl rfl (λw h Y=>PySem.W.km_in_of Y) ?hJJ ?hNN ?hFF
 case hJJ=>first | kernel_rfl | rfl | decide +kernel
 case hNN=>intro w;first | kernel_rfl | rfl
 case hFF =>
  intro w mg fa h cc T KX G hmg hlam hgT
  refine' LL.all_mk KX G hmg hlam hgT ?a0 ?a1 ?a2 ?a3 ?a4 ?a5 ?a6 ?l6 ?k6 ?p6 ?a7 ?a8 ?a9 ?a10 ?a11 ?a12 ?l12 ?k12 ?p12 ?a13 ?a14 ?a15 ?a16 ?a17 ?a18 ?a19 ?a20 ?a21 ?a22 ?a23 ?a24 ?a25 ?a26 ?a27 ?a28 ?a29 ?a30 ?a31 ?a32 ?a33 ?a34 ?l34 ?k34 ?p34 ?a35 ?a36 ?a37 ?a38 ?a39 ?a40 ?a41 ?a42 ?a43 ?a44 ?a45 ?a46 ?a47 ?a48 ?a49 ?a50 ?a51 ?a52 ?a53 ?a54 ?a55 ?a56 ?a57 ?a58 ?l58 ?k58 ?p58 ?g_LetterError ?g_NoLetters ?g_NoOrder ?g_Order ?g_FromRight ?g_ByWeights ?g_NotTurned ?g_System ?g_NoUse ?g_TooFar ?g_NoWorld ?g_World ?g_TooMany ?kbb ?kt ?ki ?kb ?kl ?XIl ?xi ?XIo ?yi ?most ?mostw ?pc ?pf ?ph ?pi ?pj ?pq ?pw ?rL ?rM ?rN ?mS ?mT ?mU ?mV ?mX ?mY ?mZ ?ot ?ou ?ow ?nc ?ng ?nh ?ni ?nj ?nk ?nq ?oy ?oz ?oB ?nw_ByWeights ?sgO ?rdO ?win ?XIt ?nn ?ini ?lI ?kI ?pI ?fnI ?oE ?oF ?oG ?oH ?oJ ?oK ?no_System ?nr_System ?XIu ?ua ?iniU ?lU ?kU ?pU ?fnU ?XIf ?vi ?sFF ?XIq ?nwi ?mostr ?pz ?pA ?pB ?pC ?pD ?pE ?pF ?nt_World ?XIm ?wi ?mostt ?ks ?nmin ?nany ?nsorted ?mou ?mos ?mod_ ?mop ?mcu ?mce ?mcd ?mcp ?mju ?mjs ?mr ?mv ?lh ?ly ?lA ?iK ?mw ?mx ?lm ?iT ?iU ?iV ?iW ?iX ?iY ?iE ?iF ?iG ?my ?mz ?iA ?lB ?lC ?ig ?lX ?lY ?lZ ?io ?ip ?iq ?mB ?mC ?mD ?md ?me ?mf ?nv ?nw ?ny ?lD ?lE ?lF ?lG ?lH ?lJ ?oP ?nP ?fcO ?fiR_init ?fiR_weight ?fiW_seen ?fiR_rank ?fiW_rank ?fiR_before ?fiW_before ?b0 ?b1 ?b2 ?b3 ?b4 ?b5 ?b6 ?b7 ?b8 ?b9 ?b10 ?b11 ?b12 ?b13 ?b14 ?b15
  (case a0|a1|a2|a3|a4|a5=>exact#[by k_is,_,L2.fun_mk (by k_is) (by k_is) (by k_is)])
  case a6|l6|k6|p6=>k_is
  (case a7|a8|a9|a10|a11=>exact#[by k_is,_,L2.fun_mk (by k_is) (by k_is) (by k_is)])
  case a12|l12|k12|p12=>k_is
  (case a13|a14|a15|a16|a17|a18|a19|a20|a21|a22|a23|a24|a25|a26|a27|a28|a29|a30|a31|a32|a33=>exact#[by k_is,_,L2.fun_mk (by k_is) (by k_is) (by k_is)])
  case a34|l34|k34|p34=>k_is
  (case a35|a36|a37|a38|a39|a40|a41|a42|a43|a44|a45|a46|a47|a48|a49|a50|a51|a52|a53|a54|a55|a56|a57=>exact#[by k_is,_,L2.fun_mk (by k_is) (by k_is) (by k_is)])
  case a58|l58|k58|p58|g_LetterError|g_NoLetters|g_NoOrder|g_Order|g_FromRight|g_ByWeights|g_NotTurned|g_System|g_NoUse|g_TooFar|g_NoWorld|g_World|g_TooMany|xi|yi|most|mostw|pi|pq|pw|rM|rN|mV|mY|mZ|ou|ow|ni|nk|nq|oz|oB|nw_ByWeights|sgO|win|nn|ini|lI|kI|pI|oH|oK|no_System|nr_System|ua|iniU|lU|kU|pU|vi|sFF|nwi|mostr|pC|pE|pF|nt_World|wi|mostt|nmin|nany|nsorted|mou|mos|mod_|mop|mcu|mce|mcd|mcp|mju|mjs|mr|ly|mw|iT|iW|iE|my|lB|lX|io|mB|md|nv|lD|lG=>k_is
  (case XIl|XIo|XIt|XIu|XIf|XIq|XIm=>exact#[#[by first | kernel_rfl | rfl | k_is | decide +kernel,by k_is,by k_is,by k_is,by k_is],by k_is,by k_is,by k_is,by k_is])
  case oP|nP|fcO|fiR_init|fiR_weight|fiW_seen|fiR_rank|fiW_rank|fiR_before|fiW_before|b0|b1|b2|b3|b4|b5|b6|b7|b8|b9|b10|b11|b12|b13|b14|b15=>k_is
  (case mv|lA|mx|iU|iX|iF|mz|lC|lY|ip|mC|me|nw|lE|lH=>exact#[_,L2.fun_mk (by k_is) (by k_is) (by k_is)])
  (case kbb|kt|ki|kb|kl|rL|ot|oy|ks=>first | kernel_rfl | rfl)
  (case pc|ph|pj|mS|mU|mX|nc|nh|nj|rdO|oE|oG|oJ|pz|pB|pD=>first | kernel_rfl | rfl | k_is | decide +kernel)
  (case pf|mT|ng|fnI|oF|fnU|pA|lh|iK|lm|iV|iY|iG|iA|ig|lZ|iq|mD|mf|ny|lF|lJ=>first | kernel_rfl | rfl | k_is)
#print axioms PySem.Challenge.cw_letterlaw_k82_apart_by_forms_holds
