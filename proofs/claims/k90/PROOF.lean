import PyProof.Rows.All
import Wide.All
import OpenK.AllK
import Wide.FinOn
import PyProof.EqAt
import PyProof.EqKinds
import PyProof.NeKinds
import PyProof.TupleCall
import KE.KRevIter
import PyProof.ZipIter
import PyProof.Rows.SetFrom
import PyProof.StrWalks
import PyProof.DictStraight
import PyProof.DictDisplay
import PyProof.StrLawsFrom
import PyProof.Rows.StrNews2
import KE.KMinBuiltin
import PyProof.Rows.CallKwBuiltin
import PyProof.Rows.SortShell
import KE.KSortTup
import KE.KBoundM
import KE.KLam
import KE.KDictLaws
import PyProof.DictWalks
import Lean
import PySem.Challenge.RW_letterlaw_k90_whole_thin_lists_judged
set_option compiler.extract_closed false
open Lean(mkIdent)
set_option tactic.hygienic false
local macro_rules | `(!0)=>`(by decide +kernel)
def zzP(s:Lean.Syntax):Lean.MacroM Lean.Syntax:=s.rewriteBottomUpM λs=>do if s.isIdent then `(rcasesPat| $(⟨s⟩):ident) else if s[0].getAtomVal=="#[" then `(rcasesPat| ⟨$(←s[1].getSepArgs.mapM λp=>`(Lean.Parser.Tactic.rcasesPatLo| $(⟨p⟩):rcasesPat)),*⟩) else if s[0].getAtomVal=="_" then `(rcasesPat| _) else return s
local macro_rules | `(tactic| let#[$a,*]:=$e)=>do `(tactic| obtain $(⟨←zzP (←`(#[$a,*]))⟩):rcasesPat:=$e)
local macro_rules | `(⇑$a)=>`(.str ($(mkIdent `tx) $a))
local macro_rules | `(tactic| rintro $p* : 0)=>`(tactic| (rintro $p* : _;right))
local macro_rules | `(↥$a)=>`(by simpa using $a)
local macro_rules | `(%[$a,*|$n:num])=>do let x<-`(none);`([$(a.getElems++Array.replicate n.getNat x),*])
open Lean in
local macro_rules | `(mutual $c* end)=>if c[0]!.raw.isOfKind ``Parser.Command.section then do let m<-`(noncomputable def x:=0);return mkNullNode (<-(c.drop 1).mapM λx=>do let y<-x.raw.rewriteBottomUpM λx=>pure (x.setInfo .none);return if y[0].getArgs.all (·.getNumArgs==0)&&(["def","abbrev"].contains y[1][0].getAtomVal||y[1][1].getAtomVal=="instance")then y.setArg 0 m.raw[0] else y) else Macro.throwUnsupported
def zzA(h:True:=by first | rfl | exact .inl rfl | exact .inr rfl | exact .inr (.inl rfl) | exact .inr (.inr rfl) | decide | assumption | (intro _;rfl) | exact ⟨rfl,rfl⟩):=h
local macro_rules | `(‹$t›)=>`(autoParam $t $(mkIdent `zzA._auto_1))
local macro_rules | `(end in $d)=>do let m<-`(noncomputable def x:=0);return d.raw.setArg 0 m.raw[0]
local macro_rules | `(!-$i)=>`($(mkIdent `zk) $(mkIdent `t7) ($(mkIdent `pv) $i) $(mkIdent `zd))
local macro_rules | `(tactic| exists $t)=>`(tactic| refine $t (λvs H Q E h=>by repeat (first | (obtain⟨e,_⟩:=h;subst e;rfl) | obtain⟨_,h⟩:=h)) (λ$(mkIdent `cdv) $(mkIdent `A) $(mkIdent `outer) $(mkIdent `s) $(mkIdent `H) $(mkIdent `vs) $(mkIdent `Q) $(mkIdent `E) $(mkIdent `hr) $(mkIdent `h)=>?_))
local macro_rules | `(tactic| exists $t,0)=>`(tactic| refine $t (λvs H Q E h=>by repeat (first | (obtain⟨e,_⟩:=h;subst e;rfl) | obtain⟨_,h⟩:=h)) (λ$(mkIdent `cdv) $(mkIdent `A) $(mkIdent `outer) $(mkIdent `s) $(mkIdent `H) $(mkIdent `vs) $(mkIdent `Q) $(mkIdent `E) $(mkIdent `hr) $(mkIdent `hx) $(mkIdent `h)=>?_))
local macro_rules | `(tactic| rintro $p* : _)=>`(tactic| rintro $(mkIdent `Gz):ident $(mkIdent `hGz):ident $p*)
local macro_rules | `(tactic| right)=>`(tactic| subst $(mkIdent `hGz))
local macro_rules | `($s⁻¹)=>`(($s).heap.objs.size)
def sizL{n:Nat}(h:n.ble 9=true):n<=PySem.sizeLine:=Nat.le_trans (Nat.le_of_ble_eq_true h) (by decide)
local macro_rules | `(⋯)=>`(by first | exact $(mkIdent `sizL) rfl | lia)
local macro_rules | `(∅)=>`(by decide)
local macro_rules | `(tactic| erw [$[$a:term],*] $[$l:location]?)=>`(tactic| simp only [$[$a:term],*] $[$l:location]?)
local macro_rules | `(())=>`(List Nat)
local macro_rules | `(#[$a,*])=>if a.getElems.size>1 then `(⟨$a,*⟩) else Lean.Macro.throwUnsupported
open List renaming toArray→r9
open PySem.Value renaming ref→r8
open PySem.Value renaming none→p9
open PySem.PassesOwn renaming never→p8
open PySem.Builtin.Str renaming strSliceIndices→p7
open PySem.Builtin.Range renaming rangeSize→p0
open List renaming getElem?_eq_some_iff→Bh,mem_map→Bj,mem_cons→Bk,mem_append→Bl,mem_singleton→Bm,mem_range→Bn,mem_filter→Bp,mem_reverse→Bq,all_eq_true→Br,nodup_cons→Bs,length_pos_iff→Bu,mem_iff_getElem?→Bw,mem_flatMap→Bx,length_eq_zero_iff→By,any_eq_true→Bz,pairwise_append→BA,pairwise_map→BD,mem_filterMap→BE,find?_eq_none→BJ,nodup_iff_count→BK,pairwise_cons→BL,nodup_append→BM
open Option renaming map_eq_some_iff→Bo,isSome_iff_exists→Bv,bind_eq_some_iff→BB,isNone_iff_eq_none→BC
open Bool renaming eq_false_iff→BF
open Nat renaming lt_one_iff→BH
local macro_rules | `(tactic| symm)=>`(tactic| decide +kernel)
local macro_rules | `(tactic| nofun)=>`(tactic| exact⟨rfl,rfl,rfl,by decide +kernel,rfl,by decide +kernel,by decide +kernel⟩)
open List renaming length_map→aa,mem_of_getElem?→ac,getD_eq_getElem?_getD→ae,getElem?_eq_getElem→af,length_append→aj,size_toArray→ak,map_append→am,map_cons→ao,getElem?_map→au,mem_cons_of_mem→av,mem_cons_self→aB,length_take→aC,mem_append_right→aF,length_cons→aG,map_nil→aI,take_length→aJ,range→aK,set_cons_zero→aM,set_cons_succ→aN,append_assoc→aQ,replicate→aR,length_drop→aS,append_nil→aT,toArray→aU,take_of_length_le→aW,drop_eq_getElem_cons→aY,lookup_cons→aZ,drop_of_length_le→bf,nil_append→bg,take_zero→bv,sum_cons→bw,take_append_of_le_length→bx,mem_append_left→bz,mem_of_mem_take→bA,lookup→bB,cons_append→bE,getElem?_reverse→bF,getElem?_append_right→bG,length_nil→bI,length_reverse→bL,length_range→bM,length_replicate→bN,idxOf_lt_length_of_mem→bP,map_congr_left→bV,getElem?_append_left→bW,take_append_drop→bY,map_map→cf,getElem?_eq_none→cw,drop_append_of_le_length→cK,eraseIdx_cons_succ→cL,replicate_succ→cM,length→cQ,range_succ→cT,mem_of_mem_drop→cY,getElem?_take_of_lt→cZ,getElem?_cons_zero→dc,contains_cons→dg,filter_append→di,length_filter_le→dn,flatMap_append→dB,of_mem_zip→dC,find?_cons→dD,filter_nil→dF,zip_cons_cons→dH,find?_eq_none→dI,drop_zero→dL,getElem?_cons_succ→dM,flatten_cons→dO,range_succ_eq_map→dU,any_cons→dY,drop_length→d4,getElem_mem→d5,eraseIdxIfInBounds_toArray→d6,find?_some→eC,replicate_succ'→eG,eq_nil_of_length_eq_zero→eI,filterMap_cons→eJ,getElem?_range→eM,replicate_zero→eO,take_succ_cons→eP,drop_drop→eS,getElem_idxOf→eU,getElem_range→eV,all_cons→eY,flatMap_cons→e8,eraseIdx_nil→fg,extract_eq_drop_take→fh,mem_of_find?_eq_some→fj,map_reverse→fu,map_fst_zip→fv,filter_cons→fz,getElem?_replicate→fB,pairwise_singleton→fG,filter_cons_of_pos→fH,filter_cons_of_neg→fJ,forIn_cons→fN,getElem?_set_self→fO,length_singleton→fV,mem_range→fZ,take_take→gb,drop_left→gc,getElem?_set_ne→gf,map_take→gp
open PySem.Heap renaming get?_push_of_some→ag,lt_size→aw,get?_update_other→az,get?_push_size→aE,get?_update_self→cu,size_push→dk,size_update→dv,get?_update_ne→gv
open PySem.W renaming findIn→ah,nsIn→ax,mg_of→aL,mg_none_of→aO,keepIn→aP,kitOne→aV,isFn→bc,kia_one→bu,fnOf→bD,emptyDict→bT,mroIn→bZ,codeIn→cb,plainGet→ci,callWith_K→cr,kla_fn→cz,instObj→cA,hasDictIn→cI,methodCall_KW→cS,plainOver→cU,looks_findIn→cX,makesIn→df,subIn→dz,specialIn→dN,takesIn→d7,plainGet_of→eL,lookIn→eQ,methodObj→eZ,kitx_list→e7,envX→fo,takerIn→fL,cellsFrom_some→fP,callWith_K0→gu,kitx_tuple→gx,set_plain→gA,kitx_dict→gB,handedIn→gD,bind_fn→gG,findObj→gH,kat_nil→gJ,kas_ask→gK
open Nat renaming le_refl→al,lt_of_lt_of_le→aq,zero_le→ar,ne_of_lt→ay,le_trans→aH,not_lt_zero→bq,lt_of_le_of_lt→bC,le_of_lt_succ→bU,succ_le_succ→cj,le_of_not_lt→cp,lt_of_le_of_ne→cy,le_of_lt→cB,ne_of_gt→cC,min_eq_left→cD,lt_trans→cF,le_antisymm→cH,lt_irrefl→cJ,min_eq_right→cN,le_succ→cP,succ_pos→db,add_right_comm→dh,lt_succ_of_lt→dj,le_of_eq→dm,le_sub_one_of_lt→dw,add_sub_cancel'→dA,lt_trichotomy→dQ,lt_succ_self→dZ,succ_mul→d8,lt_or_ge→ef,zero_add→eh,sub_self→eD,mul_le_mul_right→eF,min_self→fk,lt_of_not_le→fm,lt_add_of_pos_right→fF,mul_le_mul→fX,sub_lt_sub_right→gk,le_total→gz,one_mul→gC
open Int renaming toNat_natCast→aA,emod_lt_of_pos→bp,emod_nonneg→br,natCast_nonneg→bJ,eq_ofNat_of_zero_le→bQ,natCast_mul→eE
open Bool renaming false_ne_true→aD,and_eq_true→ba,false_eq_true→be,eq_false_or_eq_true→cG,eq_iff_iff→de,and_false→dJ,not_eq_true'→dP,or_eq_true→d9,or_true→ee,eq_false_iff→e9,not_false→fY,and_true→gm,beq_comm→gn,not_true→gq,true_and→gr
open PySem.F renaming plainAttrs_list→aX,slot_list_append→bh,type_list_append→bn,plainAttrs_str→bK,plain_max_loop→bR,plain_min_loop→bS,slot_str_find→dq,type_str_find→du,entry_max_loop→dW,entry_min_loop→dX,slot_dict_setdefault→eR,excBase_ValueError→eX,slot_str_index→fR,type_str_index→fS
open PySem renaming strKind→bH,mem_of_lookup→ce,frameOf→eW,call→gg,passOn→gy
open PyProof.Rows renaming callWith_type1→bO,boot_sorted→fw,boot_all→gd,boot_min→ge
open Decidable renaming byContradiction→bX
open Option renaming bind_some→cq,join_some→fq,join_none→ft,getD_some→fA,map_eq_none_iff→fQ,getD_none→gF
open PySem.Str renaming ofString→cE,empty→fM
open Array renaming length_toList→eK,getElem?_toList→fW,getD→gh,toList_append→gw
open PySem renaming wpAny_bind→sF,wpAny_pure→sH,mainGlobals→sI,starEach→sJ,sizeLine→sK
open PySem.W renaming Frag→sL
open PySem renaming Addr→sM,Value→sN,Shared→sP,wpAny→sQ,Str→sS,Program→sU,Stmt→sV,compareOp→sX,sizeLine_eq→sY,World→sZ,keywordEach→tj,wpAny_truthy_bool→tm,wpAny_holding→tu,backTo→tw,wpAny_Call_Name_kw→tz,Heap→tB,bootBuiltins→tD,backToKw→tE,wpAny_tryCatch→tF,Around→tG,wpAny_loadPart_at→tH,codeAny_builtin→tI,wpAny_passesOwn→tJ,wpAny_standAt→tK,wpAny_noRaise→tL,codeAny→tM,wpAny_letGo→tN,wpAny_mono→tO,wpAny_updateSeq→tP,wpAny_execs_nil→tQ,Expr→tR,wpAny_setField→tS,wpAny_seqItems→tT,wpAny_field→tU,wpAny_call→tV,FuncData→tW,wpAny_execs_cons→tX,codeAny_mono→tY,Obj→tZ,wpAny_isSubtype_exc→Aa,wpAny_pyIter_list→Ac,wpAny_newObj_type→Ad,plainObj_wpAny_Assign_Attribute→Ae,wpAny_newList→Af,codeAny_call_builtin→Ah,NameKind→Ai,Scope→Aj,wpAny_comprehension_free→Ak,wpAny_getItem_str_slice→Al,wpAny_pyNext_range_end→Am,wpAny_pyIter_rangeiter→An,wpAny_Call_method_late→Ao,wpAny_pyIter_revIter→Aq,wpAny_newFunctionEnv→Ar,wpAny_loadPart→As,recursionLimit→Au,excClassObj→Av,IsRangeIter→Aw,Keyword→Ax,BindsTo→Ay,wpAny_attempt→Az,wpAny_pyIter_tuple→AB,wpAny_pyIter_range→AC,wpAny_pyIter_enum→AD,wpAny_assign_Name→AE,wpAny_Return_some→AF,wpAny_Assign_Name→AG,wpAny_lookBehind→AI,wpAny_getItem_of→AJ,wpAny_Try_except→AK,wpAny_Dict_empty→AL,Arguments→AM,isCodeTable→AN,CmpOp→AO,Tok→AQ,wpAny_rule→AR,wpAny_Name→AS,Env→AU,TriplesOk→AV,Pos→AW,Paired→AX
open PyProof.Rows renaming seqObj→sW,envOfC→Ab,AllBare→Ag,subscriptTail_builtinR→Ap,subscriptTail→AA,IntsAre→AH,Subscript_→AT
open PySem.W renaming OpenLaw→AY,KasT→AZ
open Option renaming some→Ba,none→Bb
open Bool renaming true→Bc,false→Bd
open PySem PySem.Spec PyProof.Rows
local macro_rules | `(tactic| change $t:term)=>`(tactic| refine $(mkIdent `zj) (λ$(mkIdent `σ) $(mkIdent `H')=>$t) ?_ ?_)
local macro_rules | `(tactic| intros $xs*)=>`(tactic| (intro $(mkIdent `Be):ident $(mkIdent `s):ident $(mkIdent `σ):ident $(mkIdent `H):ident;intro $[$(xs.map λx=>(⟨x.raw⟩:Lean.TSyntax `term))]*))
def w9:=@if_neg
def w6:=@if_pos
def w4:=@absurd
def u9:=@decide_eq_false
def u6:=@decide_eq_true
def u5:=@of_decide_eq_true
set_option Elab.async false
set_option linter.all false
set_option maxRecDepth 100000
set_option maxHeartbeats 0
set_option compiler.extract_closed false
namespace L2
mutual section
abbrev Key:=Sum Int sS
def zes:Key->sN->Bool
 | .inl k,v=>Value.isInt k v
 | .inr x,v=>Value.isStrOf x v
def zg7(w:sZ):Key->Int
 | .inl k=>hashInt k
 | .inr x=>hashStr w x
theorem yj:∀{k:Key} {v:sN},zes k v=Bc->(∃i t,k=Sum.inl i/\v=Value.int i t)\/(∃x t,k=Sum.inr x/\v=Value.str x t)
 | .inl i,v,h=>by
  let#[t,e]:=Value.isInt_shape (k:=i) (v:=v) h;exact .inl #[i,t,rfl,e]
 | .inr x,v,h=>by
  let#[t,e]:=Value.isStrOf_shape (x:=x) (v:=v) h;exact .inr #[x,t,rfl,e]
def zd8(a b:Int):decide ((Sum.inl a:Key)=Sum.inl b)=(a == b):=by
 by_cases e:a=b
 ·subst e;simp
 ·have h:¬ (Sum.inl a:Key)=Sum.inl b:=λq=>e (Sum.inl.inj q);rw[u9 h];exact (beq_eq_false_iff_ne.mpr e).symm
def zez(a b:sS):decide ((Sum.inr a:Key)=Sum.inr b)=decide (a=b):=by
 by_cases e:a=b
 ·subst e;simp
 ·have h:¬ (Sum.inr a:Key)=Sum.inr b:=λq=>e (Sum.inr.inj q);rw[u9 h,u9 e]
def zed(a:Int)(b:sS):decide ((Sum.inl a:Key)=Sum.inr b)=Bd:=u9 (λq=>nomatch q)
def zei(a:sS)(b:Int):decide ((Sum.inr a:Key)=Sum.inl b)=Bd:=u9 (λq=>nomatch q)
def XV(prog:sU)(w:sZ):PySem.KeyKind prog w Key where
 is:=zes
 hash:=zg7 w
 inj:=λv a b ha hb=>by
  rcases yj ha with ⟨i,t,rfl,rfl⟩ | ⟨x,t,rfl,rfl⟩
  ·rcases yj hb with ⟨j,u,rfl,e⟩ | ⟨y,u,rfl,e⟩
   ·injection e with e1 _;rw[e1]
   ·exact nomatch e
  ·rcases yj hb with ⟨j,u,rfl,e⟩ | ⟨y,u,rfl,e⟩
   ·exact nomatch e
   ·injection e with e1 _;rw[e1]
 byValue:=λk v h=>by
  rcases yj h with ⟨i,t,rfl,rfl⟩ | ⟨x,t,rfl,rfl⟩ <;> rfl
 pyHash:=λhv h=>by
  rcases yj hv with ⟨i,t,rfl,rfl⟩ | ⟨x,t,rfl,rfl⟩
  ·exact wpAny_pyHash_int h
  ·exact wpAny_pyHash_str h
 eqBool:=λhu hv h=>by
  rcases yj hu with ⟨i,t,rfl,rfl⟩ | ⟨x,t,rfl,rfl⟩
  ·rcases yj hv with ⟨j,u,rfl,rfl⟩ | ⟨y,u,rfl,rfl⟩
   ·rw[zd8]at h;exact wpAny_eqBool_int h
   ·rw[zed]at h;exact SeqAt.EqAt.int_str i t y u _ _ _ _ h
  ·rcases yj hv with ⟨j,u,rfl,rfl⟩ | ⟨y,u,rfl,rfl⟩
   ·rw[zei]at h;exact SeqAt.EqAt.str_int x t j u _ _ _ _ h
   ·rw[zez]at h;exact wpAny_eqBool_str h
 «strs»:=λk x t v h=>by
  rcases yj h with ⟨i,u,rfl,e⟩ | ⟨y,u,rfl,e⟩
  ·exact nomatch e
  ·injection e with e1 _;subst e1;cases v <;> rfl
inductive V where
 | non | bl (b:Bool) | int (i:Int) | str (x:sS) | byt (b:Array UInt8) | flt (b:UInt64) | ref (a:sM) | ty (n:String)
 deriving DecidableEq
def RelV:V->sN->Prop
 | .non,u=>u=p9
 | .bl b,u=>u=Value.bool b
 | .int i,u=>∃t,u=Value.int i t
 | .str x,u=>∃t,u=Value.str x t
 | .byt b,u=>∃t,u=Value.bytes b t
 | .flt b,u=>∃t,u=Value.float b t
 | .ref a,u=>u=r8 a
 | .ty n,u=>u=Value.type n
abbrev Vals:List V->List sN->Prop:=AX RelV
def Vals.length(r:Vals xs us):xs.length=us.length:=Paired.length r
theorem Vals.get:∀{xs:List V} {us:List sN} {i:Nat} {x:V},Vals xs us->xs[i]? = Ba x->∃u,us[i]? = Ba u/\RelV x u
 | _,_,_,_,.nil,e=>by simp at e
 | _,_,0,_,.cons r _,e=>by simp at e;subst e;exact#[_,rfl,r]
 | _,_,i+1,x,.cons _ t,e=>by
  let#[u,h1,h2]:=Vals.get (i:=i) (x:=x) t ↥e;exact#[u,by simpa using h1,h2]
theorem Vals.set(r:RelV x u):∀{xs:List V} {us:List sN} (i:Nat),Vals xs us->Vals (xs.set i x) (us.set i u)
 | _,_,_,.nil=>.nil
 | _,_,0,.cons _ t=>.cons r t
 | _,_,i+1,.cons q t=>.cons q (Vals.set r i t)
theorem Vals.append(h:Vals xs us)(s:Vals ys ws):Vals (xs ++ ys) (us ++ ws):=by
 induction h with
 | nil=>exact s
 | cons r t ih=>exact .cons r ih
theorem Vals.take:∀{xs:List V} {us:List sN} (n:Nat),Vals xs us->Vals (xs.take n) (us.take n)
 | _,_,0,_=>.nil
 | _,_,_+1,.nil=>.nil
 | _,_,n+1,.cons r t=>.cons r (Vals.take n t)
theorem Vals.drop:∀{xs:List V} {us:List sN} (n:Nat),Vals xs us->Vals (xs.drop n) (us.drop n)
 | _,_,0,r=>r
 | _,_,_+1,.nil=>.nil
 | _,_,n+1,.cons _ t=>Vals.drop n t
def RelO:Option V->Option sN->Prop
 | some v,Ba u=>RelV v u
 | none,Bb=>True
 | _,_=>False
def KV{κ:Type}:List (κ × V)->List (κ × sN)->Prop:=AX λ(p:κ × V) (q:κ × sN)=>p.1=q.1/\RelV p.2 q.2
def kV:Key->V
 | .inl i=>.int i
 | .inr x=>.str x
inductive HO where
  | lst (xs:List V)
  | tup (xs:List V)
  | dK (kvs:List (Key × V)) | dT (kvs:List (List Key × V))
  | set (S:Int->Bool) (n:Nat)
  | ins (C dx:sM) (fs:List (sS × V))
  | own (x:sM)
  | xd (fs:List (sS × V))
  | met (f x:sM)
  | rng (lo hi:Int)
  | frz (o:tZ) (u:HO)
  | tbl (ps:Array sN)
  | ext (φ:tB->Prop)
abbrev Hp:=sM->Option HO
def upd(H:Hp)(a:sM)(o:HO):Hp:=λb=>if b=a then Ba o else H b
def zc : upd H a o a=Ba o:=by unfold upd;rw[w6 rfl]
def zt(h:b≠a):upd H a o b=H b:=by unfold upd;rw[w9 h]
def zN{H:Hp}(h:H a=Ba o)(h':H b=Bb):a≠b:=by intro e;subst e;rw[h]at h';cases h'
end
section
variable(P:sU)(w:sZ)
def ObjOk(H:Hp)(h:tB)(a:sM):HO->Prop
 | .lst xs=>xs.length<=sK/\∃(its:List sN) (n:Nat),Vals xs its/\h.get? a=Ba { cls:=.type "list",data:=.seq its.toArray n }
 | .tup xs=>xs.length<=sK/\∃its:List sN,Vals xs its/\IsTup h a its.toArray
 | .dK kvs=>kvs.length<=sK/\(a == sysModules)=Bd/\∃vs,KV kvs vs/\h.DictOf (XV P w) a vs
 | .dT kvs=>kvs.length<=sK/\(a == sysModules)=Bd/\∃xs:List (List Key × sM × sN),
   AX (λ(p:List Key × V) (q:List Key × sM × sN)=>p.1=q.1/\H q.2.1=Ba (.tup (p.1.map kV))/\RelV p.2 q.2.2) kvs xs /\
   ∃o es ep,h.get? a=Ba o/\o.ExactDict/\o.data=.dict es ep/\es.toList=xs.map (entryOfKey (tupleKind (XV P w)))/\(xs.map (·.1)).Nodup
 | .set S n=>h.SetOf (intKind P w) a S n
 | .ins C dx fs=>H dx=Ba (.own a)/\fs.length<=1000/\dx≠a/\h.get? a=Ba (cA C dx) /\
   ∃mA,h.Ns1 dx mA/\(∀f,RelO (fs.lookup f) (mA f))/\PySem.Within mA (fs.map (·.1))
 | .own _=>∃o,h.get? a=Ba o
 | .xd fs=>∃mA,h.Ns1 a mA/\∀f,RelO (fs.lookup f) (mA f)
 | .rng lo hi=>∃t u v,h.get? a=Ba { cls:=.type "range",data:=.fields (r9 [.int lo t,.int hi u,.int 1 v]) }
 | .frz o u=>h.get? a=Ba o/\ObjOk H h a u
 | .tbl ps=>h.get? a=Ba { cls:=.none,data:=.fields ps }
 | .met f x=>h.get? a=Ba (eZ (.ref f) (.ref x))
 | .ext φ=>φ h/\(∃o,h.get? a=Ba o)/\∀h1 h2:tB,φ h1->(∀o,h1.get? a=Ba o->h2.get? a=Ba o)->φ h2
def HOk(H:Hp)(h:tB):Prop:=∀a o,H a=Ba o->ObjOk P w H h a o
end
mutual section
theorem ObjOk.lt(x:ObjOk P w H h a o):a<h.objs.size:=by
 cases o with
 | lst xs=>let#[_,_,_,_,e]:=x;exact aw e
 | tup xs=>let#[_,_,_,p]:=x;exact p.lt
 | dK kvs=>let#[_,_,_,_,o,_,_,e,_]:=x;exact aw e
 | dT kvs=>let#[_,_,_,_,o,_,_,e,_]:=x;exact aw e
 | set S n=>let#[o,_,_,_,e,_]:=x;exact aw e
 | ins C dx fs=>let#[_,_,_,e,_]:=x;exact aw e
 | own y=>let#[_,e]:=x;exact aw e
 | xd fs=>let#[_,#[_,_,_,e,_],_]:=x;exact aw e
 | rng lo hi=>let#[_,_,_,e]:=x;exact aw e
 | frz ob u=>let#[e,_]:=x;exact aw e
 | tbl ps=>exact aw (show h.get? a=Ba _ from x)
 | met f y=>exact aw (show h.get? a=Ba _ from x)
 | ext φ=>let#[_,#[_,e],_]:=x;exact aw e
theorem Paired.mapP(h:AX F l₁ l₂)(f:∀a b,F a b->G a b):AX G l₁ l₂:=by
 induction h with
 | nil=>exact .nil
 | cons r t ih=>exact .cons (f _ _ r) ih
theorem ObjOk.stay(x:ObjOk P w H h a o)(k:∀b u,(b=a\/H b=Ba (.own a))->h.get? b=Ba u->h'.get? b=Ba u)(ho:∀b,H b=Ba (.own a)->H' b=Ba (.own a)) (ht:∀b xs,H b=Ba (.tup xs)->H' b=Ba (.tup xs)):ObjOk P w H' h' a o:=by
 induction o with
 | lst xs=>let#[z,its,n,r,e]:=x;exact#[z,its,n,r,k _ _ (.inl rfl) e]
 | tup xs=>let#[z,its,r,ob,e,c]:=x;exact#[z,its,r,ob,k _ _ (.inl rfl) e,c]
 | dK kvs=>let#[z,y,vs,r,ob,es,ep,e,c]:=x;exact#[z,y,vs,r,ob,es,ep,k _ _ (.inl rfl) e,c]
 | dT kvs =>
  let#[z,y,xs,r,ob,es,ep,e,c]:=x;exact#[z,y,xs,Paired.mapP r λp q z=>#[z.1,ht _ _ z.2.1,z.2.2],ob,es,ep,k _ _ (.inl rfl) e,c]
 | set S n=>let#[ob,es,ep,t,e,c]:=x;exact#[ob,es,ep,t,k _ _ (.inl rfl) e,c]
 | ins C dx fs =>
  let#[d,z,ne,e,mA,#[od,es,ep,e2,c],r]:=x;exact#[ho _ d,z,ne,k _ _ (.inl rfl) e,mA,#[od,es,ep,k _ _ (.inr d) e2,c],r]
 | own y=>let#[ob,e]:=x;exact#[ob,k _ _ (.inl rfl) e]
 | xd fs=>let#[mA,#[od,es,ep,e,c],r]:=x;exact#[mA,#[od,es,ep,k _ _ (.inl rfl) e,c],r]
 | rng lo hi=>let#[t,u,v,e]:=x;exact#[t,u,v,k _ _ (.inl rfl) e]
 | frz ob u ih=>let#[e,q]:=x;exact#[k _ _ (.inl rfl) e,ih q]
 | tbl ps =>
  have e:h.get? a=Ba { cls:=.none,data:=.fields ps }:=x;show h'.get? a=Ba { cls:=.none,data:=.fields ps };exact k a _ (.inl rfl) e
 | met f y =>
  have e:h.get? a=Ba (eZ (.ref f) (.ref y)):=x;show h'.get? a=Ba (eZ (.ref f) (.ref y));exact k a _ (.inl rfl) e
 | ext φ=>let#[p,#[o,e],st]:=x;exact#[st _ _ p λo q=>k _ _ (.inl rfl) q,#[o,k _ _ (.inl rfl) e],st]
def HOk.lt(x:HOk P w H h)(e:H a=Ba o):a<h.objs.size:=(x a o e).lt
theorem HOk.fresh(x:HOk P w H h)(e:h.objs.size<=a):H a=Bb:=by
 cases q:H a with
 | none=>rfl
 | some u=>exact w4 (aq (x.lt q) e) (cJ _)
def HOk.kept(x:HOk P w H h)(k:∀b u,h.get? b=Ba u->h'.get? b=Ba u):HOk P w H h':=λa o e =>
 (x a o e).stay (λb u Z q=>k b u q) (λZ q=>q) λZ Z q=>q
def HOk.laid(x:HOk P w H h)(k:∀b u,h.get? b=Ba u->h'.get? b=Ba u)(hp:h.objs.size<=a)(new:ObjOk P w (upd H a o) h' a o):HOk P w (upd H a o) h':=λb u e=>by
 have hn:=x.fresh hp;by_cases hb:b=a
 ·subst hb;rw[zc]at e;cases e;exact new
 ·rw[zt hb]at e;exact (x b u e).stay (λc v Z q=>k c v q) (λc q=>by rw[zt (zN q hn)];exact q) λc xs q=>by rw[zt (zN q hn)];exact q
def Rd(H:Hp)(a:sM)(u:HO):Prop:=H a=Ba u\/∃o,H a=Ba (.frz o u)
def Rd.ok(r:Rd H a u)(x:HOk P w H h):ObjOk P w H h a u:=by
 rcases r with r | ⟨o,r⟩
 ·exact x a u r
 ·let#[_,q]:=x a _ r;exact q
def Mut:Option HO->Prop
 | some (.lst _)=>True
 | some (.dK _)=>True
 | some (.dT _)=>True
 | some (.set _ _)=>True
 | some (.ins _ _ _)=>True
 | some (.ext _)=>True
 | _=>False
def HOk.write(ok:HOk P w H h)(mu:Mut (H x))(he:e=x\/H e=Ba (.own x))(k:∀b u,b≠e->h.get? b=Ba u->h'.get? b=Ba u)(heo:∃u,h'.get? e=Ba u)(new:ObjOk P w (upd H x o') h' x o'):HOk P w (upd H x o') h':=λb u q=>by
 have nown:∀c y,H c=Ba (.own y)->c≠x:=λc y r z=>by subst z;rw[r]at mu;exact mu
 have ntup:∀c xs,H c=Ba (.tup xs)->c≠x:=λc xs r z=>by subst z;rw[r]at mu;exact mu
 by_cases hb:b=x
 ·subst hb;rw[zc]at q;cases q;exact new
 ·rw[zt hb]at q;by_cases hbe:b=e
  ·have q':H b=Ba (.own x):=by
    rcases he with z | z
    ·exact w4 (hbe.trans z) hb
    ·rw[hbe];exact z
   rw[q]at q';cases q';let#[v,hv]:=heo;exact#[v,by rw[hbe];exact hv]
  ·refine (ok b u q).stay (λc v hc r=>k c v ?_ r) (λc r=>by rw[zt (nown c b r)];exact r) λc xs r=>by rw[zt (ntup c xs r)];exact r
   rcases hc with rfl | hc
   ·exact hbe
   ·rintro rfl;rcases he with z | z
    ·exact nown c b hc z
    ·rw[hc]at z;cases z;exact hb rfl
structure Un(fs ex:List sM)(H H':Hp)(h h':tB):Prop where
 keep:∀b o,h.get? b=Ba o->H b=Bb->b ∉ fs->b ∉ ex->h'.get? b=Ba o
 slot:∀b o,h.get? b=Ba o->H b=Bb->b ∈ fs->b ∉ ex->∃sl,h'.get? b=Ba { o with slots:=sl }
 free:∀b o,h.get? b=Ba o->H b=Bb->b ∉ ex->H' b=Bb
 there:∀b o,h.get? b=Ba o->b ∉ ex->∃o',h'.get? b=Ba o'
 tups:∀b xs,H b=Ba (.tup xs)->H' b=Ba (.tup xs)
 frzs:∀b o u,H b=Ba (.frz o u)->H' b=Ba (.frz o u)
 tbls:∀b ps,H b=Ba (.tbl ps)->∃more,H' b=Ba (.tbl (ps ++ more))
def Un.any(u:Un fs ex H H1 h h1)(q:h.get? b=Ba ob)(n:H b=Bb)(hx:b ∉ ex):∃sl,h1.get? b=Ba { ob with slots:=sl }:=by
 by_cases hb:b ∈ fs
 ·exact u.slot b ob q n hb hx
 ·exact#[ob.slots,u.keep b ob q n hb hx]
def Un.kept(k:∀b u,h.get? b=Ba u->h'.get? b=Ba u):Un fs ex H H h h' :=
 #[λb ob q Z Z Z=>k b ob q,λb ob q Z Z Z=>#[ob.slots,k b ob q],λZ Z Z n Z=>n,λb ob q Z=>#[ob,k b ob q],λZ Z q=>q,λZ Z Z q=>q,λZ ps q=>#[#[],by rw[q];simp]]
def Un.refl:Un fs ex H H h h:=Un.kept λZ Z q=>q
def Un.laid(k:∀b u,h.get? b=Ba u->h'.get? b=Ba u)(hp:h.objs.size<=a)(hn:H a=Bb):Un fs ex H (upd H a o) h h' where
 keep:=λb u q Z Z Z=>k b u q
 slot:=λb u q Z Z Z=>#[u.slots,k b u q]
 free:=λb u q n Z=>by rw[zt (ay (aq (aw q) hp))];exact n
 there:=λb u q Z=>#[u,k b u q]
 tups:=λb xs q=>by rw[zt (zN q hn)];exact q
 frzs:=λb u xs q=>by rw[zt (zN q hn)];exact q
 tbls:=λb ps q=>#[#[],by rw[zt (zN q hn),q];simp]
def Un.write(mu:Mut (H x))(he:e=x\/H e=Ba (.own x))(k:∀b u,b≠e->h.get? b=Ba u->h'.get? b=Ba u)(heo:∃u,h'.get? e=Ba u):Un fs ex H (upd H x o) h h':=by
 have hx:∀b,H b=Bb->b≠x:=λb n z=>by subst z;rw[n]at mu;exact mu
 have hb:∀b,H b=Bb->b≠e:=λb n z=>by
  subst z;rcases he with r | r
  ·exact hx b n r
  ·rw[n]at r;cases r
 have hm:∀b u,H b=Ba u->¬ Mut (Ba u)->b≠x:=λb u q nm z=>by subst z;rw[q]at mu;exact nm mu
 refine#[λb u q n Z Z=>k b u (hb b n) q,λb u q n Z Z=>#[u.slots,k b u (hb b n) q],λb u q n Z=>by rw[zt (hx b n)];exact n,λb u q Z=>?_,
  λb xs q=>by rw[zt (hm b _ q λz=>z)];exact q,λb u xs q=>by rw[zt (hm b _ q λz=>z)];exact q,λb ps q=>#[#[],by rw[zt (hm b _ q λz=>z),q];simp]]
 by_cases hbe:b=e
 ·subst hbe;exact heo
 ·exact#[u,k b u hbe q]
def trk(h:tB)(H:Hp):List sM:=(aK h.objs.size).filter λa=>(H a).isSome
def QA(h:tB)(H:Hp):tB:=PySem.W.hideAll h (trk h H)
def Qz(h:tB)(H:Hp):(QA h H).objs.size=h.objs.size:=PySem.W.hideAll_size _ _
def WS(e:h.get? b=Ba o)(n:H b=Bb):(QA h H).get? b=Ba o :=
 PySem.W.hideAll_get _ e λhm=>by
  have q:(H b).isSome=Bc:=(Bp.mp hm).2;rw[n]at q;simp at q
theorem zcz(e:(QA h H).get? b=Ba o):h.get? b=Ba o/\H b=Bb:=by
 have e':h.get? b=Ba o:=PySem.W.of_hideAll (trk h H) e;refine#[e',?_]
 cases q:H b with
 | none=>rfl
 | some x =>
  have hm:b ∈ trk h H:=Bp.mpr #[Bn.mpr (aw e'),by simp [q]];have z:(QA h H).get? b=Bb:=PySem.W.hideAll_none (trk h H) hm;rw[z]at e;cases e
def zde(g h:tB)(L:sM):List (sM × tZ):=(aK h.objs.size).filterMap λa=>if a=L\/(g.get? a).isSome=Bc then Bb else (h.get? a).map λo=>(a,o)
def rest(g h:tB)(L d:sM):List (sM × tZ):=(zde g h L).filter λp=>decide (p.1≠d)
structure Mod(K:sL)(mg:sS->Option sN)(base:tB):Prop where
 kin:K.In base
 glob:base.Ns sI mg
 blt:∃mb,base.Ns builtinsNs mb/\∀x:sS,x≠"__name__"->mb x=tD x
 nolimit:base.NoLimit
structure Cx where
 prog:sU
 w:sZ
 K:sL
 mg:sS->Option sN
 base:tB
 A:tG
 N:List sS
 s₀:sP
 H₀:Hp
 env:AU
 outer:List AU
 stack:List AU
 ex:List sM
 fn:sS->Bool
 calm:Bool
 pn:List (sM × tZ)
 xe:sN->sP->Prop
def frs(l:List AU):List sM:=l.filterMap (·.frame)
abbrev Cx.fs(X:Cx):List sM:=frs X.outer
def Vis(sc:Aj)(x:sS):Prop:=sc.names.lookup x=Ba .local\/sc.names.lookup x=Ba .cell\/sc.names.lookup x=Ba .free
def Loc(sc:Aj)(x:sS):Prop:=sc.names.lookup x=Ba .local\/sc.names.lookup x=Ba .cell
def zhn(env:AU)(h:tB)(m:sS->Option sN)(x:sS)(u:sN):Prop :=
 (env.kindOf x=Ba .local/\m x=Ba u)\/((env.kindOf x=Ba .cell\/env.kindOf x=Ba .free)/\∃c,env.cells.lookup x=Ba c/\h.IsCell c (Ba u))
structure Cx.Ok(X:Cx):Prop where
 mod:Mod X.K X.mg X.base
 kind:X.env.scope.kind=.function
 glob:X.env.globals=sI
 blt:X.env.builtins=builtinsNs
 above:X.s₀.heap.objs.size<=X.env.locals
 inj:∀x y c,X.env.cells.lookup x=Ba c->X.env.cells.lookup y=Ba c->x=y
 has:∀x,(X.env.kindOf x=Ba .cell\/X.env.kindOf x=Ba .free)->∃c,X.env.cells.lookup x=Ba c
 cab:∀x c,X.fn x=Bc->X.env.cells.lookup x=Ba c->X.s₀.heap.objs.size<=c
 hd:X.calm=Bc->X.A.handled=Bb
 frames:X.A.frames=Ba X.stack
 stk:X.stack=X.outer\/(X.stack=X.env::X.outer/\X.env.frame=Ba X.env.locals)
 exf:∀b ∈ X.ex,b≠X.env.locals/\∀x c,X.env.cells.lookup x=Ba c->c≠b
 bs:∀b o,X.base.get? b=Ba o->X.s₀.heap.get? b=Ba o/\X.H₀ b=Bb
 bsz:X.base.objs.size<=X.s₀.heap.objs.size
 noex:∀b o,X.base.get? b=Ba o->b ∉ X.ex
 exfs:∀b ∈ X.ex,b ∉ X.fs
 funs:X.s₀.heap.FunFrames X.base X.outer
 frf:∀b ∈ X.fs,X.H₀ b=Bb
structure Inv(X:Cx)(Be:List (sM × tZ))(σ:List (Option V))(H:Hp)(s:sP):Prop where
 ok:X.Ok
 os:s.os=X.s₀.os
 bare:Ag s.gens
 base:Un X.fs X.ex X.H₀ H X.s₀.heap s.heap
 loc:∃m,s.heap.Ns X.env.locals m/\∀(i:Nat) (x:sS) (v:V),X.N[i]? = Ba x->σ[i]? = Ba (Ba v)->Vis X.env.scope x->∃u,RelV v u/\zhn X.env s.heap m x u
 cell:∀x c,X.env.cells.lookup x=Ba c->∃v,s.heap.IsCell c v
 free:H X.env.locals=Bb
 freeC:∀x c,X.env.cells.lookup x=Ba c->H c=Bb
 pin:∀p ∈ X.pn ++ Be,s.heap.get? p.1=Ba p.2/\H p.1=Bb/\p.1≠X.env.locals/\p.1 ∉ X.fs/\∀v,p.2.data≠.cell v
 hok:HOk X.prog X.w H s.heap
 len:σ.length=X.N.length
def Cx.Ok.nofr{X:Cx}(ok:X.Ok)(e:X.base.get? b=Ba o):b ∉ X.fs:=λhb=>by
 have:=(ok.funs.mem hb).1;rw[e]at this;cases this
def Inv.bs(I:Inv X Be σ H s):∀b o,X.base.get? b=Ba o->s.heap.get? b=Ba o/\H b=Bb:=λb o e =>
 #[I.base.keep b o (I.ok.bs b o e).1 (I.ok.bs b o e).2 (I.ok.nofr e) (I.ok.noex b o e),I.base.free b o (I.ok.bs b o e).1 (I.ok.bs b o e).2 (I.ok.noex b o e)]
def Inv.bk(I:Inv X Be σ H s):∀b o,X.base.get? b=Ba o->s.heap.get? b=Ba o:=λb o e=>(I.bs b o e).1
def Inv.mod(I:Inv X Be σ H s):Mod X.K X.mg X.base:=I.ok.mod
def Inv.kIn(I:Inv X Be σ H s):X.K.In s.heap:=I.ok.mod.kin.keeps I.bk
def Inv.nolimit(I:Inv X Be σ H s):s.heap.NoLimit:=I.ok.mod.nolimit.keeps I.bk
def Inv.fr(I:Inv X Be σ H s):∃m,Fr X.base X.env.locals s.heap m :=
 let #[m,hn,_]:=I.loc
 #[m,hn,I.bk,aH I.ok.bsz I.ok.above]
def Inv.lt(I:Inv X Be σ H s):X.env.locals<s⁻¹:=let #[_,hn,_]:=I.loc;hn.lt
def Inv.sz(I:Inv X Be σ H s):X.s₀.heap.objs.size<=s⁻¹:=aH I.ok.above (cB I.lt)
def Inv.nofs(I:Inv X Be σ H s)(h:s⁻¹<=a):a ∉ X.fs:=λhb=>by
 let#[_,o,ho,_]:=I.ok.funs.mem hb;exact w4 (aq (aw ho) (aH I.sz h)) (cJ _)
def Inv.cne(I:Inv X Be σ H s):∀x c,X.env.cells.lookup x=Ba c->c≠X.env.locals:=λx c e z=>by
 let#[v,o,ho,hd]:=I.cell x c e;let#[m,#[o',es,ep,ho',hd',_],_]:=I.loc;rw[z,ho']at ho;cases ho;rw[hd']at hd;cases hd
def Inv.funs(I:Inv X Be σ H s):s.heap.FunFrames X.base X.outer:=by
 have all:∀(l:List AU),(∀b ∈ frs l,b ∈ X.fs)->X.s₀.heap.FunFrames X.base l->s.heap.FunFrames X.base l:=by
  intro l
  induction l with
  | nil=>intro _ _;trivial
  | cons env r ih =>
   intro hs hl;let#[hk,#[L,o,hf,hn,ho,hd],hr]:=hl;have hL:L ∈ X.fs:=hs L (by unfold frs;rw[eJ,hf];exact aB);let#[sl,e]:=I.base.slot L o ho (I.ok.frf L hL) hL λz=>I.ok.exfs L z hL;exact#[hk,#[L,_,hf,hn,e,hd],ih (λb hb=>hs b (by unfold frs;rw[eJ,hf];exact av _ hb)) hr]
 exact all X.outer (λZ hb=>hb) I.ok.funs
def Inv.stack(I:Inv X Be σ H s):s.heap.FunFrames X.base X.stack:=by
 rcases I.ok.stk with e | ⟨e,hf⟩
 ·rw[e];exact I.funs
 ·rw[e];let#[m,hn,_]:=I.loc;refine .cons (by rw[I.ok.kind];decide) hf hn ?_ I.funs;exact Heap.get?_none_of_le (aH I.ok.bsz I.ok.above)
def Inv.stkSub(I:Inv X Be σ H s):∀b ∈ frs X.stack,b ∈ X.env.locals::X.fs:=λb hb=>by
 rcases I.ok.stk with e | ⟨e,hf⟩
 ·rw[e]at hb;exact av _ hb
 ·rw[e]at hb;unfold frs at hb;rw[eJ,hf]at hb;exact hb
def Inv.stkFree(I:Inv X Be σ H s):∀b ∈ frs X.stack,H b=Bb:=λb hb=>by
 rcases Bk.mp (I.stkSub b hb)with e | hb
 ·rw[e];exact I.free
 ·let#[_,o,ho,_]:=I.ok.funs.mem hb;exact I.base.free b o ho (I.ok.frf b hb) λz=>I.ok.exfs b z hb
def Inv.step{ch:List sM}(I:Inv X Be σ H s)(hch:∀b ∈ ch,(b ∈ X.ex\/X.s₀.heap.objs.size<=b)/\b≠X.env.locals/\(∀x c,X.env.cells.lookup x=Ba c->c≠b)/\∀p ∈ X.pn ++ Be,p.1≠b)(keep:∀b o,b≠X.env.locals->b ∉ X.fs->b ∉ ch->s.heap.get? b=Ba o->H b=Bb->h'.get? b=Ba o)(slot:∀b o,b≠X.env.locals->b ∈ X.fs->b ∉ ch->s.heap.get? b=Ba o->H b=Bb->∃sl,h'.get? b=Ba { o with slots:=sl })(free:∀b o,b ∉ ch->s.heap.get? b=Ba o->H b=Bb->H' b=Bb)(there:∀b o,b ∉ ch->s.heap.get? b=Ba o->∃o',h'.get? b=Ba o')(tups:∀b xs,H b=Ba (.tup xs)->H' b=Ba (.tup xs))(frzs:∀b o u,H b=Ba (.frz o u)->H' b=Ba (.frz o u))(tbls:∀b ps,H b=Ba (.tbl ps)->∃more,H' b=Ba (.tbl (ps ++ more)))(ns:∀m,s.heap.Ns X.env.locals m->h'.Ns X.env.locals m)(hok:HOk X.prog X.w H' h')(hg:Ag g') :
  Inv X Be σ H' { s with heap:=h',gens:=g',drawn:=d',toks:=t' }:=by
 have neL:∀b o,X.s₀.heap.get? b=Ba o->b≠X.env.locals:=λb o e=>ay (aq (aw e) I.ok.above)
 have neC:∀b o,X.s₀.heap.get? b=Ba o->b ∉ X.ex->b ∉ ch:=λb o e hx hb=>by
  rcases (hch b hb).1 with z | z
  ·exact hx z
  ·exact w4 (aq (aw e) z) (cJ _)
 have cellK:∀x c,X.env.cells.lookup x=Ba c->∀v,s.heap.IsCell c v->h'.IsCell c v:=λx c e v ⟨o,ho,hd⟩=>by
  have nch:c ∉ ch:=λz=>(hch c z).2.2.1 x c e rfl;by_cases hc:c ∈ X.fs
  ·let#[sl,q]:=slot c o (I.cne x c e) hc nch ho (I.freeC x c e);exact#[_,q,hd]
  ·exact#[o,keep c o (I.cne x c e) hc nch ho (I.freeC x c e),hd]
 refine#[I.ok,I.os,hg,#[λb o e n hb hx=>?_,λb o e n hb hx=>?_,λb o e n hx=>?_,λb o e hx=>?_,λb xs e=>tups b xs (I.base.tups b xs e),λb o xs e=>frzs b o xs (I.base.frzs b o xs e),λb ps e=>?_],?_,λx c e=>?_,?_,λx c e=>?_,λp hp=>?_,hok,I.len]
 ·exact keep b o (neL b o e) hb (neC b o e hx) (I.base.keep b o e n hb hx) (I.base.free b o e n hx)
 ·let#[sl,e1]:=I.base.slot b o e n hb hx;let#[sl',e2]:=slot b _ (neL b o e) hb (neC b o e hx) e1 (I.base.free b o e n hx);exact#[sl',e2]
 ·let#[o',e1]:=I.base.there b o e hx;exact free b o' (neC b o e hx) e1 (I.base.free b o e n hx)
 ·let#[o',e1]:=I.base.there b o e hx;exact there b o' (neC b o e hx) e1
 ·let#[m1,e1]:=I.base.tbls b ps e;let#[m2,e2]:=tbls b _ e1;exact#[m1 ++ m2,by rw[e2,Array.append_assoc]]
 ·let#[m,hn,hl]:=I.loc;refine#[m,ns m hn,λi x v e1 e2 e3=>?_];let#[u,r,l]:=hl i x v e1 e2 e3;refine#[u,r,?_];rcases l with l | ⟨k,c,e,z⟩
  ·exact .inl l
  ·exact .inr #[k,c,e,cellK x c e _ z]
 ·let#[v,z]:=I.cell x c e;exact#[v,cellK x c e v z]
 ·let#[m,#[o,_,_,ho,_],_]:=I.loc;exact free _ o (λz=>(hch _ z).2.1 rfl) ho I.free
 ·let#[v,o,ho,hd]:=I.cell x c e;exact free c o (λz=>(hch c z).2.2.1 x c e rfl) ho (I.freeC x c e)
 ·let#[e,n,ne,nf,d]:=I.pin p hp;have nch:p.1 ∉ ch:=λz=>(hch p.1 z).2.2.2 p hp rfl;exact#[keep p.1 p.2 ne nf nch e n,free p.1 p.2 nch e n,ne,nf,d]
def Inv.un(I:Inv X Be σ H s)(u:Un X.fs [] H H' s.heap h')(hok:HOk X.prog X.w H' h'):Inv X Be σ H' { s with heap:=h',toks:=t' }:=by
 let#[m,#[o,es,ep,ho,r],_]:=id I.loc;let#[sl,hL]:=u.any ho I.free (by simp)
 exact I.step (g':=s.gens) (d':=s.drawn) (ch:=[]) (λZ z=>nomatch z) (λb o Z hb Z e n=>u.keep b o e n hb (by simp)) (λb o Z hb Z e n=>u.slot b o e n hb (by simp)) (λb o Z e n=>u.free b o e n (by simp)) (λb o Z e=>u.there b o e (by simp)) u.tups u.frzs u.tbls (λm' hm=>by
  let#[o',es',ep',ho',r']:=hm;rw[ho]at ho';cases ho'
  exact#[_,es',ep',hL,r']) hok I.bare
def Inv.call(I:Inv X Be σ H s)(u:Un (frs X.stack) ch H H' s.heap h')(hok:HOk X.prog X.w H' h')(hg:Ag g')(hch:∀b ∈ ch,(b ∈ X.ex\/X.s₀.heap.objs.size<=b)/\b≠X.env.locals/\(∀x c,X.env.cells.lookup x=Ba c->c≠b)/\∀p ∈ X.pn ++ Be,p.1≠b) :
  Inv X Be σ H' { s with heap:=h',gens:=g',drawn:=d',toks:=t' }:=by
 let#[m,#[o,es,ep,ho,r],_]:=id I.loc;let#[sl,hL]:=u.any ho I.free λz=>(hch _ z).2.1 rfl
 exact I.step (ch:=ch) hch (λb o hL hb hc e n=>u.keep b o e n (λz=>(Bk.mp (I.stkSub b z)).elim hL hb) hc) (λb o Z Z hc e n=>u.any e n hc) (λb o hc e n=>u.free b o e n hc) (λb o hc e=>u.there b o e hc) u.tups u.frzs u.tbls (λm' hm=>by
  let#[o',es',ep',ho',r']:=hm;rw[ho]at ho';cases ho'
  exact#[_,es',ep',hL,r']) hok hg
def Inv.turned(I:Inv X Be σ H s)(k:∀b o,b≠it->s.heap.get? b=Ba o->h'.get? b=Ba o)(hn:H it=Bb)(hL:it≠X.env.locals)(h1:it ∈ X.ex\/X.s₀.heap.objs.size<=it)(h2:∀x c,X.env.cells.lookup x=Ba c->c≠it)(h3:∀p ∈ X.pn ++ Be,p.1≠it):Inv X Be σ H { s with heap:=h',toks:=t' }:=by
 have nit:∀b u,H b=Ba u->b≠it:=λb u e z=>by rw[z,hn]at e;cases e
 refine I.step (g':=s.gens) (d':=s.drawn) (ch:=[it]) (λb hb=>?_) (λb o Z Z hc e Z=>k b o (λz=>hc (by simp [z])) e) (λb o Z Z hc e Z=>#[o.slots,k b o (λz=>hc (by simp [z])) e]) (λZ Z Z Z n=>n)
  (λb o hc e=>#[o,k b o (λz=>hc (by simp [z])) e]) (λZ Z e=>e) (λZ Z Z e=>e) (λb ps e=>#[#[],by rw[e];simp]) (λm hm=>?_) (λb u e=>?_) I.bare
 ·have e:b=it:=by simpa using hb
  subst e;exact#[h1,hL,h2,h3]
 ·let#[o,es,ep,ho,r]:=hm;exact#[o,es,ep,k _ o (Ne.symm hL) ho,r]
 ·refine (I.hok b u e).stay (λc v hc q=>k c v ?_ q) (λZ q=>q) λZ Z q=>q;rcases hc with z | z
  ·rw[z];exact nit b u e
  ·exact nit c _ z
def Inv.tok(I:Inv X Be σ H s)(t:Nat):Inv X Be σ H { s with toks:=t }:=I.un (h':=s.heap) (t':=t) Un.refl I.hok
def Inv.kept(I:Inv X Be σ H s)(k:∀b u,s.heap.get? b=Ba u->h'.get? b=Ba u):Inv X Be σ H { s with heap:=h',toks:=t' }:=I.un (Un.kept k) (I.hok.kept k)
def Inv.laid(I:Inv X Be σ H s)(k:∀b u,s.heap.get? b=Ba u->h'.get? b=Ba u)(hp:s⁻¹<=a)(new:ObjOk X.prog X.w (upd H a o) h' a o) :
  Inv X Be σ (upd H a o) { s with heap:=h',toks:=t' }:=I.un (Un.laid k hp (I.hok.fresh hp)) (I.hok.laid k hp new)
def Inv.write(I:Inv X Be σ H s)(mu:Mut (H x))(he:e=x\/H e=Ba (.own x))(k:∀b u,b≠e->s.heap.get? b=Ba u->h'.get? b=Ba u)(heo:∃u,h'.get? e=Ba u)(new:ObjOk X.prog X.w (upd H x o) h' x o):Inv X Be σ (upd H x o) { s with heap:=h',toks:=t' }:=I.un (Un.write mu he k heo) (I.hok.write mu he k heo new)
def Inv.weak(I:Inv X Be σ H s)(hl:σ'.length=σ.length)(w:∀(i:Nat) v,σ'[i]? = Ba (Ba v)->σ[i]? = Ba (Ba v)):Inv X Be σ' H s :=
 #[I.ok,I.os,I.bare,I.base,let #[m,hn,hl']:=I.loc; #[m,hn,λi x v e1 e2 e3=>hl' i x v e1 (w i v e2) e3],I.cell,I.free,I.freeC,I.pin,I.hok,hl.trans I.len]
def Inv.pins_of(I:Inv X Be σ H s)(h:∀p ∈ pins',s.heap.get? p.1=Ba p.2/\H p.1=Bb/\p.1≠X.env.locals/\p.1 ∉ X.fs/\∀v,p.2.data≠.cell v):Inv X pins' σ H s :=
 #[I.ok,I.os,I.bare,I.base,I.loc,I.cell,I.free,I.freeC,λp hp=>(Bl.mp hp).elim (λz=>I.pin p (bz _ z)) (h p),I.hok,I.len]
def Vj{N:List sS}(hN:N.Nodup){i j:Nat}(a:N[i]? = Ba x)(b:N[j]? = Ba x):i=j:=by let#[h1,e1]:=Bh.mp a;let#[h2,e2]:=Bh.mp b;exact (List.getElem_inj hN).mp (e1.trans e2.symm)
def Xi(I:Inv X Be σ H s)(hN:X.N.Nodup)(hi:X.N[i]? = Ba x)(hx:Loc X.env.scope x)(r:RelV v u)(h:∀s',Inv X Be (σ.set i (Ba v)) H s'->(∃a,Heap.SameBut a s.heap s'.heap/\(a=X.env.locals\/X.env.cells.lookup x=Ba a))->Q Unit.unit s')(hf:‹X.fn x=Bc\/X.env.scope.names.lookup x=Ba .local›):sQ M A (storeName X.env x u) Q E s:=by
 let#[m,hn,hl]:=id I.loc;have hcls:(X.env.scope.kind == .class || (X.env.scope.kind == .module && X.env.locals != X.env.globals))=Bd:=by rw[I.ok.kind];rfl
 have hiσ:i<σ.length:=by rw[I.len];exact (Bh.mp hi).1
 have cne:=I.cne
 have tracked:∀{a:sM} {h':tB},(∃o,s.heap.get? a=Ba o/\H a=Bb)->Heap.SameBut a s.heap h'->HOk X.prog X.w H h':=λ{a h'} ha hs b ob e=>by
  let#[_,_,hfree]:=ha;refine (I.hok b ob e).stay (λc w' hc q=>(hs.2 c ?_).trans q) (λZ q=>q) λZ Z q=>q;rintro rfl;rcases hc with rfl | hc
  ·rw[hfree]at e;cases e
  ·rw[hfree]at hc;cases hc
 rcases hx with hk | hk
 ·refine wpAny_storeName_local hk hn (λh' hn' hs=>?_) hcls;let#[oL,_,_,hoL,_]:=id hn;refine h _ #[I.ok,I.os,I.bare,#[λb o e n hb hx=>?_,λb o e n hb hx=>?_,I.base.free,λb o e hx=>?_,I.base.tups,I.base.frzs,I.base.tbls],#[_,hn',λj y v' e1 e2 e3=>?_],λy c e=>?_,I.free,I.freeC,λp hp=>?_,tracked #[oL,hoL,I.free] hs,by simpa using I.len] #[_,hs,.inl rfl]
  ·exact (hs.2 b (ay (aq (aw e) I.ok.above))).trans (I.base.keep b o e n hb hx)
  ·let#[sl,e1]:=I.base.slot b o e n hb hx;exact#[sl,(hs.2 b (ay (aq (aw e) I.ok.above))).trans e1]
  ·let#[o',e1]:=I.base.there b o e hx;exact#[o',(hs.2 b (ay (aq (aw e) I.ok.above))).trans e1]
  ·by_cases hj:j=i
   ·subst hj;rw[hi]at e1;cases e1;rw[fO hiσ]at e2;cases e2;exact#[u,r,.inl #[hk,by simp]]
   ·rw[gf (Ne.symm hj)]at e2;let#[u',r',q]:=hl j y v' e1 e2 e3;refine#[u',r',?_];rcases q with ⟨k,e⟩ | ⟨k,c,e,z⟩
    ·refine .inl #[k,?_];have:y≠x:=λe=>hj (Vj hN e1 (e ▸ hi));simp [this,e]
    ·exact .inr #[k,c,e,z.sameBut hs (cne y c e)]
  ·let#[w',z]:=I.cell y c e;exact#[w',z.sameBut hs (cne y c e)]
  ·let#[e,n,ne,nf,d]:=I.pin p hp;exact#[(hs.2 p.1 ne).trans e,n,ne,nf,d]
 ·have hfn:X.fn x=Bc:=by
   rcases hf with z | z
   ·exact z
   ·rw[z]at hk;cases hk
  let#[c,hc]:=I.ok.has x (.inl hk);let#[w',z]:=I.cell x c hc;refine wpAny_storeName_cell I.ok.kind hk hc z (λh' hc' hs=>?_);let#[oc,hoc,hocd]:=id z;refine h { s with heap:=h' } #[I.ok,I.os,I.bare,#[λb o e n hb hx=>?_,λb o e n hb hx=>?_,I.base.free,λb o e hx=>?_,I.base.tups,I.base.frzs,I.base.tbls],#[m,hn.sameBut hs (Ne.symm (cne x c hc)),λj y v' e1 e2 e3=>?_],λy c' e=>?_,I.free,I.freeC,λp hp=>?_,tracked #[oc,hoc,I.freeC x c hc] hs,by simpa using I.len] #[c,hs,.inr hc]
  ·exact (hs.2 b (ay (aq (aw e) (I.ok.cab x c hfn hc)))).trans (I.base.keep b o e n hb hx)
  ·let#[sl,e1]:=I.base.slot b o e n hb hx;exact#[sl,(hs.2 b (ay (aq (aw e) (I.ok.cab x c hfn hc)))).trans e1]
  ·let#[o',e1]:=I.base.there b o e hx;exact#[o',(hs.2 b (ay (aq (aw e) (I.ok.cab x c hfn hc)))).trans e1]
  ·by_cases hj:j=i
   ·subst hj;rw[hi]at e1;cases e1;rw[fO hiσ]at e2;cases e2;exact#[u,r,.inr #[.inl hk,c,hc,hc']]
   ·rw[gf (Ne.symm hj)]at e2;let#[u',r',q]:=hl j y v' e1 e2 e3;refine#[u',r',?_];rcases q with q | ⟨k,c',e,z'⟩
    ·exact .inl q
    ·refine .inr #[k,c',e,z'.sameBut hs ?_];rintro rfl;exact hj (Vj hN e1 (I.ok.inj _ _ _ e hc ▸ hi))
  ·by_cases hcc:c'=c
   ·subst hcc;exact#[_,hc']
   ·let#[w2,z2]:=I.cell y c' e;exact#[w2,z2.sameBut hs hcc]
  ·let#[e,n,ne,nf,d]:=I.pin p hp;refine#[(hs.2 p.1 ?_).trans e,n,ne,nf,d];intro q;rw[q,hoc]at e;have q':oc=p.2:=Option.some.inj e;exact d w' (by rw[<- q'];exact hocd)
def Zq(I:Inv X Be σ H s)(hN:X.N.Nodup)(hi:X.N[i]? = Ba x)(hx:Loc X.env.scope x)(r:RelV v u)(h:∀s',Inv X Be (σ.set i (Ba v)) H s'->Q Unit.unit s')(hf:‹X.fn x=Bc\/X.env.scope.names.lookup x=Ba .local›):sQ M A (storeName X.env x u) Q E s :=
 Xi I hN hi hx r (λs' I' Z=>h s' I') hf
def Inv.call'(I:Inv X Be σ H s)(ho:s'.os=s.os)(u:Un (frs X.stack) ch H H' s.heap s'.heap)(hok:HOk X.prog X.w H' s'.heap)(hg:Ag s'.gens)(hch:∀b ∈ ch,(b ∈ X.ex\/X.s₀.heap.objs.size<=b)/\b≠X.env.locals/\(∀x c,X.env.cells.lookup x=Ba c->c≠b)/\∀p ∈ X.pn ++ Be,p.1≠b):Inv X Be σ H' s':=by let#[h',g',d',t',o']:=s';have e:o'=s.os:=ho;subst e;exact I.call (g':=g') (t':=t') (d':=d') u hok hg hch
abbrev XK:=sN->Option sM->Hp->Prop
abbrev St:=List (Option V)
abbrev VK:=V->Hp->Prop
abbrev TE:=St->Hp->VK->Prop
abbrev TT:=St->Hp->(Bool->Hp->Prop)->Prop
abbrev TA:=St->Hp->(List V->Hp->Prop)->Prop
structure Zm where
 nx:St->Hp->Prop
 rt:VK
 bk:St->Hp->Prop:=λZ Z=>False
 ct:St->Hp->Prop:=λZ Z=>False
abbrev TS:=Zm->St->Hp->Prop
def EP(X:Cx)(Be:List (sM × tZ))(σ:St)(Q:VK)(u:sN)(s':sP):Prop:=∃v H',Inv X Be σ H' s'/\RelV v u/\Q v H'
def TP(X:Cx)(Be:List (sM × tZ))(σ:St)(Q:Bool->Hp->Prop)(b:Bool)(s':sP):Prop:=∃H',Inv X Be σ H' s'/\Q b H'
def AP(X:Cx)(Be:List (sM × tZ))(σ:St)(Q:List V->Hp->Prop)(us:List sN)(s':sP):Prop:=∃vs H',Inv X Be σ H' s'/\Vals vs us/\Q vs H'
def SP(X:Cx)(Be:List (sM × tZ))(D:Zm)(f:Flow)(s':sP):Prop :=
 match f with
 | .next=>∃σ' H',Inv X Be σ' H' s'/\D.nx σ' H'
 | .brk=>∃σ' H',Inv X Be σ' H' s'/\D.bk σ' H'
 | .cont=>∃σ' H',Inv X Be σ' H' s'/\D.ct σ' H'
 | .ret u=>∃v σ' H',Inv X Be σ' H' s'/\RelV v u/\D.rt v H'
def PE(X:Cx)(e:tR)(t:TE):Prop :=
 ∀(Be:List (sM × tZ)) (s:sP) (σ:St) (H:Hp) (Q:VK),Inv X Be σ H s->t σ H Q->sQ (model X.prog X.w) X.A (eval e X.env) (EP X Be σ Q) X.xe s
def PT(X:Cx)(e:tR)(t:TT):Prop :=
 ∀(Be:List (sM × tZ)) (s:sP) (σ:St) (H:Hp) (Q:Bool->Hp->Prop),Inv X Be σ H s->t σ H Q->sQ (model X.prog X.w) X.A (isTrue e X.env (eval e X.env)) (TP X Be σ Q) X.xe s
def PW(X:Cx)(e:tR)(t:TT):Prop :=
 ∀(whole:Sem sN) (Be:List (sM × tZ)) (s:sP) (σ:St) (H:Hp) (Q:Bool->Hp->Prop),Inv X Be σ H s->t σ H Q->sQ (model X.prog X.w) X.A (isTrue e X.env whole) (TP X Be σ Q) X.xe s
def PW.pt(h:PW X e t):PT X e t:=h _
def PA(X:Cx)(es:List tR)(t:TA):Prop :=
 ∀(pos:AW) (Be:List (sM × tZ)) (s:sP) (σ:St) (H:Hp) (Q:List V->Hp->Prop),Inv X Be σ H s->t σ H Q->sQ (model X.prog X.w) X.A (spliced (tw pos (sJ es X.env))) (AP X Be σ Q) X.xe s
def PS(X:Cx)(st:sV)(t:TS):Prop :=
 ∀(Be:List (sM × tZ)) (s:sP) (σ:St) (H:Hp) (D:Zm),Inv X Be σ H s->t D σ H->sQ (model X.prog X.w) X.A (exec st X.env) (SP X Be D) X.xe s
def PSs(X:Cx)(st:List sV)(t:TS):Prop :=
 ∀(Be:List (sM × tZ)) (s:sP) (σ:St) (H:Hp) (D:Zm),Inv X Be σ H s->t D σ H->sQ (model X.prog X.w) X.A (execs st X.env) (SP X Be D) X.xe s
def thn(h:sQ M A t Q E s)(hQ:∀a s,Q a s->Q' a s):sQ M A t Q' E s:=tO h hQ λZ Z x=>x
def el5{α β:Type}{a b c:α->β->Prop}{C:Prop}(f:∀x y,a x y->b x y->c x y->C):(∃x y,a x y/\b x y/\c x y)->C:=λh=>Exists.elim h λx h=>Exists.elim h λy h=>f x y h.1 h.2.1 h.2.2
def el3{α:Type}{a b:α->Prop}{C:Prop}(f:∀x,a x->b x->C):(∃x,a x/\b x)->C:=λh=>Exists.elim h λx h=>f x h.1 h.2
def ua2{a b C:Prop}(f:a->b->C):a/\b->C:=λh=>f h.1 h.2
end
section
mutual section
variable{X:Cx}
def onSl(σ:St)(i:Nat)(p:V->Prop):Prop:=match σ[i]? with | some (Ba v)=>p v | _=>False
theorem onSl.of(h:onSl σ i p):∃v,σ[i]? = Ba (Ba v)/\p v:=by
 unfold onSl at h;split at h
 ·exact#[_,by assumption,h]
 ·exact h.elim
def onInt(x:V)(p:Int->Prop):Prop:=match x with | .int k=>p k | _=>False
def onInt.of(h:onInt x p):∃k,x=.int k/\p k:=by cases x <;> first | exact#[_,rfl,h] | exact h.elim
def onInt.to(h:∃k,x=.int k/\p k):onInt x p:=by let#[k,rfl,h]:=h;exact h
def onStr(x:V)(p:sS->Prop):Prop:=match x with | .str k=>p k | _=>False
def onStr.of(h:onStr x p):∃k,x=.str k/\p k:=by cases x <;> first | exact#[_,rfl,h] | exact h.elim
def onStr.to(h:∃k,x=.str k/\p k):onStr x p:=by let#[k,rfl,h]:=h;exact h
def onBl(x:V)(p:Bool->Prop):Prop:=match x with | .bl k=>p k | _=>False
def onBl.of(h:onBl x p):∃k,x=.bl k/\p k:=by cases x <;> first | exact#[_,rfl,h] | exact h.elim
def onBl.to(h:∃k,x=.bl k/\p k):onBl x p:=by let#[k,rfl,h]:=h;exact h
def onRef(x:V)(p:sM->Prop):Prop:=match x with | .ref k=>p k | _=>False
def onRef.of(h:onRef x p):∃k,x=.ref k/\p k:=by cases x <;> first | exact#[_,rfl,h] | exact h.elim
def onRef.to(h:∃k,x=.ref k/\p k):onRef x p:=by let#[k,rfl,h]:=h;exact h
def ya(i:Nat):TE:=λσ H Q=>onSl σ i λv=>Q v H
def tC(v:V):TE:=λZ H Q=>Q v H
def zeU(hN:X.N[i]? = Ba x)(hv:Vis X.env.scope x)(hd:‹(x ==("__debug__" : sS))=Bd›)(hcd:‹(x ==("__classdict__" : sS))=Bd›):PE X (.Name x pos) (ya i):=by
 intros Q I h;let#[v,e,h]:=onSl.of h;let#[m,hn,hl]:=I.loc;let#[u,r,l]:=hl i x v hN e hv;have fin:EP X Be σ Q u s:=#[v,H,I,r,h];rcases l with ⟨hk,hm⟩ | ⟨hk,c,hc,hcell⟩
 ·exact AS (wpAny_loadName_local I.ok.kind hk hn hm fin) hd
 ·rcases hk with hk | hk
  ·exact AS (wpAny_loadName_cell I.ok.kind hk hc hcell fin) hd
  ·exact AS (wpAny_loadName_free I.ok.kind hk hc hcell fin hcd) hd
def zd{i j pos}:PE X (.Constant (.int i) j pos) (tC (.int i)):=λZ Z Z H Z I h=>wpAny_Constant_int #[.int i,H,I.tok _,#[_,rfl],h]
def yt{b j pos}:PE X (.Constant (.bool b) j pos) (tC (.bl b)):=λZ Z Z H Z I h=>Constant_bool #[.bl b,H,I,rfl,h]
def yd{j pos}:PE X (.Constant .none j pos) (tC .non):=λZ Z Z H Z I h=>Constant_none #[.non,H,I,rfl,h]
def z6{x j pos}:PE X (.Constant (.str x) j pos) (tC (.str x)):=λZ Z Z H Z I h=>Calls.Constant_str #[.str x,H,I.tok _,#[_,rfl],h]
def Gl(X:Cx)(x:sS):Prop:=X.env.kindOf x=Ba .globalImplicit
def ub(I:Inv X Be σ H s)(hg:Gl X x)(hm:X.mg x=Ba u)(h:Q u s)(hd:‹(x ==("__debug__" : sS))=Bd›):sQ (model X.prog X.w) X.A (eval (.Name x pos) X.env) Q E s :=
 Calls.Name_function_global I.ok.kind hg (Calls.loadGlobal_global (by rw[I.ok.glob];exact I.mod.glob.keeps I.bk) hm h) hd
def vK(I:Inv X Be σ H s)(hg:Gl X x)(hm:X.mg x=Bb)(hv:tD x=Ba u)(h:Q u s)(hn:‹x≠"__name__"›)(hd:‹(x ==("__debug__" : sS))=Bd›):sQ (model X.prog X.w) X.A (eval (.Name x pos) X.env) Q E s:=by let#[mb,h1,h2]:=I.mod.blt;exact Calls.Name_function_global I.ok.kind hg (Calls.loadGlobal_builtin (by rw[I.ok.glob];exact I.mod.glob.keeps I.bk) hm (by rw[I.ok.blt];exact h1.keeps I.bk) ((h2 x hn).trans hv) h) hd
def yI(hg:Gl X x)(hm:X.mg x=Ba u)(r:RelV v u)(hd:‹(x ==("__debug__" : sS))=Bd›):PE X (.Name x pos) (tC v) :=
 λZ Z Z H Z I h=>ub I hg hm #[v,H,I,r,h] hd
def zcV(hg:Gl X x)(hm:X.mg x=Bb)(hv:tD x=Ba u)(r:RelV v u)(hn:‹x≠"__name__"›)(hd:‹(x ==("__debug__" : sS))=Bd›):PE X (.Name x pos) (tC v) :=
 λZ Z Z H Z I h=>vK I hg hm hv #[v,H,I,r,h] hn hd
variable{a b:tR}{ta tb:TE}{pos:AW}
def PC(X:Cx)(op:AO)(a b:tR)(t:TE):Prop :=
 ∀(Be:List (sM × tZ)) (s:sP) (σ:St) (H:Hp) (Q:VK),Inv X Be σ H s->t σ H Q ->
  sQ (model X.prog X.w) X.A (eval a X.env) (λv s₁=>sQ (model X.prog X.w) X.A (eval b X.env) (λu s₂=>sQ (model X.prog X.w) X.A (sX op v u) (EP X Be σ Q) X.xe s₂) X.xe s₁) X.xe s
def KD(b:tR)(h:op≠.In)(h2:op≠.NotIn):behindInMarks op b=Bd:=by
 have e1:(op == CmpOp.In)=Bd:=by cases op <;> first | rfl | exact w4 rfl h
 have e2:(op == CmpOp.NotIn)=Bd:=by cases op <;> first | rfl | exact w4 rfl h2
 cases b <;> simp [behindInMarks,e1,e2]
def yM(h:PC X op a b t)(h1:behindInMarks op b=Bd:=by first | exact KD _ ∅ ∅ | rfl):PE X (.Compare a [op] [b] pos) t:=λBe s σ H Q I hw=>wpAny_Compare1 (h Be s σ H Q I hw) h1
variable{tA tB':TT}{rest:List tR}
def zfj(t u:TT):TT:=λσ H Q=>t σ H λc H1=>if c=Bc then u σ H1 Q else Q Bd H1
def tOr(t u:TT):TT:=λσ H Q=>t σ H λc H1=>if c=Bc then Q Bc H1 else u σ H1 Q
def zdh(t:TT):TT:=λσ H Q=>t σ H λc H1=>Q (!c) H1
theorem Z9(ha:PT X a tA):PW X (.BoolOp .And [a] pos) tA:=by
 intro wh Be s σ H Q I h;refine isTrue_and (thn (ha Be s σ H Q I h) λc s1 e=>?_)
 cases c with
 | true=>exact isTrue_and_nil e
 | false=>exact e
theorem wg(ha:PT X a tA):PW X (.BoolOp .Or [a] pos) tA:=by
 intro wh Be s σ H Q I h;refine isTrue_or (thn (ha Be s σ H Q I h) λc s1 e=>?_)
 cases c with
 | false=>exact isTrue_or_nil e
 | true=>exact e
theorem Vk(ha:PT X a tA)(hb:PW X (.BoolOp .And (b::rest) pos) tB'):PW X (.BoolOp .And (a::b::rest) pos) (zfj tA tB'):=by
 intro wh Be s σ H Q I h;refine isTrue_and (thn (ha Be s σ H _ I h) λc s1=>el3 λH1 I1 q1=>?_)
 cases c with
 | true=>exact hb wh Be s1 σ H1 Q I1 q1
 | false=>exact#[H1,I1,q1]
theorem wT(ha:PT X a tA)(hb:PW X (.BoolOp .Or (b::rest) pos) tB'):PW X (.BoolOp .Or (a::b::rest) pos) (tOr tA tB'):=by
 intro wh Be s σ H Q I h;refine isTrue_or (thn (ha Be s σ H _ I h) λc s1=>el3 λH1 I1 q1=>?_)
 cases c with
 | true=>exact#[H1,I1,q1]
 | false=>exact hb wh Be s1 σ H1 Q I1 q1
def yf(ha:PT X a tA):PT X (.UnaryOp .Not a pos) (zdh tA):=by intros Q I h;exact isTrue_not (ha Be s σ H (λc H1=>Q (!c) H1) I h)
def QF(ta tb:TE):TE:=λσ H Q=>ta σ H λx H1=>onBl x λc=>if c=Bc then tb σ H1 Q else Q (.bl Bd) H1
def Jh(ta:TE):TE:=λσ H Q=>ta σ H λx H1=>onBl x λc=>Q (.bl (!c)) H1
def jZ{op}(h:PE X a t):PE X (.BoolOp op [a] pos) t:=λBe s σ H Q I hw=>BoolOp_one (h Be s σ H Q I hw)
theorem jN(ha:PE X a ta)(hb:PE X (.BoolOp .And (b::rest) pos) tb):PE X (.BoolOp .And (a::b::rest) pos) (QF ta tb):=by
 intros Q I h;refine BoolOp_and (thn (ha Be s σ H _ I h) λv s1=>el5 λx H1 I1 r1 q1=>?_);let#[c,rfl,q1]:=onBl.of q1;cases r1;refine tm ?_
 cases c with
 | true=>exact hb Be s1 σ H1 Q I1 q1
 | false=>exact#[.bl Bd,H1,I1,rfl,q1]
def zaC(ha:PE X a ta):PE X (.UnaryOp .Not a pos) (Jh ta):=by intros Q I h;refine UnaryOp_ (thn (ha Be s σ H _ I h) λv s1=>el5 λx H1 I1 r1 q1=>?_);let#[c,rfl,q1]:=onBl.of q1;cases r1;exact not_of (tm #[.bl (!c),H1,I1,rfl,q1])
def tIf(t:TT)(ta tb:TE):TE:=λσ H Q=>t σ H λc H1=>if c=Bc then ta σ H1 Q else tb σ H1 Q
theorem wG(hc:PT X c tA)(ha:PE X a ta)(hb:PE X b tb):PE X (.IfExp c a b pos) (tIf tA ta tb):=by
 intros Q I h;refine wpAny_IfExp (thn (hc Be s σ H _ I h) λd s1=>el3 λH1 I1 q1=>?_)
 cases d with
 | true=>exact ha Be s1 σ H1 Q I1 q1
 | false=>exact hb Be s1 σ H1 Q I1 q1
end
end
mutual section
def SqL(K:sL)(H:Hp)(a:sM)(xs:List V):Prop :=
 Rd H a (.lst xs) \/
  ∃(o:tZ) (its:Array sN) (n:Nat),K.lookup a=Ba o/\o.cls=.type "list"/\o.dict=Bb/\o.data=.seq its n/\its.size<=sK/\Vals xs its.toList
def SqT(K:sL)(H:Hp)(a:sM)(xs:List V):Prop :=
 Rd H a (.tup xs) \/
  ∃(o:tZ) (its:Array sN) (n:Nat),K.lookup a=Ba o/\o.cls=.type "tuple"/\o.data=.seq its n/\its.size<=sK/\Vals xs its.toList
def zgy:sN->Option V
 | .none=>Ba .non
 | .bool b=>Ba (.bl b)
 | .int i _=>Ba (.int i)
 | .str x _=>Ba (.str x)
 | .bytes b _=>Ba (.byt b)
 | .float b _=>Ba (.flt b)
 | .ref a=>Ba (.ref a)
 | .type n=>Ba (.ty n)
 | _=>Bb
theorem RelV.abs(r:RelV x u):zgy u=Ba x:=by
 cases x with
 | non=>cases r;rfl
 | bl _=>cases r;rfl
 | int _=>let#[t,rfl]:=r;rfl
 | str _=>let#[t,rfl]:=r;rfl
 | byt _=>let#[t,rfl]:=r;rfl
 | flt _=>let#[t,rfl]:=r;rfl
 | ref _=>cases r;rfl
 | ty _=>cases r;rfl
def RelV.inj(r:RelV x u)(q:RelV y u):x=y:=Option.some.inj (r.abs.symm.trans q.abs)
theorem Vals.inj(h:Vals xs us)(h':Vals ys us):xs=ys:=by
 induction h generalizing ys with
 | nil =>
  cases h';rfl
 | cons r t ih =>
  cases h' with
  | cons r' t'=>rw[r.inj r',ih t']
def SqL.of{K:sL}(h:H a=Ba (.lst xs)):SqL K H a xs:=.inl (.inl h)
def SqT.of{K:sL}(h:H a=Ba (.tup xs)):SqT K H a xs:=.inl (.inl h)
def Inv.list(I:Inv X Be σ H s)(h:SqL X.K H a xs):∃its:List sN,Vals xs its/\PlainL s.heap a its.toArray/\xs.length<=sK:=by
 rcases h with h | ⟨o,its,n,hk,hc,hd,hs,hz,r⟩
 ·let#[z,its,n,r,e]:=h.ok I.hok;exact#[its,r,#[_,n,e,rfl,rfl,rfl],z]
 ·refine#[its.toList,r,#[o,n,I.kIn a o hk,hc,hd,by simpa using hs],?_];have e:=r.length
  erw[eK]at e
  lia
def Inv.tuple(I:Inv X Be σ H s)(h:SqT X.K H a xs):∃its:List sN,Vals xs its/\IsTup s.heap a its.toArray/\xs.length<=sK:=by
 rcases h with h | ⟨o,its,n,hk,hc,hs,hz,r⟩
 ·let#[z,its,r,p]:=h.ok I.hok;exact#[its,r,p,z]
 ·refine#[its.toList,r,#[o,I.kIn a o hk,hc,n,by simpa using hs],?_];have e:=r.length
  erw[eK]at e
  lia
def Inv.list_inj(I:Inv X Be σ H s)(h:SqL X.K H a xs)(h':SqL X.K H a ys):xs=ys:=by
 let#[its,r,#[o,n,e,_,_,d],_]:=I.list h;let#[its',r',#[o',n',e',_,_,d'],_]:=I.list h';rw[e]at e';cases e';rw[d]at d';injection d' with d1 _;have:its=its':=by simpa using congrArg Array.toList d1
 subst this;exact r.inj r'
def Inv.tuple_inj(I:Inv X Be σ H s)(h:SqT X.K H a xs)(h':SqT X.K H a ys):xs=ys:=by
 let#[its,r,#[o,e,_,n,d],_]:=I.tuple h;let#[its',r',#[o',e',_,n',d'],_]:=I.tuple h';rw[e]at e';cases e';rw[d]at d';injection d' with d1 _;have:its=its':=by simpa using congrArg Array.toList d1
 subst this;exact r.inj r'
abbrev Cx.wish(X:Cx)(E:sN->sP->Prop):Cx:={ X with xe:=E }
abbrev Cx.nox(X:Cx):Cx:=X.wish λZ Z=>False
def Cx.Ok.wish{X:Cx}(ok:X.Ok)(E:sN->sP->Prop):(X.wish E).Ok :=
 #[ok.mod,ok.kind,ok.glob,ok.blt,ok.above,ok.inj,ok.has,ok.cab,ok.hd,ok.frames,ok.stk,ok.exf,ok.bs,ok.bsz,ok.noex,ok.exfs,ok.funs,ok.frf]
def Cx.Ok.unwish{X:Cx}(ok:(X.wish E).Ok):X.Ok :=
 #[ok.mod,ok.kind,ok.glob,ok.blt,ok.above,ok.inj,ok.has,ok.cab,ok.hd,ok.frames,ok.stk,ok.exf,ok.bs,ok.bsz,ok.noex,ok.exfs,ok.funs,ok.frf]
def Inv.wish(I:Inv X Be σ H s)(E:sN->sP->Prop):Inv (X.wish E) Be σ H s:=#[I.ok.wish E,I.os,I.bare,I.base,I.loc,I.cell,I.free,I.freeC,I.pin,I.hok,I.len]
def Inv.unwish(I:Inv (X.wish E) Be σ H s):Inv X Be σ H s:=#[I.ok.unwish,I.os,I.bare,I.base,I.loc,I.cell,I.free,I.freeC,I.pin,I.hok,I.len]
theorem SP.unwish(h:SP (X.wish E) Be D f s'):SP X Be D f s':=by
 cases f with
 | next=>let#[σ',H',I,q]:=h;exact#[σ',H',I.unwish,q]
 | brk=>let#[σ',H',I,q]:=h;exact#[σ',H',I.unwish,q]
 | cont=>let#[σ',H',I,q]:=h;exact#[σ',H',I.unwish,q]
 | ret u=>let#[v,σ',H',I,r,q]:=h;exact#[v,σ',H',I.unwish,r,q]
def PSs.nox{st:List sV}(h:PSs X.nox st t):PSs X st t:=λBe s σ H D I hw =>
 tO (h Be s σ H D (I.wish _) hw) (λZ Z q=>q.unwish) λZ Z z=>False.elim z
def KJ:TS:=λD σ H=>D.nx σ H
def zfl(t u:TS):TS:=λD σ H=>t { D with nx:=u D } σ H
def zr:PSs X [] KJ:=λZ Z σ H Z I h=>tQ #[σ,H,I,h]
theorem zG{X:Cx}{st:sV}{rest:List sV}{t:TS}{u:TS}(h1:PS X st t)(h2:PSs X rest u):PSs X (st::rest) (zfl t u):=by
 intros D I h;refine tX (thn (h1 Be s σ H { D with nx:=u D } I h) λf s1 q=>?_)
 cases f with
 | next =>
  let#[σ',H',I',q]:=q;exact h2 Be s1 σ' H' D I' q
 | ret v=>exact q
 | brk=>exact q
 | cont=>exact q
theorem ze{X:Cx}{st:sV}{t:TS}(h1:PS X st t):PSs X [st] t:=by
 intros D I h;refine tX (thn (h1 Be s σ H D I h) λf s1 q=>?_)
 cases f with
 | next=>exact tQ q
 | ret v=>exact q
 | brk=>exact q
 | cont=>exact q
def Inv.quiet(I:Inv X Be σ H s):interactive X.env=Bd:=by simp [interactive,I.ok.kind]
def KR(te:TE):TS:=λD σ H=>te σ H λZ H1=>D.nx σ H1
def yS(he:PE X e te)(hs:‹swapsWith e Bb pos.line X.env=pure Bd›):PS X (.Expr e pos) (KR te):=by intros D I h;exact wpAny_Expr_any (thn (he Be s σ H _ I h) λv s1=>el5 λx H1 I1 r1 q1=>#[σ,H1,I1,q1]) I.quiet hs
def zbm(te:TE):TS:=λD σ H=>te σ H D.rt
def zl(he:PE X e te):PS X (.Return (Ba e) pos) (zbm te):=by intros D I h;exact AF (thn (he Be s σ H _ I h) λv s1=>el5 λx H1 I1 r1 q1=>#[x,σ,H1,I1,r1,q1])
def zfk(c:TT)(t u:TS):TS:=λD σ H=>c σ H λb H1=>if b=Bc then t D σ H1 else u D σ H1
theorem zJ(hc:PT X c tc)(ha:PSs X a t)(hb:PSs X b u):PS X (.If c a b pos) (zfk tc t u):=by
 intros D I h;refine wpAny_If (thn (hc Be s σ H _ I h) λd s1=>el3 λH1 I1 q1=>?_)
 cases d with
 | true=>exact ha Be s1 σ H1 D I1 q1
 | false=>exact hb Be s1 σ H1 D I1 q1
abbrev TG:=V->St->Hp->(St->Hp->Prop)->Prop
abbrev TGs:=List V->St->Hp->(St->Hp->Prop)->Prop
def PG(X:Cx)(target:tR)(t:TG):Prop :=
 ∀(Be:List (sM × tZ)) (s:sP) (σ:St) (H:Hp) (v:V) (u:sN) (Q:St->Hp->Prop),Inv X Be σ H s->RelV v u->t v σ H Q ->
  sQ (model X.prog X.w) X.A (assign target X.env u) (λZ s'=>∃σ' H',Inv X Be σ' H' s'/\Q σ' H') X.xe s
def PGs(X:Cx)(ts:List tR)(t:TGs):Prop :=
 ∀(Be:List (sM × tZ)) (s:sP) (σ:St) (H:Hp) (vs:List V) (us:List sN) (Q:St->Hp->Prop),Inv X Be σ H s->Vals vs us->t vs σ H Q ->
  sQ (model X.prog X.w) X.A (assignInOrder ((assignEach ts X.env).map (·.2)) us) (λZ s'=>∃σ' H',Inv X Be σ' H' s'/\Q σ' H') X.xe s
abbrev zgX:=V->V->V->Hp->(Hp->Prop)->Prop
def zgk(X:Cx)(t:zgX):Prop :=
 ∀(Be:List (sM × tZ)) (s:sP) (σ:St) (H:Hp) (o i v:V) (ov iv u:sN) (Q:Hp->Prop),Inv X Be σ H s->RelV o ov->RelV i iv->RelV v u->t o i v H Q ->
  sQ (model X.prog X.w) X.A (setItem ov iv u) (λZ s'=>∃H',Inv X Be σ H' s'/\Q H') X.xe s
def yv(i:Nat):TG:=λv σ H Q=>Q (σ.set i (Ba v)) H
def zq(hN:X.N.Nodup)(hi:X.N[i]? = Ba x)(hx:Loc X.env.scope x)(hf:‹X.fn x=Bc\/X.env.scope.names.lookup x=Ba .local›):PG X (.Name x pos) (yv i):=by intros v u Q I r h;exact AE (Zq I hN hi hx r (λs' I'=>#[_,H,I',h]) hf)
def zdg:TGs:=λvs σ H Q=>vs=[]/\Q σ H
def Yy(t:TG)(u:TGs):TGs:=λvs σ H Q=>∃v r,vs=v::r/\t v σ H λσ' H'=>u r σ' H' Q
def xW:PGs X [] zdg:=by intros vs us Q I r h;let#[e,h]:=h;subst e;cases r;exact assignInOrder_nil #[σ,H,I,h]
theorem zZ(h1:PG X e t)(h2:PGs X es u)(hs:‹(assignEach (e::es) X.env).map (·.2)=assign e X.env::(assignEach es X.env).map (·.2)›):PGs X (e::es) (Yy t u):=by
 intros vs us Q I r h;let#[v,vr,e1,h]:=h;subst e1
 cases r with
 | cons r rr =>
  rw[hs];refine assignInOrder_cons (thn (h1 Be s σ H _ _ _ I r h) λ_ s1 ⟨σ1,H1,I1,q1⟩=>?_);exact h2 Be s1 σ1 H1 _ _ Q I1 rr q1
def zdn(K:sL)(n:Nat)(t:TGs):TG:=λv σ H Q=>∃a xs,v=.ref a/\SqT K H a xs/\xs.length=n/\t xs σ H Q
def vQ(hc:X.calm=Bc)(h:PGs X es t)(hn:‹(assignEach es X.env).length=n›)(hst:‹(assignEach es X.env).findIdx? (·.1)=Bb›):PG X (.Tuple es k pos) (zdn X.K n t):=by intros v u Q I r hw;let#[a,xs,e1,hq,hl,hw]:=hw;subst e1;cases r;let#[its,rv,ht,hz]:=I.tuple hq;refine assign_Tuple_tuple (I.ok.hd hc) ht (by simp [hn,<- hl,rv.length]) hst λh' hx=>?_;have I1:Inv X Be σ H { s with heap:=h' }:=I.kept (t':=s.toks) λb o e=>hx b o (ay (aw e)) e;exact h Be _ σ H xs _ Q I1 ↥rv hw
def zfh(to ti:TE)(t:zgX):TG:=λv σ H Q=>to σ H λo H1=>ti σ H1 λi H2=>t o i v H2 λH3=>Q σ H3
def JV(ho:PE X o to)(hi:PE X i ti)(hs:zgk X t)(ha:∀v,assign (.Subscript o i pos) X.env v=(do
   let ov <- holding [v] (eval o X.env)
   let iv <- holding [v,ov] (eval i X.env)
   standAt pos
   holding [v,ov,iv] (setItem ov iv v)
   release [v,ov,iv] []):=by intro _;rfl):PG X (.Subscript o i pos) (zfh to ti t):=by intros v u Q I r h;rw[ha];refine sF (tu (thn (ho Be s σ H _ I h) λov s1=>el5 λx H1 I1 r1 q1=>?_));refine sF (tu (thn (hi Be s1 σ H1 _ I1 q1) λiv s2=>el5 λy H2 I2 r2 q2=>?_));refine sF (tK (sF (tu (thn (hs Be s2 σ H2 x y v ov iv u _ I2 r1 r2 r q2) λZ s3=>el3 λH3 I3 q3=>?_))));exact wpAny_release #[σ,H3,I3,q3]
def zdm(te:TE)(g:TG):TS:=λD σ H=>te σ H λx H1=>g x σ H1 D.nx
def Qw(he:PE X e te)(hg:PG X tg g)(hs:‹swapsWithSole [tg] e pos.line X.env=pure Bd›)(hw:‹swappedStores [tg] e X.env=pure Bb›)(h1:‹(assignEach [tg] X.env).map (·.2)=[assign tg X.env]›):PS X (.Assign [tg] e pos) (zdm te g):=by intros D I h;refine wpAny_Assign_stores (thn (he Be s σ H _ I h) λv s1=>el5 λx H1 I1 r1 q1=>?_) hs hw;rw[h1];exact thn (hg Be s1 σ H1 x v _ I1 r1 q1) λZ s2 q=>q
def xM(hN:X.N.Nodup)(hi:X.N[i]? = Ba x)(hx:Loc X.env.scope x)(he:PE X e te)(hs:‹swapsWith e (Ba (.Name x pos')) pos.line X.env=pure Bd›)(hf:‹X.fn x=Bc\/X.env.scope.names.lookup x=Ba .local›) :
  PS X (.Assign [.Name x pos'] e pos) (zdm te (yv i)):=by intros D I h;refine AG (thn (he Be s σ H _ I h) λv s1=>el5 λy H1 I1 r1 q1=>?_) hs;exact Zq I1 hN hi hx r1 (λs2 I2=>#[_,H1,I2,q1]) hf
def kH(c:TT)(tb:TS):TS:=λD σ H=>∃W:Nat->St->Hp->Prop,(∃m,W m σ H)/\∀m σ H,W m σ H ->
 c σ H λb H1=>if b=Bc then ∃N:St->Hp->Prop,(∀σ' H',N σ' H'->∃m',m'<m/\W m' σ' H')/\tb { D with nx:=N,ct:=N,bk:=D.nx } σ H1 else D.nx σ H1
theorem vq(hp:PassesOwn (model X.prog X.w) X.A X.env X.xe)(hc:PT X c tc)(hb:PSs X body tb):PS X (.While c body [] pos) (kH tc tb):=by
 intros D I h;let#[W,#[m0,w0],turn]:=h;refine wpAny_While (codeAny_whileLoop (λn s'=>∃σ' H',Inv X Be σ' H' s'/\W n σ' H') ?_ m0 #[σ,H,I,w0]);rintro n s1 ⟨σ1,H1,I1,w1⟩;refine tJ hp (thn (hc Be s1 σ1 H1 _ I1 (turn n σ1 H1 w1)) λb s2=>el3 λH2 I2 q2=>?_)
 cases b with
 | true =>
  let#[N,hN,q2]:=q2;rw[w6 rfl];refine tJ hp (thn (hb Be s2 σ1 H2 _ I2 q2) λf s3 q3=>?_)
  cases f with
  | next =>
   let#[σ3,H3,I3,n3]:=q3;let#[m',hm,w3]:=hN σ3 H3 n3;exact#[m',hm,σ3,H3,I3,w3]
  | cont =>
   let#[σ3,H3,I3,n3]:=q3;let#[m',hm,w3]:=hN σ3 H3 n3;exact#[m',hm,σ3,H3,I3,w3]
  | brk=>exact q3
  | ret v=>exact q3
 | false =>
  rw[w9 aD];exact tQ #[σ1,H2,I2,q2]
structure It where
 go:Nat->Hp->Prop
 yld:Nat->Hp->V->Hp->Prop
 stop:Nat->Hp->Prop
def wo(X:Cx)(Be:List (sM × tZ))(H:Hp)(b:sM):Prop :=
 H b=Bb/\b≠X.env.locals/\b ∉ X.fs/\(b ∈ X.ex\/X.s₀.heap.objs.size<=b)/\(∀x c,X.env.cells.lookup x=Ba c->c≠b)/\∀p ∈ X.pn ++ Be,p.1≠b
def Inv.fpOk(I:Inv X Be σ H s)(hb:s⁻¹<=b)(hn:H' b=Bb):wo X Be H' b:=by
 refine#[hn,cC (aq I.lt hb),I.nofs hb,.inr (aH I.sz hb),λx c e z=>?_,λp hp z=>?_]
 ·let#[v,q]:=I.cell x c e;exact w4 (aq q.lt (by rw[z];exact hb)) (cJ _)
 ·exact w4 (aq (aw (I.pin p hp).1) (by rw[z];exact hb)) (cJ _)
structure J8(P:sU)(w:sZ)(K:sL)(tg:tR)(J:It)(fp:List sM)(it:sM)(tn:Nat->tB->Prop):Prop where
 mem:it ∈ fp
 obj:∀i h,tn i h->∀b ∈ fp,∃o,h.get? b=Ba o/\∀v,o.data≠.cell v
 keep:∀i h h',tn i h->(∀b ∈ fp,∀o,h.get? b=Ba o->h'.get? b=Ba o)->tn i h'
 item:∀(X:Cx),X.prog=P->X.w=w->X.K=K->X.calm=Bc->∀(i:Nat) (Be:List (sM × tZ)) (s:sP) (σ:St) (H:Hp) (E:sN->sP->Prop),Inv X Be σ H s->(∀b ∈ fp,wo X Be H b)->tn i s.heap->J.go i H ->
  sQ (model P w) X.A (pyNext (.ref it)) (λr s1=>∃u,r=Ba u /\
   sQ (model P w) X.A (letOwnedTupleGo tg (.ref it) u) (λZ s2=>∃x H',Inv X Be σ H' s2/\RelV x u/\J.yld i H x H'/\tn (i+1) s2.heap/\∀b ∈ fp,H' b=Bb) E s1) E s
 done:∀(X:Cx),X.prog=P->X.w=w->X.K=K->X.calm=Bc->∀(i:Nat) (Be:List (sM × tZ)) (s:sP) (σ:St) (H:Hp) (E:sN->sP->Prop),Inv X Be σ H s->(∀b ∈ fp,wo X Be H b)->tn i s.heap->J.stop i H ->
  sQ (model P w) X.A (pyNext (.ref it)) (λr s1=>r=Bb/\Inv X Be σ H s1) E s
 self:∀(A:tG) (i:Nat) (s:sP) (Q:sN->sP->Prop) (E:sN->sP->Prop),tn i s.heap->Q (.ref it) s->sQ (model P w) A (pyIter (.ref it)) Q E s
abbrev TI:=St->Hp->(It->Hp->Prop)->Prop
def PIE(X:Cx)(Be:List (sM × tZ))(σ:St)(tg:tR)(R:It->Hp->Prop)(itv:sN)(s2:sP):Prop :=
 ∃(it:sM) (fp:List sM) (tn:Nat->tB->Prop) (J:It) (H':Hp),itv=.ref it/\Inv X Be σ H' s2/\J8 X.prog X.w X.K tg J fp it tn/\tn 0 s2.heap/\(∀b ∈ fp,wo X Be H' b)/\R J H'
def PI(X:Cx)(tg iter:tR)(wi:TI):Prop :=
 ∀(Be:List (sM × tZ)) (s:sP) (σ:St) (H:Hp) (R:It->Hp->Prop),Inv X Be σ H s->wi σ H R ->
  sQ (model X.prog X.w) X.A (eval iter X.env) (λv s1=>sQ (model X.prog X.w) X.A (pyIter v) (PIE X Be σ tg R) X.xe s1) X.xe s
def XZ(ho:s.heap.get? it=Ba o)(hc:o.cls=.type n)(hd:o.data=.fields vs)(hn:["enumerate","zip","dict_itemiterator","dict_reverseitemiterator","odict_iterator","itertools.zip_longest","itertools.pairwise"].contains n=Bd)(hQ:Q Unit.unit s):sQ M A (letOwnedTupleGo tg (.ref it) u) Q E s:=by
  unfold letOwnedTupleGo
  cases tg <;> first
    | exact sH hQ
    | (cases u <;> first
        | exact sH hQ
        | (refine sF (wpAny_load ho ?_)
           rw[hc,hd];show sQ M A (if (["enumerate","zip","dict_itemiterator","dict_reverseitemiterator","odict_iterator","itertools.zip_longest","itertools.pairwise"].contains n && vs[0]? == Ba (rawInt _))=Bc then _ else _) Q E s;rw[w9 (by intro h;rw[hn,Bool.false_and]at h;cases h)]
           exact sH hQ))
def Itl(K:sL)(a:sM):It :=
 #[λi H=>∃xs x,SqL K H a xs/\xs[i]? = Ba x,λi H x H'=>H'=H/\∀xs,SqL K H a xs->xs[i]? = Ba x,λi H=>∃xs,SqL K H a xs/\xs.length<=i]
def Itt(K:sL)(a:sM):It :=
 #[λi H=>∃xs x,SqT K H a xs/\xs[i]? = Ba x,λi H x H'=>H'=H/\∀xs,SqT K H a xs->xs[i]? = Ba x,λi H=>∃xs,SqT K H a xs/\xs.length<=i]
def Itr(lo:Int)(n:Nat):It:=#[λi Z=>i<n,λi H x H'=>H'=H/\x=.int (lo+i),λi Z=>n<=i]
def Qg{K:sL}(a it:sM):J8 P w K tg (Itl K a) [it] it (λi h=>h.IsListIter it a i) where
 mem:=by simp
 obj:=λi h st b hb=>by
  have e:b=it:=by simpa using hb
  subst e;let#[o,e,c,d]:=st;exact#[o,e,λv z=>by rw[d]at z;cases z]
 keep:=λi h h' st k=>st.at λo e=>k it (by simp) o e
 item:=by
  intro X hP hw hK hc i Be s σ H E I hf st hg;subst hP hw hK;let#[xs,x,hq,hx]:=hg;let#[its,rv,p,hz]:=I.list hq;let#[u,hu,ru]:=rv.get hx;let#[f0,f1,f2,f3,f4,f5]:=hf it (by simp);refine wpAny_pyNext_list_item st p.isList (x:=u) ↥hu λh' st' sb=>?_;have I1:Inv X Be σ H { s with heap:=h' }:=I.turned (t':=s.toks) (λb o hb e=>(sb.2 b hb).trans e) f0 f1 f3 f4 f5;let#[o,e,c,d]:=id st';exact#[u,rfl,XZ (s:={ s with heap:=h' }) e c d ∅ #[x,H,I1,ru,#[rfl,λys hy=>by rw[I.list_inj hy hq];exact hx],st',λb hb=>(hf b hb).1]]
 done:=by
  intro X hP hw hK hc i Be s σ H E I hf st hg;subst hP hw hK;let#[xs,hq,hx]:=hg;let#[its,rv,p,hz]:=I.list hq;let#[f0,f1,f2,f3,f4,f5]:=hf it (by simp);have hl:=rv.length;exact wpAny_pyNext_list_end (I.ok.hd hc) st p.isList (by simp;lia) λh' eb=>#[rfl,I.turned (t':=s.toks) (λb o hb e=>eb b o hb e) f0 f1 f3 f4 f5]
 self:=λZ Z Z Z Z st h=>wpAny_pyIter_listiter st h
def V7{K:sL}(a it:sM):J8 P w K tg (Itt K a) [it] it (λi h=>h.IsTupleIter it a i) where
 mem:=by simp
 obj:=λi h st b hb=>by
  have e:b=it:=by simpa using hb
  subst e;let#[o,e,c,d]:=st;exact#[o,e,λv z=>by rw[d]at z;cases z]
 keep:=λi h h' st k=>st.at λo e=>k it (by simp) o e
 item:=by
  intro X hP hw hK hc i Be s σ H E I hf st hg;subst hP hw hK;let#[xs,x,hq,hx]:=hg;let#[its,rv,p,hz]:=I.tuple hq;let#[u,hu,ru]:=rv.get hx;let#[f0,f1,f2,f3,f4,f5]:=hf it (by simp);refine wpAny_pyNext_tuple_item st (show s.heap.IsTuple a its.toArray from p) (x:=u) ↥hu λh' st' sb=>?_;have I1:Inv X Be σ H { s with heap:=h' }:=I.turned (t':=s.toks) (λb o hb e=>(sb.2 b hb).trans e) f0 f1 f3 f4 f5;let#[o,e,c,d]:=id st';exact#[u,rfl,XZ (s:={ s with heap:=h' }) e c d ∅ #[x,H,I1,ru,#[rfl,λys hy=>by rw[I.tuple_inj hy hq];exact hx],st',λb hb=>(hf b hb).1]]
 done:=by
  intro X hP hw hK hc i Be s σ H E I hf st hg;subst hP hw hK;let#[xs,hq,hx]:=hg;let#[its,rv,p,hz]:=I.tuple hq;let#[f0,f1,f2,f3,f4,f5]:=hf it (by simp);have hl:=rv.length;exact wpAny_pyNext_tuple_end (I.ok.hd hc) st (show s.heap.IsTuple a its.toArray from p) (by simp;lia) λh' eb=>#[rfl,I.turned (t':=s.toks) (λb o hb e=>eb b o hb e) f0 f1 f3 f4 f5]
 self:=λZ Z Z Z Z st h=>wpAny_pyIter_tupleiter st h
def V8{K:sL}(it:sM)(lo:Int)(n:Nat):J8 P w K tg (Itr lo n) [it] it (λi h=>Aw h it (lo+(i:Nat) * 1) ((n:Int) - (i:Nat)) 1) where
 mem:=by simp
 obj:=λi h st b hb=>by
  have e:b=it:=by simpa using hb
  subst e
  exact#[_,st,λv z=>by
   have z':Data.fields _=Data.cell v:=z
   cases z']
 keep:=λi h h' st k=>k it (by simp) _ st
 item:=by
  intro X hP hw hK hc i Be s σ H E I hf st hg;subst hP hw hK;let#[f0,f1,f2,f3,f4,f5]:=hf it (by simp);have W:=Walks.range (prog:=X.prog) (w:=X.w) (I.ok.hd hc) it lo 1 n;refine W.item i s _ _ hg st λv h' tk hv st' kk=>?_;let#[t,rfl]:=hv;have I1:Inv X Be σ H { s with heap:=h',toks:=tk }:=I.turned (λb o hb e=>kk b o ↥hb e) f0 f1 f3 f4 f5;refine#[_,rfl,XZ (s:={ s with heap:=h',toks:=tk }) (n:="range_iterator") st' rfl rfl ∅ #[.int (lo+i),H,I1,#[t,?_],#[rfl,rfl],st',λb hb=>(hf b hb).1]];rw[Int.mul_one]
 done:=by
  intro X hP hw hK hc i Be s σ H E I hf st hg;subst hP hw hK;let#[f0,f1,f2,f3,f4,f5]:=hf it (by simp);exact Am (I.ok.hd hc) st (by have:n<=i:=hg;lia) λh' eb=>#[rfl,I.turned (t':=s.toks) (λb o hb e=>eb b o hb e) f0 f1 f3 f4 f5]
 self:=λZ Z Z Z Z st h=>An st h
def zbW(K:sL)(tl:TE):TI:=λσ H R=>tl σ H λx H1=>∃a,x=.ref a/\(∃xs,SqL K H1 a xs)/\R (Itl K a) H1
def zgY(K:sL)(tl:TE):TI:=λσ H R=>tl σ H λx H1=>∃a,x=.ref a/\(∃xs,SqT K H1 a xs)/\R (Itt K a) H1
def zY(hl:PE X l tl):PI X tg l (zbW X.K tl):=by
 intros R I h;refine thn (hl Be s σ H _ I h) λv s1=>el5 λx H1 I1 r1 q1=>?_;let#[a,e,#[xs,hq],q]:=q1;subst e;cases r1;let#[its,rv,p,hz]:=I1.list hq;refine Ac p.isList ?_;refine#[s1⁻¹,[s1⁻¹],_,_,H1,rfl,I1.kept (t':=s1.toks) λb o e=>ag _ e,Qg a _,#[_,aE _ rfl,rfl,rfl],λb hb=>?_,q];have e:b=s1⁻¹:=by simpa using hb
 subst e;exact I1.fpOk (al _) (I1.hok.fresh (al _))
def zdP(hl:PE X l tl):PI X tg l (zgY X.K tl):=by
 intros R I h;refine thn (hl Be s σ H _ I h) λv s1=>el5 λx H1 I1 r1 q1=>?_;let#[a,e,#[xs,hq],q]:=q1;subst e;cases r1;let#[its,rv,p,hz]:=I1.tuple hq;refine AB (show s1.heap.IsTuple a its.toArray from p) ?_;refine#[s1⁻¹,[s1⁻¹],_,_,H1,rfl,I1.kept (t':=s1.toks) λb o e=>ag _ e,V7 a _,#[_,aE _ rfl,rfl,rfl],λb hb=>?_,q];have e:b=s1⁻¹:=by simpa using hb
 subst e;exact I1.fpOk (al _) (I1.hok.fresh (al _))
def VA{lo hi:Int}(I:Inv X Be σ H s)(h1:-(2 ^ 62)<=lo)(h2:lo<2 ^ 62)(h3:-(2 ^ 62)<=hi)(h4:hi<2 ^ 62)(q:R (Itr lo (hi - lo).toNat) H):sQ (model X.prog X.w) X.A (pyIter (.ref s⁻¹)) (PIE X Be σ tg R) E { s with heap:=s.heap.push { cls:=.type "range",data:=.fields (r9 [.int lo t,.int hi u,.int 1 v]) },toks:=tk }:=by
 refine AC (IsRange.new ..) (small_one h1 h2 h3 h4) ?_;have I1:Inv X Be σ H { s with heap:=s.heap.push { cls:=.type "range",data:=.fields (r9 [.int lo t,.int hi u,.int 1 v]) },toks:=tk }:=I.kept λb o e=>ag _ e
 refine#[(s.heap.push { cls:=.type "range",data:=.fields (r9 [.int lo t,.int hi u,.int 1 v]) }).objs.size,[(s.heap.push { cls:=.type "range",data:=.fields (r9 [.int lo t,.int hi u,.int 1 v]) }).objs.size],_,_,H,rfl,
  I1.kept (t':=tk) λb o e=>ag _ e,V8 _ lo (hi - lo).toNat,?_,λb hb=>?_,q]
 ·have e1:lo+((0:Nat):Int) * 1=lo:=by simp
  have e2:(((hi - lo).toNat:Nat):Int) - ((0:Nat):Int)=p0 lo hi 1:=by rw[rangeSize_one];split <;> lia
  show Aw _ _ (lo+((0:Nat):Int) * 1) ((((hi - lo).toNat:Nat):Int) - ((0:Nat):Int)) 1;rw[e1,e2];exact aE _ rfl
 ·have e:b=(s.heap.push { cls:=.type "range",data:=.fields (r9 [.int lo t,.int hi u,.int 1 v]) }).objs.size:=by simpa using hb
  subst e;exact I1.fpOk (al _) (I1.hok.fresh (al _))
def zcB(ta:TA):TI:=λσ H R=>ta σ H λvs H1=>∃j:Int,vs=[.int j]/\-(2 ^ 62)<=j/\j<2 ^ 62/\R (Itr 0 j.toNat) H1
def zeQ(ta:TA):TI:=λσ H R=>ta σ H λvs H1=>∃i j:Int,vs=[.int i,.int j]/\(-(2 ^ 62)<=i/\i<2 ^ 62/\-(2 ^ 62)<=j/\j<2 ^ 62)/\R (Itr i (j - i).toNat) H1
theorem zV(hg:Gl X "range")(hm:X.mg "range" = Bb)(ha:PA X [a] ta)(hs:‹sJ [a] X.env=[(Bd,eval a X.env)]›):PI X tg (.Call (.Name "range" p) [a] [] pos) (zcB ta):=by
 intros R I h;refine Call_ (vK I hg hm boot_range (bO (thn (ha pos Be s σ H _ I h) λus s1=>el5 λvs H1 I1 r1 q1=>?_) hs rfl));let#[j,e,q1,q2,q]:=q1;subst e
 cases r1 with
 | cons r rr =>
  cases rr;let#[t,rfl]:=r;exact call_range_1 (VA I1 ⋯ ⋯ q1 q2 ↥q)
theorem Y9(hg:Gl X "range")(hm:X.mg "range" = Bb)(ha:PA X [a,b] ta)(hs:‹sJ [a,b] X.env=[(Bd,eval a X.env),(Bd,eval b X.env)]›)(hs2:‹sJ [b] X.env=[(Bd,eval b X.env)]›) :
  PI X tg (.Call (.Name "range" p) [a,b] [] pos) (zeQ ta):=by
 intros R I h;refine Call_ (vK I hg hm boot_range (bO (thn (ha pos Be s σ H _ I h) λus s1=>el5 λvs H1 I1 r1 q1=>?_) (by rw[hs,hs2]) (by rw[hs2];rfl)));let#[i,j,e,#[q1,q2,q3,q4],q]:=q1;subst e
 cases r1 with
 | cons r rr =>
  cases rr with
  | cons r' rr =>
   cases rr;let#[t,rfl]:=r;let#[t',rfl]:=r';exact call_range_2 (VA I1 q1 q2 q3 q4 q)
def Kd(wi:TI)(g:TG)(tb:TS):TS:=λD σ H=>wi σ H λJ H1=>∃W:Nat->Nat->St->Hp->Prop,(∃m,W 0 m σ H1)/\∀i m σ H,W i m σ H ->
 (J.stop i H/\D.nx σ H)\/(J.go i H/\∃N:St->Hp->Prop,(∀σ' H',N σ' H'->∃m',m'<m/\W (i+1) m' σ' H')/\∀x H',J.yld i H x H'->g x σ H' λσ2 H2=>tb { D with nx:=N,ct:=N,bk:=D.nx } σ2 H2)
def YG(fp:List sM)(h:tB):List (sM × tZ):=fp.filterMap λb=>(h.get? b).map λo=>(b,o)
def vB(hb:b ∈ fp)(e:h.get? b=Ba o):(b,o) ∈ YG fp h:=BE.mpr #[b,hb,by rw[e];rfl]
theorem Jq(hp:p ∈ YG fp h):p.1 ∈ fp/\h.get? p.1=Ba p.2:=by
 let#[b,hb,e]:=BE.mp hp
 cases q:h.get? b with
 | none=>rw[q]at e;cases e
 | some o =>
  rw[q]at e;have e':(b,o)=p:=Option.some.inj e;subst e';exact#[hb,q]
def Inv.pinned(I:Inv X Be σ H s)(hf:∀b ∈ fp,wo X Be H b)(ho:∀b ∈ fp,∃o,s.heap.get? b=Ba o/\∀v,o.data≠.cell v):Inv X (Be ++ YG fp s.heap) σ H s :=
 I.pins_of λp hp=>(Bl.mp hp).elim (λz=>I.pin p (aF _ z)) λz=>by
  let#[hb,e]:=Jq z;let#[f0,f1,f2,_]:=hf p.1 hb;let#[o,e',d]:=ho p.1 hb;rw[e]at e';cases e';exact#[e,f0,f1,f2,d]
def Inv.unpinned(I:Inv X (Be ++ pl) σ H s):Inv X Be σ H s:=I.pins_of λp hp=>I.pin p (aF _ (bz _ hp))
def zR(hp:PassesOwn (model X.prog X.w) X.A X.env X.xe)(hc:X.calm=Bc)(hi:PI X tg iter wi)(hg:PG X tg g)(hb:PSs X body tb)(hs:‹∀x,foldedSetIterable iter X.env x=pure x›):PS X (.For tg iter body [] pos) (Kd wi g tb):=by
 intros D I h;refine wpAny_For (thn (hi Be s σ H _ I h) λv s1 h1=>thn h1 λitv s2 h2=>?_) hs;let#[it,fp,tn,J,H2,e,I2,T,st2,f2,W,#[m0,w0],turn]:=h2;subst e;have stat:∀{H':Hp},(∀b ∈ fp,H' b=Bb)->∀b ∈ fp,wo X Be H' b:=λhn b hb=>#[hn b hb,(f2 b hb).2];refine codeAny_forLoop_any (λn s'=>∃i σ' H',Inv X Be σ' H' s'/\tn i s'.heap/\(∀b ∈ fp,H' b=Bb)/\W i n σ' H') ?_ m0 #[0,σ,H2,I2,st2,λb hb=>(f2 b hb).1,w0];rintro n s3 ⟨i,σ3,H3,I3,st3,fr3,w3⟩;rcases turn i n σ3 H3 w3 with ⟨stop,qn⟩ | ⟨go,N,hN,step⟩
 ·refine tJ hp (thn (T.done X rfl rfl rfl hc i Be s3 σ3 H3 X.xe I3 (stat fr3) st3 stop) λr s4 ⟨hr,I4⟩=>?_);subst hr;exact tQ #[σ3,H3,I4,qn]
 ·refine tJ hp (thn (T.item X rfl rfl rfl hc i Be s3 σ3 H3 X.xe I3 (stat fr3) st3 go) λr s4 ⟨u,hr,h4⟩=>?_);subst hr;refine tJ hp (thn h4 λZ s5=>el5 λx H5 I5 r5 q_z=>?_);let#[y5,st5,fr5]:=q_z;have I5':=I5.pinned (stat fr5) (T.obj _ _ st5);refine tJ hp (thn (hg _ s5 σ3 H5 x u _ I5' r5 (step x H5 y5)) λ_ s6 ⟨σ6,H6,I6,q6⟩=>?_);refine tJ hp (thn (hb _ s6 σ6 H6 _ I6 q6) λf s7 q7=>?_)
  have again:∀{σ7:St} {H7:Hp},Inv X (Be ++ YG fp s5.heap) σ7 H7 s7->N σ7 H7->∃m,m<n/\∃i σ' H',Inv X Be σ' H' s7/\tn i s7.heap/\(∀b ∈ fp,H' b=Bb)/\W i m σ' H':=λ{σ7 H7} I7 n7=>by
   let#[m',hm,w7]:=hN σ7 H7 n7;refine#[m',hm,i+1,σ7,H7,I7.unpinned,T.keep _ _ _ st5 λb hb o e=>(I7.pin (b,o) (aF _ (aF _ (vB hb e)))).1,λb hb=>?_,w7];let#[o,e,d]:=T.obj _ _ st5 b hb;exact (I7.pin (b,o) (aF _ (aF _ (vB hb e)))).2.1
  cases f with
  | next=>let#[σ7,H7,I7,n7]:=q7;exact again I7 n7
  | cont=>let#[σ7,H7,I7,n7]:=q7;exact again I7 n7
  | brk=>let#[σ7,H7,I7,q7]:=q7;exact#[σ7,H7,I7.unpinned,q7]
  | ret v=>let#[x7,σ7,H7,I7,r7,q7]:=q7;exact#[x7,σ7,H7,I7.unpinned,r7,q7]
def Kz{K:sL}{g:TG}{tb:TS}{D:Zm}(Pv:Nat->St->Hp->Prop)(h0:Pv 0 σ H)(hl:∀i σ H,i<=xs.length->Pv i σ H->SqL K H a xs)(hs:∀i x σ H,xs[i]? = Ba x->Pv i σ H->g x σ H λσ2 H2=>tb { D with nx:=Pv (i+1),ct:=Pv (i+1),bk:=D.nx } σ2 H2)(hd:∀σ H,Pv xs.length σ H->D.nx σ H) :
  ∃W:Nat->Nat->St->Hp->Prop,(∃m,W 0 m σ H)/\∀i m σ H,W i m σ H ->
   ((Itl K a).stop i H/\D.nx σ H)\/((Itl K a).go i H/\∃N:St->Hp->Prop,(∀σ' H',N σ' H'->∃m',m'<m/\W (i+1) m' σ' H')/\∀x H',(Itl K a).yld i H x H'->g x σ H' λσ2 H2=>tb { D with nx:=N,ct:=N,bk:=D.nx } σ2 H2):=by
 refine#[λi m σ H=>m=xs.length - i/\i<=xs.length/\Pv i σ H,#[xs.length,by simp,ar _,h0],?_];rintro i m σ H ⟨rfl,hi,p⟩;have q:=hl i σ H hi p;by_cases hlt:i<xs.length
 ·refine .inr #[#[xs,xs[i],q,by simp [hlt]],Pv (i+1),λσ' H' p'=>#[xs.length - (i+1),⋯,rfl,hlt,p'],λx H' y=>?_];let#[e,y]:=y;subst e;exact hs i x σ _ (y xs q) p
 ·have e:i=xs.length:=⋯;subst e;exact .inl #[#[xs,q,al _],hd σ H p]
def zcH{K:sL}{g:TG}{tb:TS}{D:Zm}(Pv:Nat->St->Hp->Prop)(h0:Pv 0 σ H)(hl:∀i σ H,i<=xs.length->Pv i σ H->SqT K H a xs)(hs:∀i x σ H,xs[i]? = Ba x->Pv i σ H->g x σ H λσ2 H2=>tb { D with nx:=Pv (i+1),ct:=Pv (i+1),bk:=D.nx } σ2 H2)(hd:∀σ H,Pv xs.length σ H->D.nx σ H) :
  ∃W:Nat->Nat->St->Hp->Prop,(∃m,W 0 m σ H)/\∀i m σ H,W i m σ H ->
   ((Itt K a).stop i H/\D.nx σ H)\/((Itt K a).go i H/\∃N:St->Hp->Prop,(∀σ' H',N σ' H'->∃m',m'<m/\W (i+1) m' σ' H')/\∀x H',(Itt K a).yld i H x H'->g x σ H' λσ2 H2=>tb { D with nx:=N,ct:=N,bk:=D.nx } σ2 H2):=by
 refine#[λi m σ H=>m=xs.length - i/\i<=xs.length/\Pv i σ H,#[xs.length,by simp,ar _,h0],?_];rintro i m σ H ⟨rfl,hi,p⟩;have q:=hl i σ H hi p;by_cases hlt:i<xs.length
 ·refine .inr #[#[xs,xs[i],q,by simp [hlt]],Pv (i+1),λσ' H' p'=>#[xs.length - (i+1),⋯,rfl,hlt,p'],λx H' y=>?_];let#[e,y]:=y;subst e;exact hs i x σ _ (y xs q) p
 ·have e:i=xs.length:=⋯;subst e;exact .inl #[#[xs,q,al _],hd σ H p]
def Jc{lo:Int}{g:TG}{tb:TS}{D:Zm}(Pv:Nat->St->Hp->Prop)(h0:Pv 0 σ H)(hs:∀i σ H,i<n->Pv i σ H->g (.int (lo+i)) σ H λσ2 H2=>tb { D with nx:=Pv (i+1),ct:=Pv (i+1),bk:=D.nx } σ2 H2)(hd:∀σ H,Pv n σ H->D.nx σ H) :
  ∃W:Nat->Nat->St->Hp->Prop,(∃m,W 0 m σ H)/\∀i m σ H,W i m σ H ->
   ((Itr lo n).stop i H/\D.nx σ H)\/((Itr lo n).go i H/\∃N:St->Hp->Prop,(∀σ' H',N σ' H'->∃m',m'<m/\W (i+1) m' σ' H')/\∀x H',(Itr lo n).yld i H x H'->g x σ H' λσ2 H2=>tb { D with nx:=N,ct:=N,bk:=D.nx } σ2 H2):=by
 refine#[λi m σ H=>m=n - i/\i<=n/\Pv i σ H,#[n,by simp,ar _,h0],?_];rintro i m σ H ⟨rfl,hi,p⟩;by_cases hlt:i<n
 ·refine .inr #[hlt,Pv (i+1),λσ' H' p'=>#[n - (i+1),⋯,rfl,hlt,p'],λx H' y=>?_];let#[e,y]:=y;subst e y;exact hs i σ _ hlt p
 ·have e:i=n:=⋯;subst e;exact .inl #[al _,hd σ H p]
abbrev R2:=V->V->Hp->VK->Prop
def OpR(X:Cx)(f:sN->sN->Sem sN)(r:R2):Prop :=
 ∀(Be:List (sM × tZ)) (s:sP) (σ:St) (H:Hp) (x y:V) (v u:sN) (Q:VK),Inv X Be σ H s->RelV x v->RelV y u->r x y H Q ->
  sQ (model X.prog X.w) X.A (f v u) (EP X Be σ Q) X.xe s
def UnR(X:Cx)(f:sN->Sem sN)(r:V->Hp->VK->Prop):Prop :=
 ∀(Be:List (sM × tZ)) (s:sP) (σ:St) (H:Hp) (x:V) (v:sN) (Q:VK),Inv X Be σ H s->RelV x v->r x H Q ->
  sQ (model X.prog X.w) X.A (f v) (EP X Be σ Q) X.xe s
def wX(X:Cx)(f:sN)(r:List V->Hp->VK->Prop):Prop :=
 ∀(Be:List (sM × tZ)) (s:sP) (σ:St) (H:Hp) (xs:List V) (us:List sN) (Q:VK),Inv X Be σ H s->Vals xs us->r xs H Q ->
  sQ (model X.prog X.w) X.A (call f us) (EP X Be σ Q) X.xe s
def zg4(X:Cx)(r:V->Hp->(Bool->Hp->Prop)->Prop):Prop :=
 ∀(Be:List (sM × tZ)) (s:sP) (σ:St) (H:Hp) (x:V) (v:sN) (Q:Bool->Hp->Prop),Inv X Be σ H s->RelV x v->r x H Q ->
  sQ (model X.prog X.w) X.A (truthy v) (TP X Be σ Q) X.xe s
def tOp(r:R2)(ta tb:TE):TE:=λσ H Q=>ta σ H λx H1=>tb σ H1 λy H2=>r x y H2 Q
def tUn(r:V->Hp->VK->Prop)(ta:TE):TE:=λσ H Q=>ta σ H λx H1=>r x H1 Q
def rI(C:Int->Int->Prop)(g:Int->Int->V):R2:=λx y H Q=>onInt x λi=>onInt y λj=>C i j/\Q (g i j) H
def rI0(g:Int->Int->V):R2:=λx y H Q=>onInt x λi=>onInt y λj=>Q (g i j) H
def rU(g:Int->V):V->Hp->VK->Prop:=λx H Q=>onInt x λi=>Q (g i) H
def zf2(ha:PE X a ta)(hb:PE X b tb){R:V->V->Hp->Prop}(I:Inv X Be σ H s)(h:ta σ H λx H1=>tb σ H1 λy H2=>R x y H2){f:sN->sN->Sem sN}(hf:∀v u s2 x y H2,Inv X Be σ H2 s2->RelV x v->RelV y u->R x y H2->sQ (model X.prog X.w) X.A (f v u) Q X.xe s2) :
  sQ (model X.prog X.w) X.A (eval a X.env) (λv s₁=>sQ (model X.prog X.w) X.A (eval b X.env) (λu s₂=>sQ (model X.prog X.w) X.A (f v u) Q X.xe s₂) X.xe s₁) X.xe s:=by refine thn (ha Be s σ H _ I h) λv s1=>el5 λx H1 I1 r1 q1=>?_;refine thn (hb Be s1 σ H1 _ I1 q1) λu s2=>el5 λy H2 I2 r2 q2=>?_;exact hf v u s2 x y H2 I2 r1 r2 q2
def zD(ho:OpR X (binaryOp op) r)(ha:PE X a ta)(hb:PE X b tb):PE X (.BinOp a op b pos) (tOp r ta tb):=by intros Q I h;exact wpAny_BinOp (zf2 ha hb I h λv u s2 x y H2 I2 rx ry q=>ho Be s2 σ H2 x y v u Q I2 rx ry q)
def zfK(ho:UnR X (unaryOp op) r)(ha:PE X a ta):PE X (.UnaryOp op a pos) (tUn r ta):=by intros Q I h;exact UnaryOp_ (thn (ha Be s σ H _ I h) λv s1=>el5 λx H1 I1 r1 q1=>ho Be s1 σ H1 x v Q I1 r1 q1)
def opI{g:Int->Int->Int}(rule:∀(i j:Int) (t u:AQ) (s:sP) (Q:sN->sP->Prop) (E:sN->sP->Prop),C i j->Q (.int (g i j) s.toks) { s with toks:=s.toks+1 }->sQ (model X.prog X.w) X.A (f (.int i t) (.int j u)) Q E s) :
  OpR X f (rI C λi j=>.int (g i j)):=by intros x y v u Q I rx ry h;let#[i,rfl,h2]:=onInt.of h;let#[j,rfl,hc,q]:=onInt.of h2;let#[t,rfl]:=rx;let#[t',rfl]:=ry;exact rule i j t t' s _ _ hc #[.int (g i j),H,I.tok _,#[_,rfl],q]
def zg2{g:Int->Int->Int}(rule:∀(i j:Int) (t u:AQ) (s:sP) (Q:sN->sP->Prop) (E:sN->sP->Prop),Q (.int (g i j) s.toks) { s with toks:=s.toks+1 }->sQ (model X.prog X.w) X.A (f (.int i t) (.int j u)) Q E s) :
  OpR X f (rI0 λi j=>.int (g i j)):=by intros x y v u Q I rx ry h;let#[i,rfl,h2]:=onInt.of h;let#[j,rfl,q]:=onInt.of h2;let#[t,rfl]:=rx;let#[t',rfl]:=ry;exact rule i j t t' s _ _ #[.int (g i j),H,I.tok _,#[_,rfl],q]
def zfe{g:Int->Int->Bool}(rule:∀(i j:Int) (t u:AQ) (s:sP) (Q:sN->sP->Prop) (E:sN->sP->Prop),Q (.bool (g i j)) s->sQ (model X.prog X.w) X.A (f (.int i t) (.int j u)) Q E s) :
  OpR X f (rI0 λi j=>.bl (g i j)):=by intros x y v u Q I rx ry h;let#[i,rfl,h2]:=onInt.of h;let#[j,rfl,q]:=onInt.of h2;let#[t,rfl]:=rx;let#[t',rfl]:=ry;exact rule i j t t' s _ _ #[.bl (g i j),H,I,rfl,q]
def zhf(i j:Int):Prop:=0<j/\j<1073741824
def zfW(i j:Int):Prop:=0<=j/\j<=1000000/\i.natAbs<2 ^ 64
def CMul(i j:Int):Prop:=(-(2 ^ 64)<i/\i<2 ^ 64)\/(-(2 ^ 64)<j/\j<2 ^ 64)
def CMul.ok(h:CMul i j):IntMulOk i j:=by
 rcases h with ⟨h1,h2⟩ | ⟨h1,h2⟩
 ·exact .of_left (intBits_le_64 h1 h2)
 ·exact .of_right (intBits_le_64 h1 h2)
def z7:OpR X (binaryOp .Add) (rI0 λi j=>.int (i+j)):=zg2 λZ Z Z Z Z Z Z q=>add_int q
def wn:OpR X (binaryOp .Sub) (rI0 λi j=>.int (i - j)):=zg2 λZ Z Z Z Z Z Z q=>sub_int q
def qw:OpR X (binaryOp .Mult) (rI CMul λi j=>.int (i * j)):=opI λZ Z Z Z Z Z Z hc q=>mul_int q hc.ok
def y8:OpR X (binaryOp .FloorDiv) (rI zhf λi j=>.int (i / j)):=opI λi j Z Z Z Z Z hc q=>by
 have h1:(0:Int)<j:=hc.1;have h2:j<1073741824:=hc.2;exact floordiv_int ⋯ (by rw[Int.fdiv_eq_ediv_of_nonneg i ⋯];exact q) (.inl (PyProof.noPylong_small ⋯))
def yU:OpR X (binaryOp .Mod) (rI (λZ j=>0<j) λi j=>.int (i % j)):=opI λi j Z Z Z Z Z hc q=>by
 have h1:(0:Int)<j:=hc;exact mod_int' ⋯ (by rw[Int.fmod_eq_emod_of_nonneg i ⋯];exact q)
def UG:OpR X (binaryOp .Pow) (rI zfW λi j=>.int (i ^ j.toNat)):=opI λZ Z Z Z Z Z Z hc q=>pow_int_small hc.1 hc.2.1 hc.2.2 q
def unI{g:Int->Int}(rule:∀(i:Int) (t:AQ) (s:sP) (Q:sN->sP->Prop) (E:sN->sP->Prop),Q (.int (g i) s.toks) { s with toks:=s.toks+1 }->sQ (model X.prog X.w) X.A (f (.int i t)) Q E s) :
  UnR X f (rU λi=>.int (g i)):=by intros x v Q I rx h;let#[i,rfl,q]:=onInt.of h;let#[t,rfl]:=rx;exact rule i t s _ _ #[.int (g i),H,I.tok _,#[_,rfl],q]
def zeC:UnR X (unaryOp .USub) (rU λi=>.int (-i)):=unI λZ Z Z Z Z q=>neg_int q
def J5:V->V->Bool
 | .non,.non=>Bc | .non,.int _=>Bc | .int _,.non=>Bc | .non,.bl _=>Bc | .bl _,.non=>Bc | .non,.str _=>Bc | .str _,.non=>Bc
 | .int _,.int _=>Bc | .bl _,.bl _=>Bc | .str _,.str _=>Bc | .byt _,.byt _=>Bc
 | .int _,.str _=>Bc | .str _,.int _=>Bc | .bl _,.str _=>Bc | .str _,.bl _=>Bc
 | _,_=>Bd
def rEq:R2:=λx y H Q=>match x,y with | .int a,.int b=>Q (.bl (decide (a=b))) H | .str a,.str b=>Q (.bl (decide (a=b))) H | x,y=>J5 x y=Bc/\Q (.bl (decide (x=y))) H
def rEq_is : rEq x y H Q=(J5 x y=Bc/\Q (.bl (decide (x=y))) H):=by cases x <;> cases y <;> first | rfl | (show Q _ H=(Bc=Bc/\Q _ H);rw[eq_self,true_and];congr 2;exact decide_eq_decide.mpr #[λh=>by rw[h],λh=>by cases h;rfl])
def rNe:R2:=λx y H Q=>match x,y with | .int a,.int b=>Q (.bl (!decide (a=b))) H | .str a,.str b=>Q (.bl (!decide (a=b))) H | x,y=>J5 x y=Bc/\Q (.bl (!decide (x=y))) H
def rNe_is : rNe x y H Q=(J5 x y=Bc/\Q (.bl (!decide (x=y))) H):=by cases x <;> cases y <;> first | rfl | (show Q _ H=(Bc=Bc/\Q _ H);rw[eq_self,true_and];congr 2;congr 1;exact decide_eq_decide.mpr #[λh=>by rw[h],λh=>by cases h;rfl])
def Je : decide (V.int i=V.int j)=(i == j):=by rw[de];simp
def zbc : decide (V.bl i=V.bl j)=(i == j):=by rw[de];simp
def Q7 : decide (V.str i=V.str j)=(i == j):=by rw[de];simp
def Qx : decide (V.byt i=V.byt j)=(i.toList == j.toList):=by rw[de];cases i;cases j;simp
def z5(I:Inv X Be σ H s)(q:Q (.bl k) H)(e:k=k'):EP X Be σ Q (.bool k') s:=by subst e;exact#[.bl k,H,I,rfl,q]
theorem xx:OpR X (sX .Eq) rEq:=by
 intros x y v u Q I rx ry h;let#[hs,q]:=rEq_is.mp h
 cases x with
 | non =>
  cases rx
  cases y with
  | non=>cases ry;exact PySem.EqNone.eq_none_none (z5 I q (by simp))
  | bl j=>cases ry;exact PySem.EqNone.eq_none_bool (z5 I q (by simp))
  | int j=>let#[t',rfl]:=ry;exact PySem.EqNone.eq_none_int (z5 I q (by simp))
  | str j=>let#[t',rfl]:=ry;exact PySem.EqNone.eq_none_str (z5 I q (by simp))
  | _=>exact w4 (show Bd=Bc from hs) aD
 | bl i =>
  cases rx
  cases y with
  | non=>cases ry;exact PySem.EqNone.eq_bool_none (z5 I q (by simp))
  | bl j=>cases ry;exact eq_bool (z5 I q zbc)
  | str j=>let#[t',rfl]:=ry;exact PySem.EqMixed.eq_bool_str (z5 I q (by simp))
  | _=>exact w4 (show Bd=Bc from hs) aD
 | int i =>
  let#[t,rfl]:=rx
  cases y with
  | non=>cases ry;exact PySem.EqNone.eq_int_none (z5 I q (by simp))
  | int j=>let#[t',rfl]:=ry;exact eq_int (z5 I q Je)
  | str j=>let#[t',rfl]:=ry;exact PySem.EqMixed.eq_int_str (z5 I q (by simp))
  | _=>exact w4 (show Bd=Bc from hs) aD
 | str i =>
  let#[t,rfl]:=rx
  cases y with
  | non=>cases ry;exact PySem.EqNone.eq_str_none (z5 I q (by simp))
  | bl j=>cases ry;exact PySem.EqMixed.eq_str_bool (z5 I q (by simp))
  | int j=>let#[t',rfl]:=ry;exact PySem.EqMixed.eq_str_int (z5 I q (by simp))
  | str j=>let#[t',rfl]:=ry;exact eq_str (z5 I q Q7)
  | _=>exact w4 (show Bd=Bc from hs) aD
 | byt i =>
  let#[t,rfl]:=rx
  cases y with
  | byt j=>let#[t',rfl]:=ry;exact PySem.W.eq_bytes (z5 I q Qx)
  | _=>exact w4 (show Bd=Bc from hs) aD
 | _=>cases y <;> exact w4 (show Bd=Bc from hs) aD
theorem uJ:OpR X (sX .NotEq) rNe:=by
 intros x y v u Q I rx ry h;let#[hs,q]:=rNe_is.mp h
 cases x with
 | non =>
  cases rx
  cases y with
  | non=>cases ry;exact PySem.EqNone.ne_none_none (z5 I q (by simp))
  | bl j=>cases ry;exact PySem.EqNone.ne_none_bool (z5 I q (by simp))
  | int j=>let#[t',rfl]:=ry;exact PySem.EqNone.ne_none_int (z5 I q (by simp))
  | str j=>let#[t',rfl]:=ry;exact PySem.EqNone.ne_none_str (z5 I q (by simp))
  | _=>exact w4 (show Bd=Bc from hs) aD
 | bl i =>
  cases rx
  cases y with
  | non=>cases ry;exact PySem.EqNone.ne_bool_none (z5 I q (by simp))
  | bl j=>cases ry;exact ne_bool (z5 I q (congrArg not zbc))
  | str j=>let#[t',rfl]:=ry;exact PySem.EqMixed.ne_bool_str (z5 I q (by simp))
  | _=>exact w4 (show Bd=Bc from hs) aD
 | int i =>
  let#[t,rfl]:=rx
  cases y with
  | non=>cases ry;exact PySem.EqNone.ne_int_none (z5 I q (by simp))
  | int j=>let#[t',rfl]:=ry;exact ne_int (z5 I q (congrArg not Je))
  | str j=>let#[t',rfl]:=ry;exact PySem.EqMixed.ne_int_str (z5 I q (by simp))
  | _=>exact w4 (show Bd=Bc from hs) aD
 | str i =>
  let#[t,rfl]:=rx
  cases y with
  | non=>cases ry;exact PySem.EqNone.ne_str_none (z5 I q (by simp))
  | bl j=>cases ry;exact PySem.EqMixed.ne_str_bool (z5 I q (by simp))
  | int j=>let#[t',rfl]:=ry;exact PySem.EqMixed.ne_str_int (z5 I q (by simp))
  | str j=>let#[t',rfl]:=ry;exact ne_str (z5 I q (congrArg not Q7))
  | _=>exact w4 (show Bd=Bc from hs) aD
 | byt i =>
  let#[t,rfl]:=rx
  cases y with
  | byt j=>let#[t',rfl]:=ry;exact PySem.W.ne_bytes (z5 I q (congrArg not Qx))
  | _=>exact w4 (show Bd=Bc from hs) aD
 | _=>cases y <;> exact w4 (show Bd=Bc from hs) aD
def Uh:OpR X (sX .Lt) (rI0 λi j=>.bl (decide (i<j))):=zfe λZ Z Z Z Z Z Z q=>lt_int q
def ze0:OpR X (sX .LtE) (rI0 λi j=>.bl (decide (i<=j))):=zfe λZ Z Z Z Z Z Z q=>le_int q
def XO:OpR X (sX .Gt) (rI0 λi j=>.bl (decide (j<i))):=zfe λZ Z Z Z Z Z Z q=>gt_int q
def zf9:OpR X (sX .GtE) (rI0 λi j=>.bl (decide (j<=i))):=zfe λZ Z Z Z Z Z Z q=>ge_int q
def QK:OpR X (sX .Lt) (λx y H Q=>∃i j,x=.str i/\y=.str j/\Q (.bl (decide (i.cps.toList<j.cps.toList))) H):=by intros x y v u Q I rx ry h;let#[i,j,rfl,rfl,q]:=h;let#[t,rfl]:=rx;let#[t',rfl]:=ry;exact lt_str (z5 I q rfl)
def zeO:OpR X (sX .Is) (λx y H Q=>y=.non/\Q (.bl (decide (x=.non))) H):=by
 intros x y v u Q I rx ry h;let#[rfl,q]:=h;cases ry;refine is_none_gen (z5 I q ?_)
 cases x <;> first
  | (cases rx;rfl)
  | (let#[t,rfl]:=rx;rfl)
def zbX:OpR X (sX .IsNot) (λx y H Q=>y=.non/\Q (.bl (!decide (x=.non))) H):=by
 intros x y v u Q I rx ry h;let#[rfl,q]:=h;cases ry;refine isnot_none_gen (z5 I q ?_)
 cases x <;> first
  | (cases rx;rfl)
  | (let#[t,rfl]:=rx;rfl)
def zx(b:tR)(h:‹op≠.In›)(h2:‹op≠.NotIn›):behindInMarks op b=Bd:=by
 have e1:(op == CmpOp.In)=Bd:=by cases op <;> first | rfl | exact w4 rfl h
 have e2:(op == CmpOp.NotIn)=Bd:=by cases op <;> first | rfl | exact w4 rfl h2
 cases b <;> simp [behindInMarks,e1,e2]
def yi(ho:OpR X (sX op) r)(ha:PE X a ta)(hb:PE X b tb)(hm:behindInMarks op b=Bd):PE X (.Compare a [op] [b] pos) (tOp r ta tb):=by intros Q I h;exact wpAny_Compare1 (zf2 ha hb I h λv u s2 x y H2 I2 rx ry q=>ho Be s2 σ H2 x y v u Q I2 rx ry q) hm
def V3(t:TE):TT:=λσ H Q=>t σ H λx H'=>onBl x λk=>Q k H'
def zv(ho:OpR X (sX op) r)(ha:PE X a ta)(hb:PE X b tb)(hm:behindInMarks op b=Bd):PT X (.Compare a [op] [b] pos) (V3 (tOp r ta tb)):=by
 intros Q I h
 refine wpAny_isTrue_Compare1 (thn (ha Be s σ H _ I h) λv s1=>el5 λx H1 I1 r1 q1=>thn (hb Be s1 σ H1 _ I1 q1) λu s2=>el5 λy H2 I2 r2 q2 =>
  thn (ho Be s2 σ H2 x y v u _ I2 r1 r2 q2) λc s3=>el5 λz H3 I3 r3 q3=>?_) hm
 let#[k,rfl,q3]:=onBl.of q3;cases r3;exact tm #[H3,I3,q3]
def kJ(r r':R2)(ta tb tc:TE):TE:=λσ H Q=>ta σ H λx H1=>tb σ H1 λy H2=>r x y H2 λz H3=>onBl z λk =>
 (if k=Bc then tc σ H3 λw' H4=>r' y w' H4 Q else Q (.bl Bd) H3)
theorem Vs(ho:OpR X (sX op) r)(ho':OpR X (sX op') r')(ha:PE X a ta)(hb:PE X b tb)(hc:PE X c tc)(hm:lastMarks [op,op'] [b,c]=Bd:=by with_unfolding_all rfl):PE X (.Compare a [op,op'] [b,c] pos) (kJ r r' ta tb tc):=by
 intros Q I h
 refine Compare_chain (thn (ha Be s σ H _ I h) λv s1=>el5 λx H1 I1 r1 q1=>chain_link (thn (hb Be s1 σ H1 _ I1 q1) λu s2=>el5 λy H2 I2 r2 q2 =>
  thn (ho Be s2 σ H2 x y v u _ I2 r1 r2 q2) λd s3=>el5 λz H3 I3 r3 q3=>?_)) hm
 let#[k,rfl,q3]:=onBl.of q3;cases r3;refine tm ?_
 cases k with
 | false=>exact ite_ff #[.bl Bd,H3,I3,rfl,q3]
 | true=>exact ite_tt (chain_last (thn (hc Be s3 σ H3 _ I3 q3) λw' s4=>el5 λz' H4 I4 r4 q4=>ho' Be s4 σ H4 y z' u w' Q I4 r2 r4 q4))
theorem qM(ho:OpR X (sX op) r)(ho':OpR X (sX op') r')(ha:PE X a ta)(hb:PE X b tb)(hc:PE X c tc)(hm:lastMarks [op,op'] [b,c]=Bd:=by with_unfolding_all rfl):PT X (.Compare a [op,op'] [b,c] pos) (V3 (kJ r r' ta tb tc)):=by
 intros Q I h
 refine isTrue_chain (thn (ha Be s σ H _ I h) λv s1=>el5 λx H1 I1 r1 q1=>test_link (thn (hb Be s1 σ H1 _ I1 q1) λu s2=>el5 λy H2 I2 r2 q2 =>
  thn (ho Be s2 σ H2 x y v u _ I2 r1 r2 q2) λd s3=>el5 λz H3 I3 r3 q3=>?_)) hm
 let#[k,rfl,q3]:=onBl.of q3;cases r3;refine tm ?_
 cases k with
 | false =>
  exact ite_ff #[H3,I3,q3]
 | true =>
  refine ite_tt (test_last (thn (hc Be s3 σ H3 _ I3 q3) λw' s4=>el5 λz' H4 I4 r4 q4=>thn (ho' Be s4 σ H4 y z' u w' _ I4 r2 r4 q4) λd' s5=>el5 λz2 H5 I5 r5 q5=>?_));let#[k2,rfl,q5]:=onBl.of q5;cases r5;exact tm #[H5,I5,q5]
def zdq(K:sL)(x:V)(H:Hp)(k:Bool):Prop :=
 match x with
 | .non=>k=Bd
 | .bl b=>k=b
 | .int i=>k=(i != 0)
 | .str y=>y.length<=sK/\k=((y.length:Int) != 0)
 | .byt y=>y.size<=sK/\k=((y.size:Int) != 0)
 | .ref p=>(∃xs,SqL K H p xs/\k=!xs.isEmpty)\/(∃xs,SqT K H p xs/\k=!xs.isEmpty)\/∃kvs,H p=Ba (.dK kvs)/\k=!kvs.isEmpty
 | _=>False
def VO(r:KV kvs vs):(!vs.isEmpty)=!kvs.isEmpty:=by cases r <;> rfl
def kL(r:Vals xs its):(!its.toArray.isEmpty)=!xs.isEmpty:=by cases r <;> simp
def k8:(sK:Nat)<2 ^ 63:=by rw[sY];decide
theorem zaK:zg4 X (λx H Q=>∃k,zdq X.K x H k/\Q k H):=by
 intros x v Q I rx h;let#[k,e,q]:=h;have hl:=k8;have hs:sK=16777216:=sY
 cases x with
 | non =>
  cases rx;have e':k=Bd:=e;subst e';exact truthy_none #[H,I,q]
 | bl b =>
  cases rx;have e':k=b:=e;subst e';exact tm #[H,I,q]
 | int i =>
  let#[t,rfl]:=rx;have e':k=(i != 0):=e;subst e';exact PySem.P.truthy_int #[H,I,q]
 | str y =>
  let#[t,rfl]:=rx;obtain⟨hy,e'⟩:y.length<=sK/\k=((y.length:Int) != 0):=e;subst e';exact PySem.P.truthy_str ⋯ #[H,I.tok _,q]
 | byt y =>
  let#[t,rfl]:=rx;obtain⟨hy,e'⟩:y.size<=sK/\k=((y.size:Int) != 0):=e;subst e';exact PySem.W.truthy_bytes ⋯ #[H,I.tok _,q]
 | ref p =>
  cases rx;have e':(∃xs,SqL X.K H p xs/\k=!xs.isEmpty)\/(∃xs,SqT X.K H p xs/\k=!xs.isEmpty)\/∃kvs,H p=Ba (.dK kvs)/\k=!kvs.isEmpty:=e;rcases e' with ⟨xs,hx,e'⟩ | ⟨xs,hx,e'⟩ | ⟨kvs,hx,e'⟩
  ·subst e';let#[its,r,pl,hz]:=I.list hx;have hlen:=r.length;exact wpAny_truthy_list pl.isList (by erw[ak];lia) #[H,I.tok _,by rw[kL r];exact q]
  ·subst e';let#[its,r,pl,hz]:=I.tuple hx;have hlen:=r.length;exact truthy_tuple pl (by erw[ak];lia) #[H,I.tok _,by rw[kL r];exact q]
  ·subst e';obtain⟨hz,hS,vs,r,m⟩:kvs.length<=sK/\(p == sysModules)=Bd/\∃vs,KV kvs vs/\s.heap.DictOf (XV X.prog X.w) p vs:=I.hok p _ hx;have hlen:kvs.length=vs.length:=Paired.length r;exact wpAny_truthy_dict hS m ⋯ #[H,I.tok _,by rw[VO r];exact q]
 | _=>exact (show False from e).elim
def WI(ha:PE X a ta)(he:∀whole,isTrue a X.env whole=(do let v <- whole;standAt a.pos;holding [v] (truthy v))) :
  PT X a (λσ H Q=>ta σ H λx H'=>∃k,zdq X.K x H' k/\Q k H'):=by intros Q I h;exact isTrue_plain (thn (ha Be s σ H _ I h) λv s1=>el5 λx H1 I1 r1 q1=>zaK Be s1 σ H1 x v Q I1 r1 q1) (he _)
def zS:OpR X (binaryOp .Add) (λx y H Q=>∃i j,x=.str i/\y=.str j/\i.length+j.length<=sK/\Q (.str (i ++ j)) H):=by intros x y v u Q I rx ry h;let#[i,j,rfl,rfl,hz,q]:=h;let#[t,rfl]:=rx;let#[t',rfl]:=ry;exact add_str (λt' tk=>#[.str (i ++ j),H,I.tok _,#[_,rfl],q]) hz
theorem wK(r:Vals [x] us):∃u,us=[u]/\RelV x u:=by
 cases r with
 | cons r1 r2=>cases r2;exact#[_,rfl,r1]
theorem VM(r:Vals [x,y] us):∃u w',us=[u,w']/\RelV x u/\RelV y w':=by
 cases r with
 | cons r1 r2 =>
  cases r2 with
  | cons r3 r4=>cases r4;exact#[_,_,rfl,r1,r3]
def Q0(hc:X.calm=Bc):wX X (.builtin "max") (λxs H Q=>∃i j,xs=[.int i,.int j]/\Q (.int (if j > i then j else i)) H):=by
 intros xs us Q I r h;let#[i,j,rfl,q]:=h;let#[u,w',rfl,#[t,rfl],#[t',rfl]]:=VM r;refine max_two_ints (I.ok.hd hc) λh' tk k=>#[_,H,I.kept k,?_,q];by_cases hj:j > i
 ·rw[w6 hj,w6 hj];exact#[_,rfl]
 ·rw[w9 hj,w9 hj];exact#[_,rfl]
def Us(hc:X.calm=Bc):wX X (.builtin "min") (λxs H Q=>∃i j,xs=[.int i,.int j]/\Q (.int (if j<i then j else i)) H):=by
 intros xs us Q I r h;let#[i,j,rfl,q]:=h;let#[u,w',rfl,#[t,rfl],#[t',rfl]]:=VM r;refine min_two_ints (I.ok.hd hc) λh' tk k=>#[_,H,I.kept k,?_,q];by_cases hj:j<i
 ·rw[w6 hj,w6 hj];exact#[_,rfl]
 ·rw[w9 hj,w9 hj];exact#[_,rfl]
def QV:wX X (.type "int") (λxs H Q=>(∃i,xs=[.int i]/\Q (.int i) H)\/∃k,xs=[.bl k]/\Q (.int (if k then 1 else 0)) H):=by
 intros xs us Q I r h;rcases h with ⟨i,rfl,q⟩ | ⟨k,rfl,q⟩
 ·let#[u,rfl,t,rfl]:=wK r;exact call_int_int #[.int i,H,I,#[_,rfl],q]
 ·let#[u,rfl,r1]:=wK r;cases r1;exact call_int_bool #[.int (if k then 1 else 0),H,I.tok _,#[_,rfl],q]
def ze8(K:sL)(x:V)(H:Hp)(n:Nat):Prop :=
 match x with
 | .str y=>y.length<=sK/\n=y.length
 | .byt y=>y.size<=sK/\n=y.size
 | .ref p=>(∃xs,SqL K H p xs/\n=xs.length)\/∃xs,SqT K H p xs/\n=xs.length
 | _=>False
theorem zab:wX X (.builtin "len") (λxs H Q=>∃x n,xs=[x]/\ze8 X.K x H n/\Q (.int n) H):=by
 intros xs us Q I r h;let#[x,n,rfl,e,q]:=h;let#[u,rfl,rx]:=wK r;have hl:=k8;have hs:sK=16777216:=sY
 cases x with
 | str y =>
  let#[t,rfl]:=rx;obtain⟨hy,e'⟩:y.length<=sK/\n=y.length:=e;subst e';exact len_str ⋯ #[.int _,H,I.tok _,#[_,rfl],q]
 | byt y =>
  let#[t,rfl]:=rx;obtain⟨hy,e'⟩:y.size<=sK/\n=y.size:=e;subst e';exact PySem.W.len_bytes ⋯ #[.int _,H,I.tok _,#[_,rfl],q]
 | ref p =>
  cases rx;have e':(∃xs,SqL X.K H p xs/\n=xs.length)\/∃xs,SqT X.K H p xs/\n=xs.length:=e;rcases e' with ⟨xs,hx,e'⟩ | ⟨xs,hx,e'⟩
  ·subst e';let#[its,r',pl,hz]:=I.list hx;have hlen:=r'.length;exact Calls.call_len_list pl.isList (by erw[ak];lia) #[.int xs.length,H,I.tok _,#[_,by erw[ak];rw[hlen]],q]
  ·subst e';let#[its,r',pl,hz]:=I.tuple hx;have hlen:=r'.length;exact len_tuple pl (by erw[ak];lia) #[.int xs.length,H,I.tok _,#[_,by erw[ak];rw[hlen]],q]
 | _=>exact (show False from e).elim
structure ObjM(h:tB)(x dx C:sM)(mA:sS->Option sN):Prop where
 obj:h.get? x=Ba (cA C dx)
 ns:h.Ns1 dx mA
 ne:dx≠x
end
set_option tactic.hygienic true in
def Jb{h:tB}(n:h.Ns1 dx mA):∃od,h.get? dx=Ba od/\∀name,eQ name od=Ba (mA name):=by
 let#[o,es,ep,ho,hd,hk,_,hm]:=n;refine#[o,ho,λname=>?_];have e:=hm name;unfold nsFind findBy at e;rw[<- Array.find?_toList]at e;unfold eQ;rw[hd];dsimp only;split
 ·rename_i y q;rw[q]at e;exact congrArg Ba e
 ·rename_i q;rw[q]at e
  have a:es.toList.any (·.refKey)=Bd:=by
   rw[List.any_eq_false];intro y hy;let#[z,t,hkey]:=hk y (Array.mem_toList_iff.mp hy);simp [DictEntry.refKey,hkey]
  have a':¬ es.toList.any (·.refKey)=Bc:=by rw[a];exact aD
  rw[w9 a'];exact congrArg Ba e
def ObjM.look(I:ObjM h x dx C mA):∃od,PySem.W.InstAt h x (cA C dx) C (Ba od)/\∀name,eQ name od=Ba (mA name) :=
 let #[od,ho,hl]:=Jb I.ns
 #[od,#[I.obj,rfl,rfl,ho],hl]
section
variable{prog:sU}{w:sZ}{A:tG}{E:sN->sP->Prop}{s:sP}{K:sL}{x dx C f:sM}{mA:sS->Option sN}{name:sS}{v:sN}
def zcv(X:K.In s.heap)(I:ObjM s.heap x dx C mA)(hg:ci K C name=Bc)(hh:cI K C=Bc)(ha:ah K (.ref C) name=Ba Bb)(hv:mA name=Ba v)(hv':gD v=Bc)(h:Q v { s with toks:=s.toks+1 }) :
  sQ (model prog w) A (getAttr (.ref x) name expr) Q E s:=by let#[od,J,hl]:=I.look;exact PySem.W.get_value X J (eL hg).1 (PySem.W.findObj_own hh ha rfl (by rw[hl,hv])) hv' h
def J9(X:K.In s.heap)(I:ObjM s.heap x dx C mA)(hg:ci K C name=Bc)(hf:ah K (.ref C) name=Ba (Ba (.ref f)))(ht:bc K (.ref f)=Bc)(hv:mA name=Bb)(h:Q (.ref f,[.ref x]) s) :
  sQ (model prog w) A (getMethod (.ref x) name pl) Q E s:=by let#[od,J,hl]:=I.look;exact PySem.W.method_fn X J (eL hg).1 (eL hg).2 hf (beq_iff_eq.mp ht) (by show (eQ name od).map (·.isSome)=Ba Bd;rw[hl,hv];rfl) h
theorem zb8(X:K.In s.heap)(I:ObjM s.heap x dx C mA)(hs:ah K (.ref C) "__setattr__" = Ba (Ba (.builtin "object.__setattr__")))(hp:cU K C=Bc)(ht:fL K C name=Ba Bb)(hh:cI K C=Bc)(hw:PySem.Within mA ns)(hsz:ns.length<=sK)(h:∀h',ObjM h' x dx C (λy=>if y=name then Ba v else mA y)->Heap.SameBut dx s.heap h'->Q Unit.unit { s with heap:=h',toks:=s.toks+2 }) :
  sQ (model prog w) A (setAttr (.ref x) name v) Q E s:=by let#[od,J,hl]:=I.look;refine gA X J hs (PySem.W.osa_open (s:={ s with toks:=s.toks+1 }) (r:=Bb) X J hp ht λb=>?_);let#[cd,hc,hd']:=PySem.W.any_some hh;have hx:s.heap.get? x=Ba #[.ref C,Ba dx,.plain,#[]]:=I.obj;refine sF (sH (sF (sF (As hx (sF (PySem.W.Looks.here (s:={ s with toks:=s.toks+1 }) (PySem.W.looks_clsIn X hc) ?_))))));rw[hd'];refine sH (a:=Ba dx) (sF (sH (sF ?_)));refine wpAny_nsSet1 (s:={ s with toks:=s.toks+1 }) I.ns λh' hn2 hs2=>?_;let#[oD,esD,epD,hoD,hdD,hcD]:=hn2.count (PySem.Within.cons name v hw);refine sF (AI hoD (by rw[hdD];exact pastItsLine_dict (aH hcD (by rw[aG];lia))) ?_);exact sH (h _ #[(hs2.2 _ (Ne.symm I.ne)).trans I.obj,hn2,I.ne] hs2)
def zat(X:K.In s.heap)(hm:df K C=Bc)(hi:ah K (.ref C) "__init__" = Ba (Ba (.ref f)))(hf:PySem.W.typeIn K (.ref f)=Ba (.type "function"))(h:tM (model prog w) (A.under (.builtin "type.__call__" #[.ref C::vs,kw])) (.call (.ref f) #[.ref (s⁻¹+1)::vs,kw]) (PySem.W.InitBack (s⁻¹+1) R)
   { s with heap:=(s.heap.push bT).push (cA C s⁻¹) }) :
  tM (model prog w) A (.call (.ref C) #[vs,kw]) R s:=by let#[hh,g,d,t,os]:=s;exact PySem.W.make_core (PySem.W.makes_of X hm) (cX X hi) (λself=>gG X self hf) (.inl rfl) h
end
mutual section
def Ye(f:sS)(v:V):List (sS × V)->List (sS × V)
  | []=>[(f,v)]
  | (g,x)::r=>if g=f then (g,v)::r else (g,x)::Ye f v r
theorem jr(f g:sS)(v:V):∀fs:List (sS × V),(Ye f v fs).lookup g=if g=f then Ba v else fs.lookup g
  | []=>by
    show bB g [(f,v)]=_;by_cases h:g=f
    . have hb:(g == f)=Bc:=beq_iff_eq.mpr h
      erw[bB,hb,w6 h]
    . have hb:(g == f)=Bd:=beq_eq_false_iff_ne.mpr h
      erw[bB,hb,w9 h]
  | (k,x)::r=>by
    have ih:=jr f g v r;rw[show Ye f v ((k,x)::r)=(if k=f then (k,v)::r else (k,x)::Ye f v r)from rfl];by_cases hk:k=f
    . rw[w6 hk]
      by_cases h:g=k
      . have hb:(g == k)=Bc:=beq_iff_eq.mpr h
        erw[bB,hb,w6 (h.trans hk)]
      . have hb:(g == k)=Bd:=beq_eq_false_iff_ne.mpr h
        erw[bB,hb,w9 (λe:g=f=>h (e.trans hk.symm))]
    . rw[w9 hk]
      by_cases h:g=k
      . have hb:(g == k)=Bc:=beq_iff_eq.mpr h
        erw[bB,hb,w9 (λe:g=f=>hk (h.symm.trans e))]
      . have hb:(g == k)=Bd:=beq_eq_false_iff_ne.mpr h
        erw[bB,hb]
        exact ih
theorem jj(f:sS)(v:V):∀fs:List (sS × V),f ∈ (Ye f v fs).map (·.1)/\∀g,g ∈ fs.map (·.1)->g ∈ (Ye f v fs).map (·.1)
  | []=>#[by simp [Ye],λg h=>by simp at h]
  | (k,x)::r=>by
    let#[i1,i2]:=jj f v r;rw[show Ye f v ((k,x)::r)=(if k=f then (k,v)::r else (k,x)::Ye f v r)from rfl];by_cases hk:k=f
    . rw[w6 hk]
      subst hk;exact#[by simp,λg h=>by simpa using h]
    . rw[w9 hk]
      refine#[?_,λg h=>?_]
      . rw[ao]
        exact av _ i1
      . rw[ao]at h ⊢
        rcases Bk.mp h with e | e
        . exact Bk.mpr (.inl e)
        . exact av _ (i2 g e)
theorem j4(f:sS)(v:V):∀fs:List (sS × V),(Ye f v fs).length<=fs.length+1
  | []=>by simp [Ye]
  | (k,x)::r=>by
    have ih:=j4 f v r;rw[show Ye f v ((k,x)::r)=(if k=f then (k,v)::r else (k,x)::Ye f v r)from rfl];by_cases hk:k=f
    . rw[w6 hk,aG,aG];lia
    . rw[w9 hk,aG,aG];lia
theorem RelO.some_of(r:RelO (Ba v) o):∃u,o=Ba u/\RelV v u:=by
 cases o with
 | none=>exact (show False from r).elim
 | some u=>exact#[u,rfl,r]
theorem RelO.none_of(r:RelO Bb o):o=Bb:=by
 cases o with
 | none=>rfl
 | some u=>exact (show False from r).elim
theorem Qe(r:RelV v u):gD u=Bc:=by
 cases v with
 | non=>cases (show u=p9 from r);rfl
 | bl b=>cases (show u=Value.bool b from r);rfl
 | int i=>let#[t,e]:=(show ∃t,u=Value.int i t from r);cases e;rfl
 | str x=>let#[t,e]:=(show ∃t,u=Value.str x t from r);cases e;rfl
 | byt b=>let#[t,e]:=(show ∃t,u=Value.bytes b t from r);cases e;rfl
 | flt b=>let#[t,e]:=(show ∃t,u=Value.float b t from r);cases e;rfl
 | ref a=>cases (show u=r8 a from r);rfl
 | ty n=>cases (show u=Value.type n from r);rfl
def ZR(hok:HOk P w H h)(e:H a=Ba (.ins C dx fs)):∃mA,ObjM h a dx C mA/\(∀f,RelO (fs.lookup f) (mA f))/\PySem.Within mA (fs.map (·.1))/\fs.length<=1000/\H dx=Ba (.own a):=by let#[d,z,ne,ob,mA,n,r,q]:=(show ObjOk P w H h a (.ins C dx fs)from hok a _ e);exact#[mA,#[ob,n,ne],r,q,z,d]
structure Cls(K:sL)(C:sM):Prop where
 pg:ci K C fM=Bc
 hd:cI K C=Bc
 po:cU K C=Bc
 sa:ah K (.ref C) "__setattr__" = Ba (Ba (.builtin "object.__setattr__"))
def Cls.get{K:sL}(c:Cls K C)(f:sS):ci K C f=Bc:=c.pg
def NoAttr(K:sL)(C:sM)(f:sS):Prop:=ah K (.ref C) f=Ba Bb
def NoAttr.taker{K:sL}(n:NoAttr K C f):fL K C f=Ba Bb:=by unfold fL;rw[show ah K (.ref C) f=Ba Bb from n];rfl
structure zeL(K:sL)(C:sM)(m:sS)(f:sM):Prop where
 at_:ah K (.ref C) m=Ba (Ba (.ref f))
 fn:bc K (.ref f)=Bc
 kp:aP K (.ref f)=Bc
def V0(I:Inv X Be σ H s)(e:H a=Ba (.ins C dx fs))(c:Cls X.K C)(n:NoAttr X.K C f)(l:fs.lookup f=Ba v)(h:∀u s',Inv X Be σ H s'->RelV v u->Q u s'):sQ (model X.prog X.w) A (getAttr (.ref a) f b) Q E s:=by let#[mA,O,r,_,_,_]:=ZR I.hok e;let#[u,hu,ru]:=RelO.some_of (v:=v) (o:=mA f) (by rw[<- l];exact r f);exact zcv I.kIn O (c.get f) c.hd n hu (Qe ru) (h u _ (I.tok _) ru)
def wc(I:Inv X Be σ H s)(e:H a=Ba (.ins C dx fs))(c:Cls X.K C)(k:zeL X.K C m g)(l:fs.lookup m=Bb)(h:Q (.ref g,[.ref a]) s):sQ (model X.prog X.w) A (getMethod (.ref a) m pl) Q E s:=by let#[mA,O,r,_,_,_]:=ZR I.hok e;have hn:mA m=Bb:=RelO.none_of (by rw[<- l];exact r m);exact J9 I.kIn O (c.get m) k.at_ k.fn hn h
def V6(I:Inv X Be σ H s)(e:H a=Ba (.ins C dx fs))(c:Cls X.K C)(n:NoAttr X.K C f)(hl:fs.length<1000)(ry:RelV y u)(h:∀s',Inv X Be σ (upd H a (.ins C dx (Ye f y fs))) s'->Q Unit.unit s'):sQ (model X.prog X.w) A (setAttr (.ref a) f u) Q E s:=by
 let#[mA,O,r,wi,_,ho]:=ZR I.hok e;have hz:(fs.map (·.1)).length<=sK:=by rw[aa,sY];lia
 refine zb8 I.kIn O c.sa c.po n.taker c.hd wi hz λh' O' sb=>h _ ?_;have hd:∃o,h'.get? dx=Ba o:=let #[o,_,_,e',_]:=O'.ns; #[o,e'];refine I.write (x:=a) (e:=dx) (by rw[e];exact True.intro) (.inr ho) (λb q hb z=>(sb.2 b hb).trans z) hd ?_;refine#[by rw[zt O.ne];exact ho,?_,O.ne,O'.obj,_,O'.ns,λg=>?_,λg hg=>?_]
 ·have:=j4 f y fs;lia
 ·show RelO ((Ye f y fs).lookup g) (if g=f then Ba u else mA g);rw[jr];by_cases q:g=f
  ·rw[w6 q,w6 q];exact ry
  ·rw[w9 q,w9 q];exact r g
 ·by_cases q:g=f
  ·rw[q];exact (jj f y fs).1
  ·refine (jj f y fs).2 g (wi g λz=>hg ?_);show (if g=f then Ba u else mA g)=Bb;rw[w9 q];exact z
def Inv.made(I:Inv X Be σ H s):Inv X Be σ (upd (upd H s⁻¹ (.own (s⁻¹+1))) (s⁻¹+1) (.ins C s⁻¹ [])) { s with heap:=(s.heap.push bT).push (cA C s⁻¹) }:=by
 have e1:(s.heap.push bT).get? s⁻¹=Ba bT:=aE s.heap rfl
 have e2:((s.heap.push bT).push (cA C s⁻¹)).get? (s⁻¹+1)=Ba (cA C s⁻¹):=by
  have:=aE (s.heap.push bT) (o:=cA C s⁻¹) rfl
  rwa [dk]at this
 have e3:(s.heap.push bT).Ns s⁻¹ (λZ=>Bb):=#[bT,#[],_,e1,rfl,(λe he=>w4 he (by simp)),λZ=>rfl];have I1:=I.laid (a:=s⁻¹) (o:=.own (s⁻¹+1)) (h':=s.heap.push bT) (t':=s.toks) (λb u q=>ag _ q) (al _) #[_,e1];refine I1.laid (a:=s⁻¹+1) (o:=.ins C s⁻¹ []) (t':=s.toks) (λb u q=>ag _ q) (dm (dk _ _)) ?_;have ne:s⁻¹≠s⁻¹+1:=ay (dZ _);refine#[by rw[zt ne,zc],ar _,ne,e2,λZ=>Bb,(Heap.Ns1.of_empty e3).at λo q=>ag _ q,λZ=>True.intro,λy hy=>w4 rfl hy]
def zcg(hb:attributeBase e f env (eval e env)=eval e env)(h:sQ (model prog w) A (eval e env) (λo s₁=>sQ (model prog w) A (getAttr o f Bc) Q E s₁) E s):sQ (model prog w) A (eval (.Attribute e f pos) env) Q E s :=
 Attribute_any_ h (by rw[arm_eval_Attribute,hb])
def zdl(K:sL)(ta:TE)(f:sS):TE:=λσ H Q=>ta σ H λx H1=>∃a C dx fs v,x=.ref a/\H1 a=Ba (.ins C dx fs)/\Cls K C/\NoAttr K C f/\fs.lookup f=Ba v/\Q v H1
def zgl(K:sL)(ta tv:TE)(f:sS):TS:=λD σ H=>tv σ H λy H1=>ta σ H1 λx H2=>∃a C dx fs,x=.ref a/\H2 a=Ba (.ins C dx fs)/\Cls K C/\NoAttr K C f/\fs.length<1000 /\
 D.nx σ (upd H2 a (.ins C dx (Ye f y fs)))
def ju(he:PE X e ta)(hb:attributeBase e f X.env (eval e X.env)=eval e X.env):PE X (.Attribute e f pos) (zdl X.K ta f):=by intros Q I h;refine zcg hb (thn (he Be s σ H _ I h) λu s1=>el5 λx H1 I1 rx q_z=>?_);let#[a,C,dx,fs,v,ex,ea,c,n,l,q]:=q_z;subst ex;obtain rfl:u=r8 a:=rx;exact V0 I1 ea c n l λu' s2 I2 ru=>#[v,H1,I2,ru,q]
def YK(ha:PE X o ta)(hv:PE X value tv)(hs:swapsWith value (Ba (.Attribute o f pos')) pos.line X.env=pure Bd):PS X (.Assign [.Attribute o f pos'] value pos) (zgl X.K ta tv f):=by intros D I h;refine Ae (thn (hv Be s σ H _ I h) λu s1=>el5 λy H1 I1 ry q=>thn (ha Be s1 σ H1 _ I1 q) λov s2=>el5 λx H2 I2 rx q_z=>?_) hs;let#[a,C,dx,fs,ex,ea,c,n,l,q2]:=q_z;subst ex;obtain rfl:ov=r8 a:=rx;exact V6 I2 ea c n l ry λs3 I3=>#[σ,_,I3,q2]
def zbH(he:PE X e te)(I:Inv X Be σ H s)(h:te σ H λx H1=>∃a C dx fs g,x=.ref a/\H1 a=Ba (.ins C dx fs)/\Cls X.K C/\zeL X.K C m g/\fs.lookup m=Bb /\
      ∀s1,Inv X Be σ H1 s1->sQ (model X.prog X.w) X.A (callWith pos (.ref g) [.ref a] (tw pos (sJ args X.env)) (tE pos (tj [] X.env))) Q X.xe s1) (ht:eval (.Call (.Attribute e m apos) args [] pos) X.env=(do
      let ov <- eval e X.env
      standAt apos.atName
      let (f,first) <- holding [ov] (getMethod ov m pl)
      callWith pos f first (tw pos (sJ args X.env)) (tE pos (tj [] X.env)))) :
    sQ (model X.prog X.w) X.A (eval (.Call (.Attribute e m apos) args [] pos) X.env) Q X.xe s:=by refine cS (pl:=pl) (thn (he Be s σ H _ I h) λu s1=>el5 λx H1 I1 rx q_z=>?_) ht;let#[a,C,dx,fs,g,ex,ea,c,k,l,q]:=q_z;subst ex;obtain rfl:u=r8 a:=rx;exact wc I1 ea c k l (q s1 I1)
inductive Vw(K:sL)(H:Hp):V->sN->Prop where
 | non:Vw K H .non (.type "NoneType")
 | bl (x:Bool):Vw K H (.bl x) (.type "bool")
 | int (i:Int):Vw K H (.int i) (.type "int")
 | str (x:sS):Vw K H (.str x) (.type "str")
 | flt (x:UInt64):Vw K H (.flt x) (.type "float")
 | lst {a:sM} {xs:List V} (e:H a=Ba (.lst xs)):Vw K H (.ref a) (.type "list")
 | frz {a:sM} {o:tZ} {xs:List V} (e:H a=Ba (.frz o (.lst xs))):Vw K H (.ref a) (.type "list")
 | tup {a:sM} {xs:List V} (e:H a=Ba (.tup xs)):Vw K H (.ref a) (.type "tuple")
 | dK {a:sM} {kvs:List (Key × V)} (e:H a=Ba (.dK kvs)):Vw K H (.ref a) (.type "dict")
 | dT {a:sM} {kvs:List (List Key × V)} (e:H a=Ba (.dT kvs)):Vw K H (.ref a) (.type "dict")
 | ins {a C dx:sM} {fs:List (sS × V)} (e:H a=Ba (.ins C dx fs)) (cl:Cls K C) (ha:ah K (.ref C) "__class__" = Ba (Ba (.builtin "object.__class__")))
   (hn:dN K (.builtin "object.__class__") "__get__" = Ba (Ba (.builtin "getset_descriptor.__get__"))) (htk:d7 K (.builtin "object.__class__")=Ba Bc)
   (hm:bZ K C (.type "object")=Ba Bc):Vw K H (.ref a) (.ref C)
theorem Ja(I:Inv X Be σ H s)(rx:RelV x u)(ty:Vw X.K H x t)(e:aV X.K t c=Ba b)(h:∀tk,Q (.bool b) { s with toks:=tk }) :
  sQ (model X.prog X.w) A (call (.builtin "isinstance") [u,c]) Q E s:=by
 cases ty with
 | non=>cases (show u=p9 from rx);exact bu PySem.W.kitx_none I.kIn True.intro e (λz=>nomatch z) h
 | bl y=>cases (show u=Value.bool y from rx);exact bu PySem.W.kitx_bool I.kIn True.intro e (λz=>nomatch z) h
 | int i=>let#[t,q]:=(show ∃t,u=Value.int i t from rx);cases q;exact bu PySem.W.kitx_int I.kIn True.intro e (λz=>nomatch z) h
 | str y=>let#[t,q]:=(show ∃t,u=Value.str y t from rx);cases q;exact bu PySem.W.kitx_str I.kIn True.intro e (λz=>nomatch z) h
 | flt y=>let#[t,q]:=(show ∃t,u=Value.float y t from rx);cases q;exact bu PySem.W.kitx_float I.kIn True.intro e (λz=>nomatch z) h
 | @lst a xs ea =>
  cases (show u=r8 a from rx);let#[_,_,n,_,h1]:=(show ObjOk X.prog X.w H s.heap a (.lst xs)from I.hok a _ ea);exact bu e7 I.kIn #[_,h1,rfl] e (λz=>nomatch z) h
 | @frz a ob xs ea =>
  cases (show u=r8 a from rx);let#[_,_,_,n,_,h1]:=(show ObjOk X.prog X.w H s.heap a (.frz ob (.lst xs))from I.hok a _ ea);exact bu e7 I.kIn #[_,h1,rfl] e (λz=>nomatch z) h
 | @tup a xs ea =>
  cases (show u=r8 a from rx);let#[_,_,_,p]:=(show ObjOk X.prog X.w H s.heap a (.tup xs)from I.hok a _ ea);let#[o,h1,h2,_]:=p;exact bu gx I.kIn #[o,h1,h2] e (λz=>nomatch z) h
 | @dK a kvs ea =>
  cases (show u=r8 a from rx);let#[_,_,vs,_,p]:=(show ObjOk X.prog X.w H s.heap a (.dK kvs)from I.hok a _ ea);let#[o,es,ep,h1,h2,_]:=p;exact bu gB I.kIn #[o,h1,h2.1] e (λz=>nomatch z) h
 | @dT a kvs ea =>
  cases (show u=r8 a from rx);let#[_,_,xs,_,o,es,ep,h1,h2,_]:=(show ObjOk X.prog X.w H s.heap a (.dT kvs)from I.hok a _ ea);exact bu gB I.kIn #[o,h1,h2.1] e (λz=>nomatch z) h
 | @ins a C dx fs ea cl ha hn htk hm =>
  cases (show u=r8 a from rx);let#[mA,O,_]:=ZR I.hok ea;let#[od,J,_]:=O.look;exact bu (PySem.W.kitx_own (cl.get _) cl.hd ha hn htk hm) I.kIn J e (λz=>nomatch z) h
structure Room(k:Nat)(A:tG):Prop where
 hd:A.handled=Bb
 dp:A.depth+3 * k+5<Au
 un:A.units+16 * k+200<cLine
def Room.mono(r:Room k A)(h:j<=k):Room j A:=#[r.hd,by have:=r.dp;lia,by have:=r.un;lia]
def Room.deeper(r:Room (k+1) A)(env:AU):Room k (A.deeper env) :=
 #[r.hd,by have:=r.dp;show A.depth+1+3 * k+5<_;lia,by have:=r.un;show A.units+3+16 * k+200<_;lia]
def Room.in1(r:Room (k+1) A):Room k A.in1 :=
 #[r.hd,by have:=r.dp;show A.depth+3 * k+5<_;lia,by have:=r.un;show A.units+1+16 * k+200<_;lia]
def VP{A:tG}:(A.under (.builtin "type.__call__" #[.ref C::us,kw])).depth=A.depth+1:=by first | rfl | simp [Around.under,Code.weight,Code.isCreation,Code.isGuard,Code.isCaller,Code.frames,Code.isFrame,guardIds]
def VJ{A:tG}:(A.under (.builtin "type.__call__" #[.ref C::us,kw])).units=A.units+1:=by first | rfl | simp [Around.under,Code.cUnits,Code.frames,Code.isFrame]
def Room.make(r:Room (k+1) A)(C:sM)(us:List sN)(kw:List (sS × sN)):Room k (A.under (.builtin "type.__call__" #[.ref C::us,kw])) :=
 #[r.hd,by have:=r.dp;rw[VP];lia,by have:=r.un;rw[VJ];lia]
def Room.depth(r:Room k A):A.depth<Au:=by have:=r.dp;lia
def Room.units(r:Room k A):A.units+64<cLine:=by have:=r.un;lia
def xw:TA:=λZ H Q=>Q [] H
def zM(ta:TE)(tr:TA):TA:=λσ H Q=>ta σ H λx H1=>tr σ H1 λxs H2=>Q (x::xs) H2
def zg:PA X [] xw:=λZ Z Z Z H Q I h=>Calls.spliced_nil #[[],H,I,.nil,h]
def za(ha:PE X e te)(hr:PA X es t)(hs:‹sJ (e::es) X.env=(Bd,eval e X.env)::sJ es X.env›):PA X (e::es) (zM te t):=by intro pos Be s σ H Q I h;rw[hs];show sQ _ _ (spliced ((Bd,eval e X.env)::tw pos (sJ es X.env))) _ _ s;refine Calls.spliced_cons (thn (ha Be s σ H _ I h) λu s1=>el5 λx H1 I1 r1 q1=>?_);exact thn (hr pos Be s1 σ H1 _ I1 q1) λus s2=>el5 λxs H2 I2 r2 q2=>#[x::xs,H2,I2,.cons r1 r2,q2]
def Uq(t:TA):TE:=λσ H Q=>t σ H λxs H1=>xs.length<=sK/\∀p,H1 p=Bb->Q (.ref p) (upd H1 p (.tup xs))
def zef(t:TA):TE:=λσ H Q=>t σ H λxs H1=>xs.length<=sK/\∀p,H1 p=Bb->Q (.ref p) (upd H1 p (.lst xs))
def zW{x1}(h:PA X es t):PE X (.Tuple es x1 pos) (Uq t):=by intros Q I hq;refine wpAny_Tuple_spliced (thn (h pos Be s σ H _ I hq) λus s1=>el5 λxs H1 I1 r=>ua2 λz q=>#[by rw[<- r.length];exact z,?_]);have hf:H1 s1⁻¹=Bb:=I1.hok.fresh (al _);refine#[.ref s1⁻¹,upd H1 s1⁻¹ (.tup xs),I1.laid (t':=s1.toks) (λb u e=>ag _ e) (al _) ?_,rfl,q _ hf];exact#[z,us,r,#[_,aE _ rfl,rfl,_,rfl]]
def xg(h:PA X es t):PE X (.List es pos) (zef t):=by intros Q I hq;refine wpAny_List_spliced (thn (h pos Be s σ H _ I hq) λus s1=>el5 λxs H1 I1 r=>ua2 λz q=>#[by rw[<- r.length];exact z,?_]);have hf:H1 s1⁻¹=Bb:=I1.hok.fresh (al _);refine#[.ref s1⁻¹,upd H1 s1⁻¹ (.lst xs),I1.laid (t':=s1.toks) (λb u e=>ag _ e) (al _) ?_,rfl,q _ hf];exact#[z,us,0,r,aE _ rfl]
abbrev Sp:=List V->Hp->VK->XK->Prop
abbrev CXT:=List AU->Hp->sP->XK->sN->sP->Prop
structure Env0(P:sU)(w:sZ)(K:sL)(mg:sS->Option sN)(base:tB)(A:tG)(outer:List AU)(s:sP)(H:Hp):Prop where
 frames:A.frames=Ba outer
 mod:Mod K mg base
 bs:∀b o,base.get? b=Ba o->s.heap.get? b=Ba o/\H b=Bb
 bsz:base.objs.size<=s⁻¹
 funs:s.heap.FunFrames base outer
 frf:∀b ∈ frs outer,H b=Bb
 hok:HOk P w H s.heap
 bare:Ag s.gens
def CE(outer:List AU)(P:sU)(w:sZ)(H:Hp)(s:sP)(Q:VK)(u:sN)(s':sP):Prop :=
 ∃v H',s'.os=s.os/\Ag s'.gens/\Un (frs outer) [] H H' s.heap s'.heap/\HOk P w H' s'.heap/\RelV v u/\Q v H'
def CR(CX:CXT)(outer:List AU)(P:sU)(w:sZ)(H:Hp)(s:sP)(Q:VK)(E:XK)(r:Result)(s':sP):Prop :=
 match r with
 | .ok (.ret u)=>CE outer P w H s Q u s'
 | .ok _=>False
 | .error e=>CX outer H s E e s'
structure FnOk(P:sU)(w:sZ)(K:sL)(mg:sS->Option sN)(base:tB)(CX:CXT)(k:Nat)(f:sM)(fd:tW)(ps:List sS)(sp:Sp):Prop where
 len:∀vs H Q E,sp vs H Q E->vs.length=ps.length
 run:∀(A:tG) (outer:List AU) (s:sP) (H:Hp) (args:Args) (us:List sN) (vs:List V) (Q:VK) (E:XK),Room k A->Env0 P w K mg base A outer s H->Ay s fd args (ps.zip us)->Vals vs us->sp vs H Q E ->
  tM (model P w) A (.call (.ref f) args) (CR CX outer P w H s Q E) s
def FnOk.imp{K:sL}(F:FnOk P w K mg base CX k f fd ps sp)(h:∀vs H Q E,sp' vs H Q E->sp vs H Q E):FnOk P w K mg base CX k f fd ps sp' :=
 #[λvs H Q E q=>F.len vs H Q E (h _ _ _ _ q),λA outer s H args us vs Q E hr he hb hv hs=>F.run A outer s H args us vs Q E hr he hb hv (h _ _ _ _ hs)]
def Env0.make{K:sL}(e:Env0 P w K mg base A outer s H)(C:sM)(us:List sN)(kw:List (sS × sN)) :
  Env0 P w K mg base (A.under (.builtin "type.__call__" #[.ref C::us,kw])) outer s H:=#[by first | exact e.frames | (simpa [Around.under,Code.envs,Code.isFrame,pushEnvs] using e.frames),e.mod,e.bs,e.bsz,e.funs,e.frf,e.hok,e.bare]
def Inv.env0(I:Inv X Be σ H s):Env0 X.prog X.w X.K X.mg X.base X.A X.stack s H :=
 #[I.ok.frames,I.ok.mod,I.bs,aH I.ok.bsz I.sz,I.stack,I.stkFree,I.hok,I.bare]
def Inv.after(I:Inv X Be σ H s)(h:CE X.stack X.prog X.w H s Q u s'):EP X Be σ Q u s':=by let#[v,H',os,bare,un,hok,r,q]:=h;let#[hh,g,d,t,os']:=s';obtain rfl:os'=s.os:=os;exact#[v,H',I.call (h':=hh) (g':=g) (d':=d) (t':=t) (ch:=[]) un hok bare (λb z=>w4 z (by simp)),r,q]
def ud(sp:Sp)(dvs:List V)(E:XK)(t:TA):TE:=λσ H Q=>t σ H λvs H1=>sp (vs ++ dvs) H1 Q E
def Zk(C:sM)(m:sS)(sp:Sp)(dvs:List V)(E:XK)(ta:TE)(t:TA):TE:=λσ H Q=>ta σ H λx H1=>∃a dx fs,x=.ref a/\H1 a=Ba (.ins C dx fs)/\fs.lookup m=Bb /\
 t σ H1 λvs H2=>sp (x::(vs ++ dvs)) H2 Q E
def Q8(C:sM)(sp:Sp)(dvs:List V)(E:XK)(t:TA):TE:=λσ H Q=>t σ H λvs H1=>∀x dx,H1 x=Bb->H1 dx=Bb->dx≠x ->
 sp (.ref x::(vs ++ dvs)) (upd (upd H1 dx (.own x)) x (.ins C dx [])) (λv H2=>v=.non/\Q (.ref x) H2) E
def Binds(K:sL)(fd:tW)(ps:List sS)(ds:List sN):Prop :=
 ∀(s:sP) (us:List sN),K.In s.heap->(us ++ ds).length=ps.length->Ay s fd #[us,[]] (ps.zip (us ++ ds))
def Binds.all{K:sL}(h:∀us:List sN,us.length=ps.length->bindArgs fd #[us,[]]=pure (ps.zip us)):Binds K fd ps []:=λs us Z hl=>by
 rw[aT]at hl ⊢;exact .of_eq (h us hl)
def qo(CX:CXT)(X:Cx)(E:XK):Prop:=∀(Be:List (sM × tZ)) (σ:St) (H:Hp) (s:sP) (e:sN) (s':sP),Inv X Be σ H s->CX X.stack H s E e s'->X.xe e s'
theorem Yo(F:FnOk X.prog X.w X.K X.mg X.base CX k f fd ps sp)(hr:Room k X.A)(hb:Binds X.K fd ps ds)(hd:Vals dvs ds)(hx:qo CX X E)(I:Inv X Be σ H s)(r:Vals vs us)(h:sp (vs ++ dvs) H Q E):sQ (model X.prog X.w) X.A (call (.ref f) us) (EP X Be σ Q) X.xe s:=by
 have r2:Vals (vs ++ dvs) (us ++ ds):=r.append hd;have hl:(us ++ ds).length=ps.length:=by rw[<- r2.length];exact F.len _ _ _ _ h
 refine tV (tY (F.run X.A X.stack s H #[us,[]] (us ++ ds) (vs ++ dvs) Q E hr I.env0 (hb s us I.kIn hl) r2 h) λr s' hq=>?_)
 cases r with
 | error e=>exact hx Be σ H s e s' I hq
 | ok fl =>
  cases fl with
  | ret u=>exact I.after hq
  | next=>exact False.elim hq
  | brk=>exact False.elim hq
  | cont=>exact False.elim hq
def Jl(F:FnOk X.prog X.w X.K X.mg X.base CX k f fd ps sp)(hr:Room k X.A)(hg:Gl X x)(hm:X.mg x=Ba (.ref f))(hk:aP X.K (.ref f)=Bc)(hb:Binds X.K fd ps ds)(hd:Vals dvs ds)(hx:qo CX X E)(ha:PA X (e::es) t) (hdb:‹(x ==("__debug__" : sS))=Bd›) (he:‹sJ (e::es) X.env=(Bd,eval e X.env)::sJ es X.env›) (hpl:‹(tw pos (sJ es X.env)).any (·.1)=Bd›) :
  PE X (.Call (.Name x p) (e::es) [] pos) (ud sp dvs E t):=by intros Q I h;refine tz (ub I hg hm ?_ hdb);refine cr (h₀:=X.base) I.ok.mod.kin hk (thn (ha pos Be s σ H _ I h) λus s1=>el5 λvs H1 I1 r q=>#[I1.kIn,?_]) he hpl;exact Yo F hr hb hd hx I1 r q
def zb0(he:PE X o ta)(c:Cls X.K C)(hm:zeL X.K C m f)(F:FnOk X.prog X.w X.K X.mg X.base CX k f fd ps sp)(hr:Room k X.A)(hb:Binds X.K fd ps ds)(hd:Vals dvs ds)(hx:qo CX X E)(ha:PA X (e::es) t)(hst:‹sJ (e::es) X.env=(Bd,eval e X.env)::sJ es X.env›)(hpl:‹(tw pos (sJ es X.env)).any (·.1)=Bd›)(ht:eval (.Call (.Attribute o m apos) (e::es) [] pos) X.env=(do
      let ov <- eval o X.env
      standAt apos.atName
      let (f,first) <- holding [ov] (getMethod ov m pl)
      callWith pos f first (tw pos (sJ (e::es) X.env)) (tE pos (tj [] X.env))):=by rfl) :
    PE X (.Call (.Attribute o m apos) (e::es) [] pos) (Zk C m sp dvs E ta t):=by intros Q I h;refine cS (pl:=pl) (thn (he Be s σ H _ I h) λu s1=>el5 λx H1 I1 rx q_z=>?_) ht;let#[a,dx,fs,ex,ea,l,q]:=q_z;subst ex;obtain rfl:u=r8 a:=rx;refine wc I1 ea c hm l ?_;refine cr (first:=[.ref a]) (h₀:=X.base) I.ok.mod.kin hm.kp (thn (ha pos Be s1 σ H1 _ I1 q) λus s2=>el5 λvs H2 I2 r q2=>#[I2.kIn,?_]) hst hpl;exact Yo (us:=.ref a::us) (vs:=.ref a::vs) F hr hb hd hx I2 (.cons rfl r) q2
def K8(he:PE X o ta)(c:Cls X.K C)(hm:zeL X.K C m f)(F:FnOk X.prog X.w X.K X.mg X.base CX k f fd ps sp)(hr:Room k X.A)(hb:Binds X.K fd ps ds)(hd:Vals dvs ds)(hx:qo CX X E)(ht:eval (.Call (.Attribute o m apos) [] [] pos) X.env=(do
      let ov <- eval o X.env
      standAt apos.atName
      let (f,first) <- holding [ov] (getMethod ov m pl)
      callWith pos f first (tw pos (sJ [] X.env)) (tE pos (tj [] X.env))):=by rfl) :
    PE X (.Call (.Attribute o m apos) [] [] pos) (Zk C m sp dvs E ta xw):=by intros Q I h;refine cS (pl:=pl) (thn (he Be s σ H _ I h) λu s1=>el5 λx H1 I1 rx q_z=>?_) ht;let#[a,dx,fs,ex,ea,l,q]:=q_z;subst ex;obtain rfl:u=r8 a:=rx;refine wc I1 ea c hm l ?_;exact gu (first:=[.ref a]) I1.kIn hm.kp (Yo (us:=[.ref a]) (vs:=[.ref a]) F hr hb hd hx I1 (.cons rfl .nil) q)
structure Mk(K:sL)(C f:sM):Prop where
 makes:df K C=Bc
 init:ah K (.ref C) "__init__" = Ba (Ba (.ref f))
 fn:bc K (.ref f)=Bc
 kp:aP K (.ref C)=Bc
theorem zar(M:Mk X.K C f)(F:FnOk X.prog X.w X.K X.mg X.base CX k f fd ps sp)(hr:Room (k+1) X.A)(hb:Binds X.K fd ps ds)(hd:Vals dvs ds)(hx:qo CX X E)(I:Inv X Be σ H s)(r:Vals vs us)(h:∀x dx,H x=Bb->H dx=Bb->dx≠x->sp (.ref x::(vs ++ dvs)) (upd (upd H dx (.own x)) x (.ins C dx [])) (λv H2=>v=.non/\Q (.ref x) H2) E) :
  sQ (model X.prog X.w) X.A (call (.ref C) us) (EP X Be σ Q) X.xe s:=by
 have hq:=h (s⁻¹+1) s⁻¹ (I.hok.fresh (cP _)) (I.hok.fresh (al _)) (ay (dZ _));have I2:=Inv.made (C:=C) I;have r2:Vals (V.ref (s⁻¹+1)::(vs ++ dvs)) (r8 (s⁻¹+1)::(us ++ ds)):=.cons rfl (r.append hd)
 have hl:(r8 (s⁻¹+1)::us ++ ds).length=ps.length:=by
  have e:=r2.length;rw[F.len _ _ _ _ hq]at e;exact e.symm
 refine tV (zat (f:=f) I.kIn M.makes M.init (beq_iff_eq.mp M.fn) (tY (F.run _ X.stack _ _ #[r8 (s⁻¹+1)::us,[]] (r8 (s⁻¹+1)::(us ++ ds)) _ _ E (hr.make C us [])
  (I2.env0.make C us []) (hb _ (r8 (s⁻¹+1)::us) I2.kIn hl) r2 hq) λr s' hq'=>?_))
 cases r with
 | error e=>exact hx Be σ _ _ e s' I2 hq'
 | ok fl =>
  cases fl with
  | ret u =>
   let#[v,H',I3,rv,ev,q3]:=I2.after hq';subst ev;exact#[rv,#[V.ref (s⁻¹+1),H',I3,rfl,q3]]
  | next=>exact False.elim hq'
  | brk=>exact False.elim hq'
  | cont=>exact False.elim hq'
def UY(M:Mk X.K C f)(F:FnOk X.prog X.w X.K X.mg X.base CX k f fd ps sp)(hr:Room (k+1) X.A)(hg:Gl X x)(hm:X.mg x=Ba (.ref C))(hb:Binds X.K fd ps ds)(hd:Vals dvs ds)(hx:qo CX X E)(ha:PA X (e::es) t) (hdb:‹(x ==("__debug__" : sS))=Bd›) (he:‹sJ (e::es) X.env=(Bd,eval e X.env)::sJ es X.env›) (hpl:‹(tw pos (sJ es X.env)).any (·.1)=Bd›) :
  PE X (.Call (.Name x p) (e::es) [] pos) (Q8 C sp dvs E t):=by intros Q I h;refine tz (ub I hg hm ?_ hdb);refine cr (h₀:=X.base) I.ok.mod.kin M.kp (thn (ha pos Be s σ H _ I h) λus s1=>el5 λvs H1 I1 r q=>#[I1.kIn,?_]) he hpl;exact zar M F hr hb hd hx I1 r q
def PK(X:Cx)(kws:List Ax)(t:TA):Prop :=
 ∀(pos:AW) (Be:List (sM × tZ)) (s:sP) (σ:St) (H:Hp) (Q:List V->Hp->Prop),Inv X Be σ H s->t σ H Q->sQ (model X.prog X.w) X.A (evalAll ((tE pos (tj kws X.env)).map (·.2))) (AP X Be σ Q) X.xe s
end
section
variable{X:Cx}{CX:CXT}{k:Nat}{f C:sM}{fd:tW}{ps ks:List sS}{sp:Sp}{E:XK}{x m:sS}{p pos apos kpos:AW}{e o:tR}{es:List tR}{kws:List Ax}{te ta:TE}{t tk:TA}{nm:Option sS}
def zaI:PK X [] xw:=λZ Z Z Z H Q I h=>wpAny_evalAll_nil #[[],H,I,.nil,h]
def JQ(ha:PE X e te)(hr:PK X kws t):PK X (#[nm,e,kpos]::kws) (zM te t):=by intro pos Be s σ H Q I h;show sQ _ _ (evalAll ((do let v <- eval e X.env;standAt pos;pure v)::(tE pos (tj kws X.env)).map (·.2))) _ _ s;refine wpAny_evalAll_cons (sF (thn (ha Be s σ H _ I h) λu s1=>el5 λx H1 I1 r1 q1=>sF (tK (sH ?_))));exact thn (hr pos Be s1 σ H1 _ I1 q1) λus s2=>el5 λxs H2 I2 r2 q2=>#[x::xs,H2,I2,.cons r1 r2,q2]
variable{g:List sN->List sN->List sN}{gV:List V->List V->List V}
end
mutual section
structure zo(N P:List sS)(sc:Aj):Prop where
 kind:sc.kind=.function
 co:sc.isCoroutine=Bd
 gen:sc.isGenerator=Bd
 nd:N.Nodup
 pre:N.take P.length=P
 par:∀x ∈ P,sc.names.lookup x=Ba .local\/sc.names.lookup x=Ba .cell
 nofree:∀y ∈ sc.names,y.2≠.free
theorem Y8{kindOf:sS->Option Ai}:∀{binds:List (sS × sN)} {m:sS->Option sN},(∀v,(x,v) ∉ binds)->bindL kindOf binds m x=m x
  | [],_,_=>rfl
  | (n,v)::r,m,h=>by
    unfold bindL;rw[Y8 λw hw=>h w (av _ hw)];split
    . have:x≠n:=by rintro rfl;exact h v aB
      simp [this]
    . rfl
theorem YB{kindOf:sS->Option Ai}:∀{binds:List (sS × sN)} {m:sS->Option sN},(∀v,(x,v) ∉ binds)->bindC kindOf binds m x=m x
  | [],_,_=>rfl
  | (n,v)::r,m,h=>by
    unfold bindC;rw[YB λw hw=>h w (av _ hw)];split
    . rfl
    . have:x≠n:=by rintro rfl;exact h v aB
      simp [this]
theorem Yw{kindOf:sS->Option Ai}:∀{P:List sS} {vs:List sN} {i:Nat} {m:sS->Option sN},P.Nodup->P[i]? = Ba x->vs[i]? = Ba v->kindOf x=Ba .local ->
  bindL kindOf (P.zip vs) m x=Ba v
 | [],_,_,_,_,h,_,_=>by simp at h
 | _::_,[],_,_,_,_,h,_=>by simp at h
 | p::P,w::vs,0,m,nd,h1,h2,hk=>by
  simp at h1 h2;subst h1;subst h2;show bindL kindOf ((p,w)::P.zip vs) m p=_;unfold bindL;rw[Y8 λv hv=>(Bs.mp nd).1 (dC hv).1,w6 hk];simp
 | p::P,w::vs,i+1,m,nd,h1,h2,hk=>by
  show bindL kindOf ((p,w)::P.zip vs) m x=_;unfold bindL;exact Yw (i:=i) (Bs.mp nd).2 ↥h1 ↥h2 hk
theorem YZ{kindOf:sS->Option Ai}:∀{P:List sS} {vs:List sN} {i:Nat} {m:sS->Option sN},P.Nodup->P[i]? = Ba x->vs[i]? = Ba v->kindOf x≠Ba .local ->
  bindC kindOf (P.zip vs) m x=Ba v
 | [],_,_,_,_,h,_,_=>by simp at h
 | _::_,[],_,_,_,_,h,_=>by simp at h
 | p::P,w::vs,0,m,nd,h1,h2,hk=>by
  simp at h1 h2;subst h1;subst h2;show bindC kindOf ((p,w)::P.zip vs) m p=_;unfold bindC;rw[YB λv hv=>(Bs.mp nd).1 (dC hv).1,w9 hk];simp
 | p::P,w::vs,i+1,m,nd,h1,h2,hk=>by
  show bindC kindOf ((p,w)::P.zip vs) m x=_;unfold bindC;exact YZ (i:=i) (Bs.mp nd).2 ↥h1 ↥h2 hk
def start(N:List sS)(vs:List V):St:=vs.map Ba ++ aR (N.length - vs.length) Bb
def qX(CX:CXT)(P:sU)(w:sZ)(K:sL)(mg:sS->Option sN)(base:tB)(N:List sS)(qual:sS)(scope:Aj)(f:sM)(cd:sN)(A:tG)(outer:List AU)(s:sP)(H:Hp)(E:XK):Cx where
 prog:=P
 w:=w
 K:=K
 mg:=mg
 base:=base
 A:=A.deeper (Ab qual scope s⁻¹ f cd)
 N:=N
 s₀:=s
 H₀:=H
 env:=Ab qual scope s⁻¹ f cd
 outer:=outer
 stack:=Ab qual scope s⁻¹ f cd::outer
 ex:=[]
 calm:=Bc
 fn:=λZ=>Bc
 pn:=[]
 xe:=λe s'=>sQ (model P w) (A.deeper (Ab qual scope s⁻¹ f cd)) (leaving (Ab qual scope s⁻¹ f cd) e) (λZ s''=>CX outer H s E e s'') (λe' s''=>CX outer H s E e' s'') s'
def WO{sc:Aj}(h:sc.names.lookup x=Ba .cell):∃c,(cellsFrom n sc.names []).lookup x=Ba c:=by have q:=fP sc.names n [] (.inl h);exact Bv.mp q
def Qa{K:sL}(S:zo N ps scope)(hd:A.handled=Bb)(e0:Env0 P w K mg base A outer s H)(hl:vs.length=ps.length)(r:Vals vs us)(x:InCallC s s⁻¹ (bindL (Ab qual scope s⁻¹ f cd).kindOf (ps.zip us) λZ=>Bb) (cellsFrom (s⁻¹+1) scope.names []) (bindC (Ab qual scope s⁻¹ f cd).kindOf (ps.zip us) λZ=>Bb) s1) :
  Inv (qX CX P w K mg base N qual scope f cd A outer s H E) [] (start N vs) H s1:=by
 have hpl:ps.length<=N.length:=by have:=congrArg cQ S.pre;rw[aC]at this;lia
 let#[h1,tk,rfl,hk]:=x.done;have noA:∀b:sM,b ∉ (qX CX P w K mg base N qual scope f cd A outer s H E).ex:=λb z=>w4 (show b ∈ ([]:List sM)from z) (by simp)
 refine#[#[e0.mod,S.kind,rfl,rfl,al _,λy z c h1 h2=>?_,λy hy=>?_,λy c Z h=>?_,λZ=>hd,Around.frames_deeper e0.frames,.inr #[rfl,rfl],λb z=>w4 z (noA b),e0.bs,e0.bsz,λb Z Z=>noA b,λb z=>w4 z (noA b),e0.funs,e0.frf],
  rfl,e0.bare,Un.kept hk,#[_,x.toInCall.ns,λi y v h1 h2 h3=>?_],λy c h=>#[_,x.cell y c h],e0.hok.fresh (al _),λy c h=>?_,λp hp=>w4 (show p ∈ ([]:List (sM × tZ))from hp) (by simp),e0.hok.kept hk,?_]
 ·exact name_of_addr x.apart (ce h1) (ce h2)
 ·have hy:scope.names.lookup y=Ba .cell\/scope.names.lookup y=Ba .free:=hy;rcases hy with hy | hy
  ·exact WO hy
  ·exact w4 rfl (S.nofree _ (ce hy))
 ·exact cB (x.above y c (ce h))
 ·have hi:i<vs.length:=by
   unfold start at h2;by_cases hi:i<vs.length
   ·exact hi
   ·rw[bG ↥hi]at h2;rw[fB]at h2;split at h2 <;> cases h2
  have ha:vs[i]? = Ba v:=by
   unfold start at h2;rw[bW ↥hi,au]at h2
   cases e:vs[i]? with
   | none=>rw[e]at h2;cases h2
   | some a=>rw[e]at h2;cases h2;rfl
  let#[u,hu,rv]:=r.get ha
  have hp:ps[i]? = Ba y:=by
   rw[<- S.pre,cZ ⋯];exact h1
  have ndP:ps.Nodup:=by rw[<- S.pre];exact S.nd.sublist (List.take_sublist _ _)
  refine#[u,rv,?_];rcases S.par y (ac hp)with k | k
  ·exact .inl #[k,Yw ndP hp hu k]
  ·let#[c,e]:=WO (n:=s⁻¹+1) k;refine .inr #[.inl k,c,e,?_];have q:=x.cell y c e;rw[YZ ndP hp hu (by show scope.names.lookup y≠_;rw[k];decide)]at q;exact q
 ·exact e0.hok.fresh (cB (x.above y c (ce h)))
 ·unfold start;show _=N.length;rw[aj,aa,bN];lia
theorem KH{K:sL}{dV kV doc pm cdv ct oc:sN}(lk:K.lookup f=Ba #[oc,od,.func (bD name qual params body scope dV kV doc pm an cdv ct),osl])(hcd:cb K cdv qual=Bc)(S:zo N ps scope)(len:∀vs H Q E,sp vs H Q E->vs.length=ps.length)(hbody:∀(A:tG) (outer:List AU) (s:sP) (H:Hp) (vs:List V) (Q:VK) (E:XK),Room k (A.deeper (Ab qual scope s⁻¹ f cdv))->sp vs H Q E ->
   ∃t,PSs (qX CX P w K mg base N qual scope f cdv A outer s H E) body t/\t { nx:=λZ H'=>Q .non H',rt:=Q } (start N vs) H) :
  FnOk P w K mg base CX (k+1) f (bD name qual params body scope dV kV doc pm an cdv ct) ps sp:=by
 refine#[len,λA outer s H args us vs Q E hr e0 hb r hsp=>?_];have hl:=len _ _ _ _ hsp;have KX:K.In s.heap:=e0.mod.kin.keeps λb o e=>(e0.bs b o e).1;have lim:s.heap.NoLimit:=e0.mod.nolimit.keeps λb o e=>(e0.bs b o e).1
 have hkind:∀y ∈ ps.zip us,scope.names.lookup y.1=Ba .local\/(scope.names.lookup y.1=Ba .cell/\((cellsFrom (s⁻¹+1) scope.names []).lookup y.1).isSome=Bc):=λ⟨n,v⟩ hy=>by
  rcases S.par n (dC hy).1 with q | q
  ·exact .inl q
  ·exact .inr #[q,fP _ _ _ (.inl q)]
 refine codeAny_call_function hr.depth (KX _ _ lk) rfl S.co S.gen rfl (PySem.W.codeRec_of KX hcd) (hb _ _ _ _ ?_);refine wpAny_newFunctionEnv_cells S.kind hkind λenv he s1 x=>?_;subst he;refine#[lim.keeps x.toInCall.keep,codeAny_func ?_];let#[t,ht,hq]:=hbody A outer s H vs Q E (hr.deeper _) hsp;have I:Inv (qX CX P w K mg base N qual scope f cdv A outer s H E) [] (start N vs) H s1:=Qa S hr.hd e0 hl r x;refine tO (ht [] s1 (start N vs) H _ I hq) (λfl s' hs=>?_) λe s' hs=>hs
 have fin:∀{σ':St} {H':Hp} {v:V} {u:sN},Inv (qX CX P w K mg base N qual scope f cdv A outer s H E) [] σ' H' s'->RelV v u->Q v H'->CE outer P w H s Q u s' :=
  λ{σ' H' v u} J rv q=>#[v,H',J.os,J.bare,J.base,J.hok,rv,q]
 cases fl with
 | ret u =>
  let#[v,σ',H',J,rv,q]:=hs;exact fin J rv q
 | next =>
  let#[σ',H',J,q]:=hs;exact fin (v:=V.non) (u:=p9) J rfl q
 | brk =>
  let#[_,_,_,q]:=hs;exact False.elim q
 | cont =>
  let#[_,_,_,q]:=hs;exact False.elim q
def tCB(r:List V->Hp->VK->Prop)(t:TA):TE:=λσ H Q=>t σ H λvs H1=>r vs H1 Q
def yW{X:Cx}{x:sS}{p:AW}{pos:AW}{e:tR}{es:List tR}{t:TA}{id:String}{r:List V->Hp->VK->Prop}(hc:wX X (.builtin id) r)(hg:Gl X x)(hm:X.mg x=Bb)(hv:tD x=Ba (.builtin id))(ha:PA X (e::es) t)(hn:‹x≠"__name__"›)(hdb:‹(x ==("__debug__" : sS))=Bd›)(he:‹sJ (e::es) X.env=(Bd,eval e X.env)::sJ es X.env›) (hpl:‹(tw pos (sJ es X.env)).any (·.1)=Bd›):PE X (.Call (.Name x p) (e::es) [] pos) (tCB r t):=by intros Q I h;refine tz (vK I hg hm hv ?_ hn hdb);exact PyProof.Rows.callWith_builtin1 (thn (ha pos Be s σ H _ I h) λus s1=>el5 λvs H1 I1 r1 q1=>hc Be s1 σ H1 vs us Q I1 r1 q1) he hpl
def vn(hc:wX X (.type T) r)(hg:Gl X x)(hm:X.mg x=Bb)(hv:tD x=Ba (.type T))(ha:PA X (e::es) t)(hn:‹x≠"__name__"›)(hdb:‹(x ==("__debug__" : sS))=Bd›)(he:‹sJ (e::es) X.env=(Bd,eval e X.env)::sJ es X.env›) (hpl:‹(tw pos (sJ es X.env)).any (·.1)=Bd›):PE X (.Call (.Name x p) (e::es) [] pos) (tCB r t):=by intros Q I h;refine tz (vK I hg hm hv ?_ hn hdb);exact bO (thn (ha pos Be s σ H _ I h) λus s1=>el5 λvs H1 I1 r1 q1=>hc Be s1 σ H1 vs us Q I1 r1 q1) he hpl
end
end L2
namespace HT
open PySem PyProof.Rows
section
open PySem.SeqAt
open PySem.AutoSeq1 (wpAny_loadPart')
open PySem.MeetsSeq PySem.MeetsSeq2 PySem.MeetsSeq3
end
end in def sIx(n d:Nat):Option Int->Nat
 | none=>d
 | some v=>if v<0 then (v+(n:Int)).toNat else min v.toNat n
def sIx_none(n d:Nat):sIx n d Bb=d:=rfl
def sIx_nat(n d k:Nat):sIx n d (Ba (k:Int))=min k n:=by show (if (k:Int)<0 then ((k:Int)+(n:Int)).toNat else min (k:Int).toNat n)=min k n;rw[w9 ⋯,aA]
theorem sIx_le(n d:Nat)(hd:d<=n)(o:Option Int):sIx n d o<=n:=by
 cases o with
 | none=>exact hd
 | some v =>
  show (if v<0 then (v+(n:Int)).toNat else min v.toNat n)<=n;by_cases hv:v<0
  ·rw[w6 hv];lia
  ·rw[w9 hv];exact Nat.min_le_right _ _
end HT
namespace L2
end in abbrev TO:=St->Hp->(Option Int->Hp->Prop)->Prop
def PO(X:Cx)(e:Option tR)(t:TO):Prop :=
 ∀(Be:List (sM × tZ)) (s:sP) (σ:St) (H:Hp) (Q:Option Int->Hp->Prop),Inv X Be σ H s->t σ H Q ->
  sQ (model X.prog X.w) X.A (evalPart e X.env) (λu s'=>∃o H',Inv X Be σ H' s'/\IsPart u o/\Q o H') X.xe s
def ZN:TO:=λZ H Q=>Q Bb H
def Xj(t:TE):TO:=λσ H Q=>t σ H λx H1=>onInt x λi=>Q (Ba i) H1
section
variable{X:Cx}{e:tR}{te:TE}{lo hi:Option tR}{tl th:TO}{pos p2:AW}
def yo:PO X Bb ZN:=by intros Q I h;rw[evalPart_none];exact sH #[Bb,H,I,.none,h]
def zO(h:PE X e te):PO X (Ba e) (Xj te):=by intros Q I hw;rw[evalPart_some];refine thn (h Be s σ H _ I hw) λu s1=>el5 λx H1 I1 r1 q1=>?_;let#[i,rfl,q]:=onInt.of q1;let#[t,rfl]:=r1;exact#[Ba i,H1,I1,.int i t,q]
def SlR(X:Cx)(r:V->Option Int->Option Int->Hp->VK->Prop):Prop :=
 ∀(Be:List (sM × tZ)) (s:sP) (σ:St) (H:Hp) (x:V) (v vl vu:sN) (lo hi:Option Int) (sl:sM) (Q:VK),Inv X Be σ H s->RelV x v->s.heap.IsSliceOf sl vl vu .none->IsPart vl lo->IsPart vu hi->r x lo hi H Q ->
  ∃T id,typeLookup (.type T) "__getitem__" = pure (Ba (.builtin id))/\s.TypeIs v T/\sQ (model X.prog X.w) X.A (getItem v (.ref sl)) (EP X Be σ Q) X.xe s
def tSl(r:V->Option Int->Option Int->Hp->VK->Prop)(te:TE)(tl th:TO):TE:=λσ H Q=>te σ H λx H1=>tl σ H1 λl H2=>th σ H2 λu H3=>r x l u H3 Q
def zQ(hr:SlR X r)(he:PE X e te)(hl:PO X lo tl)(hu:PO X hi th):PE X (.Subscript e (.Slice lo hi Bb p2) pos) (tSl r te tl th):=by intros Q I h;refine AT (thn (he Be s σ H _ I h) λv s1=>el5 λx H1 I1 r1 q1=>?_);refine wpAny_Slice (thn (hl Be s1 σ H1 _ I1 q1) λvl s2=>el5 λl H2 I2 pl q2=>thn (hu Be s2 σ H2 _ I2 q2) λvu s3=>el5 λu H3 I3 pu q3=>?_);rw[evalPart_none];refine sH ?_;have I4:Inv X Be σ H3 { s3 with heap:=s3.heap.push { cls:=.type "slice",data:=.fields (r9 [vl,vu,.none]) } }:=I3.kept (t':=s3.toks) λb ob q=>ag _ q;let#[T,id,hT,ht,hg]:=hr Be { s3 with heap:=s3.heap.push { cls:=.type "slice",data:=.fields (r9 [vl,vu,.none]) } } σ H3 x v vl vu l u s3⁻¹ Q I4 r1 (Heap.IsSliceOf.new ..) pl pu q3;show sQ (model X.prog X.w) X.A (AA e (.Slice lo hi Bb p2) v (.ref s3⁻¹)) (EP X Be σ Q) X.xe { s3 with heap:=s3.heap.push { cls:=.type "slice",data:=.fields (r9 [vl,vu,.none]) } };exact tail_any (ops:=[.ref s3⁻¹,v]) ht hT hg (by with_unfolding_all rfl)
end in def Ur(xs:List V)(lo hi:Option Int):List V:=(xs.drop (HT.sIx xs.length 0 lo)).take (HT.sIx xs.length xs.length hi - HT.sIx xs.length 0 lo)
theorem Xw(xs:List V)(lo hi:Option Int):(Ur xs lo hi).length<=xs.length:=by unfold Ur;rw[aC,aS];lia
end
end in def ixN(n:Nat)(i:Int):Option Nat:=if 0<=i then (if i<n then Ba i.toNat else Bb)else if -(n:Int)<=i then Ba (i+n).toNat else Bb
end in def atI{α:Type}(xs:List α)(i:Int):Option α:=(ixN xs.length i).bind λj=>xs[j]?
def Qc(h:ixN n i=Ba j):seqIndex? i n=Ba j/\j<n/\-(n:Int)<=i/\i<n:=by
 unfold ixN at h;by_cases h0:0<=i
 ·rw[w6 h0]at h;by_cases h1:i<n
  ·rw[w6 h1]at h;have e:i.toNat=j:=Option.some.inj h;exact#[by rw[seqIndex_of h0 h1,e],⋯,⋯,h1]
  ·rw[w9 h1]at h;cases h
 ·rw[w9 h0]at h;by_cases h1:-(n:Int)<=i
  ·rw[w6 h1]at h;have e:(i+n).toNat=j:=Option.some.inj h;exact#[by rw[seqIndex_neg ⋯ h1,e],⋯,h1,⋯]
  ·rw[w9 h1]at h;cases h
theorem ZP(h:atI xs i=Ba v):∃j,seqIndex? i xs.length=Ba j/\xs[j]? = Ba v/\j<xs.length/\-(xs.length:Int)<=i/\i<xs.length:=by
 unfold atI at h
 cases e:ixN xs.length i with
 | none=>rw[e]at h;cases h
 | some j =>
  rw[e]at h;let#[h1,h2,h3,h4]:=Qc e;exact#[j,h1,h,h2,h3,h4]
def wU{xs:List α}{j:Nat}{v:α}(h:xs[j]? = Ba v):atI xs (j:Int)=Ba v:=by
 have hj:j<xs.length:=(Bh.mp h).1
 have e:ixN xs.length (j:Int)=Ba j:=by
  unfold ixN;rw[w6 ⋯,w6 ⋯];simp
 unfold atI;rw[e];exact h
def U8(b:tR):Prop:=∀o i,subscripted b Bd o i=operate [o,i] (getItem o i)
def IxR(X:Cx)(r:R2):Prop :=
 ∀(value slice:tR) (Be:List (sM × tZ)) (s:sP) (σ:St) (H:Hp) (x y:V) (v u:sN) (Q:VK),Inv X Be σ H s->RelV x v->RelV y u->r x y H Q ->
  subscripted slice Bd v u=operate [v,u] (getItem v u)->sQ (model X.prog X.w) X.A (AA value slice v u) (EP X Be σ Q) X.xe s
def MtR(X:Cx)(id:String)(r:V->List V->Hp->VK->Prop):Prop :=
 ∀(Be:List (sM × tZ)) (s:sP) (σ:St) (H:Hp) (x:V) (xs:List V) (v:sN) (us:List sN) (Q:VK),Inv X Be σ H s->RelV x v->Vals xs us->r x xs H Q ->
  sQ (model X.prog X.w) X.A (call (.builtin id) (v::us)) (EP X Be σ Q) X.xe s
section
mutual section
variable{X:Cx}{a b:tR}{ta tb:TE}{pos:AW}
def IxR.or(h:IxR X r)(h':IxR X r'):IxR X (λx y H Q=>r x y H Q\/r' x y H Q):=by
 intro value slice Be s σ H x y v u Q I rx ry q hs;rcases q with q | q
 ·exact h value slice Be s σ H x y v u Q I rx ry q hs
 ·exact h' value slice Be s σ H x y v u Q I rx ry q hs
def zgh(hr:IxR X r)(ha:PE X a ta)(hb:PE X b tb)(hs:U8 b):PE X (.Subscript a b pos) (tOp r ta tb):=by intros Q I h;exact AT (zf2 ha hb I h λv u s2 x y H2 I2 rx ry q=>hr a b Be s2 σ H2 x y v u Q I2 rx ry q (hs _ _))
def zdC(K:sL):R2:=λx y H Q=>onRef x λp=>onInt y λi=>∃xs,SqL K H p xs/\∃v,atI xs i=Ba v/\Q v H
def uI(K:sL):R2:=λx y H Q=>onRef x λp=>onInt y λi=>∃xs,SqT K H p xs/\∃v,atI xs i=Ba v/\Q v H
def zaQ:R2:=λx y H Q=>onStr x λz=>onInt y λi=>z.length<=sK/\∃c,atI z.cps.toList i=Ba c/\Q (.str ⟨#[c]⟩) H
theorem ix_list:IxR X (zdC X.K):=by
 intro value slice Be s σ H x y v u Q I rx ry h hs;let#[p,rfl,h2]:=onRef.of h;let#[i,rfl,xs,hq,z,he,q]:=onInt.of h2;cases rx;let#[t,rfl]:=ry;let#[its,r,pl,hz]:=I.list hq;let#[j,h1,h2,h3,h4,h5]:=ZP he;let#[w,ew,rw']:=r.get h2;have hl:=r.length;have hn:=k8;have fin:EP X Be σ Q w s:=#[z,H,I,rw',q];by_cases h0:0<=i
 ·have hj:i.toNat=j:=by
   rw[seqIndex_of h0 h5]at h1;exact Option.some.inj h1
  exact item_listR pl.isList h0 ⋯ (by rw[hj];simpa using ew) fin hs
 ·have hj:(i+(its.toArray.size:Int)).toNat=j:=by
   rw[seqIndex_neg ⋯ h4]at h1;rw[ak,<- hl];exact Option.some.inj h1
  exact Ap (x:=w) pl.isList.typeIs slot_list_getitem.lookup
   (wpAny_getItem_list_neg (Q:=λr s'=>r=w/\EP X Be σ Q r s') pl.isList ⋯ (by rw[ak] <;> lia) ⋯ (by rw[hj];simpa using ew) #[rfl,fin]) hs
theorem t7:IxR X (uI X.K):=by
 intro value slice Be s σ H x y v u Q I rx ry h hs;let#[p,rfl,h2]:=onRef.of h;let#[i,rfl,xs,hq,z,he,q]:=onInt.of h2;cases rx;let#[t,rfl]:=ry;let#[its,r,pl,hz]:=I.tuple hq;let#[j,h1,h2,h3,h4,h5]:=ZP he;let#[w,ew,rw']:=r.get h2;have hl:=r.length;have hn:=k8;have fin:EP X Be σ Q w s:=#[z,H,I,rw',q]
 exact Ap (x:=w) pl.typeIs slot_tuple_getitem.lookup
  (getItem_tuple (j:=j) (Q:=λr s'=>r=w/\EP X Be σ Q r s') pl ⋯ ⋯ (by rw[ak,<- hl];exact h1) ↥ew #[rfl,fin]) hs
theorem Y0:IxR X zaQ:=by
 intro value slice Be s σ H x y v u Q I rx ry h hs;let#[z,rfl,h2]:=onStr.of h;let#[i,rfl,hz,c,he,q]:=onInt.of h2;let#[t,rfl]:=rx;let#[t',rfl]:=ry;let#[j,h1,h2,h3,h4,h5]:=ZP he;have hl:z.cps.toList.length=z.length:=by simp [Str.length]
 rw[hl]at h1 h4 h5;have hn:=k8
 exact tail_any (typeIs_str s z t) slot_str_getitem.lookup (getItem_str (c:=c) (by
  have e1:decide (i < -(2 ^ 63:Int))=Bd:=u9 ⋯;have e2:decide (i ≥ 2 ^ 63)=Bd:=u9 ⋯
  rw[e1,e2,Bool.or_false]) (by rw[h1];simpa using h2) #[.str ⟨#[c]⟩,H,I.tok _,#[_,rfl],q]) hs
def rIx(K:sL):R2:=λx y H Q=>match x with | .ref p=>onInt y λi=>(∃xs,SqL K H p xs/\∃v,atI xs i=Ba v/\Q v H)\/∃xs,SqT K H p xs/\∃v,atI xs i=Ba v/\Q v H | .str z=>zaQ (.str z) y H Q | _=>False
def rIx.of{K:sL}(h:rIx K x y H Q):zdC K x y H Q\/uI K x y H Q\/zaQ x y H Q:=by unfold rIx at h;cases x <;> first | exact .inr (.inr h) | (let#[i,rfl,h]:=onInt.of h;exact h.elim .inl λh=>.inr (.inl h)) | exact h.elim
def zaB:IxR X (rIx X.K):=λa b Be s σ H x y v u Q I rx ry h hs=>(ix_list.or (t7.or Y0)) a b Be s σ H x y v u Q I rx ry h.of hs
def VY(its:List sN)(n j:Nat)(u:sN):Obj.mapSeq (·.setIfInBounds j u) { cls:=.type "list",data:=.seq its.toArray n }={ cls:=.type "list",data:=.seq (its.set j u).toArray n }:=by simp [Obj.mapSeq]
def Inv.lst{Be:List (sM × tZ)}{σ:St}{H:Hp}{s:sP}{p:sM}{xs:List V}(I:Inv X Be σ H s)(h:H p=Ba (.lst xs)) :
  ∃(its:List sN) (n:Nat),Vals xs its/\s.heap.get? p=Ba { cls:=.type "list",data:=.seq its.toArray n }/\xs.length<=sK:=by let#[z,its,n,r,e]:=I.hok p _ h;exact#[its,n,r,e,z]
def Inv.lstUpd{its its':List sN}(I:Inv X Be σ H s)(h:H p=Ba (.lst xs))(ho:s.heap.get? p=Ba { cls:=.type "list",data:=.seq its.toArray n })(hf:f { cls:=.type "list",data:=.seq its.toArray n }={ cls:=.type "list",data:=.seq its'.toArray n' })(r:Vals ys its')(hz:ys.length<=sK)(t:Nat) :
  Inv X Be σ (upd H p (.lst ys)) { s with heap:=s.heap.update p f,toks:=t }:=by
 have e:(s.heap.update p f).get? p=Ba { cls:=.type "list",data:=.seq its'.toArray n' }:=by
  rw[cu f ho (by rw[hf] <;> rfl),hf]
 refine I.write (x:=p) (e:=p) (by rw[h];trivial) (.inl rfl) (λb u hb q=>(az _ _ (Ne.symm hb)).trans q) #[_,e] ?_;exact#[hz,its',n',r,e]
def zgu:V->V->V->Hp->(Hp->Prop)->Prop:=λo i v H Q=>∃p xs k j,o=.ref p/\i=.int k/\H p=Ba (.lst xs)/\ixN xs.length k=Ba j/\Q (upd H p (.lst (xs.set j v)))
theorem W8:zgk X zgu:=by
 intros o i v ov iv u Q I ro ri rv h;let#[p,xs,k,j,rfl,rfl,hp,hj,q]:=h;cases ro;let#[t,rfl]:=ri;let#[its,n,r,ho,hz]:=I.lst hp;let#[h1,h2,h3,h4]:=Qc hj;have hl:=r.length;have hn:=k8
 have I':Inv X Be σ (upd H p (.lst (xs.set j v))) { s with heap:=s.heap.update p (Obj.mapSeq (·.setIfInBounds j u)) } :=
  I.lstUpd hp ho (VY its n j u) (r.set rv j) (by rw[List.length_set];exact hz) s.toks
 by_cases h0:0<=k
 ·have hk:k.toNat=j:=by
   rw[seqIndex_of h0 h4]at h1;exact Option.some.inj h1
  exact PySem.W.ki_setAt ho h0 ⋯ (by rw[ak,<- hl];exact h4) (by rw[hk];exact#[_,I',q])
 ·have hk:(k+(its.toArray.size:Int)).toNat=j:=by
   rw[seqIndex_neg ⋯ h3]at h1;rw[ak,<- hl];exact Option.some.inj h1
  exact PySem.W.ki_setBack ho ⋯ (by rw[ak,<- hl];exact h3) ⋯ (by rw[hk];exact#[_,I',q])
theorem Y2(lo hi:Option Int)(n:Nat):(sliceBounds lo hi Bb n).1=((HT.sIx n 0 lo:Nat):Int)/\(sliceBounds lo hi Bb n).2.1=((HT.sIx n n hi:Nat):Int)/\(sliceBounds lo hi Bb n).2.2=1:=by
 refine#[?_,?_,rfl]
 ·cases lo with
  | none=>simp [sliceBounds,HT.sIx]
  | some i =>
   erw[sliceBounds,HT.sIx,gF,show (1:Int) > 0 by decide,if_true]
   by_cases h:i<0
   ·erw[h,if_true] <;> lia
   ·erw[h,if_false] <;> lia
 ·cases hi with
  | none=>simp [sliceBounds,HT.sIx]
  | some i =>
   erw[sliceBounds,HT.sIx,gF,show (1:Int) > 0 by decide,if_true]
   by_cases h:i<0
   ·erw[h,if_true] <;> lia
   ·erw[h,if_false] <;> lia
def ZW(its:List sN)(lo hi:Option Int):slicePick its.toArray lo hi Bb=((its.drop (HT.sIx its.length 0 lo)).take (HT.sIx its.length its.length hi - HT.sIx its.length 0 lo)).toArray:=by
 let#[h1,h2,h3]:=Y2 lo hi its.toArray.size;unfold slicePick;rw[h1,h2,h3]
 erw[sliceRange_one,pick_run,ak] <;> rfl
def zdz(K:sL):V->Option Int->Option Int->Hp->VK->Prop:=λx lo hi H Q=>onRef x λa=>∃xs,SqL K H a xs/\∀p,H p=Bb->Q (.ref p) (upd H p (.lst (Ur xs lo hi)))
theorem jB:SlR X (zdz X.K):=by intros x v vl vu lo hi sl Q I rx hs pl pu h;let#[a,rfl,xs,hx,q]:=onRef.of h;cases rx;let#[its,r,ht,hz]:=I.list hx;have hlen:=r.length;refine#["list",_,slot_list_getitem.lookup,ht.isList.typeIs,?_];refine wpAny_getItem_list_slice ht.isList hs pl pu .none (by simp) ?_ (by rw[ak] <;> lia);rw[ZW,<- hlen];refine#[.ref s⁻¹,_,I.laid (t':=s.toks) (o:=.lst (Ur xs lo hi)) (λb ob q=>ag _ q) (al _) ?_,rfl,q _ (I.hok.fresh (al _))];exact#[aH (Xw xs lo hi) hz,_,0,(r.drop (HT.sIx xs.length 0 lo)).take (HT.sIx xs.length xs.length hi - HT.sIx xs.length 0 lo),aE _ rfl]
def zeM:V->Bool
 | .non=>Bc
 | .bl _=>Bc
 | .int _=>Bc
 | .str _=>Bc
 | _=>Bd
def eqV:V->V->Bool
 | .non,.non=>Bc
 | .bl a,.bl b=>a == b
 | .bl a,.int b=>(if a then 1 else 0) == b
 | .int a,.bl b=>a ==(if b then 1 else 0)
 | .int a,.int b=>a == b
 | .str a,.str b=>a == b
 | _,_=>Bd
theorem WM(ry:RelV y u)(rx:RelV x v)(fy:zeM y=Bc)(fx:zeM x=Bc):SeqAt.EqAt A s u v (eqV y x):=by
 cases y with
 | non =>
  cases ry
  cases x with
  | non=>cases rx;exact SeqAt.EqAt.same _
  | bl b=>cases rx;exact SeqAt.EqAt.none_bool b
  | int b=>let#[t,rfl]:=rx;exact SeqAt.EqAt.none_int b t
  | str b=>let#[t,rfl]:=rx;exact SeqAt.EqAt.none_str b t
  | _=>exact w4 (show Bd=Bc from fx) aD
 | bl a =>
  cases ry
  cases x with
  | non=>cases rx;exact SeqAt.EqAt.bool_none a
  | bl b=>cases rx;exact SeqAt.EqAt.bool_bool a b
  | int b=>let#[t,rfl]:=rx;exact SeqAt.EqAt.bool_int a b t
  | str b=>let#[t,rfl]:=rx;exact SeqAt.EqAt.bool_str a b t
  | _=>exact w4 (show Bd=Bc from fx) aD
 | int a =>
  let#[t',rfl]:=ry
  cases x with
  | non=>cases rx;exact SeqAt.EqAt.int_none a t'
  | bl b=>cases rx;exact SeqAt.EqAt.int_bool a t' b
  | int b=>let#[t,rfl]:=rx;exact SeqAt.EqAt.int_int a t' b t
  | str b=>let#[t,rfl]:=rx;exact SeqAt.EqAt.int_str a t' b t
  | _=>exact w4 (show Bd=Bc from fx) aD
 | str a =>
  let#[t',rfl]:=ry
  cases x with
  | non=>cases rx;exact SeqAt.EqAt.str_none a t'
  | bl b=>cases rx;exact SeqAt.EqAt.str_bool a t' b
  | int b=>let#[t,rfl]:=rx;exact SeqAt.EqAt.str_int a t' b t
  | str b=>let#[t,rfl]:=rx;exact SeqAt.EqAt.str_str a t' b t
  | _=>exact w4 (show Bd=Bc from fx) aD
 | _=>exact w4 (show Bd=Bc from fy) aD
theorem xF:wX X (.type "list") (λxs H Q=>∃p ys,xs=[.ref p]/\(SqL X.K H p ys\/SqT X.K H p ys)/\∀l,H l=Bb->Q (.ref l) (upd H l (.lst ys))):=by
 intros xs us Q I r h;let#[p,ys,rfl,hq,q]:=h;let#[u,rfl,rx]:=wK r;cases rx
 have fin:∀(its:List sN),Vals ys its->ys.length<=sK->∀(h':tB) (c':Nat),(∀b o',s.heap.get? b=Ba o'->h'.get? b=Ba o') ->
   h'.get? s⁻¹=Ba { cls:=.type "list",dict:=Bb,data:=.seq its.toArray c',slots:=#[] }->EP X Be σ Q (.ref s⁻¹) { s with heap:=h' }:=λits r' hz h' c' kp e =>
  #[.ref s⁻¹,_,I.laid (t':=s.toks) kp (al _) (show ObjOk X.prog X.w _ h' _ (.lst ys)from #[hz,its,c',r',e]),rfl,q _ (I.hok.fresh (al _))]
 rcases hq with hq | hq
 ·let#[its,r',pl,hz]:=I.list hq;have hlen:=r'.length;let#[o,ho,hc,n,hd]:=pl.isList;exact call_list_seq p (.inl rfl) ho hc hd (λh' c' kp e=>fin its r' hz h' c' kp e) (by erw[ak] <;> lia)
 ·let#[its,r',pl,hz]:=I.tuple hq;have hlen:=r'.length;let#[o,ho,hc,n,hd]:=pl;exact call_list_seq p (.inr rfl) ho hc hd (λh' c' kp e=>fin its r' hz h' c' kp e) (by erw[ak] <;> lia)
def tyV(K:sL)(T:String)(x:V)(H:Hp):Prop:=match x with
 | .str _=>T="str"
 | .int _=>T="int"
 | .ref p=>(T="list"/\∃xs,SqL K H p xs)\/(T="tuple"/\∃o,K.lookup p=Ba o/\o.cls=.type "tuple"/\o.dict=Bb) \/
   (T="dict"/\((∃kvs,H p=Ba (.dK kvs))\/∃kvs,H p=Ba (.dT kvs)))\/(T="set"/\∃S n,H p=Ba (.set S n))
 | _=>False
theorem zaD(I:Inv X Be σ H s)(r:RelV x v)(ty:tyV X.K T x H) :
  s.TypeIs v T/\∀a,v=.ref a->∃ob,s.heap.get? a=Ba ob/\ob.dict=Bb:=by
 cases x with
 | str z =>
  let#[t,rfl]:=r;cases (show T="str" from ty);exact#[typeIs_str s z t,λZ e=>nomatch e]
 | int i =>
  let#[t,rfl]:=r;cases (show T="int" from ty);exact#[typeIs_int s i t,λZ e=>nomatch e]
 | ref p =>
  cases r;rcases ty with ⟨rfl,xs,hq⟩ | ⟨rfl,o,hk,hc,hd⟩ | ⟨rfl,hk⟩ | ⟨rfl,S,n,hk⟩
  ·let#[its,_,pl,_]:=I.list hq;refine#[pl.isList.typeIs,λa e=>?_];cases e;let#[o,n,e,c,hd,_]:=pl;exact#[o,e,hd]
  ·refine#[#[o,I.kIn p o hk,hc],λa e=>?_];cases e;exact#[o,I.kIn _ o hk,hd]
  ·have z:∃o,s.heap.get? p=Ba o/\o.ExactDict:=by
    rcases hk with ⟨kvs,hk⟩ | ⟨kvs,hk⟩
    ·let#[_,_,_,_,o,_,_,e,ex,_]:=I.hok p _ hk;exact#[o,e,ex]
    ·let#[_,_,_,_,o,_,_,e,ex,_]:=I.hok p _ hk;exact#[o,e,ex]
   let#[o,e,ex]:=z;refine#[#[o,e,ex.1],λa e2=>?_];cases e2;exact#[o,e,ex.2.1]
  ·let#[o,_,_,_,e,ex,_]:=I.hok p _ hk;refine#[#[o,e,ex.1],λa e2=>?_];cases e2;exact#[o,e,ex.2.1]
 | _=>exact False.elim ty
def zff(K:sL)(T:String)(r:V->List V->Hp->VK->Prop)(to:TE):TE:=λσ H Q=>to σ H λx H1=>tyV K T x H1/\r x [] H1 Q
def tBM(K:sL)(T:String)(r:V->List V->Hp->VK->Prop)(to:TE)(t:TA):TE:=λσ H Q=>to σ H λx H1=>tyV K T x H1/\t σ H1 λxs H2=>r x xs H2 Q
variable{o e:tR}{es:List tR}{to:TE}{t:TA}{name:sS}{apos cpos:AW}{T id:String}{r:V->List V->Hp->VK->Prop}
def zeN(pa:PlainAttrs T)(slot:Slot T name id)(hty:typeOf (.builtin id)=pure (.type "method_descriptor"))(hm:MtR X id r)(ho:PE X o to)(hbase:‹attributeBase o name X.env (eval o X.env)=eval o X.env›) (hline:‹(apos.endLine == cpos.line)=Bc›):PE X (.Call (.Attribute o name apos) [] [] cpos) (zff X.K T r to):=by intros Q I h;refine wpAny_Call_method0_late hbase hline (thn (ho Be s σ H _ I h) λv s1=>el5 λx H1 I1 r1=>ua2 λty q1=>?_);let#[h1,h2]:=zaD I1 r1 ty;exact#[T,id,pa,slot,hty,h1,h2,Calls.callWith_builtin rfl (PySem.evalArgs_none (hm Be s1 σ H1 x [] v [] Q I1 r1 .nil q1))]
def wf(pa:PlainAttrs T)(slot:Slot T name id)(hty:typeOf (.builtin id)=pure (.type "method_descriptor"))(hm:MtR X id r)(ho:PE X o to)(ha:PA X (e::es) t)(hbase:‹attributeBase o name X.env (eval o X.env)=eval o X.env›)(hfew:((tw cpos (sJ (e::es) X.env)).all (λx=>!x.1) && (tE cpos (tj [] X.env)).all (λx=>x.1.isSome)
   && decide ((e::es).length+([]:List Ax).length+(if ([]:List Ax).isEmpty then 0 else 1)<30))=Bc:=by rfl)(hline:‹(apos.endLine == cpos.line)=Bc›) (hs:‹sJ (e::es) X.env=(Bd,eval e X.env)::sJ es X.env›) (hplain:‹(tw cpos (sJ es X.env)).any (·.1)=Bd›) :
  PE X (.Call (.Attribute o name apos) (e::es) [] cpos) (tBM X.K T r to t):=by intros Q I h;refine Ao hbase hfew hline rfl (thn (ho Be s σ H _ I h) λv s1=>el5 λx H1 I1 r1=>ua2 λty q1=>?_);let#[h1,h2]:=zaD I1 r1 ty;refine#[T,id,pa,slot,hty,h1,h2,?_];have hA:=ha cpos Be s1 σ H1 _ I1 q1;rw[hs]at hA ⊢;refine Calls.callWith_builtin (by show (Bd || (tw cpos (sJ es X.env)).any (·.1))=Bd;rw[hplain] <;> rfl) (Calls.evalArgs_plain ?_);exact thn hA λus s2=>el5 λvs H2 I2 r2 q2=>hm Be s2 σ H2 x vs v us Q I2 r1 r2 q2
/- xs.append(e),list.index on a module's tuple .. are MtR facts of 06m -/
end
end
mutual section
def MtM(X:Cx)(id:String)(r:V->List V->Hp->VK->Prop):Prop :=
 ∀(Be:List (sM × tZ)) (s:sP) (σ:St) (H:Hp) (x:V) (xs:List V) (v:sN) (us:List sN) (Q:VK),Inv X Be σ H s->RelV x v->Vals xs us->r x xs H Q ->
  sQ (model X.prog X.w) X.A (call (.builtin id) (v::us)) (EP X Be σ Q) X.xe s
theorem Vals.one(h:Vals [x] us):∃u,us=[u]/\RelV x u:=by
 cases h with
 | cons r t =>
  cases t;exact#[_,rfl,r]
theorem Vals.two(h:Vals [x,y] us):∃u v,us=[u,v]/\RelV x u/\RelV y v:=by
 cases h with
 | cons r t =>
  let#[u,rfl,q]:=Vals.one t;exact#[_,_,rfl,r,q]
theorem Vals.zero:∀{us:List sN},Vals [] us->us=[]
 | _,.nil=>rfl
theorem Vals.dropLast(h:Vals xs us):Vals xs.dropLast us.dropLast:=by
 induction h with
 | nil=>exact .nil
 | cons r t ih =>
  cases t with
  | nil=>exact .nil
  | cons q t'=>exact .cons r ih
theorem Vals.eraseIdx:∀{xs:List V} {us:List sN} (i:Nat),Vals xs us->Vals (xs.eraseIdx i) (us.eraseIdx i)
 | _,_,_,.nil=>.nil
 | _,_,0,.cons _ t=>t
 | _,_,i+1,.cons r t=>.cons r (Vals.eraseIdx i t)
theorem Vals.reverse(h:Vals xs us):Vals xs.reverse us.reverse:=by
 induction h with
 | nil=>exact .nil
 | cons r t ih=>rw[List.reverse_cons,List.reverse_cons];exact Vals.append ih (.cons r .nil)
theorem Uj{α:Type}(l:List α):l.eraseIdx (l.length - 1)=l.dropLast:=by
 induction l with
 | nil=>rfl
 | cons a r ih =>
  cases r with
  | nil=>rfl
  | cons b r =>
   have e:(a::b::r).length - 1=((b::r).length - 1)+1:=by
    have h1:(a::b::r).length=r.length+2:=rfl;have h2:(b::r).length=r.length+1:=rfl;lia
   rw[e,cL,ih]
   all_goals rfl
theorem YD{α:Type}:∀(l:List α) (i:Nat),(l.eraseIdx i).length<=l.length
 | [],_=>al _
 | _::_,0=>cP _
 | _::r,i+1=>cj (YD r i)
def Inv.lset{its its':List sN}(I:Inv X Be σ H s)(hH:H l=Ba (.lst xs))(e:s.heap.get? l=Ba { cls:=.type "list",data:=.seq its.toArray n })(hf:f its.toArray=its'.toArray)(hv:Vals ys its')(hz:ys.length<=sK) :
  Inv X Be σ (upd H l (.lst ys)) { s with heap:=s.heap.update l (Obj.mapSeq f),toks:=t' }:=by have q:=PySem.IsL.update e f;rw[hf]at q;refine I.write (x:=l) (e:=l) (by rw[hH];exact trivial) (.inl rfl) (λb' u hb hu=>(az s.heap (Obj.mapSeq f) (Ne.symm hb)).trans hu) #[_,q] ?_;exact#[hz,its',_,hv,q]
def Inv.lnew(I:Inv X Be σ H s)(hv:Vals ys its)(hz:ys.length<=sK) :
  Inv X Be σ (upd H s⁻¹ (.lst ys)) { s with heap:=s.heap.push { cls:=.type "list",data:=.seq its.toArray },toks:=t' } :=
 I.laid (λZ Z q=>ag _ q) (al _) #[hz,its,0,hv,aE _ rfl]
def Inv.fresh(I:Inv X Be σ H s):H s⁻¹=Bb:=I.hok.fresh (al _)
def Inv.lstM(I:Inv X Be σ H s)(hH:H l=Ba (.lst xs)):xs.length<=sK/\∃(its:List sN) (n:Nat),Vals xs its/\xs.length=its.length/\s.heap.get? l=Ba { cls:=.type "list",data:=.seq its.toArray n }:=by let#[z,its,n,r,e]:=I.hok l _ hH;exact#[z,its,n,r,r.length,e]
def zaf(h:n<=sK):Builtin.List.listTooLong n=Bd:=by unfold Builtin.List.listTooLong;exact u9 ⋯
def QM:V->List V->Hp->VK->Prop:=λx vs H Q=>onRef x λl=>match vs with | [y]=>∃xs,H l=Ba (.lst xs)/\xs.length<sK/\Q .non (upd H l (.lst (xs ++ [y]))) | _=>False
def yx:MtM X "list.append" QM:=by
 intros x vs v us Q I rx rv h;let#[l,rfl,h2]:=onRef.of h
 obtain⟨y,rfl,xs,hH,hz,q⟩:∃y,vs=[y]/\∃xs,H l=Ba (.lst xs)/\xs.length<sK/\Q .non (upd H l (.lst (xs ++ [y]))):=by
  split at h2
  ·exact#[_,rfl,h2]
  ·exact h2.elim
 cases rx;let#[u,rfl,ru]:=rv.one;let#[z,its,n,r,hl,e]:=I.lstM hH;refine call_meets F.slot_list_append #[_,e,rfl] F.entry_list_append (F.args_list_append_2 _ _) (PySem.list_append l its.toArray n u (by rw[ak];lia)) #[e,?_];refine#[.non,_,I.lset (its':=its ++ [u]) hH e (by simp) (r.append (.cons ru .nil)) ?_,rfl,q];rw[aj,fV];lia
def Q4:V->List V->Hp->VK->Prop:=λx vs H Q=>∃l b xs zs,x=.ref l/\vs=[.ref b]/\H l=Ba (.lst xs)/\H b=Ba (.lst zs)/\xs.length+zs.length<=sK/\Q .non (upd H l (.lst (xs ++ zs)))
def UF:MtM X "list.extend" Q4:=by
 intros x vs v us Q I rx rv h;let#[l,b,xs,zs,rfl,rfl,hH,hB,hz,q]:=h;cases rx;let#[u,rfl,ru]:=rv.one;cases ru;let#[z,its,n,r,hl,e]:=I.lstM hH;let#[z2,its2,n2,r2,hl2,e2]:=I.lstM hB;have hsz:its.toArray.size+its2.toArray.size<=sK:=by rw[ak,ak];lia
 have hlong:¬ (!its.toArray.isEmpty && Builtin.List.listTooLong (its.toArray.size+its2.toArray.size))=Bc:=by
  rw[zaf hsz,dJ];exact aD
 refine call_meets F.slot_list_extend #[_,e,rfl] F.entry_list_extend (F.args_list_extend_2 _ _)
  (AutoSeq1.list_extend_list_list_0 l its.toArray n b its2.toArray n2 hlong (by rw[ak];lia) ⋯) #[e,e2,?_]
 refine#[.non,_,I.lset (its':=its ++ its2) hH e (by simp) (r.append r2) ?_,rfl,q];rw[aj];lia
def zhd:V->List V->Hp->VK->Prop:=λx vs H Q=>∃l xs y,x=.ref l/\vs=[]/\H l=Ba (.lst xs)/\xs[xs.length - 1]? = Ba y/\Q y (upd H l (.lst xs.dropLast))
def zgW:MtM X "list.pop" zhd:=by
 intros x vs v us Q I rx rv h;let#[l,xs,y,rfl,rfl,hH,hy,q]:=h;cases rx;have hus:=rv.zero;subst hus;let#[z,its,n,r,hl,e]:=I.lstM hH;let#[u,hu,ru]:=r.get hy
 have hy':its.toArray[its.toArray.size - 1]? = Ba u:=by
  show its.toArray[its.length - 1]? = Ba u;rw[<- fW,<- hl];exact hu
 refine call_meets F.slot_list_pop #[_,e,rfl] F.entry_list_pop (F.args_list_pop_1 _) (MeetsSeq.list_pop_last l its.toArray n u hy' (by rw[ak];lia)) #[e,?_];refine#[y,_,I.lset (its':=its.dropLast) hH e ?_ r.dropLast ?_,ru,q]
 ·show its.toArray.eraseIdxIfInBounds (its.toArray.size - 1)=its.dropLast.toArray;rw[ak,d6,Uj]
 ·rw[List.length_dropLast];lia
def zeb:V->List V->Hp->VK->Prop:=λx vs H Q=>∃l xs i k y,x=.ref l/\vs=[.int i]/\H l=Ba (.lst xs)/\-(2 ^ 63)<=i/\i<2 ^ 63/\seqIndex? i xs.length=Ba k/\xs[k]? = Ba y/\Q y (upd H l (.lst (xs.eraseIdx k)))
def zal:MtM X "list.pop" zeb:=by
 intros x vs v us Q I rx rv h;let#[l,xs,i,k,y,rfl,rfl,hH,h1,h2,hk,hy,q]:=h;cases rx;let#[u,rfl,ru]:=rv.one;let#[t,rfl]:=ru;let#[z,its,n,r,hl,e]:=I.lstM hH;let#[w,hw,rw']:=r.get hy
 refine call_meets F.slot_list_pop #[_,e,rfl] F.entry_list_pop (F.args_list_pop_2 _ _)
  (MeetsSeq.list_pop_at l its.toArray n i t k w (fitsIndex_both h1 h2) (by rw[ak,<- hl];exact hk) (by rw[<- fW];exact hw) (by rw[ak];lia)) #[e,?_]
 refine#[y,_,I.lset (its':=its.eraseIdx k) hH e ?_ (r.eraseIdx k) ?_,rw',q]
 ·show its.toArray.eraseIdxIfInBounds k=(its.eraseIdx k).toArray;rw[d6]
 ·have:=YD xs k;lia
def Vb:V->List V->Hp->VK->Prop:=λx vs H Q=>∃l xs,x=.ref l/\vs=[]/\H l=Ba (.lst xs)/\Q .non (upd H l (.lst xs.reverse))
def VN:MtM X "list.reverse" Vb:=by intros x vs v us Q I rx rv h;let#[l,xs,rfl,rfl,hH,q]:=h;cases rx;have hus:=rv.zero;subst hus;let#[z,its,n,r,hl,e]:=I.lstM hH;refine call_meets F.slot_list_reverse #[_,e,rfl] F.entry_list_reverse (F.args_list_reverse_1 _) (AutoSeq1.list_reverse_list_0 l its.toArray n (by rw[ak];lia)) #[e,?_];refine#[.non,_,I.lset (its':=its.reverse) hH e (by simp) r.reverse ?_,rfl,q];rw[bL];lia
def zdj:R2:=λx y H Q=>onRef x λl=>onRef y λb=>∃xs,H l=Ba (.lst xs)/\∃zs,H b=Ba (.lst zs)/\xs.length+zs.length<=sK/\∀p,H p=Bb->Q (.ref p) (upd H p (.lst (xs ++ zs)))
def W9:OpR X (binaryOp .Add) zdj:=by
 intros x y v u Q I rx ry h;let#[l,rfl,h2]:=onRef.of h;let#[b,rfl,xs,hH,zs,hB,hz,q]:=onRef.of h2;cases rx;cases ry;let#[z,its,n,r,hl,e]:=I.lstM hH;let#[z2,its2,n2,r2,hl2,e2]:=I.lstM hB;refine PySem.P.add_list e e2 ?_ (by rw[ak,ak];lia);have ea:its.toArray ++ its2.toArray=(its ++ its2).toArray:=by simp
 rw[ea];exact#[.ref _,_,I.lnew (t':=s.toks) (r.append r2) (by rw[aj];lia),rfl,q _ I.fresh]
theorem len_rep{α:Type}(xs:List α)(k:Nat):(aR k xs).flatten.length=k * xs.length:=by
 induction k with
 | zero=>simp
 | succ k ih=>rw[cM,dO,aj,ih,d8,Nat.add_comm]
end
end L2
namespace Att
open PySem PySem.W PySem.Calls PyProof.Rows
theorem jt : ∀(ns:List Int) (vs:List sN),WellAll P h vs (ns.map WData.int)->AH vs ns:=by
 intro ns
 induction ns with
 | nil =>
  intro vs w;rw[aI]at w;cases w;exact .nil
 | cons n ns ih =>
  intro vs w;rw[ao]at w
  cases w with
  | cons a b =>
   cases a;exact .cons _ _ (ih _ b)
theorem script_of{l:AY}(hn:l.most=Ba n)(hpre:l.row.toRowW.claim.pre args=Bc)(hwl:WellAll P h vals args) :
  ∃a vs ns,vals=[r8 a]/\args=[WData.list (ns.map WData.int)]/\h.get? a=Ba { cls:=.type "list",data:=.seq vs.toArray }/\AH vs ns/\ns.length<=n:=by
 have hsh:WShape.hasAll [] args [.list .int]=Bc:=(pre_splitW hpre).1;have hc:l.pre.holds [] { args:=args }=Bc:=(pre_splitW hpre).2;let#[d,r,rfl,h1,h2]:=hasAllW_cons hsh;obtain rfl:=hasAllW_nil h2;let#[xs,rfl,h3]:=hasW_list h1;let#[ns,rfl]:=items_int h3
 have hlen:ns.length<=n:=by
  unfold OpenLaw.pre at hc
  have h4:(WTm.not (.lt (.lit (.int (n:Int))) (.len (.arg 0)))).holds [] { args:=[.list (ns.map .int)] }=Bc:=by
   have h4:=(holds_andW hc).1;rw[hn]at h4;exact h4
  have h5:=condW_of h4 (w_not (w_lt w_lit (w_len_list (w_arg rfl))));rw[aa]at h5;refine cp λq=>?_;have q':(n:Int)<((ns.length:Nat):Int):=⋯
  first
   | (rw[u6 q']at h5;exact w4 h5 ∅)
   | (simp at h5;lia)
 cases hwl with
 | cons w1 w2 =>
  cases w2
  cases w1 with
  | list ho hall=>exact#[_,_,ns,rfl,rfl,ho,jt ns _ hall,hlen]
def post_true(l:AY)(args:List WData):l.row.toRowW.claim.post args (.bool Bc) args=Bc :=
 postW_of (r:=l.row.toRowW) (X:=(Bc == Bc))
  (show WShape.has [] (.bool Bc) .bool=Bc by first | rfl | decide | simp [WShape.has,WShape.arms,WShape.armsAll])
  (show (WTm.eq .res (.lit (.bool Bc))).value [] { args:=args,res:=Ba (.bool Bc),after:=args }=Ba (.bool (Bc == Bc))from w_eq_bool (w_res rfl) w_lit) rfl
def attach{l:AY}(hn:l.most=Ba n)(hdf:d.params.defaults=[])(hbind:∀pm cd doc v:sN,bindArgs (docDef d.name d.params d.body d.scope pm cd doc) #[[v],[]]=pure [(x,v)])(hx:d.scope.names.lookup x=Ba .local\/d.scope.names.lookup x=Ba .cell)(hk:d.scope.kind=.function)(hco:d.scope.isCoroutine=Bd)(hgen:d.scope.isGenerator=Bd)(body:∀(w:sZ) (s₀ s₁ s:sP) (mg mb:sS->Option sN) (fa:sM) (o:tZ) (pm cd doc:sN) (a:sM) (vs:List sN) (ns:List Int),
   Ground q loose [] XP w s₀ mg mb s₁.heap->YP w s₁.heap ->
   s₁.heap.get? fa=Ba o->o.data=.func (docDef d.name d.params d.body d.scope pm cd doc)->s₁.heap.CodeRec cd d.name->mg d.name=Ba (.ref fa) ->
   s₁.heap.get? a=Ba { cls:=.type "list",data:=.seq vs.toArray }->AH vs ns->ns.length<=n ->
   s.gens=#[]->s.os=s₁.os ->
   Fr s₁.heap s₁⁻¹ s.heap (bindL (Ab d.name d.scope s₁⁻¹ fa cd).kindOf [(x,.ref a)] λZ=>Bb) ->
   Cl s₁⁻¹ (cellsFrom (s₁⁻¹+1) d.scope.names []) s.heap (bindC (Ab d.name d.scope s₁⁻¹ fa cd).kindOf [(x,.ref a)] λZ=>Bb) ->
   sQ (model l.prog w) (callerA.deeper (Ab d.name d.scope s₁⁻¹ fa cd)) (execs d.body (Ab d.name d.scope s₁⁻¹ fa cd))
    (λf s'=>f=.ret (.bool Bc)/\OldK s₁.heap s'.heap/\s'.os=s₁.os/\Ag s'.gens) (λZ Z=>False) s) :
  WalkO q loose XP YP l.row.toRowW d [] (λf vs=>gg f vs):=by
 intro w s₀ s₁ mg mb G Y fa o pm cd doc dV kV ho hd hcd hD hmg hg args vals as hpre hlay hrd hwl hlo;obtain rfl:dV=.none:=Dflts.none hD hdf;obtain rfl:kV=.none:=Dflts.noKw hD;let#[a,vs,ns,rfl,rfl,hobj,hints,hlen]:=script_of hn hpre hwl;refine enter_call ?_;refine call_cells_ret (o:=o) (by rw[depth_caller];decide) ho (fd_plain hd) G.T.nolimit hcd (hbind pm cd doc (.ref a)) (λy hy=>?_) (λh₁ tk F X=>?_) hco hgen hk
 ·obtain rfl:y=(x,r8 a):=Bm.mp hy;rcases hx with e | e
  ·exact .inl e
  ·exact .inr #[e,cellsFrom_some _ _ _ (.inl e)]
 ·refine tO (body w s₀ s₁ { s₁ with heap:=h₁,toks:=tk } mg mb fa o pm cd doc a vs ns G Y ho (fd_plain hd) hcd hmg hobj hints hlen hg rfl F X) (λf s' hq=>?_) (λZ Z hq=>hq);let#[rfl,h2,h3,h4]:=hq;exact#[.inl #[.bool Bc,.bool Bc,[],rfl,λZ=>rfl,.bool Bc,post_true l _,λZ=>#[List.Pairwise.nil,λZ hm=>(nomatch hm)]],h2,h3,h4]
end in def zgT(h:tB)(L d:sM):List (sM × tZ):=(aK h.objs.size).filterMap λa=>if a=L\/a=d then Bb else (h.get? a).map λo=>(a,o)
end Att
namespace L2
theorem Xh:∀{vs:List sN} {ns:List Int},AH vs ns->Vals (ns.map V.int) vs
 | _,_,.nil=>.nil
 | _,_,.cons n t h=>.cons #[t,rfl] (Xh h)
end in def yF(s:sV)(j:Nat):sV:=match s with
 | .ClassDef _ _ _ body _ _ _ _ _ _ _=>body.getD j (.Pass #[0,0,0,0])
 | _=>.Pass #[0,0,0,0]
end in def yP(s:sV):AM:=match s with
 | .FunctionDef _ a _ _ _ _ _ _ _ _=>a
 | _=>{ posonlyargs:=[],args:=[],vararg:=Bb,kwonlyargs:=[],kw_defaults:=[],kwarg:=Bb,defaults:=[] }
end in def yl(s:sV):List sV:=match s with
 | .FunctionDef _ _ b _ _ _ _ _ _ _=>b
 | _=>[]
end in def zi(s:sV):Aj:=match s with
 | .FunctionDef _ _ _ _ _ _ sc _ _ _=>sc
 | _=>{ kind:=.function,names:=[],isGenerator:=Bd,isCoroutine:=Bd }
abbrev CX0:CXT:=λZ Z Z Z Z Z=>False
end in abbrev E0:XK:=λZ Z Z=>False
def V1 : qo CX0 X E0:=λZ Z Z Z Z Z Z h=>h.elim
structure Fun(K:sL)(x qual:sS)(st:sV)(f:sM)(fd:tW):Prop where
 ex:∃(oc:sN) (od:Option sM) (kV doc pm:sN) (an:Option sM) (cdv ct:sN) (osl:Array (Option sN)),
  fd=bD x qual (yP st) (yl st) (zi st) .none kV doc pm an cdv ct/\K.lookup f=Ba #[oc,od,.func fd,osl]/\cb K cdv qual=Bc
 kp:aP K (.ref f)=Bc
section
variable{P:sU}{w:sZ}{K:sL}{mg:sS->Option sN}{base:tB}
def Fun.ok{st:sV}(F:Fun K x qual st f fd)(S:zo N ps (zi st))(len:∀vs H Q E,sp vs H Q E->vs.length=ps.length)(hbody:∀(cdv:sN) (A:tG) (outer:List AU) (s:sP) (H:Hp) (vs:List V) (Q:VK) (E:XK),Room k (A.deeper (Ab qual (zi st) s⁻¹ f cdv))->sp vs H Q E ->
   ∃t,PSs (qX CX0 P w K mg base N qual (zi st) f cdv A outer s H E).nox (yl st) t/\t { nx:=λZ H'=>Q .non H',rt:=Q } (start N vs) H):FnOk P w K mg base CX0 (k+1) f fd ps sp:=by let#[oc,od,kV,doc,pm,an,cdv,ct,osl,rfl,lk,hcd]:=F.ex;refine KH lk hcd S len λA outer s H vs Q E hr hsp=>?_;let#[t,h,q]:=hbody cdv A outer s H vs Q E hr hsp;exact#[t,h.nox,q]
def Fun.binds{x qual:sS}{st:sV}{f:sM}{fd:tW}{ps:List sS}(F:Fun K x qual st f fd)(h:∀(kV doc pm:sN) (an:Option sM) (cdv ct:sN) (us:List sN),us.length=ps.length->bindArgs (bD x qual (yP st) (yl st) (zi st) .none kV doc pm an cdv ct) #[us,[]]=pure (ps.zip us)):Binds K fd ps []:=by let#[oc,od,kV,doc,pm,an,cdv,ct,osl,rfl,lk,hcd]:=F.ex;exact .all (h kV doc pm an cdv ct)
def fun_mk{st:sV}{kV doc pm cdv ct:sN}(l:K.lookup f=Ba #[oc,od,.func (bD x qual (yP st) (yl st) (zi st) .none kV doc pm an cdv ct),osl])(c:cb K cdv qual=Bc)(k:aP K (.ref f)=Bc):Fun K x qual st f (bD x qual (yP st) (yl st) (zi st) .none kV doc pm an cdv ct):=#[#[oc,od,kV,doc,pm,an,cdv,ct,osl,rfl,l,c],k]
end
def pv(i:Nat)(hN:‹X.N[i]? = Ba x›)(hv:‹Vis X.env.scope x›)(hd:‹(x ==("__debug__" : sS))=Bd›)(hcd:‹(x ==("__classdict__" : sS))=Bd›):PE X (.Name x pos) (ya i):=zeU hN hv hd hcd
def zf5{A B:Prop}(h:A):if Bc=Bc then A else B:=by rw[w6 rfl];exact h
def yb{c A B:Prop}[Decidable c](h1:c->A)(h2:¬ c->B):if c then A else B:=by
 by_cases h:c
 ·rw[w6 h];exact h1 h
 ·rw[w9 h];exact h2 h
def Same(H H':Hp):Prop:=∀b o,H b=Ba o->H' b=Ba o
def Same.refl(H:Hp):Same H H:=λZ Z h=>h
def Same.trans(a:Same H H1)(b:Same H1 H2):Same H H2:=λc o h=>b c o (a c o h)
theorem Same.free(e:Same H H')(h:H' l=Option.none):H l=Option.none:=by
 cases q:H l with
 | none=>rfl
 | some o =>
  rw[e l o q]at h;cases h
def Same.seq{K:sL}(e:Same H H')(h:SqL K H a xs):SqL K H' a xs:=by
 rcases h with (h | ⟨o,h⟩) | h
 ·exact .inl (.inl (e _ _ h))
 ·exact .inl (.inr #[o,e _ _ h])
 ·exact .inr h
end L2
open L2
namespace L3
mutual section
abbrev St:=L2.St
abbrev cs(x:sS):():=x.cps.toList
abbrev tx(l:()):sS:=⟨l.toArray⟩
def zdS(x:sS):tx (cs x)=x:=by cases x;rfl
def j2(l:()):cs (tx l)=l:=rfl
def Wy(x:sS):x.length=(cs x).length:=by simp [Str.length,cs]
def zI(l:()):(tx l).length=l.length:=by simp [Str.length,tx]
def Xg(h:cs x=cs y):x=y:=by rw[<- zdS x,<- zdS y,h]
def wI(h:tx l=tx m):l=m:=by rw[<- j2 l,<- j2 m,h]
def zeq : tx l=tx m ↔ l=m:=#[wI,λh=>by rw[h]]
def yV(l m:()):tx l ++ tx m=tx (l ++ m):=by apply Xg;show (tx l ++ tx m).cps.toList=l ++ m;rw[Str.cps_append];simp
def cut{α:Type}(l:List α)(lo hi:Option Int):List α:=(l.drop (HT.sIx l.length 0 lo)).take (HT.sIx l.length l.length hi - HT.sIx l.length 0 lo)
def wW(l:List α)(lo hi:Option Int):(cut l lo hi).length<=l.length:=by unfold cut;rw[aC,aS];lia
def JG(a b:Nat):sliceRange (a:Int) (b:Int) 1=(aK (b - a)).map (λk=>a+k):=by
 unfold sliceRange
 have e:(if (1:Int) > 0 then (if (a:Int)<b then ((b:Int) - a+1 - 1) / 1 else 0)else (if (a:Int) > b then ((a:Int) - b - 1 - 1) / (-1)else 0)).toNat=b - a:=by
  rw[w6 ∅];by_cases h:(a:Int)<b
  ·rw[w6 h,Int.ediv_one];lia
  ·rw[w9 h];lia
 show (aK ((if (1:Int) > 0 then (if (a:Int)<b then ((b:Int) - a+1 - 1) / 1 else 0)else (if (a:Int) > b then ((a:Int) - b - 1 - 1) / (-1)else 0)).toNat)).map _=_;rw[e];refine bV λk Z=>?_;lia
theorem zbT(lo hi:Option Int)(n:Nat):p7 lo hi 1 n=(aK (HT.sIx n n hi - HT.sIx n 0 lo)).map (λk=>HT.sIx n 0 lo+k):=by
 rw[<- JG]
 have clip:∀(v:Int) (d:Nat),max 0 (min (if v<0 then v+(n:Int)else v) (n:Int))=((HT.sIx n d (Ba v):Nat):Int):=λv d=>by
  show _=(((if v<0 then (v+(n:Int)).toNat else min v.toNat n):Nat):Int);by_cases hv:v<0
  ·erw[w6 hv];lia
  ·erw[w9 hv];lia
 have h1:((1:Int) > 0)=True:=by simp
 unfold p7
 cases lo with
 | none =>
  cases hi with
  | none=>erw[h1,if_true];rfl
  | some j=>erw[h1,if_true,clip j n];rfl
 | some i =>
  cases hi with
  | none=>erw[h1,if_true,clip i 0];rfl
  | some j=>erw[h1,if_true,clip i 0,clip j n]
end
set_option tactic.hygienic true in
mutual section
def Uu(x:sS)(lo hi:Option Int):Txt.slice x lo hi=tx (cut (cs x) lo hi):=by
 have hn:x.length=x.cps.toList.length:=Wy x;have hj:HT.sIx x.length x.length hi<=x.length:=HT.sIx_le _ _ (al _) hi;have hi0:HT.sIx x.length 0 lo<=x.length:=HT.sIx_le _ _ (ar _) lo;unfold Txt.slice;rw[zbT];split
 ·rename_i h;have h':HT.sIx x.length x.length hi - HT.sIx x.length 0 lo=x.length:=by simpa using h
  apply Xg;show x.cps.toList=cut x.cps.toList lo hi;unfold cut;rw[<- hn];by_cases z:x.length=0
  ·have:x.cps.toList=[]:=eI ⋯;rw[this];simp
  ·have e0:HT.sIx x.length 0 lo=0:=⋯;rw[e0]at h' ⊢;rw[h',dL,hn,aJ]
 ·apply Xg;have h:=StrLaws.picks x.cps.toList (HT.sIx x.length x.length hi - HT.sIx x.length 0 lo) (HT.sIx x.length 0 lo) ⋯;show (List.filterMap (λk=>x.cps[k]?) _).toArray.toList=cut x.cps.toList lo hi;unfold cut;rw[<- hn];simpa using h
theorem UI(p:IsPart v o):∃l:Option (Int × AQ),v=partValue l/\l.map (·.1)=o:=by
 cases p with
 | none=>exact#[Bb,rfl,rfl]
 | int i t=>exact#[Ba (i,t),rfl,rfl]
def zd5:V->Option Int->Option Int->Hp->VK->Prop:=λx lo hi H Q=>onStr x λz=>z.length<=sK/\Q ⇑(cut (cs z) lo hi) H
def yJ:SlR X zd5:=by
 intros x v vl vu lo hi sl Q I rx hs pl pu h;let#[z,rfl,hz,q]:=onStr.of h;let#[t,rfl]:=rx;let#[l,rfl,el]:=UI pl;let#[u,rfl,eu]:=UI pu;refine#["str",_,slot_str_getitem.lookup,typeIs_str s z t,?_];refine Al (l:=l) (u:=u) (st:=Bb) hs rfl ?_;have e:Txt.slice z lo hi=tx (cut (cs z) lo hi):=Uu z lo hi;have hl:(tx (cut (cs z) lo hi)).length<=sK:=by rw[zI];have:=wW (cs z) lo hi;rw[<- Wy]at this;lia
 unfold sliceMade slicePicked;rw[el,eu];unfold Txt.slice at e;by_cases hc:((1:Int) == 1 && (p7 lo hi 1 z.length).length == z.length)=Bc
 ·rw[w6 hc]at e;have hc':(((Bb:Option (Int × AQ)).map (·.1)).getD 1 == 1 && (p7 lo hi (((Bb:Option (Int × AQ)).map (·.1)).getD 1) z.length).length == z.length)=Bc:=hc;rw[w6 hc'];exact#[⇑(cut (cs z) lo hi),H,I,#[t,by rw[<- e]],q]
 ·rw[w9 hc]at e;have hc':¬ (((Bb:Option (Int × AQ)).map (·.1)).getD 1 == 1 && (p7 lo hi (((Bb:Option (Int × AQ)).map (·.1)).getD 1) z.length).length == z.length)=Bc:=hc;rw[w9 hc'];show (Str.mk ((p7 lo hi 1 z.length).filterMap (z.cps[·]?)).toArray).length<=sK/\_;rw[e];refine#[hl,?_]
  exact#[⇑(cut (cs z) lo hi),H,I.tok _,#[_,by
   show Value.str (Str.mk ((p7 lo hi 1 z.length).filterMap (z.cps[·]?)).toArray) _=_
   rw[e]],q]
theorem VE(l:()):∀(k:Nat) (Bg:Array Nat),((aR k l.toArray).foldl (· ++ ·) Bg).toList=Bg.toList ++ (aR k l).flatten
 | 0,Bg=>by simp
 | k+1,Bg=>by
  rw[cM,List.foldl_cons,VE l k,cM,dO];simp
def VW:OpR X (binaryOp .Mult) (λx y H Q=>∃z n,x=.str z/\y=.int n/\0<=n/\n<=1000/\z.length<=1000/\Q ⇑(aR n.toNat (cs z)).flatten H):=by
 intros x y v u Q I rx ry h;let#[z,n,rfl,rfl,h0,h1,hz,q]:=h;let#[t,rfl]:=rx;let#[t',rfl]:=ry;have hs:sK=16777216:=sY;have hmul:z.length * n.toNat<=1000 * 1000:=fX hz ⋯;have fl:((aR n.toNat (cs z)).flatten).length=n.toNat * z.length:=by rw[L2.len_rep,<- Wy]
 refine PySem.P.mul_str ?_ (λZ Z=>?_) (λZ Z=>?_) ?_
 ·rw[u9 ⋯,u9 ⋯];rfl
 ·have:(1000:Int)<=(2 ^ 63 - 1) / n:=by
   apply Int.le_ediv_of_mul_le ⋯;lia
  lia
 ·unfold Builtin.Str.tooLong;exact u9 ⋯
 ·by_cases c1:n<1
  ·rw[w6 c1];have e:n.toNat=0:=⋯;rw[e]at q;exact#[∅,⇑[],H,I.tok _,#[_,rfl],q]
  ·rw[w9 c1];by_cases c2:(n == 1 || z.length == 0)=Bc
   ·rw[w6 c2]
    have e:tx (aR n.toNat (cs z)).flatten=z:=by
     rw[d9]at c2;rcases c2 with c | c
     ·have:n.toNat=1:=by have:=eq_of_beq c;lia
      rw[this]
      erw[List.replicate_one,List.flatten_singleton]
     ·have c0:z.length=0:=eq_of_beq c;have:cs z=[]:=eI (by rw[<- Wy];exact c0);apply Xg;rw[this];show (aR n.toNat ([]:())).flatten=[]
      erw[List.flatten_replicate_nil]
    rw[e]at q;exact#[.str z,H,I,#[_,rfl],q]
   ·rw[w9 c2]
    have e:(⟨(aR n.toNat z.cps).foldl (· ++ ·) #[]⟩:sS)=tx (aR n.toNat (cs z)).flatten:=by
     apply Xg;have:=VE (cs z) n.toNat #[];have e2:(cs z).toArray=z.cps:=by cases z;rfl
     rw[e2]at this;show (List.foldl (· ++ ·) #[] (aR n.toNat z.cps)).toList=(aR n.toNat (cs z)).flatten;rw[this];rfl
    rw[e];refine#[by rw[zI,fl,Nat.mul_comm];lia,.str _,H,I.tok _,#[_,rfl],q]
def JY:OpR X (sX .LtE) (λx y H Q=>∃i j,x=.str i/\y=.str j/\Q (.bl (!(decide (cs j<cs i)))) H):=by intros x y v u Q I rx ry h;let#[i,j,rfl,rfl,q]:=h;let#[t,rfl]:=rx;let#[t',rfl]:=ry;exact PySem.P.le_str #[.bl _,H,I,rfl,q]
def op_lt_str':OpR X (sX .Lt) (λx y H Q=>∃i j,x=.str i/\y=.str j/\Q (.bl (decide (cs i<cs j))) H):=QK
def zac:MtR X "str.count" (λx xs H Q=>∃z y,x=.str z/\xs=[.str y]/\Q (.int (Txt.count z y)) H):=by intros x xs v us Q I rx rv h;let#[z,y,rfl,rfl,q]:=h;let#[t,rfl]:=rx;let#[u,rfl,t',rfl]:=wK rv;exact PySem.SC.count #[.int _,H,I.tok _,#[_,rfl],q]
def Qh:MtR X "str.find" (λx xs H Q=>∃z y,x=.str z/\xs=[.str y]/\Q (.int (Txt.find z y)) H):=by intros x xs v us Q I rx rv h;let#[z,y,rfl,rfl,q]:=h;let#[t,rfl]:=rx;let#[u,rfl,t',rfl]:=wK rv;exact PySem.SC.find #[.int _,H,I.tok _,#[_,rfl],q]
def Inv.turns{X:Cx}{Be:List (sM × tZ)}{σ:St}{H:Hp}{s:sP}{fp:List sM}{h':tB}{t':Nat}(I:Inv X Be σ H s)(k:∀b o,b ∉ fp->s.heap.get? b=Ba o->h'.get? b=Ba o)(hf:∀b ∈ fp,wo X Be H b):Inv X Be σ H { s with heap:=h',toks:=t' }:=by
 have nit:∀b u,H b=Ba u->b ∉ fp:=λb u e z=>by rw[(hf b z).1]at e;cases e
 refine I.step (g':=s.gens) (d':=s.drawn) (ch:=fp) (λb hb=>?_) (λb o Z Z hc e Z=>k b o hc e) (λb o Z Z hc e Z=>#[o.slots,k b o hc e]) (λZ Z Z Z n=>n)
  (λb o hc e=>#[o,k b o hc e]) (λZ Z e=>e) (λZ Z Z e=>e) (λb ps e=>#[#[],by rw[e];simp]) (λm hm=>?_) (λb u e=>?_) I.bare
 ·let#[_,a1,_,a3,a4,a5]:=hf b hb;exact#[a3,a1,a4,a5]
 ·let#[o,es,ep,ho,r]:=hm;exact#[o,es,ep,k _ o (λz=>(hf _ z).2.1 rfl) ho,r]
 ·refine (I.hok b u e).stay (λc v hc q=>k c v ?_ q) (λZ q=>q) λZ Z q=>q;rcases hc with z | z
  ·rw[z];exact nit b u e
  ·exact nit c _ z
def Inv.track(I:Inv X Be σ H s)(fa:wo X Be H a)(new:ObjOk X.prog X.w (upd H a o) s.heap a o):Inv X Be σ (upd H a o) s:=by
 let#[a0,a1,a2,a3,a4,a5]:=fa;have e:s={ s with heap:=s.heap,gens:=s.gens,drawn:=s.drawn,toks:=s.toks }:=rfl;rw[e]
 refine I.step (g':=s.gens) (d':=s.drawn) (ch:=[a]) (λb hb=>?_) (λb o Z Z Z e Z=>e) (λb o Z Z Z e Z=>#[o.slots,e]) (λb o hc Z n=>?_)
  (λb o Z e=>#[o,e]) (λb xs e=>?_) (λb u xs e=>?_) (λb ps e=>?_) (λm hm=>hm) (λb u e=>?_) I.bare
 ·have eb:b=a:=by simpa using hb
  subst eb;exact#[a3,a1,a4,a5]
 ·rw[zt ↥hc];exact n
 ·rw[zt (zN e a0)];exact e
 ·rw[zt (zN e a0)];exact e
 ·exact#[#[],by rw[zt (zN e a0),e];simp]
 ·by_cases hb:b=a
  ·subst hb;rw[zc]at e;cases e;exact new
  ·rw[zt hb]at e;exact (I.hok b u e).stay (λc v Z q=>q) (λc q=>by rw[zt (zN q a0)];exact q) λc xs q=>by rw[zt (zN q a0)];exact q
def Its(x:sS):It:=#[λi Z=>i<(cs x).length,λi H v H'=>H'=H/\∃c,(cs x)[i]? = Ba c/\v=⇑[c],λi Z=>i=(cs x).length]
def zaA{K:sL}(hty:["enumerate","zip","dict_itemiterator","dict_reverseitemiterator","odict_iterator","itertools.zip_longest","itertools.pairwise"].contains ty=Bd)(it:sM)(x:sS)(t:AQ)(W:∀A:tG,A.handled=Bb->Walks P w A it [it] [it] x.cps.size (SignAt x) λi h=>h.IsStrIter it ty x t i)(S:∀(A:tG) (i:Nat) (s:sP) (Q:sN->sP->Prop) (E:sN->sP->Prop),s.heap.IsStrIter it ty x t i->Q (.ref it) s->sQ (model P w) A (pyIter (.ref it)) Q E s) :
  J8 P w K tg (Its x) [it] it (λi h=>h.IsStrIter it ty x t i) where
 mem:=by simp
 obj:=λi h st b hb=>by
  have e:b=it:=by simpa using hb
  subst e;let#[o,e,c,d]:=st;exact#[o,e,λv z=>by rw[d]at z;cases z]
 keep:=λi h h' st k=>let #[o,e,r]:=st; #[o,k it (by simp) o e,r]
 item:=by
  intro X hP hw hK hc i Be s σ H E I hf st hg;subst hP hw hK;let#[f0,f1,f2,f3,f4,f5]:=hf it (by simp);have hg':i<x.cps.size:=by have:i<x.cps.toList.length:=hg;simpa using this
  refine (W X.A (I.ok.hd hc)).item i s _ _ hg' st λv h' tk hv st' kk=>?_;let#[c,u,hcc,rfl]:=hv;have I1:Inv X Be σ H { s with heap:=h',toks:=tk }:=I.turned (λb o hb e=>kk b o ↥hb e) f0 f1 f3 f4 f5;let#[o,e,cl,d]:=id st';refine#[_,rfl,XZ (s:={ s with heap:=h',toks:=tk }) e cl d hty #[⇑[c],H,I1,#[u,rfl],#[rfl,c,?_,rfl],st',λb hb=>(hf b hb).1]];show x.cps.toList[i]? = Ba c;simpa using hcc
 done:=by
  intro X hP hw hK hc i Be s σ H E I hf st hg;subst hP hw hK;let#[f0,f1,f2,f3,f4,f5]:=hf it (by simp);have hi:i=x.cps.size:=by have:i=x.cps.toList.length:=hg;simpa using this
  rw[hi]at st;exact (W X.A (I.ok.hd hc)).done s _ _ st λh' tk kk=>#[rfl,I.turned (λb o hb e=>kk b o ↥hb e) f0 f1 f3 f4 f5]
 self:=λA i s Q E st h=>S A i s Q E st h
def zfr(tl:TE):TI:=λσ H R=>tl σ H λv H1=>∃x,v=.str x/\R (Its x) H1
def Yx(hl:PE X l tl):PI X tg l (zfr tl):=by
 intros R I h;refine thn (hl Be s σ H _ I h) λv s1=>el5 λy H1 I1 r1 q1=>?_;let#[x,e,q]:=q1;subst e;let#[t,rfl]:=r1
 have fin:∀(ty:String) (hty:["enumerate","zip","dict_itemiterator","dict_reverseitemiterator","odict_iterator","itertools.zip_longest","itertools.pairwise"].contains ty=Bd)
   (W:∀A:tG,A.handled=Bb->Walks X.prog X.w A s1⁻¹ [s1⁻¹] [s1⁻¹] x.cps.size (SignAt x) λi h=>h.IsStrIter s1⁻¹ ty x t i)
   (S:∀(A:tG) (i:Nat) (s:sP) (Q:sN->sP->Prop) (E:sN->sP->Prop),s.heap.IsStrIter s1⁻¹ ty x t i->Q (.ref s1⁻¹) s->sQ (model X.prog X.w) A (pyIter (.ref s1⁻¹)) Q E s),
   PIE X Be σ tg R (.ref s1⁻¹) { s1 with heap:=s1.heap.push { cls:=.type ty,data:=.fields (r9 [.str x t,.int 0 0]) } }:=λty hty W S=>by
  refine#[s1⁻¹,[s1⁻¹],_,_,H1,rfl,I1.kept (t':=s1.toks) λb o e=>ag _ e,zaA hty _ x t W S,#[_,aE _ rfl,rfl,rfl],λb hb=>?_,q];have e:b=s1⁻¹:=by simpa using hb
  subst e;exact I1.fpOk (al _) (I1.hok.fresh (al _))
 cases ha:x.cps.all (· < 128)
 ·exact wpAny_pyIter_wide ha (fin "str_iterator" ∅ (λA hA=>Walks.strWide hA _ x t) λA i s Q E st h=>wpAny_pyIter_striter_wide st h)
 ·exact wpAny_pyIter_ascii ha (fin "str_ascii_iterator" ∅ (λA hA=>Walks.strAscii hA _ x t) λA i s Q E st h=>wpAny_pyIter_striter_ascii st h)
def zbQ{g:TG}{tb:TS}{D:Zm}(Pv:Nat->St->Hp->Prop)(h0:Pv 0 σ H)(hs:∀i c σ H,(cs x)[i]? = Ba c->Pv i σ H->g ⇑[c] σ H λσ2 H2=>tb { D with nx:=Pv (i+1),ct:=Pv (i+1),bk:=D.nx } σ2 H2)(hd:∀σ H,Pv (cs x).length σ H->D.nx σ H) :
  ∃W:Nat->Nat->St->Hp->Prop,(∃m,W 0 m σ H)/\∀i m σ H,W i m σ H ->
   ((Its x).stop i H/\D.nx σ H)\/((Its x).go i H/\∃N:St->Hp->Prop,(∀σ' H',N σ' H'->∃m',m'<m/\W (i+1) m' σ' H')/\∀v H',(Its x).yld i H v H'->g v σ H' λσ2 H2=>tb { D with nx:=N,ct:=N,bk:=D.nx } σ2 H2):=by
 refine#[λi m σ H=>m=(cs x).length - i/\i<=(cs x).length/\Pv i σ H,#[(cs x).length,by simp,ar _,h0],?_];rintro i m σ H ⟨rfl,hi,p⟩;by_cases hlt:i<(cs x).length
 ·refine .inr #[hlt,Pv (i+1),λσ' H' p'=>#[(cs x).length - (i+1),⋯,rfl,hlt,p'],λv H' y=>?_];let#[e,c,hc,ev]:=y;subst e ev;exact hs i c σ _ hc p
 ·have e:i=(cs x).length:=⋯;subst e;exact .inl #[rfl,hd σ H p]
def Ite(x:sS):It:=#[λi Z=>i<(cs x).length,λi H v H'=>∃p c,H p=Bb/\(cs x)[i]? = Ba c/\v=.ref p/\H'=upd H p (.tup [.int (i:Nat),⇑[c]]),λi Z=>i=(cs x).length]
def zfU(ta:TA):TI:=λσ H R=>ta σ H λvs H1=>∃x,vs=[.str x]/\R (Ite x) H1
theorem qi : ∀(names:List (sS × Ai)) (Bg:List (sS × sM)),
    (∀y,(y,NameKind.free) ∈ names->∃c,env.cells.lookup y=Ba c)->(∀y c,Bg.lookup y=Ba c->env.cells.lookup y=Ba c) ->
    ∃cl,(forIn names Bg λ(x:sS × Ai) (cs:List (sS × sM))=>if (x.2 == NameKind.free)=Bc then (do let a <- cellOf env x.1;pure (ForInStep.yield ((x.1,a)::cs)))else pure (ForInStep.yield cs):Sem (List (sS × sM)))=pure cl /\
      (∀y c,cl.lookup y=Ba c->env.cells.lookup y=Ba c)/\(∀y,(y,NameKind.free) ∈ names\/(Bg.lookup y).isSome=Bc->∃c,cl.lookup y=Ba c)
  | [],Bg,_,ha=>#[Bg,rfl,ha,λy h=>by
      rcases h with h | h
      . cases h
      . exact Bv.mp h]
  | (n,k)::r,Bg,hn,ha=>by
    by_cases hk:k=NameKind.free
    . subst hk
      let#[c,hc]:=hn n (by simp)
      have ha':∀y d,((n,c)::Bg).lookup y=Ba d->env.cells.lookup y=Ba d:=λy d e=>by
        rw[aZ]at e;by_cases hy:(y == n)=Bc
        . rw[hy]at e
          have:y=n:=eq_of_beq hy;subst this;cases e;exact hc
        . have hy':(y == n)=Bd:=by simpa using hy
          rw[hy']at e;exact ha y d e
      let#[cl,e,h1,h2]:=qi r ((n,c)::Bg) (λy hy=>hn y (av _ hy)) ha';refine#[cl,?_,h1,λy hy=>h2 y ?_]
      . rw[fN]
        have ec:cellOf env n=pure c:=by unfold cellOf;rw[hc]
        erw[beq_self_eq_true,if_true,ec,pure_bind]
        exact e
      . rcases hy with hy | hy
        . rcases Bk.mp hy with q | q
          . cases q
            exact .inr (by simp)
          . exact .inl q
        . refine .inr ?_
          rw[aZ];by_cases hyn:(y == n)=Bc
          . rw[hyn];rfl
          . have hy':(y == n)=Bd:=by simpa using hyn
            rw[hy'];exact hy
    . let#[cl,e,h1,h2]:=qi r Bg (λy hy=>hn y (av _ hy)) ha
      refine#[cl,?_,h1,λy hy=>h2 y ?_]
      . rw[fN]
        have ek:(k == NameKind.free)=Bd:=by simpa using hk
        erw[ek,be,if_false,pure_bind]
        exact e
      . rcases hy with hy | hy
        . rcases Bk.mp hy with q | q
          . cases q;exact w4 rfl hk
          . exact .inl q
        . exact .inr hy
def ut(hn:∀y,(y,NameKind.free) ∈ scope.names->∃c,env.cells.lookup y=Ba c) :
  ∃cl,closureFor scope env=pure cl/\(∀y c,cl.lookup y=Ba c->env.cells.lookup y=Ba c)/\(∀y,(y,NameKind.free) ∈ scope.names->∃c,cl.lookup y=Ba c):=by
 let#[cl,e,h1,h2]:=qi scope.names [] hn (λy c h=>by cases h);refine#[cl,?_,h1,λy hy=>h2 y (.inl hy)];unfold closureFor
 erw[bind_pure]
 exact e
abbrev QY(ifs:List tR)(env:AU):Sem Bool :=
 forIn ifs Bc λc r=>if r=Bc then (do let ok <- isTrue c env (eval c env);pure (ForInStep.yield ok))else pure (ForInStep.yield r)
theorem JR(I:Nat->sP->Prop)(hEE:EE=notedBy (model prog w) A env λe s'=>R (.error e) s')(turn:∀n s,I n s->sQ (model prog w) A (pyNext it) (λr s1=>match r with
   | none=>R (.ok .next) s1
   | some v=>sQ (model prog w) A (letOwnedTupleGo tg it v) (λZ s2=>sQ (model prog w) A (assign tg env v) (λ_ s3 =>
     sQ (model prog w) A (QY ifs env) (λok s4=>if ok=Bc then
      sQ (model prog w) A (eval elt env) (λx s5=>sQ (model prog w) A (call (.builtin "list.append") [Bg,x]) (λZ s6=>∃m,m<n/\I m s6) EE s5) EE s4
      else ∃m,m<n/\I m s4) EE s3) EE s2) EE s1) EE s) (n:Nat) (h:I n s) :
  tM (model prog w) A (.compLoop (.ListComp elt [#[tg,iter,ifs,0]] scope pos) 0 it Bg env) R s:=by
 subst hEE;refine codeAny_loop rfl I (λn s hI=>?_) n h;show sQ _ A ((compTurn (.ListComp elt [#[tg,iter,ifs,0]] scope pos) 0 it Bg env).onRaise (λx=>do noteFrame x env;theTreesLotGoes x)) _ _ s;refine wpAny_noted ?_;rw[compTurn_list];refine sF (tK (sF (thn (turn n s hI) λr s1 h1=>?_)))
 cases r with
 | none=>exact sH h1
 | some v =>
  refine sF (thn h1 λZ s2 h2=>sF (thn h2 λZ s3 h3=>sF (thn h3 λok s4 h4=>?_)))
  cases ok with
  | false=>exact sH #[rfl,h4]
  | true=>exact sF (sF (thn h4 λx s5 h5=>sF (thn h5 λZ s6 h6=>sH (sH #[rfl,h6]))))
def yC(X:Cx)(scope:Aj)(cl:List (sS × sM))(C:sM)(N:List sS)(Be:List (sM × tZ))(s3:sP)(H3:Hp)(fp:List sM)(E:sN->sP->Prop):Cx :=
 { X with N:=N,s₀:=s3,H₀:=H3,env:=compEnvC scope cl C X.env,outer:=X.stack,ex:=fp,fn:=λZ=>Bd,pn:=X.pn ++ Be,xe:=E }
def vR(σ:St)(own:Nat)(ix:()):St:=aR own Bb ++ ix.map λi=>(σ[i]?).join
structure kF(X:Cx)(scope:Aj)(own caps:List sS)(ix:()):Prop where
 kind:scope.kind=.function
 nocell:∀y ∈ scope.names,y.2≠.cell
 names:∀y ∈ scope.names,y.2=.local->scope.names.lookup y.1=Ba .local
 free:∀y,(y,NameKind.free) ∈ scope.names->X.env.kindOf y=Ba .cell\/X.env.kindOf y=Ba .free
 hown:∀y ∈ own,scope.names.lookup y=Ba .local
 hcaps:∀y ∈ caps,scope.names.lookup y=Ba .free
 hix:ix.map (λi=>X.N[i]?)=caps.map Ba
theorem wk{α β:Type}[BEq α][LawfulBEq α]{l:List (α × β)}{a:α}{b:β}(h:l.lookup a=Ba b):(a,b) ∈ l:=by
 induction l with
 | nil=>cases h
 | cons p r ih =>
  let#[c,d]:=p;rw[aZ]at h;by_cases e:(a == c)=Bc
  ·rw[e]at h;cases h;rw[eq_of_beq e];exact aB
  ·have e':(a == c)=Bd:=by simpa using e
   rw[e']at h;exact av _ (ih h)
theorem vS{scope:Aj}{env:AU}(hf:env.scope.kind=.function):∀{names:List (sS × Ai)} {x:sS} {k:Ai},names.lookup x=Ba k ->
    (names.map λ(n,k)=>if (k == NameKind.free && env.scope.kind == .function && env.kindOf n == Ba .cell)then (n,NameKind.cell)else (n,k)).lookup x=Ba (if (k == NameKind.free && env.scope.kind == .function && env.kindOf x == Ba .cell)=Bc then .cell else k)
  | [],_,_,h=>by simp at h
  | (n,k')::r,x,k,h=>by
    have ih:=@vS scope env hf r x k;show bB x ((if (k' == NameKind.free && env.scope.kind == .function && env.kindOf n == Ba .cell)=Bc then (n,NameKind.cell)else (n,k'))::_)=_;by_cases hx:(x == n)=Bc
    . have hxn:x=n:=eq_of_beq hx
      subst hxn;rw[aZ,hx]at h;cases h;by_cases c:(k' == NameKind.free && env.scope.kind == .function && env.kindOf x == Ba .cell)=Bc
      . rw[w6 c,w6 c,aZ,hx]
      . rw[w9 c,w9 c,aZ,hx]
    . have hx':(x == n)=Bd:=by simpa using hx
      rw[aZ,hx']at h;by_cases c:(k' == NameKind.free && env.scope.kind == .function && env.kindOf n == Ba .cell)=Bc
      . rw[w6 c,aZ,hx'];exact ih h
      . rw[w9 c,aZ,hx'];exact ih h
theorem qk{scope:Aj}{env:AU}:∀{names:List (sS × Ai)} {x:sS},names.lookup x=Bb ->
    (names.map λ(n,k)=>if (k == NameKind.free && env.scope.kind == .function && env.kindOf n == Ba .cell)then (n,NameKind.cell)else (n,k)).lookup x=Bb
  | [],_,_=>rfl
  | (n,k')::r,x,h=>by
    have ih:=@qk scope env r x;show bB x ((if (k' == NameKind.free && env.scope.kind == .function && env.kindOf n == Ba .cell)=Bc then (n,NameKind.cell)else (n,k'))::_)=_;by_cases hx:(x == n)=Bc
    . rw[aZ,hx]at h;cases h
    . have hx':(x == n)=Bd:=by simpa using hx
      rw[aZ,hx']at h;by_cases c:(k' == NameKind.free && env.scope.kind == .function && env.kindOf n == Ba .cell)=Bc
      . rw[w6 c,aZ,hx'];exact ih h
      . rw[w9 c,aZ,hx'];exact ih h
def Ue(S:kF X scope own caps ix)(hcl1:∀y c,cl.lookup y=Ba c->X.env.cells.lookup y=Ba c)(hcl2:∀y,(y,NameKind.free) ∈ scope.names->∃c,cl.lookup y=Ba c)(I:Inv X Be σ H s)(hfp:∀b ∈ fp,wo X Be H b)(hlt:∀b ∈ fp,b<s⁻¹)(hn:h4.Ns s⁻¹ λZ=>Bb)(hk:∀b o,s.heap.get? b=Ba o->h4.get? b=Ba o) :
  Inv (yC X scope cl s⁻¹ (own ++ caps) Be s H fp E) [] (vR σ own.length ix) H { s with heap:=h4,toks:=t4 }:=by
 have kf:X.env.scope.kind=.function:=I.ok.kind;have nofp:∀b ∈ fp,b≠s⁻¹:=λb hb=>ay (hlt b hb)
 have cellLt:∀x c,X.env.cells.lookup x=Ba c->c<s⁻¹:=λx c e=>by
  let#[v,o,ho,_]:=I.cell x c e;exact aw ho
 have kinds:∀y k,scope.names.lookup y=Ba k->(relabel scope X.env).names.lookup y=Ba (if (k == NameKind.free && X.env.scope.kind == .function && X.env.kindOf y == Ba .cell)=Bc then .cell else k):=λy k e=>vS (scope:=scope) kf e
 have back:∀y k,(relabel scope X.env).names.lookup y=Ba k->∃k',scope.names.lookup y=Ba k'/\k=(if (k' == NameKind.free && X.env.scope.kind == .function && X.env.kindOf y == Ba .cell)=Bc then .cell else k'):=λy k e=>by
  cases q:scope.names.lookup y with
  | none =>
   have:=qk (scope:=scope) (env:=X.env) q;have e':(scope.names.map λ(n,k)=>if (k == NameKind.free && X.env.scope.kind == .function && X.env.kindOf n == Ba .cell)then (n,NameKind.cell)else (n,k)).lookup y=Ba k:=e;rw[this]at e';cases e'
  | some k' =>
   refine#[k',rfl,?_];have:=kinds y k' q;rw[e]at this;exact Option.some.inj this
 have isCell:∀y,scope.names.lookup y=Ba .free->(relabel scope X.env).names.lookup y=Ba .cell\/(relabel scope X.env).names.lookup y=Ba .free:=λy e=>by
  have:=kinds y _ e;rcases S.free y (wk e)with q | q
  ·refine .inl ?_;rw[this,w6];rw[q,kf];rfl
  ·refine .inr ?_;rw[this,w9];rw[q];simp
 refine#[#[I.ok.mod,?_,I.ok.glob,I.ok.blt,al _,?_,?_,?_,I.ok.hd,I.ok.frames,.inl rfl,?_,I.bs,aH I.ok.bsz I.sz,?_,?_,I.stack,I.stkFree],rfl,I.bare,Un.kept hk,#[_,hn,?_],?_,?_,?_,?_,I.hok.kept hk,?_]
 ·show (relabel scope X.env).kind=.function;exact S.kind
 ·intro x y c h1 h2;exact I.ok.inj x y c (hcl1 x c h1) (hcl1 y c h2)
 ·intro y hy;have hy':(relabel scope X.env).names.lookup y=Ba .cell\/(relabel scope X.env).names.lookup y=Ba .free:=hy
  have:scope.names.lookup y=Ba .free:=by
   rcases hy' with q | q
   ·let#[k',e,ek]:=back y _ q;by_cases c:(k' == NameKind.free && X.env.scope.kind == .function && X.env.kindOf y == Ba .cell)=Bc
    ·rw[ba,ba]at c;rw[e,eq_of_beq c.1.1]
    ·rw[w9 c]at ek;exact w4 ek.symm (S.nocell _ (wk e))
   ·let#[k',e,ek]:=back y _ q;by_cases c:(k' == NameKind.free && X.env.scope.kind == .function && X.env.kindOf y == Ba .cell)=Bc
    ·rw[w6 c]at ek;cases ek
    ·rw[w9 c]at ek;rw[e,<- ek]
  exact hcl2 y (wk this)
 ·intro x c h _;exact w4 h (by simp [yC])
 ·intro b hb;refine#[nofp b hb,λx c e=>?_];exact (hfp b hb).2.2.2.2.1 x c (hcl1 x c e)
 ·intro b o e hb;let#[_,_,_,q,_]:=hfp b hb;rcases q with q | q
  ·exact I.ok.noex b o e q
  ·exact w4 (aq (aw e) (aH I.ok.bsz q)) (cJ _)
 ·intro b hb z;rcases Bk.mp (I.stkSub b z)with e | e
  ·exact (hfp b hb).2.1 e
  ·exact (hfp b hb).2.2.1 e
 ·intro i y v h1 h2 h3
  have hi:own.length<=i:=by
   refine cp λhlt'=>?_;unfold vR at h2;rw[bW (by rw[bN];exact hlt'),fB,w6 hlt']at h2;cases h2
  have h1':caps[i - own.length]? = Ba y:=by
   have:(own ++ caps)[i]? = Ba y:=h1;rw[bG hi]at this;exact this
  have h2':(ix.map λi=>(σ[i]?).join)[i - own.length]? = Ba (Ba v):=by
   unfold vR at h2;rw[bG (by rw[bN];exact hi),bN]at h2;exact h2
  rw[au]at h2';have hx:=congrArg (λl=>l[i - own.length]?) S.hix
  erw[au,h1',Option.map_some]at hx
  cases q:ix[i - own.length]? with
  | none=>rw[q]at h2';cases h2'
  | some j =>
   rw[q]at h2' hx;have hj:X.N[j]? = Ba y:=Option.some.inj hx;have hv:(σ[j]?).join=Ba v:=Option.some.inj h2'
   have hσ:σ[j]? = Ba (Ba v):=by
    cases r:σ[j]? with
    | none=>rw[r]at hv;cases hv
    | some z=>rw[r]at hv;cases z with
     | none=>cases hv
     | some z=>cases hv;rfl
   have hfree:scope.names.lookup y=Ba .free:=S.hcaps y (ac h1');have hkc:=S.free y (wk hfree);let#[m,hm,hl]:=I.loc;let#[u,ru,l]:=hl j y v hj hσ (.inr hkc);refine#[u,ru,.inr #[isCell y hfree,?_]];rcases l with ⟨k,_⟩ | ⟨_,c,e,z⟩
   ·have:X.env.kindOf y=Ba .local:=k;rcases hkc with q' | q' <;> (rw[q']at this;cases this)
   ·let#[c',e']:=hcl2 y (wk hfree);have:=hcl1 y c' e';rw[e]at this;cases this;let#[o,ho,hd]:=z;exact#[c,e',o,hk c o ho,hd]
 ·intro x c e;let#[v,o,ho,hd]:=I.cell x c (hcl1 x c e);exact#[v,o,hk c o ho,hd]
 ·exact I.hok.fresh (al _)
 ·intro x c e;exact I.freeC x c (hcl1 x c e)
 ·intro p hp
  have hp':p ∈ X.pn ++ Be:=by
   have:p ∈ (X.pn ++ Be) ++ []:=hp
   rwa [aT]at this
  let#[e,n,ne,nf,d]:=I.pin p hp';refine#[hk _ _ e,n,?_,λz=>?_,d]
  ·exact ay (aw e)
  ·rcases Bk.mp (I.stkSub p.1 z)with q | q
   ·exact ne q
   ·exact nf q
 ·show (vR σ own.length ix).length=(own ++ caps).length;have:=congrArg cQ S.hix;rw[aa,aa]at this;unfold vR;rw[aj,bN,aa,aj,this]
def xm(σ σ':St):Prop:=σ.length=σ'.length/\∀(i:Nat) v,σ[i]? = Ba (Ba v)->σ'[i]? = Ba (Ba v)
def PTs(X:Cx)(ifs:List tR)(t:TT):Prop :=
 ∀(Be:List (sM × tZ)) (s:sP) (σ:St) (H:Hp) (Q:Bool->Hp->Prop),Inv X Be σ H s->t σ H Q->sQ (model X.prog X.w) X.A (QY ifs X.env) (TP X Be σ Q) X.xe s
def xo:TT:=λZ H Q=>Q Bc H
def yg : PTs X [] xo:=λZ Z Z H Z I h=>sH #[H,I,h]
def US(h:PT X c t):PTs X [c] t:=λBe s σ H Q I hq=>by
 show sQ _ _ (forIn [c] Bc _) _ _ s
 erw[fN,List.forIn_nil,if_true]
 exact sF (sF (thn (h Be s σ H Q I hq) λb s' hb=>sH (sH hb)))
def qC(wi:TI)(g:TG)(tt:TT)(te:TE)(own:Nat)(ix:()):TE:=λσ H Q=>wi σ H λJ H1=>∀D,H1 D=Bb->∃W:Nat->Nat->List V->Hp->Prop,(∃m,W 0 m [] (upd H1 D (.lst []))) /\
 ∀i m Bg H',W i m Bg H'->(J.stop i H'/\Q (.ref D) H')\/(J.go i H'/\∀x H2,J.yld i H' x H2->g x (vR σ own ix) H2 λσ3 H3=>xm (vR σ own ix) σ3/\tt σ3 H3 λb H4=>if b=Bc then
  te σ3 H4 λv H5=>H5 D=Ba (.lst Bg)/\Bg.length<sK/\∃m',m'<m/\W (i+1) m' (Bg ++ [v]) (upd H5 D (.lst (Bg ++ [v])))
  else ∃m',m'<m/\W (i+1) m' Bg H4)
def Un.but(u:Un fs ex H H' h h1)(sb:Heap.SameBut a h1 h2)(ha:h.get? a=Bb):Un fs ex H H' h h2:=by
 have ne:∀b o,h.get? b=Ba o->b≠a:=λb o e z=>by subst z;rw[ha]at e;cases e
 refine#[λb o e n hb hx=>(sb.2 b (ne b o e)).trans (u.keep b o e n hb hx),λb o e n hb hx=>?_,u.free,λb o e hx=>?_,u.tups,u.frzs,u.tbls]
 ·let#[sl,q]:=u.slot b o e n hb hx;exact#[sl,(sb.2 b (ne b o e)).trans q]
 ·let#[o',q]:=u.there b o e hx;exact#[o',(sb.2 b (ne b o e)).trans q]
def HOk.but(ok:HOk P w H h1)(sb:Heap.SameBut a h1 h2)(ha:H a=Bb):HOk P w H h2:=λb ob e=>by
 refine (ok b ob e).stay (λc u hc q=>(sb.2 c ?_).trans q) (λZ q=>q) λZ Z q=>q;rintro rfl;rcases hc with rfl | hc
 ·rw[ha]at e;cases e
 ·rw[ha]at hc;cases hc
def Zf(i:Nat)(t:TE):TS:=λD σ H=>t σ H λx H1=>D.nx (σ.set i (Ba x)) H1
def Y1:R2:=λx y H Q=>match x with | .int i=>onInt y λj=>Q (.int (i+j)) H | .str i=>onStr y λj=>i.length+j.length<=sK/\Q (.str (i ++ j)) H | .ref l=>zdj (.ref l) y H Q | _=>False
theorem jV:OpR X (binaryOp .Add) Y1:=by
 intros x y v u Q I rx ry h
 cases x with
 | int i=>exact z7 Be s σ H (.int i) y v u Q I rx ry h
 | str i=>exact zS Be s σ H (.str i) y v u Q I rx ry (by let#[j,rfl,q]:=onStr.of h;exact#[i,j,rfl,rfl,q])
 | ref l=>exact W9 Be s σ H (.ref l) y v u Q I rx ry h
 | _=>exact h.elim
def zb1:R2:=λx y H Q=>match x with | .int i=>onInt y λj=>CMul i j/\Q (.int (i * j)) H | .str z=>onInt y λn=>0<=n/\n<=1000/\z.length<=1000/\Q ⇑(aR n.toNat (cs z)).flatten H | _=>False
theorem XJ:OpR X (binaryOp .Mult) zb1:=by
 intros x y v u Q I rx ry h
 cases x with
 | int i=>exact qw Be s σ H (.int i) y v u Q I rx ry h
 | str z=>exact VW Be s σ H (.str z) y v u Q I rx ry (by let#[n,rfl,q]:=onInt.of h;exact#[z,n,rfl,rfl,q])
 | _=>exact h.elim
def zfm:R2:=λx y H Q=>match x with | .int i=>onInt y λj=>Q (.bl (decide (i<j))) H | .str i=>onStr y λj=>Q (.bl (decide (cs i<cs j))) H | _=>False
theorem U7:OpR X (sX .Lt) zfm:=by
 intros x y v u Q I rx ry h
 cases x with
 | int i=>exact Uh Be s σ H (.int i) y v u Q I rx ry h
 | str i=>exact op_lt_str' Be s σ H (.str i) y v u Q I rx ry (by let#[j,rfl,q]:=onStr.of h;exact#[i,j,rfl,rfl,q])
 | _=>exact h.elim
def zfg:R2:=λx y H Q=>match x with | .int i=>onInt y λj=>Q (.bl (decide (i<=j))) H | .str i=>onStr y λj=>Q (.bl (!(decide (cs j<cs i)))) H | _=>False
theorem wJ:OpR X (sX .LtE) zfg:=by
 intros x y v u Q I rx ry h
 cases x with
 | int i=>exact ze0 Be s σ H (.int i) y v u Q I rx ry h
 | str i=>exact JY Be s σ H (.str i) y v u Q I rx ry (by let#[j,rfl,q]:=onStr.of h;exact#[i,j,rfl,rfl,q])
 | _=>exact h.elim
def JI:OpR X (sX .Gt) (λx y H Q=>∃i j,x=.str i/\y=.str j/\Q (.bl (decide (cs j<cs i))) H):=by intros x y v u Q I rx ry h;let#[i,j,rfl,rfl,q]:=h;let#[t,rfl]:=rx;let#[t',rfl]:=ry;exact PySem.P.gt_str #[.bl _,H,I,rfl,q]
def zdR:R2:=λx y H Q=>match x with | .int i=>onInt y λj=>Q (.bl (decide (j<i))) H | .str i=>onStr y λj=>Q (.bl (decide (cs j<cs i))) H | _=>False
theorem Xb:OpR X (sX .Gt) zdR:=by
 intros x y v u Q I rx ry h
 cases x with
 | int i=>exact XO Be s σ H (.int i) y v u Q I rx ry h
 | str i=>exact JI Be s σ H (.str i) y v u Q I rx ry (by let#[j,rfl,q]:=onStr.of h;exact#[i,j,rfl,rfl,q])
 | _=>exact h.elim
def ze9(K:sL):V->Option Int->Option Int->Hp->VK->Prop:=λx lo hi H Q=>match x with | .ref a=>zdz K (.ref a) lo hi H Q | .str z=>zd5 (.str z) lo hi H Q | _=>False
theorem zbd:SlR X (ze9 X.K):=by
 intros x v vl vu lo hi sl Q I rx hs pl pu h
 cases x with
 | ref a=>exact jB Be s σ H (.ref a) v vl vu lo hi sl Q I rx hs pl pu h
 | str z=>exact yJ Be s σ H (.str z) v vl vu lo hi sl Q I rx hs pl pu h
 | _=>exact h.elim
def cV:V->Option sN
 | .ty n=>Ba (.type n)
 | .ref a=>Ba (.ref a)
 | _=>Bb
def zam:wX X (.builtin "isinstance") (λxs H Q=>∃x c u t b,xs=[x,c]/\cV c=Ba u/\Vw X.K H x t/\aV X.K t u=Ba b/\Q (.bl b) H):=by
 intros xs us Q I r h;let#[x,c,u,t,b,rfl,hc,ty,e,q]:=h;let#[v,w',rfl,rx,rc]:=VM r
 have:w'=u:=by
  cases c with
  | ty n=>cases hc;exact rc
  | ref a=>cases hc;exact rc
  | _=>cases hc
 subst this;exact Ja I rx ty e λtk=>#[.bl b,H,I.tok tk,rfl,q]
def Iel(K:sL)(a:sM):It:=#[λi H=>∃xs x,SqL K H a xs/\xs[i]? = Ba x,λi H v H'=>∃p x,H p=Bb/\(∀xs,SqL K H a xs->xs[i]? = Ba x)/\v=.ref p/\H'=upd H p (.tup [.int (i:Nat),x]),λi H=>∃xs,SqL K H a xs/\i=xs.length]
def VT{K:sL}(e it a:sM)(hei:e≠it) :
  J8 P w K (.Tuple elts x1 tpos) (Iel K a) [e,it] e (λi h=>(∃old,IsEnum h e it i old)/\h.IsListIter it a i) where
 mem:=by simp
 obj:=λi h st b hb=>by
  let#[#[old,he],o,e2,c,d]:=st;rcases Bk.mp hb with q | q
  ·subst q;exact#[_,he,λv z=>by have z':Data.fields _=Data.cell v:=z;cases z']
  ·have q':b=it:=by simpa using q
   subst q';exact#[o,e2,λv z=>by rw[d]at z;cases z]
 keep:=λi h h' st k=>by
  let#[#[old,he],st]:=st;exact#[#[old,k e (by simp) _ he],st.at λo q=>k it (by simp) o q]
 item:=by
  intro X hP hw hK hc i Be s σ H E I hf st hg;subst hP hw hK;let#[#[old,he],st]:=st;let#[xs,x,hq,hx]:=hg;let#[its,rv,p,hz]:=I.list hq;let#[u,hu,ru]:=rv.get hx;have hA:X.A.in1.handled=Bb:=I.ok.hd hc;have pl:=p.isList
  have hai:a≠it:=λz=>by
   subst z;let#[o1,q1,c1,_]:=st;let#[o2,q2,c2,_]:=pl;rw[q1]at q2;cases q2;rw[c1]at c2;exact w4 (Value.type.inj c2) ∅
  have hea:e≠a:=λz=>by
   subst z;let#[o2,q2,c2,_]:=pl;rw[he]at q2;cases q2;exact w4 (Value.type.inj c2) ∅
  refine wpAny_pyNext_enum_itemD (Draws.list (A:=X.A.in1) hA it a hai its.toArray) he #[st,pl] (by rw[ak];exact (Bh.mp hu).1) hei (by simp [hei,hea]) λv h' tk hv ho st' hT hsz kk=>?_
  have ev:v=u:=by
   have hv':its.toArray[i]? = Ba v:=hv;rw[List.getElem?_toArray,hu]at hv';exact (Option.some.inj hv').symm
  subst ev;refine#[_,rfl,wpAny_letOwnedTupleGo_enum ho λh2 he2 sb=>?_];have elt:e<s⁻¹:=aw he;have ilt:it<s⁻¹:=by let#[o,q,_]:=st;exact aw q
  have I1:Inv X Be σ H { s with heap:=h2,toks:=tk+1 }:=Inv.turns (fp:=[e,it]) I (λb o hb q=>by
   have hb':b≠e/\b≠it:=by simpa using hb
   exact (sb.2 b hb'.1).trans (kk b o hb'.1 hb'.2 q)) hf
  have hp:H s⁻¹=Bb:=I.hok.fresh (al _);have hT2:h2.get? s⁻¹=Ba { cls:=.type "tuple",data:=.seq (r9 [.int (i:Nat) tk,v]) }:=(sb.2 _ (cC elt)).trans hT
  have I2:Inv X Be σ (upd H s⁻¹ (.tup [.int (i:Nat),x])) { s with heap:=h2,toks:=tk+1 } :=
   Inv.track I1 (I.fpOk (al _) hp) #[by show 2<=sK;decide,[.int (i:Nat) tk,v],.cons #[_,rfl] (.cons ru .nil),#[_,hT2,rfl,_,rfl]]
  refine#[.ref s⁻¹,_,I2,rfl,#[s⁻¹,x,hp,λys hy=>by rw[I.list_inj hy hq];exact hx,rfl,rfl],#[#[_,by simpa using he2],?_],λb hb=>?_]
  ·exact st'.1.at λo q=>(sb.2 it (Ne.symm hei)).trans q
  ·rw[zt]
   ·exact (hf b hb).1
   ·rcases Bk.mp hb with q | q
    ·rw[q];exact ay elt
    ·have q':b=it:=by simpa using q
     rw[q'];exact ay ilt
 done:=by
  intro X hP hw hK hc i Be s σ H E I hf st hg;subst hP hw hK;let#[#[old,he],st]:=st;let#[xs,hq,hi]:=hg;let#[its,rv,p,hz]:=I.list hq;have pl:=p.isList
  have hai:a≠it:=λz=>by
   subst z;let#[o1,q1,c1,_]:=st;let#[o2,q2,c2,_]:=pl;rw[q1]at q2;cases q2;rw[c1]at c2;exact w4 (Value.type.inj c2) ∅
  have hA:X.A.in1.handled=Bb:=I.ok.hd hc;have hi':i=its.toArray.size:=by rw[ak,<- rv.length];exact hi
  subst hi';refine wpAny_pyNext_enum_endD (Draws.list (A:=X.A.in1) hA it a hai its.toArray) he #[st,pl] λh' hx=>#[rfl,?_];exact Inv.turns (fp:=[e,it]) (t':=s.toks) I (λb o hb q=>hx b o (λz=>hb (by simp [z])) q) hf
 self:=λA i s Q E st h=>by
  let#[#[old,he],_]:=st;exact AD he h
def UD(K:sL)(ta:TA):TI:=λσ H R=>ta σ H λvs H1=>∃a,vs=[.ref a]/\(∃xs,SqL K H1 a xs)/\R (Iel K a) H1
def y9(hg:Gl X "enumerate")(hm:X.mg "enumerate" = Bb)(ha:PA X [a] ta)(hs:‹sJ [a] X.env=[(Bd,eval a X.env)]›) :
  PI X (.Tuple elts x1 tpos) (.Call (.Name "enumerate" p) [a] [] pos) (UD X.K ta):=by
 intros R I h;refine Call_ (vK I hg hm PyProof.Rows.boot_enumerate (bO (thn (ha pos Be s σ H _ I h) λus s1=>el5 λvs H1 I1 r1 q1=>?_) hs rfl));let#[l,e,#[xs,hq],q]:=q1;subst e;let#[u,rfl,ru]:=wK r1;cases ru;let#[its,rv,pl,hz]:=I1.list hq;refine call_enumerate_list pl.isList λh' he hit hsz kk=>?_;have I2:Inv X Be σ H1 { s1 with heap:=h' }:=I1.kept (t':=s1.toks) kk;refine AD (s:={ s1 with heap:=h' }) (i:=0) he ?_;refine#[s1⁻¹+1,[s1⁻¹+1,s1⁻¹],_,_,H1,rfl,I2,VT _ _ l (Nat.succ_ne_self _),#[#[_,he],hit],λb hb=>?_,q]
 have hb':s1⁻¹<=b:=by
  rcases Bk.mp hb with e | e
  ·rw[e];exact cP _
  ·have:b=s1⁻¹:=by simpa using e
   rw[this];exact al _
 exact I1.fpOk hb' (I1.hok.fresh hb')
def ForEL(K:sL)(a:sM)(g:TG)(tb:TS)(D:Zm)(σ:St)(H:Hp):Prop:=∃W:Nat->Nat->St->Hp->Prop,(∃m,W 0 m σ H)/\∀i m σ H,W i m σ H ->
 ((Iel K a).stop i H/\D.nx σ H)\/((Iel K a).go i H/\∃N:St->Hp->Prop,(∀σ' H',N σ' H'->∃m',m'<m/\W (i+1) m' σ' H')/\∀x H',(Iel K a).yld i H x H'->g x σ H' λσ2 H2=>tb { D with nx:=N,ct:=N,bk:=D.nx } σ2 H2)
def zeG{K:sL}:Kd (UD K ta) g tb D σ H=ta σ H λvs H1=>∃a,vs=[.ref a]/\(∃xs,SqL K H1 a xs)/\ForEL K a g tb D σ H1:=rfl
def ForEL.by{K:sL}(Pv:Nat->St->Hp->Prop)(h0:Pv 0 σ H)(hl:∀i σ H,i<=xs.length->Pv i σ H->SqL K H a xs)(hs:∀i x σ H p,xs[i]? = Ba x->Pv i σ H->H p=Bb->g (.ref p) σ (upd H p (.tup [.int (i:Nat),x])) λσ2 H2=>tb { D with nx:=Pv (i+1),ct:=Pv (i+1),bk:=D.nx } σ2 H2)(hd:∀σ H,Pv xs.length σ H->D.nx σ H):ForEL K a g tb D σ H:=by
 refine#[λi m σ H=>m=xs.length - i/\i<=xs.length/\Pv i σ H,#[xs.length,by simp,ar _,h0],?_];rintro i m σ H ⟨rfl,hi,p⟩;have q:=hl i σ H hi p;by_cases hlt:i<xs.length
 ·refine .inr #[#[xs,xs[i],q,by simp [hlt]],Pv (i+1),λσ' H' p'=>#[xs.length - (i+1),⋯,rfl,hlt,p'],λv H' y=>?_];let#[p',x,hp,hx,ev,eH]:=y;subst ev eH;exact hs i x σ H p' (hx xs q) p hp
 ·have e:i=xs.length:=⋯;subst e;exact .inl #[#[xs,q,rfl],hd σ H p]
def ForT(K:sL)(a:sM)(g:TG)(tb:TS)(D:Zm)(σ:St)(H:Hp):Prop:=∃W:Nat->Nat->St->Hp->Prop,(∃m,W 0 m σ H)/\∀i m σ H,W i m σ H ->
 ((Itt K a).stop i H/\D.nx σ H)\/((Itt K a).go i H/\∃N:St->Hp->Prop,(∀σ' H',N σ' H'->∃m',m'<m/\W (i+1) m' σ' H')/\∀x H',(Itt K a).yld i H x H'->g x σ H' λσ2 H2=>tb { D with nx:=N,ct:=N,bk:=D.nx } σ2 H2)
def zgO{K:sL}:Kd (zgY K tl) g tb D σ H=tl σ H λx H1=>∃a,x=.ref a/\(∃xs,SqT K H1 a xs)/\ForT K a g tb D σ H1:=rfl
def ForT.by{K:sL}(Pv:Nat->St->Hp->Prop)(h0:Pv 0 σ H)(hl:∀i σ H,i<=xs.length->Pv i σ H->SqT K H a xs)(hs:∀i x σ H,xs[i]? = Ba x->Pv i σ H->g x σ H λσ2 H2=>tb { D with nx:=Pv (i+1),ct:=Pv (i+1),bk:=D.nx } σ2 H2)(hd:∀σ H,Pv xs.length σ H->D.nx σ H):ForT K a g tb D σ H:=zcH Pv h0 hl hs hd
def zgb(K:sL)(x:V)(H:Hp)(p:Bool->Prop):Prop:=match x with | .bl b=>p b | x=>∃k,zdq K x H k/\p k
def tTr(K:sL)(ta:TE):TT:=λσ H Q=>ta σ H λx H'=>zgb K x H' λk=>Q k H'
def zb9{K:sL}:tTr K ta σ H Q=ta σ H λx H'=>zgb K x H' λk=>Q k H':=rfl
def tBl(ta:TE):TT:=λσ H Q=>ta σ H λx H'=>onBl x λk=>Q k H'
def zc1 : tBl ta σ H Q=ta σ H λx H'=>onBl x λk=>Q k H':=rfl
def yk(ha:PE X a ta)(he:∀whole,isTrue a X.env whole=(do let v <- whole;standAt a.pos;holding [v] (truthy v))):PT X a (tBl ta):=by intros Q I h;refine isTrue_plain (thn (ha Be s σ H _ I h) λv s1=>el5 λx H1 I1 r1 q1=>?_) (he _);let#[k,rfl,q1]:=onBl.of q1;exact zaK Be s1 σ H1 (.bl k) v Q I1 r1 #[k,rfl,q1]
def Irv(K:sL)(a:sM)(n:Nat):It:=#[λi H=>∃xs,SqL K H a xs/\xs.length=n/\i<n,λi H v H'=>H'=H/\∀xs,SqL K H a xs->xs.length=n->xs[n - 1 - i]? = Ba v,λi H=>i=n]
def Kx{K:sL}(a it:sM)(n:Nat):J8 P w K tg (Irv K a n) [it] it (λi h=>i<=n/\h.IsRevIter it a ((n:Int) - 1 - (i:Int))) where
 mem:=by simp
 obj:=λi h st b hb=>by
  have e:b=it:=by simpa using hb
  subst e;let#[_,o,e,c,d]:=st;exact#[o,e,λv z=>by rw[d]at z;cases z]
 keep:=λi h h' st k=>#[st.1,st.2.at λo e=>k it (by simp) o e]
 item:=by
  intro X hP hw hK hc i Be s σ H E I hf st hg;subst hP hw hK;let#[xs,hq,hn,hi]:=hg;let#[its,rv,p,hz]:=I.list hq;let#[f0,f1,f2,f3,f4,f5]:=hf it (by simp);have hx:xs[n - 1 - i]? = Ba (xs[n - 1 - i]'⋯):=af ⋯;generalize xs[n - 1 - i]'⋯=x at hx;let#[u,hu,ru]:=rv.get hx;have st2:=st.2;have e:(n:Int) - 1 - (i:Int)=((n - 1 - i:Nat):Int):=⋯;rw[e]at st2;refine wpAny_pyNext_rev_item st2 p.isList (x:=u) ↥hu λh' st' sb=>?_;have I1:Inv X Be σ H { s with heap:=h' }:=I.turned (t':=s.toks) (λb o hb e=>(sb.2 b hb).trans e) f0 f1 f3 f4 f5;have e2:((n - 1 - i:Nat):Int) - 1=(n:Int) - 1 - ((i+1:Nat):Int):=⋯;rw[e2]at st';let#[o,e,c,d]:=id st';exact#[u,rfl,XZ (s:={ s with heap:=h' }) e c d ∅ #[x,H,I1,ru,#[rfl,λys hy Z=>by rw[I.list_inj hy hq];exact hx],#[hi,st'],λb hb=>(hf b hb).1]]
 done:=by
  intro X hP hw hK hc i Be s σ H E I hf st hg;subst hP hw hK;let#[f0,f1,f2,f3,f4,f5]:=hf it (by simp);have hi:i=n:=hg;have st2:=st.2;rw[hi,show (n:Int) - 1 - (n:Int)=-1 by lia]at st2;exact wpAny_pyNext_rev_end (I.ok.hd hc) st2 λh' eb=>#[rfl,I.turned (t':=s.toks) (λb o hb e=>eb b o hb e) f0 f1 f3 f4 f5]
 self:=λZ Z Z Z Z st h=>Aq st.2 h
def KO:tD "reversed" = Ba (.type "reversed"):=PyProof.Rows.boot_reversed
def zgZ(K:sL)(ta:TA):TI:=λσ H R=>ta σ H λvs H1=>∃a xs,vs=[.ref a]/\SqL K H1 a xs/\R (Irv K a xs.length) H1
def zet(hg:Gl X "reversed")(hm:X.mg "reversed" = Bb)(ha:PA X [a] ta)(hs:‹sJ [a] X.env=[(Bd,eval a X.env)]›) :
  PI X tg (.Call (.Name "reversed" p) [a] [] pos) (zgZ X.K ta):=by
 intros R I h;refine Call_ (vK I hg hm KO (bO (thn (ha pos Be s σ H _ I h) λus s1=>el5 λvs H1 I1 r1 q1=>?_) hs rfl));let#[l,xs,e,hq,q]:=q1;subst e;let#[u,rfl,ru]:=wK r1;cases ru;let#[its,rv,pl,hz]:=I1.list hq;have hn:its.toArray.size=xs.length:=by rw[ak,<- rv.length]
 refine call_reversed_list pl.isList ?_
 have hit:(s1.heap.push (revObj l ((its.toArray.size:Int) - 1))).IsRevIter s1⁻¹ l ((xs.length:Int) - 1 - ((0:Nat):Int)):=by
  refine#[_,aE _ rfl,rfl,?_];rw[hn,show (xs.length:Int) - 1 - ((0:Nat):Int)=(xs.length:Int) - 1 by lia];rfl
 refine Aq (s:={ s1 with heap:=s1.heap.push (revObj l ((its.toArray.size:Int) - 1)) }) hit ?_;refine#[s1⁻¹,[s1⁻¹],_,_,H1,rfl,I1.kept (t':=s1.toks) λb o e=>ag _ e,Kx l _ xs.length,#[ar _,hit],λb hb=>?_,q];have e:b=s1⁻¹:=by simpa using hb
 subst e;exact I1.fpOk (al _) (I1.hok.fresh (al _))
def zfo(K:sL)(ta:TA):TE:=λσ H Q=>ta σ H λvs H1=>∃a xs,vs=[.ref a]/\SqL K H1 a xs/\∀l,H1 l=Bb->Q (.ref l) (upd H1 l (.lst xs.reverse))
def UK{K:sL}:zfo K ta σ H Q=ta σ H λvs H1=>∃a xs,vs=[.ref a]/\SqL K H1 a xs/\∀l,H1 l=Bb->Q (.ref l) (upd H1 l (.lst xs.reverse)):=rfl
def Izp(K:sL)(a b:sM):It:=#[λi H=>∃xs ys x y,SqL K H a xs/\SqL K H b ys/\xs[i]? = Ba x/\ys[i]? = Ba y,λi H v H'=>∃p x y,H p=Bb/\(∀xs,SqL K H a xs->xs[i]? = Ba x)/\(∀ys,SqL K H b ys->ys[i]? = Ba y)/\v=.ref p/\H'=upd H p (.tup [x,y]),λi H=>∃xs ys,SqL K H a xs/\SqL K H b ys/\(xs.length=i\/ys.length=i)/\i<=xs.length/\i<=ys.length]
def vj{h:tB}(h1:h.get? a=Ba o1)(c1:o1.cls=.type t)(h2:h.get? b=Ba o2)(c2:o2.cls=.type u)(hne:t≠u):a≠b:=λz=>by
 rw[z,h2]at h1;cases h1;rw[c2]at c1;exact hne (Value.type.inj c1).symm
structure zev(z TI TO i1 i2:sM):Prop where
 TIz:TI≠z
 TOz:TO≠z
 i1z:i1≠z
 i2z:i2≠z
 TITO:TI≠TO
 TIi1:TI≠i1
 TIi2:TI≠i2
 TOi1:TO≠i1
 TOi2:TO≠i2
 i12:i1≠i2
def ZipAt(z TI TO i1 i2 l1 l2:sM)(i:Nat)(h:tB):Prop:=IsZip h z TI TO .none/\IsPair h TI (.ref i1) (.ref i2)/\(∃a b,IsPair h TO a b)/\h.IsListIter i1 l1 i/\h.IsListIter i2 l2 i
def ZipAt.apart{z TI TO i1 i2 l1 l2:sM}(D:zev z TI TO i1 i2)(st:ZipAt z TI TO i1 i2 l1 l2 i h)(h1:h.IsList l1 xs)(h2:h.IsList l2 ys):ZipApart z TI TO i1 i2 l1 l2:=by let#[hz,hTI,#[a,b,hTO],#[o1,e1,c1,_],#[o2,e2,c2,_]]:=st;let#[p1,q1,k1,_]:=h1;let#[p2,q2,k2,_]:=h2;exact#[D.TIz,D.TOz,D.i1z,D.i2z,D.TITO,D.TIi1,D.TIi2,D.TOi1,D.TOi2,D.i12,vj q1 k1 hz rfl ∅,vj q1 k1 hTO rfl ∅,vj q1 k1 e1 c1 ∅,vj q1 k1 e2 c2 ∅,vj q2 k2 hz rfl ∅,vj q2 k2 hTO rfl ∅,vj q2 k2 e1 c1 ∅,vj q2 k2 e2 c2 ∅]
def zg3(K:sL)(ta:TA):TI:=λσ H R=>ta σ H λvs H1=>∃a b,vs=[.ref a,.ref b]/\(∃xs,SqL K H1 a xs)/\(∃ys,SqL K H1 b ys)/\R (Izp K a b) H1
def zg9(K:sL)(a b:sM)(g:TG)(tb:TS)(D:Zm)(σ:L2.St)(H:Hp):Prop:=∃W:Nat->Nat->L2.St->Hp->Prop,(∃m,W 0 m σ H)/\∀i m σ H,W i m σ H ->
 ((Izp K a b).stop i H/\D.nx σ H)\/((Izp K a b).go i H/\∃N:L2.St->Hp->Prop,(∀σ' H',N σ' H'->∃m',m'<m/\W (i+1) m' σ' H')/\∀x H',(Izp K a b).yld i H x H'->g x σ H' λσ2 H2=>tb { D with nx:=N,ct:=N,bk:=D.nx } σ2 H2)
def zg1{K:sL}:Kd (zg3 K ta) g tb D σ H=ta σ H λvs H1=>∃a b,vs=[.ref a,.ref b]/\(∃xs,SqL K H1 a xs)/\(∃ys,SqL K H1 b ys)/\zg9 K a b g tb D σ H1:=rfl
abbrev xob(C:sM)(dx:Option sM)(t:sM)(tb:sN):tZ:={ cls:=.ref C,dict:=dx,data:=.fields (r9 [.ref t,tb,.none,.none,.bool Bd,.none]) }
abbrev xog(C:sM)(dx:Option sM)(t:sM)(tb c:sN)(k:Bool):tZ:={ cls:=.ref C,dict:=dx,data:=.fields (r9 [.ref t,tb,c,.none,.bool k,.none]) }
def zcZ(h:tB)(x:sM)(tb:sN):Prop:=tb=.none\/∃T oT ts,tb=.ref T/\T≠x/\h.get? T=Ba oT/\oT.data=.fields ts/\3<ts.size
def Yp(h:env.frame=env0.frame):eW env=eW env0:=by unfold eW;rw[h]
def Ya(hfr:A.frames=Ba (env0::outer))(hl:s.heap.FunFrames base (env0::outer))(hf:env0.frame=Ba L)(he:env.frame=Ba L)(hx:s.heap.get? x=Ba (xog C dx t tb cx kx))(h:∀h' oT ts,h'.get? x=Ba (xog C dx t (.ref s⁻¹) cx kx)->s⁻¹≠x->h'.get? s⁻¹=Ba oT->oT.data=.fields ts->3<ts.size ->
   (∀b o,b≠x->b ∉ frs (env0::outer)->s.heap.get? b=Ba o->h'.get? b=Ba o)->(∀b o,b≠x->s.heap.get? b=Ba o->∃sl,h'.get? b=Ba { o with slots:=sl })->Q Unit.unit { s with heap:=h' }) :
  sQ M A (do let a <- eW env;let pl <- entryPlaceOf L hadNext;let b <- EntryCells.newEntry head a .none (rawInt L) .none pl;setField (.ref x) 1 b) Q E s:=by
 have hxf:x ∉ frs (env0::outer):=λhm=>by
  let#[_,o,ho,hnf]:=hl.mem hm;rw[hx]at ho;cases ho;exact hnf _ rfl
 rw[Yp (he.trans hf.symm)];refine sF (wpAny_frameOf_fun hfr hl hf λh1 hs1=>sF (wpAny_entryPlaceOf λpl hpl=>?_));unfold EntryCells.newEntry newFields;refine sF (Ad ?_ (hpl.sizeOk5 _ _ _ _ _));have hz:h1.objs.size=s⁻¹:=hs1.1;have hx1:h1.get? x=Ba (xog C dx t tb cx kx):=(hs1.2.1 x hxf).trans hx;generalize ho:({ cls:=.type "traceback",dict:=Bb,data:=.fields ([head,.ref L,.none,rawInt L,.none] ++ (if pl.isEmpty then aR 6 p9 else pl)).toArray }:tZ)=ob;have hx2:(h1.push ob).get? x=Ba (xog C dx t tb cx kx):=ag _ hx1;refine tS hx2 rfl (by show 1<6;decide) ?_;have hne:h1.objs.size≠x:=cC (aw hx1)
 have hx3:((h1.push ob).update x (Obj.mapFields (·.setIfInBounds 1 (r8 h1.objs.size)))).get? x=Ba (xog C dx t (.ref h1.objs.size) cx kx) :=
  cu (Obj.mapFields (·.setIfInBounds 1 (r8 h1.objs.size))) hx2 rfl
 have hT:((h1.push ob).update x (Obj.mapFields (·.setIfInBounds 1 (r8 h1.objs.size)))).get? h1.objs.size=Ba ob :=
  (az _ _ (Ne.symm hne)).trans (aE h1 (by rw[<- ho];rfl))
 rw[hz]at hx3 hT hne
 have kp:∀b o,b≠x->h1.get? b=Ba o->((h1.push ob).update x (Obj.mapFields (·.setIfInBounds 1 (r8 h1.objs.size)))).get? b=Ba o:=λb o hb e =>
  (az _ _ (Ne.symm hb)).trans (ag _ e)
 rw[hz]at kp ⊢;refine h _ ob _ hx3 hne hT (by rw[<- ho]) (by erw[ak,aj,aG,bI] <;> lia) (λb o hb hbf e=>kp b o hb ((hs1.2.1 b hbf).trans e)) λb o hb e=>?_;let#[sl,q]:=hs1.2.2 b o e;exact#[sl,kp b _ hb q]
def Zj(hfr:A.frames=Ba (env0::outer))(hl:s.heap.FunFrames base (env0::outer))(hf:env0.frame=Ba L)(he:env.frame=Ba L)(hx:s.heap.get? x=Ba (xog C dx t tb cx kx))(htb:zcZ s.heap x tb)(h:∀h' T oT ts,h'.get? x=Ba (xog C dx t (.ref T) cx kx)->T≠x->(tb=.ref T\/s⁻¹<=T)->h'.get? T=Ba oT->oT.data=.fields ts->3<ts.size ->
   (∀b o,b≠x->tb≠.ref b->b ∉ frs (env0::outer)->s.heap.get? b=Ba o->h'.get? b=Ba o)->(∀b o,b≠x->tb≠.ref b->s.heap.get? b=Ba o->∃sl,h'.get? b=Ba { o with slots:=sl })->Q Unit.unit { s with heap:=h' }) :
  sQ M A (noteFrame (.ref x) env) (λZ s1=>sQ M A (setFlight (.ref x) Bb) Q E s1) E s:=by
 have land:∀(h1:tB) (T:sM) (oT:tZ) (ts:Array sN),h1.get? x=Ba (xog C dx t (.ref T) cx kx)->T≠x->(tb=.ref T\/s⁻¹<=T)->h1.get? T=Ba oT->oT.data=.fields ts->3<ts.size ->
   (∀b o,b≠x->tb≠.ref b->b ∉ frs (env0::outer)->s.heap.get? b=Ba o->h1.get? b=Ba o)->(∀b o,b≠x->tb≠.ref b->s.heap.get? b=Ba o->∃sl,h1.get? b=Ba { o with slots:=sl }) ->
   sQ M A (setFlight (.ref x) Bb) Q E { s with heap:=h1 }:=λh1 T oT ts e1 nT oldT e2 d2 z2 k1 k2=>by
  unfold setFlight;refine sF (tU (s:={ s with heap:=h1 }) e1 rfl (x:=.ref T) rfl ?_);rw[w6 (show (r8 T != p9)=Bc from by simp)];refine tS (s:={ s with heap:=h1 }) e2 d2 z2 ?_;have d3:=Obj.data_mapFields d2 (·.setIfInBounds 3 ((Bb:Option sM).elim p9 λf=>rawInt f))
  have nb:∀b,b≠x->tb≠.ref b->(∃o,s.heap.get? b=Ba o)->b≠T:=λb hb hbt ⟨o,eo⟩ z=>by
   subst z;rcases oldT with q | q
   ·exact hbt q
   ·exact w4 (aw eo) (Nat.not_lt.mpr q)
  refine h _ T _ _ ((az _ _ nT).trans e1) nT oldT (cu _ e2 (Obj.isFreed_of_fields d3)) d3 ↥z2 (λb o hb hbt hbf e=>?_) λb o hb hbt e=>?_
  ·exact (az _ _ (Ne.symm (nb b hb hbt #[o,e]))).trans (k1 b o hb hbt hbf e)
  ·let#[sl,q]:=k2 b o hb hbt e;exact#[sl,(az _ _ (Ne.symm (nb b hb hbt #[o,e]))).trans q]
 unfold noteFrame
 erw[he]
 refine sF (tU hx rfl (x:=tb) rfl ?_);rcases htb with rfl | ⟨T,oT,ts,rfl,nT,e2,d2,z2⟩
 ·rw[w9 ∅];refine Ya hfr hl hf he hx λh' oT ts e1 ne e2 d2 z2 k1 k2=>land h' _ oT ts e1 ne (.inr (al _)) e2 d2 z2 (λb o hb Z hbf e=>k1 b o hb hbf e) λb o hb Z e=>k2 b o hb e
 ·rw[w6 (show (r8 T != p9)=Bc from by simp)];obtain⟨y,hy⟩:∃y,ts[3]? = Ba y:=#[ts[3],by simp [z2]];refine sF (tU e2 d2 (x:=y) hy ?_);by_cases c:(y == rawInt L)=Bc
  ·rw[w6 c];exact sH (land s.heap T oT ts hx nT (.inl rfl) e2 d2 z2 (λb o Z Z Z e=>e) λb o Z Z e=>#[o.slots,e])
  ·rw[w9 c];refine sF (tS e2 d2 z2 ?_);have oth:∀b,b≠T->(s.heap.update T (Obj.mapFields (·.setIfInBounds 3 p9))).get? b=s.heap.get? b:=λb hb=>az _ _ (Ne.symm hb);have hl1:(s.heap.update T (Obj.mapFields (·.setIfInBounds 3 p9))).FunFrames base (env0::outer):=hl.of_keeps λb o hb hnf=>#[o,(oth b λq=>by rw[q,e2]at hb;cases hb;exact hnf ts d2).trans hb,rfl];have hsz:(s.heap.update T (Obj.mapFields (·.setIfInBounds 3 p9))).objs.size=s⁻¹:=dv ..;refine Ya (s:={ s with heap:=s.heap.update T (Obj.mapFields (·.setIfInBounds 3 p9)) }) hfr hl1 hf he ((oth x (Ne.symm nT)).trans hx) λh' oT' ts' e1 ne e2' d2' z2' k1 k2=>?_;refine land h' _ oT' ts' e1 ne (.inr (by rw[hsz];exact al _)) e2' d2' z2' (λb o hb hbt hbf e=>k1 b o hb hbf ((oth b λq=>hbt (by rw[q])).trans e)) λb o hb hbt e=>k2 b o hb ((oth b λq=>hbt (by rw[q])).trans e)
def zbC(hfr:A.frames=Ba (env0::outer))(hl:s.heap.FunFrames base (env0::outer))(hf:env0.frame=Ba L)(he:env.frame=Ba L)(hx:s.heap.get? x=Ba (xog C dx t tb cx kx))(htb:zcZ s.heap x tb)(h:∀h' T oT ts,h'.get? x=Ba (xog C dx t (.ref T) cx kx)->T≠x->(tb=.ref T\/s⁻¹<=T)->h'.get? T=Ba oT->oT.data=.fields ts->3<ts.size ->
   (∀b o,b≠x->tb≠.ref b->b ∉ frs (env0::outer)->s.heap.get? b=Ba o->h'.get? b=Ba o)->(∀b o,b≠x->tb≠.ref b->s.heap.get? b=Ba o->∃sl,h'.get? b=Ba { o with slots:=sl })->Q Unit.unit { s with heap:=h' }) :
  sQ M A (leaving env (.ref x)) Q E s:=sF (Zj hfr hl hf he hx htb h)
def CXx(P:sU)(w:sZ):CXT:=λouter H s E e s'=>∃(x C t:sM) (dx:Option sM) (tb:sN) (H':Hp),e=.ref x/\s'.os=s.os/\Ag s'.gens/\Un (frs outer) [] H H' s.heap s'.heap/\HOk P w H' s'.heap /\
 s'.heap.get? x=Ba (xob C dx t tb)/\zcZ s'.heap x tb/\H' x=Bb/\s⁻¹<=x/\(∀T,tb=.ref T->H' T=Bb/\s⁻¹<=T)/\E (.ref C) dx H'
def zd1(X:Cx)(E:XK)(e:sN)(s:sP):Prop:=∃(Be:List (sM × tZ)) (σ:St) (H:Hp) (x C t:sM) (dx:Option sM) (tb:sN),e=.ref x/\Inv X Be σ H s /\
 s.heap.get? x=Ba (xob C dx t tb)/\zcZ s.heap x tb/\wo X Be H x/\(∀T,tb=.ref T->wo X Be H T)/\E (.ref C) dx H
def XE(X:Cx)(E:XK):Prop:=∀e s,zd1 X E e s->X.xe e s
def VB(hx:XE X E):qo (CXx X.prog X.w) X E:=by intro Be σ H s e s' I h;let#[x,C,t,dx,tb,H',rfl,os,bare,un,hok,ob,tr,hn,hsz,hT,q]:=h;have I':Inv X Be σ H' s':=I.call' os un hok bare λb z=>w4 z (by simp);exact hx _ _ #[Be,σ,H',x,C,t,dx,tb,rfl,I',ob,tr,I.fpOk hsz hn,λT e=>I.fpOk (hT T e).2 (hT T e).1,q]
def zeu{K:sL} :
  XE (qX (CXx P w) P w K mg base N qual scope f cd A outer s H E) E:=by
 intro e s1 h;let#[Be,σ,H1,x,C,t,dx,tb,rfl,I,ob,tr,fx,fT,q]:=h;show sQ _ _ (leaving _ (.ref x)) _ _ s1;have ff:=I.stack;refine zbC (A:=(qX (CXx P w) P w K mg base N qual scope f cd A outer s H E).A) (env0:=Ab qual scope s⁻¹ f cd) (outer:=outer) I.ok.frames ff rfl rfl ob tr λh' T oT ts e1 nT oldT e2 d2 z2 k1 k2=>?_;have szs:s⁻¹<=s1⁻¹:=I.sz
 have hxs:s⁻¹<=x:=by
  rcases fx.2.2.2.1 with z | z
  ·exact w4 z (by simp [qX])
  ·exact z
 have hTs:s⁻¹<=T/\H1 T=Bb:=by
  rcases oldT with z | z
  ·let#[a0,_,_,a3,_]:=fT T z;rcases a3 with y | y
   ·exact w4 y (by simp [qX])
   ·exact#[y,a0]
  ·exact#[aH szs z,I.hok.fresh z]
 have tbs:∀b,tb=.ref b->s⁻¹<=b/\H1 b=Bb:=λb hb=>by
  let#[a0,_,_,a3,_]:=fT b hb;rcases a3 with y | y
  ·exact w4 y (by simp [qX])
  ·exact#[y,a0]
 have old:∀b o,s.heap.get? b=Ba o->b≠x/\tb≠.ref b:=λb o e=>by
  have hb:=aw e;refine#[ay (aq hb hxs),λz=>?_];exact w4 (aq hb (tbs b z).1) (cJ _)
 have un:Un (frs outer) [] H H1 s.heap h':=by
  have B:=I.base;refine#[λb o e n hb Z=>?_,λb o e n hb Z=>?_,λb o e n Z=>B.free b o e n (by simp [qX]),λb o e Z=>?_,B.tups,B.frzs,B.tbls]
  ·have e1:=B.keep b o e n hb (by simp [qX]);refine k1 b o (old b o e).1 (old b o e).2 (λz=>?_) e1;have z':=I.stkSub b z;rcases Bk.mp z' with q | q
   ·exact w4 q (ay (aq (aw e) I.ok.above))
   ·exact hb q
  ·let#[sl,e1]:=B.slot b o e n hb (by simp [qX]);let#[sl',e2]:=k2 b _ (old b o e).1 (old b o e).2 e1;exact#[sl',e2]
  ·let#[o',e1]:=B.there b o e (by simp [qX]);let#[sl',e2]:=k2 b _ (old b o e).1 (old b o e).2 e1;exact#[_,e2]
 have hok:HOk P w H1 h':=λb u e=>by
  refine (I.hok b u e).stay (λc v hc q=>k1 c v ?_ ?_ ?_ q) (λZ q=>q) λZ Z q=>q
  ·rintro rfl;rcases hc with rfl | hc
   ·rw[fx.1]at e;cases e
   ·rw[fx.1]at hc;cases hc
  ·intro z;have:=(tbs c z).2;rcases hc with rfl | hc
   ·rw[this]at e;cases e
   ·rw[this]at hc;cases hc
  ·intro z;have:=I.stkFree c z;rcases hc with rfl | hc
   ·rw[this]at e;cases e
   ·rw[this]at hc;cases hc
 exact#[x,C,t,dx,.ref T,H1,rfl,I.os,I.bare,un,hok,e1,.inr #[T,oT,ts,rfl,nT,e2,d2,z2],fx.1,hxs,λT' z=>by cases z;exact#[hTs.2,hTs.1],q]
def Fun.okX{K:sL}{st:sV}(F:Fun K x qual st f fd)(S:zo N ps (zi st))(len:∀vs H Q E,sp vs H Q E->vs.length=ps.length)(hbody:∀(cdv:sN) (A:tG) (outer:List AU) (s:sP) (H:Hp) (vs:List V) (Q:VK) (E:XK),Room k (A.deeper (Ab qual (zi st) s⁻¹ f cdv))->XE (qX (CXx P w) P w K mg base N qual (zi st) f cdv A outer s H E) E->sp vs H Q E ->
   ∃t,PSs (qX (CXx P w) P w K mg base N qual (zi st) f cdv A outer s H E) (yl st) t/\t { nx:=λZ H'=>Q .non H',rt:=Q } (start N vs) H):FnOk P w K mg base (CXx P w) (k+1) f fd ps sp:=by let#[oc,od,kV,doc,pm,an,cdv,ct,osl,rfl,lk,hcd]:=F.ex;exact KH lk hcd S len λA outer s H vs Q E hr hsp=>hbody cdv A outer s H vs Q E hr zeu hsp
def zdu(X:Cx)(E:XK)(e:sN)(s:sP):Prop:=∃(cx:sN) (kx:Bool) (Be:List (sM × tZ)) (σ:St) (H:Hp) (x C t:sM) (dx:Option sM) (tb:sN),e=.ref x/\Inv X Be σ H s /\
 s.heap.get? x=Ba (xog C dx t tb cx kx)/\zcZ s.heap x tb/\wo X Be H x/\(∀T,tb=.ref T->wo X Be H T)/\E (.ref C) dx H
def XEg(X:Cx)(E:XK):Prop:=∀e s,zdu X E e s->X.xe e s
structure RoomH(k:Nat)(A:tG):Prop where
 dp:A.depth+3 * k+5<Au
 un:A.units+16 * k+200<cLine
def RoomH.mark(r:RoomH k A)(e:Option sN):RoomH k (A.mark e):=#[r.dp,r.un]
def cxH(P:sU)(w:sZ)(K:sL)(mg:sS->Option sN)(base:tB)(N:List sS)(qual:sS)(scope:Aj)(f:sM)(cd:sN)(A:tG)(outer:List AU)(s:sP)(H:Hp):Cx :=
 { qX CX0 P w K mg base N qual scope f cd A outer s H E0 with calm:=Bd,xe:=λZ Z=>False }
abbrev bmV:List sN:=[.type "ValueError",.type "Exception",.type "BaseException",.type "object"]
def xcC(K:sL)(C:sM)(o:tZ)(cd:ClassData):Bool:=decide (cd.mro.head? = Ba (.ref C)/\o.slots.size=6/\o.slots[4]? = Ba (Ba (.builtin "ValueError.__new__"))/\o.cls=.type "type"/\cd.hasDel=Bd/\cd.hasDict=Bc/\PySem.W.tailIn K bmV cd.mro.tail=Bc)
def xcO(K:sL)(C:sM)(o:tZ):Data->Bool
 | .cls cd=>xcC K C o cd
 | _=>Bd
def Xo(K:sL)(C:sM):Bool:=(K.lookup C).any λo=>xcO K C o o.data
theorem zhe{α:Type}:∀{l:List α},l.length=6->∃a b c d e f,l=[a,b,c,d,e,f]
 | [a,b,c,d,e,f],_=>#[a,b,c,d,e,f,rfl]
theorem ZL{K:sL}{G:Prop}(q:Xo K C=Bc)(f:∀bm N nm qn bs sn sub ab col dd k0 k1 k2 k3 k5,K.lookup C=Ba (Av nm qn C N bs bm Bc sn sub ab col dd k0 k1 k2 k3 k5 "ValueError.__new__")->(∀h:tB,K.In h->OwnTail h bmV bm)->G):G:=by
 let#[#[c,dd,da,sl],ho,h]:=(Option.any_eq_true _ _).mp q
 cases da with
 | cls cd =>
  let#[h1,h2,h3,h4,h5,h6,ht]:=u5 h;let#[nm,bs,mro,ns,qn,hd,sn,sub,ab,col,del]:=cd;let#[l]:=sl;let#[k0,k1,k2,k3,k,k5,e]:=zhe h2
  cases mro with
  | nil=>cases h1
  | cons v bm =>
   cases Option.some.inj h1;subst e;cases Option.some.inj h3;cases h4;cases h5;cases h6;exact f bm ns nm qn bs sn sub ab col dd k0 k1 k2 k3 k5 ho λh X=>PySem.W.tail_of_in X ht
 | _=>cases h
structure XC(K:sL)(C:sM):Prop where
 ok:Xo K C=Bc
 sa:ah K (.ref C) "__setattr__" = Ba (Ba (.builtin "object.__setattr__"))
 ga:ah K (.ref C) "__getattribute__" = Ba (Ba (.builtin "BaseException.__getattribute__"))
 gt:ah K (.ref C) "__getattr__" = Ba Bb
 kp:aP K (.ref C)=Bc
def WP{prog:sU}{w:sZ}{A:tG}{R:Result->sP->Prop}{h:tB}{g:Array GenState}{d:Drawn}{t:Nat}{os:OsState}{K:sL}{C:sM}{rest:List sN}(X:K.In h)(q:Xo K C=Bc)(hi:ah K (.ref C) "__init__" = Ba (Ba init))(hb:∀self,PySem.W.Looks (model prog w) h (bindSpecial init self) (init,[self]))(hrest:rest.length<=sK)(hq:tM (model prog w) (A.under (.builtin "type.__call__" #[.ref C::rest,[]])) (.call init #[.ref (h.objs.size+1)::rest,[]]) (PySem.W.InitBack (h.objs.size+1) R) #[(h.push { cls:=.type "tuple",data:=.seq rest.toArray }).push (xob C Bb h.objs.size .none),g,d,t,os]) :
  tM (model prog w) A (.call (.ref C) #[rest,[]]) R #[h,g,d,t,os]:=by
 refine ZL (q) λbm N nm qn bs sn sub ab col dd k0 k1 k2 k3 k5 lk tl=>?_;have hC:=X _ _ lk;have T:=tl h X;have F:=eX;have f1:=tc_lookup;have f2:=tc_bind (.ref C);have hT:(#[h,g,d,t,os]:sP).TypeIs (.ref C) "type":=#[_,hC,rfl];refine codeAny_of_tree ?_;show sQ _ _ (callAny (.ref C) _) _ _ _
 repeat (any_goals (first | assumption | with_reducible refine tH hC ?_ | wp_step))
 refine#[rfl,?_];refine codeAny_call_builtin_at (Code.quiet_builtin _ (!0)) entry_typeCall (wpAny_check_type_call_sub hC ?_)
 repeat (first | with_reducible refine tH hC ?_ | with_reducible refine wpAny_madeBy_exc hC ?_ | wp_step)
 refine codeAny_call_builtin_code (Code.quiet_builtin _ F.quiet) (wpAny_check_new_subT F T hC ?_);refine codeAny_exc_new_subT F T hC ?_ hrest;show sQ _ _ _ _ _ _;have k:∀b o,h.get? b=Ba o->((h.push { cls:=.type "tuple",data:=.seq rest.toArray }).push (xob C Bb h.objs.size .none)).get? b=Ba o:=λb o e=>ag _ (ag _ e);have hC1:=k _ _ hC;have hget:((h.push { cls:=.type "tuple",data:=.seq rest.toArray }).push (xob C Bb h.objs.size .none)).get? (h.objs.size+1)=Ba (xob C Bb h.objs.size .none):=by heap_get
 have hcC:(r8 C::bm).contains (.ref C)=Bc:=by simp
 unfold isInstance
 repeat (first | with_reducible refine tH hget ?_ | wp_step)
 refine Aa (C:=C) hC1 ?_;rw[hcC]
 repeat wp_step
 show sQ _ _ (typeLookup (.ref C) _) _ _ _;refine ((cX X hi).keeps k).at ?_;refine tu (sF (((hb _).keeps k).at ?_));refine sF (tV (tY hq λr s' z=>?_));rcases r with e | (v | _ | _ | _) <;> first | exact z | exact z.elim | skip;let#[rfl,z]:=z;exact sH (sH z)
def XN(x C:sM)(dx:Option sM):HO:=.ext λh=>∃t,h.get? x=Ba (xob C dx t .none)
def XT(x C:sM)(dx:Option sM):HO:=.ext λh=>∃t tb c k,h.get? x=Ba (xog C dx t tb c k)
def XP(x C:sM)(dx:Option sM):HO:=.ext λh=>∃t tb,h.get? x=Ba (xob C dx t tb)
def zdv(e:h.get? x=Ba (xob C dx t .none)):ObjOk P w H h x (XN x C dx) :=
 #[#[t,e],#[_,e],λh1 h2 ⟨t,q⟩ k=>#[t,k _ q]]
def zdX(e:h.get? x=Ba (xog C dx t tb c k)):ObjOk P w H h x (XT x C dx) :=
 #[#[t,tb,c,k,e],#[_,e],λh1 h2 ⟨t,tb,c,k',q⟩ k=>#[t,tb,c,k',k _ q]]
def zdZ(o:ObjOk P w H h x (XN x C dx)):∃t,h.get? x=Ba (xob C dx t .none):=o.1
def zf4(o:ObjOk P w H h x (XT x C dx)):∃t tb c k,h.get? x=Ba (xog C dx t tb c k):=o.1
def YR{sub:List sN}(hC:h.get? C=Ba (Av nm q C N bs bm hdct sn sub ab col dd k0 k1 k2 k3 k5 newId))(base:sN):PySem.W.Looks M h (isSubtype (.ref C) base) ((r8 C::bm).contains base):=λA Q E s k z=>by
 let#[hp,g,d,t,os]:=s;exact Aa (k _ _ hC) z
def QX{sub:List sN}(hC:h.get? C=Ba (Av nm q C N bs bm hdct sn sub ab col dd k0 k1 k2 k3 k5 newId)):PySem.W.Looks M h (mroOf (.ref C)) (.ref C::bm):=λA Q E s k z=>by
 let#[hp,g,d,t,os]:=s;exact wpAny_mroOf_exc (k _ _ hC) z
def Qv{sub:List sN}(hC:h.get? C=Ba (Av nm q C N bs bm hdct sn sub ab col dd k0 k1 k2 k3 k5 newId)):PySem.W.Looks M h (classData C) { name:=nm,bases:=bs,mro:=.ref C::bm,ns:=N,qualname:=q,hasDict:=hdct,slotNames:=sn,subclasses:=sub,abstract:=ab,collection:=col,hasDel:=Bd }:=λA Q E s k z=>by
 unfold classData;exact sF (wpAny_load (k _ _ hC) (sH z))
theorem Wj(T:OwnTail h bmB bm)(self:sN)(hp:refuseLoop self "__setattr__" bmB=pure Unit.unit):refuseLoop self "__setattr__" bm=pure Unit.unit:=by
 induction T with
 | base=>exact hp
 | own _ _ _ _ ih=>rw[refuseLoop_ref];exact ih
def zc4(I:Inv X Be σ H s)(e:H x=Ba (XN x C Bb))(xc:XC X.K C)(n:NoAttr X.K C f)(ry:RelV y u)(h:∀s' dx,H dx=Bb->Inv X Be σ (upd (upd H dx (.xd [(f,y)])) x (XN x C (Ba dx))) s'->Q Unit.unit s'):sQ (model X.prog X.w) A (setAttr (.ref x) f u) Q E s:=by
 let#[t,ob]:=zdZ (I.hok x _ e);refine ZL (xc.ok) λbm N nm qn bs sn sub ab col dd k0 k1 k2 k3 k5 lk tl=>?_;have hC:=I.kIn _ _ lk;have T:=tl _ I.kIn;have SF:=PySem.F.store_ValueError;have J:PySem.W.InstAt s.heap x (xob C Bb t .none) C Bb:=#[ob,rfl,rfl,trivial];have hob:(r8 C::bm).contains (.type "object")=Bc:=by rw[dg,T.hasType (show bmV.contains (.type "object")=Bc by symm),ee]
 have isO:PySem.W.Looks (model X.prog X.w) s.heap (isInstance (.ref x) (.type "object")) Bc:=J.type.andThen (by have:=YR (M:=model X.prog X.w) hC (.type "object");rw[hob]at this;exact this);refine gA I.kIn J xc.sa ?_;refine Ah SF.slot.plain SF.entry (@PySem.W.check_slot (model X.prog X.w) _ _ { s with toks:=s.toks+1 } "object.__setattr__" "object" "__setattr__" (.ref x) [.str f s.toks,u] [] _ SF.kind SF.split isO (SF.args _ _ _) ?_);rw[PySem.W.osa_eq,refuse_eq];refine sF (sF (J.type.here (s:={ s with toks:=s.toks+1 }) (sF ((QX hC).here (s:={ s with toks:=s.toks+1 }) ?_))));rw[refuseLoop_ref,Wj T _ (SF.passes _)];refine sH (sF (J.type.here (s:={ s with toks:=s.toks+1 }) (sF ((cX I.kIn n).here (s:={ s with toks:=s.toks+1 }) (sF (sH ?_))))));show sQ _ _ (Builtin.ObjectAttr.storeInOwnDict (.ref x) (.ref C) (.str f s.toks) f u Bd) _ _ _;have hx1:(s.heap.push { cls:=.type "dict",data:=.dict #[] }).get? x=Ba (xob C Bb t .none):=ag _ ob;have hxs:x≠s⁻¹:=ay (aw ob);refine sF (sH (sF (sF (As ob (sF ((Qv hC).here (s:={ s with toks:=s.toks+1 }) ?_))))));rw[w9 (by simp)];show sQ _ _ (if (!Bc || !typeHasDict (.ref C))=Bc then _ else _) _ _ _;rw[w9 (by simp [typeHasDict])]
 have hgd:((s.heap.push { cls:=.type "dict",data:=.dict #[] }).update x λo=>{ cls:=o.cls,dict:=Ba s⁻¹,data:=o.data,slots:=o.slots }).get? s⁻¹=Ba { cls:=.type "dict",data:=.dict #[] } :=
  (az _ _ hxs).trans (Heap.get?_push_at rfl rfl)
 have hgx:((s.heap.push { cls:=.type "dict",data:=.dict #[] }).update x λo=>{ cls:=o.cls,dict:=Ba s⁻¹,data:=o.data,slots:=o.slots }).get? x=Ba (xob C (Ba s⁻¹) t .none) :=
  cu _ hx1 rfl
 have hnd:((s.heap.push { cls:=.type "dict",data:=.dict #[] }).update x λo=>{ cls:=o.cls,dict:=Ba s⁻¹,data:=o.data,slots:=o.slots }).Ns s⁻¹ (λZ=>Bb) :=
  #[_,#[],_,hgd,rfl,λe he=>w4 he (by simp),λZ=>rfl]
 refine sF (wpAny_alloc' (sF (wpAny_update' hx1 (sH ?_))));show sQ _ _ (Builtin.ObjectAttr.storeInDict s⁻¹ (.str f s.toks) f u) _ _ _;unfold Builtin.ObjectAttr.storeInDict Builtin.ObjectAttr.newKeyGuard;refine sF (sH (sF (wpAny_nsSet1 (Heap.Ns1.of_empty hnd) λh' hn' hs=>?_)));let#[oD,esD,epD,hoD,hdD,hcD]:=hn'.count (Within.cons f u Within.nil);refine sF (AI hoD (by rw[hdD];exact pastItsLine_dict (aH hcD (by rw[aG,bI,sY];lia))) ?_);refine sH ?_;have hx2:h'.get? x=Ba (xob C (Ba s⁻¹) t .none):=(hs.2 x hxs).trans hgx;have hfr:H s⁻¹=Bb:=I.hok.fresh (al _);have hxe:x≠s⁻¹:=hxs;refine h _ s⁻¹ hfr ?_
 have k0:∀b o,b≠x->s.heap.get? b=Ba o->h'.get? b=Ba o:=λb o hb q =>
  (hs.2 b (ay (aw q))).trans ((az _ _ (Ne.symm hb)).trans (ag _ q))
 have I1:Inv X Be σ (upd H x (XN x C (Ba s⁻¹))) { s with heap:=h',toks:=s.toks+1+1 } :=
  I.write (x:=x) (e:=x) (by rw[e];exact True.intro) (.inl rfl) k0 ⟨_,hx2⟩ (zdv hx2)
 have hd2:ObjOk X.prog X.w (upd (upd H x (XN x C (Ba s⁻¹))) s⁻¹ (.xd [(f,y)])) h' s⁻¹ (.xd [(f,y)]):=by
  refine#[_,hn',λg=>?_];show RelO (bB g [(f,y)]) (if g=f then Ba u else Bb);by_cases q:g=f
  ·subst q;rw[w6 rfl];simp [bB,RelO,ry]
  ·rw[w9 q];have q':(g == f)=Bd:=by simpa using q
   simp [bB,q',RelO]
 have fd:wo X Be (upd H x (XN x C (Ba s⁻¹))) s⁻¹:=I.fpOk (al _) (by rw[zt (Ne.symm hxe)];exact hfr);have I2:=Inv.track I1 fd hd2
 have eH:upd (upd H x (XN x C (Ba s⁻¹))) s⁻¹ (.xd [(f,y)])=upd (upd H s⁻¹ (.xd [(f,y)])) x (XN x C (Ba s⁻¹)):=by
  funext b;unfold upd;by_cases b1:b=s⁻¹
  ·subst b1;rw[w6 rfl,w9 (Ne.symm hxe),w6 rfl]
  ·by_cases b2:b=x
   ·subst b2;rw[w9 b1,w6 rfl,w6 rfl]
   ·rw[w9 b1,w9 b2,w9 b2,w9 b1]
 rw[eH]at I2;exact I2
def zbw(K:sL)(ta tv:TE)(f:sS):TS:=λD σ H=>tv σ H λy H1=>ta σ H1 λo H2=>∃x C,o=.ref x/\H2 x=Ba (XN x C Bb)/\XC K C/\NoAttr K C f/\∀dx,H2 dx=Bb->D.nx σ (upd (upd H2 dx (.xd [(f,y)])) x (XN x C (Ba dx)))
def JN(ha:PE X o ta)(hv:PE X value tv)(hs:swapsWith value (Ba (.Attribute o f pos')) pos.line X.env=pure Bd):PS X (.Assign [.Attribute o f pos'] value pos) (zbw X.K ta tv f):=by intros D I h;refine Ae (thn (hv Be s σ H _ I h) λu s1=>el5 λy H1 I1 ry q=>thn (ha Be s1 σ H1 _ I1 q) λov s2=>el5 λx' H2 I2 rx q_z=>?_) hs;let#[x,C,ex,e,xc,n,q2]:=q_z;subst ex;obtain rfl:ov=r8 x:=rx;exact zc4 I2 e xc n ry λs3 dx hdx I3=>#[σ,_,I3,q2 dx hdx]
def UL{K:sL}(hh:A.handled=Bb)(h:sQ M A x (λv s1=>∃e C t dx,v=.ref e/\K.In s1.heap/\Xo K C=Bc/\s1.heap.get? e=Ba (xob C dx t .none)/\E (.ref e) s1) E s):sQ M A (raiseStmt env (Ba x) Bb) Q E s:=by
 unfold raiseStmt;refine sF (thn h λv s1 h1=>?_);let#[e,C,t,dx,rfl,X,hC,he,hE]:=h1;refine ZL (hC) λbm N nm qn bs sn sub ab col dd k0 k1 k2 k3 k5 lk tl=>?_;have hCo:=X _ _ lk;have T:=tl _ X;have hcB:(r8 C::bm).contains (.type "BaseException")=Bc:=by rw[dg,T.hasType (show bmV.contains (.type "BaseException")=Bc by symm),ee]
 let#[hp,g,d,tk,os]:=s1
 repeat (first | with_reducible refine tH he ?_ | with_reducible refine tH hCo ?_ | (with_reducible refine Aa hCo ?_;rw[hcB]) | wp_step)
 exact wpAny_raiseNew_none hh hE
def JS{K:sL}(hh:A.handled=Bb)(h:sQ M A (eval e env) (λv s1=>∃a C t dx,v=.ref a/\K.In s1.heap/\Xo K C=Bc/\s1.heap.get? a=Ba (xob C dx t .none)/\E (.ref a) s1) E s):sQ M A (exec (.Raise (Ba e) Bb pos) env) Q E s:=by
 rw[arm_exec_Raise]
 first
  | exact sF (tK (UL hh (sF (thn h λv s1 h1=>sF (tK (sH h1))))))
  | (erw[evalOpt,Option.map];exact sF (tK (UL hh (sF (thn h λv s1 h1=>sF (tK (sH h1)))))))
def del(H:Hp)(x:sM):Hp:=λb=>if b=x then Bb else H b
def Q9(h:b≠x):del H x b=H b:=w9 h
def WU : del H x x=Bb:=w6 rfl
def Inv.untrack(I:Inv X Be σ H s)(e:H x=Ba (.ext φ))(hs:X.s₀.heap.objs.size<=x):Inv X Be σ (del H x) s:=by
 have nx:∀b u,H b=Ba u->(∀ψ,u≠.ext ψ)->b≠x:=λb u q nu z=>by subst z;rw[e]at q;cases q;exact nu _ rfl
 have hn:∀b,b≠x->del H x b=H b:=λb hb=>Q9 hb;have es:s={ s with heap:=s.heap,gens:=s.gens,drawn:=s.drawn,toks:=s.toks }:=rfl;rw[es]
 refine I.step (g':=s.gens) (d':=s.drawn) (ch:=[x]) (λb hb=>?_) (λb o Z Z Z q Z=>q) (λb o Z Z Z q Z=>#[o.slots,q]) (λb o hc Z n=>?_)
  (λb o Z q=>#[o,q]) (λb xs q=>?_) (λb u xs q=>?_) (λb ps q=>?_) (λm hm=>hm) (λb u q=>?_) I.bare
 ·have eb:b=x:=by simpa using hb
  subst eb;refine#[.inr hs,λz=>?_,λy c q z=>?_,λp hp z=>?_]
  ·rw[z,I.free]at e;cases e
  ·have:=I.freeC y c q;rw[z,e]at this;cases this
  ·have:=(I.pin p hp).2.1;rw[z,e]at this;cases this
 ·rw[hn b ↥hc];exact n
 ·rw[hn b (nx b _ q λZ z=>by cases z)];exact q
 ·rw[hn b (nx b _ q λZ z=>by cases z)];exact q
 ·exact#[#[],by rw[hn b (nx b _ q λZ z=>by cases z),q];simp]
 ·by_cases hb:b=x
  ·subst hb;rw[WU]at q;cases q
  ·rw[hn b hb]at q;exact (I.hok b u q).stay (λc v Z z=>z) (λc z=>by rw[hn c (nx c _ z λZ y=>by cases y)];exact z) λc xs z=>by rw[hn c (nx c _ z λZ y=>by cases y)];exact z
def VI(I:Inv X Be σ H s)(xc:Xo X.K C=Bc)(hi:ah X.K (.ref C) "__init__" = Ba (Ba (.builtin "ValueError.__init__")))(hl:us.length<=sK)(h:∀s' x t,s⁻¹<=x->Inv X Be σ H s'->s'.heap.get? x=Ba (xob C Bb t .none)->Q (.ref x) s'):sQ (model X.prog X.w) X.A (call (.ref C) us) Q E s:=by
 have F:=eX;refine ZL (xc) λbm N nm qn bs sn sub ab col dd k0 k1 k2 k3 k5 lk tl=>?_;have hC:=I.kIn _ _ lk;have T:=tl _ I.kIn;let#[hp,g,d,t,os]:=s;have k:∀b o,hp.get? b=Ba o->((hp.push { cls:=.type "tuple",data:=.seq us.toArray }).push (xob C Bb hp.objs.size .none)).get? b=Ba o:=λb o e=>ag _ (ag _ e);refine tV (WP I.kIn xc hi (λself=>PySem.W.Looks.of_pure (F.init.bind self)) hl ?_);have hget:((hp.push { cls:=.type "tuple",data:=.seq us.toArray }).push (xob C Bb hp.objs.size .none)).get? (hp.objs.size+1)=Ba (xob C Bb hp.objs.size .none):=by heap_get
 refine Ah F.init.plain F.initEntry (wpAny_check_init_subT F (T.keeps k) (k _ _ hC) hget rfl ?_)
 wp_walk
 refine#[rfl,h _ (hp.objs.size+1) ((hp.push { cls:=.type "tuple",data:=.seq us.toArray }).push (xob C Bb hp.objs.size .none)).objs.size (cP _) (I.kept (t':=t) λb o e=>?_) ?_]
 ·exact (az _ _ (cC (dj (aw e)))).trans (ag _ (k b o e))
 ·exact cu (Obj.mapFields λx=>x.setIfInBounds 0 (r8 ((hp.push { cls:=.type "tuple",data:=.seq us.toArray }).push (xob C Bb hp.objs.size .none)).objs.size)) (ag _ hget) rfl
def Xp(E:XK)(C:sM)(t:TA):TS:=λZ σ H=>t σ H λvs H1=>vs.length<=sK/\E (.ref C) Bb H1
def ym(hx:XE X E)(hc:X.calm=Bc)(xc:XC X.K C)(hi:ah X.K (.ref C) "__init__" = Ba (Ba (.builtin "ValueError.__init__")))(hg:Gl X cn)(hm:X.mg cn=Ba (.ref C))(ha:PA X (e::es) t)(hdb:‹(cn ==("__debug__" : sS))=Bd›)(he:‹sJ (e::es) X.env=(Bd,eval e X.env)::sJ es X.env›)(hpl:‹(tw cpos (sJ es X.env)).any (·.1)=Bd›) :
  PS X (.Raise (Ba (.Call (.Name cn np) (e::es) [] cpos)) Bb pos) (Xp E C t):=by intros D I h;refine JS (K:=X.K) (I.ok.hd hc) (tz (ub I hg hm ?_ hdb));refine cr (h₀:=X.base) I.ok.mod.kin xc.kp (thn (ha cpos Be s σ H _ I h) λus s1=>el5 λvs H1 I1 r=>ua2 λz q=>#[I1.kIn,?_]) he hpl;refine VI (us:=[] ++ us) I1 xc.ok hi (by show us.length<=sK;rw[<- r.length];exact z) λs2 x t hz I2 ob=>#[x,C,t,Bb,rfl,I2.kIn,xc.ok,ob,?_];exact hx _ _ #[Be,σ,H1,x,C,t,Bb,.none,rfl,I2,ob,.inl rfl,I1.fpOk hz (I1.hok.fresh hz),λT z=>(by cases z),q]
def JE(r:Room (k+1) A):Room k (A.under (.builtin "type.__call__" #[.ref C::us,[]])):=r.make C us []
def XD(E:XK)(C:sM)(sp:Sp)(t:TA):TS:=λZ σ H=>t σ H λvs H1=>vs.length<=sK/\∀x,H1 x=Bb->sp (.ref x::vs) (upd H1 x (XN x C Bb)) (λv H2=>v=.non/\∃dx,H2 x=Ba (XN x C dx)/\E (.ref C) dx (del H2 x)) E0
theorem Yq(hx:XE X E)(hc:X.calm=Bc)(xc:XC X.K C)(hi:ah X.K (.ref C) "__init__" = Ba (Ba (.ref f)))(hfn:bc X.K (.ref f)=Bc)(F:FnOk X.prog X.w X.K X.mg X.base CX0 k f fd ps sp)(hr:Room (k+1) X.A)(hb:Binds X.K fd ps [])(hg:Gl X cn)(hm:X.mg cn=Ba (.ref C))(ha:PA X (e::es) t)(hdb:‹(cn ==("__debug__" : sS))=Bd›)(he:‹sJ (e::es) X.env=(Bd,eval e X.env)::sJ es X.env›)(hpl:‹(tw cpos (sJ es X.env)).any (·.1)=Bd›) :
  PS X (.Raise (Ba (.Call (.Name cn np) (e::es) [] cpos)) Bb pos) (XD E C sp t):=by
 intros D I h;refine JS (K:=X.K) (I.ok.hd hc) (tz (ub I hg hm ?_ hdb));refine cr (h₀:=X.base) I.ok.mod.kin xc.kp (thn (ha cpos Be s σ H _ I h) λus s1=>el5 λvs H1 I1 r=>ua2 λz q=>#[I1.kIn,?_]) he hpl;have hl:us.length<=sK:=by rw[<- r.length];exact z
 have ob:((s1.heap.push { cls:=.type "tuple",data:=.seq us.toArray }).push (xob C Bb s1⁻¹ .none)).get? (s1⁻¹+1)=Ba (xob C Bb s1⁻¹ .none):=by heap_get
 have hfr:H1 (s1⁻¹+1)=Bb:=I1.hok.fresh (cP _)
 have I2:Inv X Be σ (upd H1 (s1⁻¹+1) (XN (s1⁻¹+1) C Bb)) { s1 with heap:=(s1.heap.push { cls:=.type "tuple",data:=.seq us.toArray }).push (xob C Bb s1⁻¹ .none) } :=
  I1.laid (t':=s1.toks) (λb o e=>ag _ (ag _ e)) (cP _) (zdv ob)
 have q1:=q _ hfr;have r2:Vals (V.ref (s1⁻¹+1)::vs) (r8 (s1⁻¹+1)::us):=.cons rfl r
 have hlen:(r8 (s1⁻¹+1)::us ++ ([]:List sN)).length=ps.length:=by
  rw[aT,<- r2.length];exact F.len _ _ _ _ q1
 have hb2:=hb { s1 with heap:=(s1.heap.push { cls:=.type "tuple",data:=.seq us.toArray }).push (xob C Bb s1⁻¹ .none) } (r8 (s1⁻¹+1)::us) I2.kIn hlen;rw[aT]at hb2;have run:=F.run _ X.stack _ _ #[r8 (s1⁻¹+1)::us,[]] (r8 (s1⁻¹+1)::us) _ _ E0 (JE (C:=C) (us:=us) hr) (I2.env0.make C us []) hb2 r2 q1;have sz0:X.s₀.heap.objs.size<=s1⁻¹+1:=aH I1.sz (cP _);show sQ (model X.prog X.w) X.A (call (.ref C) us) _ X.xe s1;refine tV ?_;refine WP (h:=s1.heap) (g:=s1.gens) (d:=s1.drawn) (t:=s1.toks) (os:=s1.os) (rest:=us) I1.kIn xc.ok hi (λself=>gG I1.kIn self (beq_iff_eq.mp hfn)) hl (tY run λr s' hq=>?_)
 cases r with
 | error e=>exact False.elim hq
 | ok fl =>
  cases fl with
  | ret u =>
   let#[v,H',I3,rv,ev,dx,hx3,q3]:=I2.after hq;subst ev;refine#[rv,?_];let#[t,ob3]:=zdZ (I3.hok _ _ hx3);have I4:=Inv.untrack I3 hx3 sz0;refine#[_,C,t,dx,rfl,I3.kIn,xc.ok,ob3,hx _ _ #[Be,σ,_,_,C,t,dx,.none,rfl,I4,ob3,.inl rfl,?_,λT z=>(by cases z),q3]];exact I1.fpOk (cP _) WU
  | next=>exact False.elim hq
  | brk=>exact False.elim hq
  | cont=>exact False.elim hq
def zcP(X:Cx)(Be:List (sM × tZ))(σ:St)(E:XK)(e:sN)(s:sP):Prop:=∃(cx:sN) (kx:Bool) (H:Hp) (x C t:sM) (dx:Option sM) (tb:sN),e=.ref x/\Inv X Be σ H s /\
 s.heap.get? x=Ba (xog C dx t tb cx kx)/\zcZ s.heap x tb/\wo X Be H x/\(∀T,tb=.ref T->wo X Be H T)/\E (.ref C) dx H
abbrev TX:=St->Hp->VK->XK->Prop
def PEX(X:Cx)(e:tR)(t:TX):Prop :=
 ∀(Be:List (sM × tZ)) (s:sP) (σ:St) (H:Hp) (Q:VK) (E:XK),Inv X Be σ H s->t σ H Q E->sQ (model X.prog X.w) X.A (eval e X.env) (EP X Be σ Q) (zcP X Be σ E) s
theorem Ke(F:FnOk X.prog X.w X.K X.mg X.base (CXx X.prog X.w) k f fd ps sp)(hr:Room k X.A)(hg:Gl X x)(hm:X.mg x=Ba (.ref f))(hk:aP X.K (.ref f)=Bc)(hb:Binds X.K fd ps ds)(hd:Vals dvs ds)(ha:PA X.nox (e::es) t) (hdb:‹(x ==("__debug__" : sS))=Bd›) (he:‹sJ (e::es) X.env=(Bd,eval e X.env)::sJ es X.env›) (hpl:‹(tw pos (sJ es X.env)).any (·.1)=Bd›) :
  PEX X (.Call (.Name x p) (e::es) [] pos) (λσ H Q E=>t σ H λvs H1=>sp (vs ++ dvs) H1 Q E):=by
 intros Q E I h;refine tz (ub I hg hm ?_ hdb);refine cr (h₀:=X.base) I.ok.mod.kin hk (tL (thn (ha pos Be s σ H _ (I.wish _) h) λus s1=>el5 λvs H1 I1 r q=>#[I1.kIn,?_])) he hpl;have I1':Inv X Be σ H1 s1:=I1.unwish;have r2:Vals (vs ++ dvs) (us ++ ds):=r.append hd;have hl:(us ++ ds).length=ps.length:=by rw[<- r2.length];exact F.len _ _ _ _ q
 refine tV (tY (F.run X.A X.stack s1 H1 #[us,[]] (us ++ ds) (vs ++ dvs) Q E hr I1'.env0 (hb s1 us I1'.kIn hl) r2 q) λr s' hq=>?_)
 cases r with
 | error e =>
  let#[x,C,t,dx,tb,H',rfl,os,bare,un,hok,ob,tr,hn,hsz,hT,q]:=hq;exact#[.none,Bd,H',x,C,t,dx,tb,rfl,I1'.call' os un hok bare (λb z=>w4 z (by simp)),ob,tr,I1'.fpOk hsz hn,λT e=>I1'.fpOk (hT T e).2 (hT T e).1,q]
 | ok fl =>
  cases fl with
  | ret u=>exact I1'.after hq
  | next=>exact False.elim hq
  | brk=>exact False.elim hq
  | cont=>exact False.elim hq
abbrev Cx.suite(X:Cx)(e:sN):Cx:={ X with A:=X.A.mark (Ba e),calm:=Bd,xe:=λZ Z=>False }
def Inv.suite(I:Inv X Be σ H s)(e:sN):Inv (Cx.suite X e) Be σ H s :=
 #[#[I.ok.mod,I.ok.kind,I.ok.glob,I.ok.blt,I.ok.above,I.ok.inj,I.ok.has,I.ok.cab,λz=>w4 z (by simp [Cx.suite]),I.ok.frames,I.ok.stk,I.ok.exf,I.ok.bs,I.ok.bsz,I.ok.noex,I.ok.exfs,I.ok.funs,I.ok.frf],
  I.os,I.bare,I.base,I.loc,I.cell,I.free,I.freeC,I.pin,I.hok,I.len]
def Inv.unsuite(J:Inv X Be σ' H' s')(I:Inv (Cx.suite X e) Be σ H s):Inv X Be σ H s :=
 #[J.ok,I.os,I.bare,I.base,I.loc,I.cell,I.free,I.freeC,I.pin,I.hok,I.len]
theorem zdF{K:sL}(X:K.In s.heap)(hD:Xo K D=Bc)(he:s.heap.get? x=Ba (xog C dx t tb cx kx))(hs:dz K (.ref C) (.ref D)=Ba b)(h:Q b s):sQ M A (excMatches (.ref x) (.ref D)) Q E s:=by
 refine ZL (hD) λbm N nm qn bs sn sub ab col dd k0 k1 k2 k3 k5 lk tl=>?_;have hDo:=X _ _ lk;have T:=tl _ X;have hcB:(r8 D::bm).contains (.type "BaseException")=Bc:=by rw[dg,T.hasType (show bmV.contains (.type "BaseException")=Bc by symm),ee]
 have L:=PySem.W.looks_subIn (M:=M) X hs;have f:=tc_notTuple;let#[hp,g,d,tk,os]:=s;unfold excMatches
 repeat (first | with_reducible refine tH he ?_ | with_reducible refine tH hDo ?_ | (with_reducible refine Aa hDo ?_;rw[hcB]) | (with_reducible refine PySem.W.Looks.at L ?_) | wp_step)
 cases b with
 | false=>exact sH (sH (sH h))
 | true=>exact sH (sH (sH h))
def tbL:sN->List sM
 | .ref b=>[b]
 | _=>[]
end
section
variable{prog:sU}{w:sZ}{A:tG}{E:sN->sP->Prop}{s:sP}{K:sL}{x C:sM}{ox:tZ}{od:Option tZ}{name:sS}{tk:AQ}
def zeX{fill expr:Bool}(X:K.In s.heap)(xc:XC K C)(J:PySem.W.InstAt s.heap x ox C od)(h:sQ (model prog w) A.in1 (Builtin.«object.__getattribute__» #[[.ref x,.str name tk],[]]) (λfin s'=>match fin with | .done (.ret v)=>sQ (model prog w) A (handedOut v) Q E s' | _=>False) (λZ Z=>False) s) :
  sQ (model prog w) A (getAttrBy (.ref x) (.str name tk) fill expr) Q E s:=by
 refine ZL (xc.ok) λbm N nm qn bs sn sub ab col dd k0 k1 k2 k3 k5 lk tl=>?_;have hC:=X _ _ lk;have T:=tl _ X;have FB:=PySem.F.attrBase_ValueError;have L0:=J.type (M:=model prog w);have L1:=cX (M:=model prog w) X xc.ga;have L2:=cX (M:=model prog w) X xc.gt;have hcB:(r8 C::bm).contains (.type "BaseException")=Bc:=by rw[dg,T.hasType (show bmV.contains (.type "BaseException")=Bc by symm),ee]
 have isB:PySem.W.Looks (model prog w) s.heap (isInstance (.ref x) (.type "BaseException")) Bc:=L0.andThen (by have:=YR (M:=model prog w) hC (.type "BaseException");rw[hcB]at this;exact this);have f3:=FB.ga.bind (.ref x);have hx0:(expr && onTheHeap (Value.builtin "BaseException.__getattribute__"))=Bd:=by cases expr <;> rfl
 have hx2:(Value.builtin "BaseException.__getattribute__" == Value.builtin "object.__getattribute__")=Bd:=by symm
 have hx1:(onTheHeap (r8 C) && Value.builtin "BaseException.__getattribute__" == Value.builtin "object.__getattribute__")=Bd:=by rw[hx2];rfl
 unfold getAttrBy;refine tu (sF (L0.here (sF (L1.here ?_))));show sQ _ _ (if (onTheHeap (r8 C) && Value.builtin "BaseException.__getattribute__" == Value.builtin "object.__getattribute__")=Bc then _ else _) _ _ _;rw[hx1,w9 aD];unfold getAttrByItsOwn hookBefore;rw[w6 (by rfl)];refine sF (L2.here (sF (Az (tu ?_))));unfold callGetattribute;rw[hx0,w9 aD];unfold boundAndCalled;rw[f3];refine sF (sH ?_);show sQ (model prog w) A (call (.builtin "BaseException.__getattribute__") [.ref x,.str name tk]) _ _ s;refine tV (Ah FB.ga.plain PySem.F.entry_bexc_ga (@PySem.W.check_slot (model prog w) _ _ s "BaseException.__getattribute__" "BaseException" "__getattribute__" (.ref x) [.str name tk] [] _ (!0) (!0) isB (PySem.F.args_bexc_ga _ _) ?_));refine tO h (λfin s' z=>?_) λZ Z z=>z.elim;rcases fin with (_ | _ | _ | v) | _ <;> first | exact z | exact z.elim
def za4(X:K.In s.heap)(xc:XC K C)(J:PySem.W.InstAt s.heap x ox C od)(ha:ah K (.ref C) "__class__" = Ba (Ba (.builtin "object.__class__")))(hn:dN K (.builtin "object.__class__") "__get__" = Ba (Ba (.builtin "getset_descriptor.__get__")))(htk:d7 K (.builtin "object.__class__")=Ba Bc)(hm:bZ K C (.type "object")=Ba Bc)(h:Q (Ba (.ref C)) { s with toks:=s.toks+1 }):sQ (model prog w) A (getAttr? (.ref x) "__class__") Q E s:=by
 have hf:gH K C od "__class__" = Ba (.bind (.builtin "getset_descriptor.__get__") (.builtin "object.__class__")):=by
  refine ZL (xc.ok) λbm N nm qn bs sn sub ab col dd k0 k1 k2 k3 k5 lk tl=>?_;have hcl:(PySem.W.clsIn K C).isSome=Bc:=by unfold PySem.W.clsIn;rw[lk];rfl
  let#[cd,hc]:=Bv.mp hcl;unfold gH;rw[hc,cq,ha,cq];simp [hn,htk]
 unfold getAttr? getAttrBy?;refine sF (wpAny_mkText (sF (Az (zeX (s:={ s with toks:=s.toks+1 }) X xc J ?_))));have L0:=J.type (M:=model prog w);have L1:=PySem.W.looks_find (M:=model prog w) X J hf;unfold Builtin.«object.__getattribute__»;refine sF (sH (sF (sH (sF (L0.here (s:={ s with toks:=s.toks+1 }) (sF (L1.here (s:={ s with toks:=s.toks+1 }) ?_)))))));show sQ _ _ (holding [.builtin "object.__class__"] (call (.builtin "getset_descriptor.__get__") [.builtin "object.__class__",.ref x,.ref C]) >>= ret) _ _ _;refine sF (tu (tV (PySem.W.class_get (s:={ s with toks:=s.toks+1 }) X J hm ?_)));refine sH ?_;show sQ _ _ (handedOut (.ref C)) _ _ _;rw[PySem.W.handedOut_of rfl];exact sH (sH h)
end
mutual section
structure XI(K:sL)(C:sM):Prop extends XC K C where
 ca:ah K (.ref C) "__class__" = Ba (Ba (.builtin "object.__class__"))
 cg:dN K (.builtin "object.__class__") "__get__" = Ba (Ba (.builtin "getset_descriptor.__get__"))
 ct:d7 K (.builtin "object.__class__")=Ba Bc
 mo:bZ K C (.type "object")=Ba Bc
def zeF(ob:h.get? x=Ba (xog C Bb t tb c k)):PySem.W.InstAt h x (xog C Bb t tb c k) C Bb:=#[ob,rfl,rfl,trivial]
def zfn{K:sL}(xi:XI K C):PySem.W.KitX K (.ref x) (.ref C) (λh=>(∃t tb c k,h.get? x=Ba (xog C dx t tb c k))/\∀d,dx=Ba d->∃o,h.get? d=Ba o) where
 ty:=λM h X ⟨⟨t,tb,c,k',ob⟩,_⟩=>(PySem.W.Looks.ld ob).andThen .now
 it:=λM h X Z=>by
  refine ZL (xi.ok) λbm N nm qn bs sn sub ab col dd k0 k1 k2 k3 k5 lk tl=>?_;intro A' Q' E' s' k q;unfold isType loadHead;exact sF (As (k _ _ (X _ _ lk)) (sH q))
 ne:=λh tp dd its n sl X htp=>by
  refine ZL (xi.ok) λbm N nm qn bs sn sub ab col dd k0 k1 k2 k3 k5 lk tl=>?_;refine BF.mpr λq=>?_;have e:C=tp:=Value.ref.inj (beq_iff_eq.mp q);subst e;have z:=congrArg (λo:Option tZ=>o.map λo=>match o.data with | .cls _=>Bc | _=>Bd) ((X _ _ lk).symm.trans htp);exact w4 (show Bc=Bd from Option.some.inj z) ∅
 ca:=λ{prog w A E Q s} X ⟨⟨t,tb,c,k',ob⟩,hd⟩ k=>by
  cases dx with
  | none=>exact za4 X xi.toXC (zeF ob) xi.ca xi.cg xi.ct xi.mo k
  | some d =>
   let#[o,e]:=hd d rfl;exact za4 (od:=Ba o) X xi.toXC #[ob,rfl,rfl,e] xi.ca xi.cg xi.ct xi.mo k
def XAt(H:Hp)(x C:sM)(dx:Option sM)(fs:List (sS × V)):Prop:=H x=Ba (XT x C dx)/\((dx=Bb/\fs=[])\/∃d,dx=Ba d/\H d=Ba (.xd fs))
def UR:wX X (.builtin "isinstance") (λxs H Q=>∃x C dx fs c u b,xs=[.ref x,c]/\cV c=Ba u/\XAt H x C dx fs/\XI X.K C/\aV X.K (.ref C) u=Ba b/\Q (.bl b) H):=by
 intros xs us Q I r h;let#[x,C,dx,fs,c,u,b,rfl,hc,#[hx,hd],xi,e,q]:=h;let#[v,w',rfl,rx,rc]:=VM r;cases rx
 have:w'=u:=by
  cases c with
  | ty n=>cases hc;exact rc
  | ref a=>cases hc;exact rc
  | _=>cases hc
 subst this;refine bu (zfn (dx:=dx) xi) I.kIn #[zf4 (I.hok _ _ hx),λd z=>?_] e (λz=>nomatch z) λtk=>#[.bl b,H,I.tok tk,rfl,q];rcases hd with ⟨z',_⟩ | ⟨d',z',hd'⟩
 ·rw[z']at z;cases z
 ·rw[z']at z;cases z;let#[mA,#[o,es,ep,ho,_],_]:=I.hok _ _ hd';exact#[o,ho]
structure Df(P:sU)(w:sZ)(K:sL)(mg:sS->Option sN)(base:tB)(CX:CXT)(k:Nat)(nm:sS)(ps:List sS)(ds:List sN)(sp:Sp):Prop where
 ex:∃f fd,FnOk P w K mg base CX k f fd ps sp/\mg nm=Ba (.ref f)/\aP K (.ref f)=Bc/\Binds K fd ps ds
structure Bt(mg:sS->Option sN):Prop where
 len:mg "len" = Bb
 range:mg "range" = Bb
 isi:mg "isinstance" = Bb
 str:mg "str" = Bb
 int:mg "int" = Bb
 tuple:mg "tuple" = Bb
 list:mg "list" = Bb
 bool:mg "bool" = Bb
 enum:mg "enumerate" = Bb
 all:mg "all" = Bb
 verr:mg "ValueError" = Bb
 max:mg "max" = Bb
 rev:mg "reversed" = Bb
 zip:mg "zip" = Bb
 sum:mg "sum" = Bb
 sorted:mg "sorted" = Bb
def cl0(D:Df X.prog X.w X.K X.mg X.base CX0 k x ps ds sp)(hr:Room j X.A)(hd:Vals dvs ds)(hg:Gl X x)(ha:PA X (e::es) t)(hdb:‹(x ==("__debug__" : sS))=Bd›)(he:‹sJ (e::es) X.env=(Bd,eval e X.env)::sJ es X.env›)(hpl:‹(tw pos (sJ es X.env)).any (·.1)=Bd›)(hj:‹k<=j›):PE X (.Call (.Name x p) (e::es) [] pos) (ud sp dvs E0 t):=by let#[f,fd,F,hm,hk,hb]:=D.ex;exact Jl F (hr.mono hj) hg hm hk hb hd V1 ha hdb he hpl
def clX(D:Df X.prog X.w X.K X.mg X.base (CXx X.prog X.w) k x ps ds sp)(hr:Room j X.A)(hd:Vals dvs ds)(hg:Gl X x)(ha:PA X.nox (e::es) t)(hdb:‹(x ==("__debug__" : sS))=Bd›)(he:‹sJ (e::es) X.env=(Bd,eval e X.env)::sJ es X.env›)(hpl:‹(tw pos (sJ es X.env)).any (·.1)=Bd›)(hj:‹k<=j›):PEX X (.Call (.Name x p) (e::es) [] pos) (λσ H Q E=>t σ H λvs H1=>sp (vs ++ dvs) H1 Q E):=by let#[f,fd,F,hm,hk,hb]:=D.ex;exact Ke F (hr.mono hj) hg hm hk hb hd ha hdb he hpl
def clP(hx:XE X E)(D:Df X.prog X.w X.K X.mg X.base (CXx X.prog X.w) k x ps ds sp)(hr:Room j X.A)(hd:Vals dvs ds)(hg:Gl X x)(ha:PA X (e::es) t)(hdb:‹(x ==("__debug__" : sS))=Bd›)(he:‹sJ (e::es) X.env=(Bd,eval e X.env)::sJ es X.env›)(hpl:‹(tw pos (sJ es X.env)).any (·.1)=Bd›)(hj:‹k<=j›):PE X (.Call (.Name x p) (e::es) [] pos) (ud sp dvs E t):=by let#[f,fd,F,hm,hk,hb]:=D.ex;exact Jl F (hr.mono hj) hg hm hk hb hd (VB hx) ha hdb he hpl
def TyX(K:sL)(H:Hp)(x:V)(t:sN):Prop:=Vw K H x t\/(∃a C dx fs,x=.ref a/\t=.ref C/\XAt H a C dx fs/\XI K C)\/(∃a xs,x=.ref a/\t=.type "list"/\SqL K H a xs)\/∃a xs,x=.ref a/\t=.type "tuple"/\SqT K H a xs
def zfd(K:sL):List V->Hp->VK->Prop:=λxs H Q=>∃x c u t b,xs=[x,c]/\cV c=Ba u/\TyX K H x t/\aV K t u=Ba b/\Q (.bl b) H
def zfJ : wX X (.builtin "isinstance") (zfd X.K):=by
 intros xs us Q I r h;let#[x,c,u,t,b,rfl,hc,ty,e,q]:=h;rcases ty with ty | ⟨a,C,dx,fs,rfl,rfl,ha,xi⟩ | ⟨a,ys,rfl,rfl,hq⟩ | ⟨a,ys,rfl,rfl,hq⟩
 ·exact zam Be s σ H _ us Q I r #[x,c,u,t,b,rfl,hc,ty,e,q]
 ·exact UR Be s σ H _ us Q I r #[a,C,dx,fs,c,u,b,rfl,hc,ha,xi,e,q]
 all_goals
  let#[v,w',rfl,rx,rc]:=VM r
  have:w'=u:=by
   cases c with
   | ty n=>cases hc;exact rc
   | ref a=>cases hc;exact rc
   | _=>cases hc
  subst this;cases rx
 ·let#[its,_,p,_]:=I.list hq;let#[o,h1,h2,_]:=p.isList;exact bu e7 I.kIn #[o,h1,h2] e (λz=>nomatch z) λtk=>#[.bl b,H,I.tok tk,rfl,q]
 ·let#[its,_,p,_]:=I.tuple hq;let#[o,h1,h2,_]:=p;exact bu gx I.kIn #[o,h1,h2] e (λz=>nomatch z) λtk=>#[.bl b,H,I.tok tk,rfl,q]
def yH(h1:Gl X "isinstance")(h2:X.mg "isinstance" = Bb)(he:PE X e te)(hg:Gl X c)(hm:X.mg c=Bb)(hv:tD c=Ba (.type n))(hn:‹c≠"__name__"›)(hd:‹(c ==("__debug__" : sS))=Bd›)(hs1:‹sJ [e,.Name c q] X.env=(Bd,eval e X.env)::sJ [.Name c q] X.env›)(hs3:‹sJ [.Name c q] X.env=(Bd,eval (.Name c q) X.env)::sJ [] X.env›)(hs2:‹(tw pos (sJ [.Name c q] X.env)).any (·.1)=Bd›):PE X (.Call (.Name "isinstance" p) [e,.Name c q] [] pos) (tCB (zfd X.K) (zM te (zM (tC (.ty n)) xw))) :=
 yW zfJ h1 h2 boot_isinstance (za he (za (zcV hg hm hv rfl hn hd) zg hs3) hs1) (he:=hs1) (hpl:=hs2)
def zbl : cV (.ref a)=Ba (.ref a):=rfl
def ze5 : cV (.ty n)=Ba (.type n):=rfl
def zgo{P w K mg base N q sc f cd A o s H}:(cxH P w K mg base N q sc f cd A o s H).K=K:=rfl
def UH:V->List V->Hp->VK->Prop:=λx xs H Q=>∃z y,x=.str z/\xs=[.str y]/\Q (.int (Txt.count z y)) H
def zcL : MtR X "str.count" UH:=zac
def Ky:V->List V->Hp->VK->Prop:=λx xs H Q=>∃z y,x=.str z/\xs=[.str y]/\Q (.int (Txt.find z y)) H
def za6 : MtR X "str.find" Ky:=Qh
def Q6(l:())(c:Nat):Txt.count (tx l) (tx [c])=(l.count c:Int):=by
 have h:∀l:(),cnt c l=(l.count c:Int):=λl=>by
  induction l with
  | nil=>rfl
  | cons n r ih =>
   rw[cnt_cons,ih,List.count_cons];by_cases e:n=c
   ·subst e;simp;lia
   ·have:(n == c)=Bd:=by simpa using e
    simp [e,this]
 exact (PyProof.Rows.count_is (tx l) c).trans (h l)
def lt1 :([a]:()) < [b] ↔ a<b:=by rw[List.cons_lt_cons_iff];exact#[λh=>h.elim id λ⟨_,q⟩=>w4 q (List.not_lt_nil _),.inl]
def U9{k v:Nat}(h:l[k]? = Ba v):(v::(l.take k ++ l.drop (k+1))).Perm l:=by
 let#[hk,e]:=Bh.mp h
 have e2:l.take k ++ (v::l.drop (k+1))=l:=by
  rw[<- e,<- aY hk,bY]
 exact (List.perm_middle.symm.trans (by rw[e2]))
def WR(K:sL):List V->Hp->VK->Prop:=λxs H Q=>match xs with
 | [.str z]=>z.length<=sK/\Q (.int z.length) H
 | [.ref a]=>∃n:Nat,((∃xs,SqL K H a xs/\n=xs.length)\/∃xs,SqT K H a xs/\n=xs.length)/\Q (.int n) H
 | xs=>∃x n,xs=[x]/\ze8 K x H n/\Q (.int n) H
def rLen_is{K:sL}:WR K xs H Q=∃x n,xs=[x]/\ze8 K x H n/\Q (.int n) H:=by
 unfold WR;split
 ·exact propext #[λh=>#[_,_,rfl,#[h.1,rfl],h.2],λ⟨_,_,e,h,q⟩=>by cases e;let#[h,rfl]:=h;exact#[h,q]]
 ·exact propext #[λ⟨n,h,q⟩=>#[_,n,rfl,h,q],λ⟨_,n,e,h,q⟩=>by cases e;exact#[n,h,q]]
 ·rfl
def zfR : wX X (.builtin "len") (WR X.K):=λBe s σ H xs us Q I r h=>zab Be s σ H xs us Q I r (rLen_is.mp h)
def ForR(lo:Int)(n:Nat)(g:TG)(tb:TS)(D:Zm)(σ:St)(H:Hp):Prop:=∃W:Nat->Nat->St->Hp->Prop,(∃m,W 0 m σ H)/\∀i m σ H,W i m σ H ->
 ((Itr lo n).stop i H/\D.nx σ H)\/((Itr lo n).go i H/\∃N:St->Hp->Prop,(∀σ' H',N σ' H'->∃m',m'<m/\W (i+1) m' σ' H')/\∀x H',(Itr lo n).yld i H x H'->g x σ H' λσ2 H2=>tb { D with nx:=N,ct:=N,bk:=D.nx } σ2 H2)
def zec : Kd (zcB ta) g tb D σ H=ta σ H λvs H1=>∃j:Int,vs=[.int j]/\-(2 ^ 62)<=j/\j<2 ^ 62/\ForR 0 j.toNat g tb D σ H1:=rfl
def zdN : Kd (zeQ ta) g tb D σ H=ta σ H λvs H1=>∃i j:Int,vs=[.int i,.int j]/\(-(2 ^ 62)<=i/\i<2 ^ 62/\-(2 ^ 62)<=j/\j<2 ^ 62)/\ForR i (j - i).toNat g tb D σ H1:=rfl
def ForR.by{lo:Int}(Pv:Nat->St->Hp->Prop)(h0:Pv 0 σ H)(hs:∀i σ H,i<n->Pv i σ H->g (.int (lo+i)) σ H λσ2 H2=>tb { D with nx:=Pv (i+1),ct:=Pv (i+1),bk:=D.nx } σ2 H2)(hd:∀σ H,Pv n σ H->D.nx σ H):ForR lo n g tb D σ H:=Jc Pv h0 hs hd
def ForL(K:sL)(a:sM)(g:TG)(tb:TS)(D:Zm)(σ:St)(H:Hp):Prop:=∃W:Nat->Nat->St->Hp->Prop,(∃m,W 0 m σ H)/\∀i m σ H,W i m σ H ->
 ((Itl K a).stop i H/\D.nx σ H)\/((Itl K a).go i H/\∃N:St->Hp->Prop,(∀σ' H',N σ' H'->∃m',m'<m/\W (i+1) m' σ' H')/\∀x H',(Itl K a).yld i H x H'->g x σ H' λσ2 H2=>tb { D with nx:=N,ct:=N,bk:=D.nx } σ2 H2)
def zgR{K:sL}:Kd (zbW K tl) g tb D σ H=tl σ H λx H1=>∃a,x=.ref a/\(∃xs,SqL K H1 a xs)/\ForL K a g tb D σ H1:=rfl
def ForS(x:sS)(g:TG)(tb:TS)(D:Zm)(σ:St)(H:Hp):Prop:=∃W:Nat->Nat->St->Hp->Prop,(∃m,W 0 m σ H)/\∀i m σ H,W i m σ H ->
 ((Its x).stop i H/\D.nx σ H)\/((Its x).go i H/\∃N:St->Hp->Prop,(∀σ' H',N σ' H'->∃m',m'<m/\W (i+1) m' σ' H')/\∀v H',(Its x).yld i H v H'->g v σ H' λσ2 H2=>tb { D with nx:=N,ct:=N,bk:=D.nx } σ2 H2)
def zgN : Kd (zfr tl) g tb D σ H=tl σ H λv H1=>∃x,v=.str x/\ForS x g tb D σ H1:=rfl
def ForS.by(Pv:Nat->St->Hp->Prop)(h0:Pv 0 σ H)(hs:∀i c σ H,l[i]? = Ba c->Pv i σ H->g ⇑[c] σ H λσ2 H2=>tb { D with nx:=Pv (i+1),ct:=Pv (i+1),bk:=D.nx } σ2 H2)(hd:∀σ H,Pv l.length σ H->D.nx σ H):ForS (tx l) g tb D σ H:=zbQ Pv h0 hs hd
def zhh(x:sS)(g:TG)(tb:TS)(D:Zm)(σ:St)(H:Hp):Prop:=∃W:Nat->Nat->St->Hp->Prop,(∃m,W 0 m σ H)/\∀i m σ H,W i m σ H ->
 ((Ite x).stop i H/\D.nx σ H)\/((Ite x).go i H/\∃N:St->Hp->Prop,(∀σ' H',N σ' H'->∃m',m'<m/\W (i+1) m' σ' H')/\∀v H',(Ite x).yld i H v H'->g v σ H' λσ2 H2=>tb { D with nx:=N,ct:=N,bk:=D.nx } σ2 H2)
def zgF : Kd (zfU ta) g tb D σ H=ta σ H λvs H1=>∃x,vs=[.str x]/\zhh x g tb D σ H1:=rfl
def uj(l:List α)(h:0<=k):cut l Bb (Ba k)=l.take k.toNat:=by
 let#[n,rfl]:=bQ h;unfold cut;rw[HT.sIx_none,HT.sIx_nat,dL,Nat.sub_zero];by_cases q:n<=l.length
 ·rw[cD q];rfl
 ·rw[cN ⋯,aJ,aW (by simp;lia)]
def xq(l:List α)(h:0<=k):cut l (Ba k) Bb=l.drop k.toNat:=by
 let#[n,rfl]:=bQ h;unfold cut;rw[HT.sIx_none,HT.sIx_nat];by_cases q:n<=l.length
 ·rw[cD q];rw[aW (by rw[aS] <;> lia)];rfl
 ·rw[cN ⋯,d4,bf (by simp;lia)];simp
def vN(h0:0<=i)(h1:i<xs.length):∃v,atI xs i=Ba v/\xs[i.toNat]? = Ba v:=by let#[n,rfl]:=bQ h0;have hn:n<xs.length:=⋯;exact#[xs[n],wU (af hn),af hn]
def alpha:():=[97,98,99,100,101,102,103,104,105,106,107,108,109,110,111,112,113,114,115,116,117,118,119,120,121,122]
def J3:(("abcdefghijklmnopqrstuvwxyz" : sS))=tx alpha:=by symm
def zX:(sK:Nat)=16777216:=sY
def cxK{CX P w K mg base N q sc f cd A o s H E}:(qX CX P w K mg base N q sc f cd A o s H E).K=K:=rfl
def cxP{CX P w K mg base N q sc f cd A o s H E}:(qX CX P w K mg base N q sc f cd A o s H E).prog=P:=rfl
def cxW{CX P w K mg base N q sc f cd A o s H E}:(qX CX P w K mg base N q sc f cd A o s H E).w=w:=rfl
def zeY : J5 (.int a) (.int b)=Bc:=rfl
def zeA : J5 (.str a) (.str b)=Bc:=rfl
def zdM : J5 (.bl a) (.bl b)=Bc:=rfl
def zds : J5 .non (.str b)=Bc:=rfl
def zdL : J5 (.str b) .non=Bc:=rfl
def zf(h:H p=Bb):Same H (upd H p o):=λb u e=>by
 rw[zt (zN e h)];exact e
def zP{α:Type}{l:List α}{c:α}(h:l[i]? = Ba c):l.take (i+1)=l.take i ++ [c]:=by rw[List.take_add_one,h];rfl
structure FunD(K:sL)(x qual:sS)(st:sV)(dV:sN)(f:sM)(fd:tW):Prop where
 ex:∃(oc:sN) (od:Option sM) (kV doc pm:sN) (an:Option sM) (cdv ct:sN) (osl:Array (Option sN)),
  fd=bD x qual (yP st) (yl st) (zi st) dV kV doc pm an cdv ct/\K.lookup f=Ba #[oc,od,.func fd,osl]/\cb K cdv qual=Bc
def FunD.okX{K:sL}{st:sV}(F:FunD K x qual st dV f fd)(S:zo N ps (zi st))(len:∀vs H Q E,sp vs H Q E->vs.length=ps.length)(hbody:∀(cdv:sN) (A:tG) (outer:List AU) (s:sP) (H:Hp) (vs:List V) (Q:VK) (E:XK),Room k (A.deeper (Ab qual (zi st) s⁻¹ f cdv))->XE (qX (CXx P w) P w K mg base N qual (zi st) f cdv A outer s H E) E->sp vs H Q E ->
   ∃t,PSs (qX (CXx P w) P w K mg base N qual (zi st) f cdv A outer s H E) (yl st) t/\t { nx:=λZ H'=>Q .non H',rt:=Q } (start N vs) H):FnOk P w K mg base (CXx P w) (k+1) f fd ps sp:=by let#[oc,od,kV,doc,pm,an,cdv,ct,osl,rfl,lk,hcd]:=F.ex;exact KH lk hcd S len λA outer s H vs Q E hr hsp=>hbody cdv A outer s H vs Q E hr zeu hsp
def um(C:sM)(f:sS):Sp:=λvs H Q Z=>∃x v,vs=[.ref x,v]/\H x=Ba (XN x C Bb)/\∀dx,H dx=Bb->Q .non (upd (upd H dx (.xd [(f,v)])) x (XN x C (Ba dx)))
def zgc(H:Hp)(d:sM)(f:sS)(v:V)(H':Hp):Prop:=H d=Bb/\Same H H'/\H' d=Ba (.xd [(f,v)])
def UA{E:XK}(h:∀d H',zgc H d f v H'->E (.ref C) (Ba d) H'):∀x,H x=Bb->um C f [.ref x,v] (upd H x (XN x C Bb)) (λu H2=>u=.non/\∃dx,H2 x=Ba (XN x C dx)/\E (.ref C) dx (del H2 x)) E0:=by
 intro x hx;refine#[x,v,rfl,zc,λdx hd=>#[rfl,Ba dx,zc,h dx _ #[?_,?_,?_]]]
 ·by_cases e:dx=x
  ·rw[e];exact hx
  ·rw[zt e]at hd;exact hd
 ·have hne:dx≠x:=λe=>by rw[e,zc]at hd;cases hd
  rw[zt hne]at hd;intro b o q;have b1:b≠x:=zN q hx;have b2:b≠dx:=zN q hd;rw[Q9 b1,zt b1,zt b2,zt b1];exact q
 ·have hne:dx≠x:=λe=>by rw[e,zc]at hd;cases hd
  rw[Q9 hne,zt hne,zc]
def zgH:R2:=λx y H Q=>match y with | .non=>Q (.bl (decide (x=.non))) H | _=>False
theorem op_isN':OpR X (sX .Is) zgH:=λBe s σ H x y v u Q I rx ry h=>by
 cases y with
 | non=>exact zeO Be s σ H x .non v u Q I rx ry #[rfl,h]
 | _=>exact h.elim
def zd3:R2:=λx y H Q=>match y with | .non=>Q (.bl (!decide (x=.non))) H | _=>False
theorem op_notN':OpR X (sX .IsNot) zd3:=λBe s σ H x y v u Q I rx ry h=>by
 cases y with
 | non=>exact zbX Be s σ H x .non v u Q I rx ry #[rfl,h]
 | _=>exact h.elim
def K7:List V->Hp->VK->Prop:=λxs H Q=>match xs with | [.int i,.int j]=>Q (.int (if j > i then j else i)) H | _=>False
def JB(hc:X.calm=Bc):wX X (.builtin "max") K7:=λBe s σ H xs us Q I r h=>by
 unfold K7 at h;split at h
 ·exact Q0 hc Be s σ H _ us Q I r #[_,_,rfl,h]
 ·exact h.elim
def rGe:R2:=λx y H Q=>onInt x λi=>onInt y λj=>Q (.bl (decide (j<=i))) H
def op_ge':OpR X (sX .GtE) rGe:=zf9
def qL:tD "max" = Ba (.builtin "max"):=by symm
def zc2(ls l:())(m:Int)(k:Nat):Prop:=∃c,l[k]? = Ba c/\(m<=k\/c ∉ ls)
def FB(ls l:())(m:Int)(k:Nat):Prop:=zc2 ls l m k/\∀j<k,¬ zc2 ls l m j
def NB(ls l:())(m:Int):Prop:=∀j,¬ zc2 ls l m j
def FB.nb(h:FB ls l m k)(n:NB ls l m):False:=n k h.1
inductive D where
 | non | bl (b:Bool) | int (i:Int) | str (x:sS) | lst (l:List D) | tup (l:List D)
end
mutual
def Is(K:sL)(H:Hp):D->V->Prop
 | .non,v=>v=.non
 | .bl b,v=>v=.bl b
 | .int i,v=>v=.int i
 | .str x,v=>v=.str x
 | .lst l,v=>∃a xs,v=.ref a/\SqL K H a xs/\Iss K H l xs
 | .tup l,v=>∃a xs,v=.ref a/\SqT K H a xs/\Iss K H l xs
def Iss(K:sL)(H:Hp):List D->List V->Prop
 | [],vs=>vs=[]
 | d::l,vs=>∃v r,vs=v::r/\Is K H d v/\Iss K H l r
end
mutual
noncomputable def eqD:D->D->Bool
 | .non,e=>match e with | .non=>Bc | _=>Bd
 | .bl a,e=>match e with | .bl b=>a == b | .int b=>(if a then 1 else 0) == b | _=>Bd
 | .int a,e=>match e with | .bl b=>a ==(if b then 1 else 0) | .int b=>a == b | _=>Bd
 | .str a,e=>match e with | .str b=>a == b | _=>Bd
 | .lst l,e=>match e with | .lst m=>uH l m | _=>Bd
 | .tup l,e=>match e with | .tup m=>uH l m | _=>Bd
noncomputable def uH:List D->List D->Bool
 | [],m=>match m with | []=>Bc | _::_=>Bd
 | d::l,m=>match m with | e::m=>eqD d e && uH l m | []=>Bd
end
mutual
noncomputable def dpD:D->Nat
 | .lst l=>vG l+1
 | .tup l=>vG l+1
 | _=>0
noncomputable def vG:List D->Nat
 | []=>0
 | d::l=>max (dpD d) (vG l)
end
theorem Ki:∀{l:List D} {j:Nat} {d:D},l[j]? = Ba d->dpD d<=vG l
 | d::l,0,_,h=>by
  cases h
  erw[vG]
  lia
 | d::l,j+1,e,h=>by
  have:=Ki (l:=l) (j:=j) (d:=e) h
  erw[vG]
  lia
mutual
theorem uC:∀d:D,eqD d d=Bc
 | .non=>rfl
 | .bl b=>by simp [eqD]
 | .int i=>by simp [eqD]
 | .str x=>by simp [eqD]
 | .lst l=>by erw[eqD];exact xh l
 | .tup l=>by erw[eqD];exact xh l
theorem xh:∀l:List D,uH l l=Bc
 | []=>rfl
 | d::l=>by erw[uH,uC d,xh l,Bool.and_self]
end
theorem Iss.len{K:sL}:∀{l:List D} {vs:List V},Iss K H l vs->vs.length=l.length
 | [],vs,h=>by erw[Iss]at h;rw[h];rfl
 | d::l,vs,h=>by
  erw[Iss]at h
  let#[v,r,rfl,_,h2]:=h
  erw[aG,Iss.len h2]
theorem Iss.at{K:sL}:∀{l:List D} {vs:List V} {j:Nat} {d:D},Iss K H l vs->l[j]? = Ba d->∃v,vs[j]? = Ba v/\Is K H d v
 | d::l,vs,0,_,h,q=>by
  cases q
  erw[Iss]at h
  let#[v,r,rfl,h1,_]:=h;exact#[v,rfl,h1]
 | d::l,vs,j+1,e,h,q=>by
  erw[Iss]at h
  let#[v,r,rfl,_,h2]:=h;exact Iss.at (j:=j) h2 q
theorem Iss.append{K:sL}:∀{l m:List D} {vs us:List V},Iss K H l vs->Iss K H m us->Iss K H (l ++ m) (vs ++ us)
 | [],m,vs,us,h,g=>by erw[Iss]at h;rw[h];exact g
 | d::l,m,vs,us,h,g=>by
  erw[Iss]at h
  let#[v,r,rfl,h1,h2]:=h
  erw[bE,Iss]
  exact#[v,r ++ us,rfl,h1,Iss.append h2 g]
theorem Iss.ints{K:sL}:∀(l:List Int),Iss K H (l.map D.int) (l.map V.int)
 | []=>by erw[aI,Iss]
 | i::l=>by
  erw[ao,Iss,Is]
  exact#[_,_,rfl,rfl,Iss.ints l]
def zp{K:sL}(e:Same H H')(h:SqT K H a xs):SqT K H' a xs:=by
 rcases h with (h | ⟨o,h⟩) | h
 ·exact .inl (.inl (e _ _ h))
 ·exact .inl (.inr #[o,e _ _ h])
 ·exact .inr h
mutual
theorem Is.same{K:sL}{H H':Hp}(e:Same H H'):∀(d:D) (v:V),Is K H d v->Is K H' d v
 | .non,v,h=>by erw[Is]at h ⊢;exact h
 | .bl b,v,h=>by erw[Is]at h ⊢;exact h
 | .int b,v,h=>by erw[Is]at h ⊢;exact h
 | .str b,v,h=>by erw[Is]at h ⊢;exact h
 | .lst l,v,h=>by
  erw[Is]at h ⊢
  let#[a,xs,e1,e2,e3]:=h;exact#[a,xs,e1,e.seq e2,Iss.same e l xs e3]
 | .tup l,v,h=>by
  erw[Is]at h ⊢
  let#[a,xs,e1,e2,e3]:=h;exact#[a,xs,e1,zp e e2,Iss.same e l xs e3]
theorem Iss.same{K:sL}{H H':Hp}(e:Same H H'):∀(l:List D) (vs:List V),Iss K H l vs->Iss K H' l vs
 | [],vs,h=>by erw[Iss]at h ⊢;exact h
 | d::l,vs,h=>by
  erw[Iss]at h ⊢
  let#[v,r,e1,e2,e3]:=h;exact#[v,r,e1,Is.same e d v e2,Iss.same e l r e3]
end
theorem xP:∀(l m:List D),uH l m=((aK (min l.length m.length)).all (λj=>eqD (l.getD j .non) (m.getD j .non)) && l.length == m.length)
 | [],[]=>rfl
 | [],e::m=>by simp [uH]
 | d::l,[]=>by simp [uH]
 | d::l,e::m=>by
  erw[uH,xP l m,aG]
  have h1:min (l.length+1) (m.length+1)=min l.length m.length+1:=⋯;rw[h1,dU,eY,List.all_map]
  have h2:(l.length+1 == m.length+1)=(l.length == m.length):=by
   rw[de,beq_iff_eq,beq_iff_eq];lia
  rw[h2]
  erw[List.getD_cons_zero,Bool.and_assoc]
  rfl
section
variable{X:Cx}{Be:List (sM × tZ)}{σ:St}{H:Hp}{s:sP}
def Yt(I:Inv X Be σ H s)(h:SqL X.K H a xs)(g:SqT X.K H a ys):False:=by let#[its,r,#[o,n,e,c,_,d],_]:=I.list h;let#[its',r',#[o',e',c',n',d'],_]:=I.tuple g;rw[e]at e';cases e';rw[c]at c';exact w4 (Value.type.inj c') ∅
mutual
theorem Vz(I:Inv X Be σ H s):∀(d e:D) (v:V),Is X.K H d v->Is X.K H e v->d=e
 | .lst l,.lst m,v,h,g=>by
  erw[Is]at h g
  let#[a,xs,rfl,h1,h2]:=h;let#[b,ys,e,g1,g2]:=g;cases e;have:=I.list_inj h1 g1;subst this;rw[X4 I l m xs h2 g2]
 | .tup l,.tup m,v,h,g=>by
  erw[Is]at h g
  let#[a,xs,rfl,h1,h2]:=h;let#[b,ys,e,g1,g2]:=g;cases e;have:=I.tuple_inj h1 g1;subst this;rw[X4 I l m xs h2 g2]
 | .lst l,.tup m,v,h,g=>by
  erw[Is]at h g
  let#[a,xs,rfl,h1,h2]:=h;let#[b,ys,e,g1,g2]:=g;cases e;exact (Yt I h1 g1).elim
 | .tup l,.lst m,v,h,g=>by
  erw[Is]at h g
  let#[a,xs,rfl,h1,h2]:=h;let#[b,ys,e,g1,g2]:=g;cases e;exact (Yt I g1 h1).elim
 | .lst l,.non,v,h,g=>by erw[Is]at h g;let#[a,xs,rfl,_]:=h;cases g
 | .lst l,.bl _,v,h,g=>by erw[Is]at h g;let#[a,xs,rfl,_]:=h;cases g
 | .lst l,.int _,v,h,g=>by erw[Is]at h g;let#[a,xs,rfl,_]:=h;cases g
 | .lst l,.str _,v,h,g=>by erw[Is]at h g;let#[a,xs,rfl,_]:=h;cases g
 | .tup l,.non,v,h,g=>by erw[Is]at h g;let#[a,xs,rfl,_]:=h;cases g
 | .tup l,.bl _,v,h,g=>by erw[Is]at h g;let#[a,xs,rfl,_]:=h;cases g
 | .tup l,.int _,v,h,g=>by erw[Is]at h g;let#[a,xs,rfl,_]:=h;cases g
 | .tup l,.str _,v,h,g=>by erw[Is]at h g;let#[a,xs,rfl,_]:=h;cases g
 | .non,e,v,h,g=>by
  erw[Is]at h
  subst h;cases e <;> erw[Is]at g
  all_goals first | rfl | (let#[a,xs,q,_]:=g;cases q) | cases g
 | .bl _,e,v,h,g=>by
  erw[Is]at h
  subst h;cases e <;> erw[Is]at g
  all_goals first | (cases g;rfl) | (let#[a,xs,q,_]:=g;cases q) | cases g
 | .int _,e,v,h,g=>by
  erw[Is]at h
  subst h;cases e <;> erw[Is]at g
  all_goals first | (cases g;rfl) | (let#[a,xs,q,_]:=g;cases q) | cases g
 | .str _,e,v,h,g=>by
  erw[Is]at h
  subst h;cases e <;> erw[Is]at g
  all_goals first | (cases g;rfl) | (let#[a,xs,q,_]:=g;cases q) | cases g
theorem X4(I:Inv X Be σ H s):∀(l m:List D) (vs:List V),Iss X.K H l vs->Iss X.K H m vs->l=m
 | [],[],_,_,_=>rfl
 | [],e::m,vs,h,g=>by
  erw[Iss]at h g
  subst h;let#[_,_,q,_]:=g;cases q
 | d::l,[],vs,h,g=>by
  erw[Iss]at h g
  subst g;let#[_,_,q,_]:=h;cases q
 | d::l,e::m,vs,h,g=>by
  erw[Iss]at h g
  let#[v,r,rfl,h1,h2]:=h;let#[v',r',q,g1,g2]:=g;cases q;rw[Vz I d e v h1 g1,X4 I l m r h2 g2]
end
theorem xX:∀{xs:List V} {us:List sN} {j:Nat} {x:V},Vals xs us->xs[j]? = Ba x->∃u,us[j]? = Ba u/\RelV x u
 | _,_,0,_,.cons r t,h=>by cases h;exact#[_,rfl,r]
 | _,_,j+1,_,.cons r t,h=>xX (j:=j) t h
theorem xI(hl:Iss X.K H l xs)(hm:Iss X.K H m ys)(r:Vals xs its)(r':Vals ys its')(hn:vG l<n)(ih:∀(d e:D) (x y:V) (u v:sN),dpD d<n->Is X.K H d x->Is X.K H e y->RelV x u->RelV y v->SeqAt.EqAt A s u v (eqD d e)) :
  ∀j (h1:j<its.toArray.size) (h2:j<its'.toArray.size),SeqAt.EqAt A s its.toArray[j] its'.toArray[j] (eqD (l.getD j .non) (m.getD j .non)):=by
 intro j h1 h2;rw[ak]at h1 h2;have e1:=hl.len;have e2:=hm.len;have e3:=r.length;have e4:=r'.length;have g1:l[j]? = Ba l[j]:=af ⋯;have g2:m[j]? = Ba m[j]:=af ⋯;generalize l[j]=d at g1;generalize m[j]=e at g2;let#[x,hx,ix]:=hl.at g1;let#[y,hy,iy]:=hm.at g2;let#[u,hu,ru]:=xX r hx;let#[v,hv,rv]:=xX r' hy
 have q1:its.toArray[j]=u:=by
  have:=(Bh.mp hu).2;simpa using this
 have q2:its'.toArray[j]=v:=by
  have:=(Bh.mp hv).2;simpa using this
 rw[q1,q2,ae,ae,g1,g2];exact ih d e x y u v (bC (Ki g1) hn) ix iy ru rv
theorem qx(I:Inv X Be σ H s):∀(n:Nat) (A:tG) (d e:D) (x y:V) (u v:sN),A.units+n<cLine->dpD d<n->Is X.K H d x->Is X.K H e y->RelV x u->RelV y v->SeqAt.EqAt A s u v (eqD d e):=by
 intro n
 induction n with
 | zero=>intro A d e x y u v _ h;exact w4 h (bq _)
 | succ n ih =>
  intro A d e x y u v hu hd hx hy rx ry;have hu1:A.units<cLine:=⋯;have huA:A.in1.units+n<cLine:=by show A.units+1+n<cLine;lia
  cases d with
  | lst l =>
   erw[Is]at hx
   let#[a,xs,rfl,h1,h2]:=hx;cases rx;let#[its,r,p,_]:=I.list h1
   cases e with
   | non=>erw[Is]at hy;subst hy;cases ry;exact SeqAt.EqAt.list_none p.isList hu1
   | bl b=>erw[Is]at hy;subst hy;cases ry;exact SeqAt.EqAt.list_bool b p.isList hu1
   | int b=>erw[Is]at hy;subst hy;let#[t,rfl]:=ry;exact SeqAt.EqAt.list_int b t p.isList hu1
   | str b=>erw[Is]at hy;subst hy;let#[t,rfl]:=ry;exact SeqAt.EqAt.list_str b t p.isList hu1
   | tup m =>
    erw[Is]at hy
    let#[b,ys,rfl,g1,g2]:=hy;cases ry;let#[its',r',p',_]:=I.tuple g1;exact SeqAt.EqAt.list_tuple p.isList p' hu1
   | lst m =>
    have hy':=hy
    erw[Is]at hy
    let#[b,ys,rfl,g1,g2]:=hy;cases ry;let#[its',r',p',_]:=I.list g1
    erw[dpD]at hd
    by_cases hab:a=b
    ·subst hab;have:=Vz I (.lst l) (.lst m) (.ref a) (by erw[Is];exact#[a,xs,rfl,h1,h2]) hy';rw[this,uC];exact SeqAt.EqAt.same _
    ·refine .of_refs hab ?_
     erw[eqD]
     have L1:=h2.len;have L2:=g2.len;have L3:=r.length;have L4:=r'.length;by_cases hl:l.length=m.length
     ·have:=SeqAt.RcAt.lists (A:=A) p.isList p'.isList (by erw[ak];lia) hu1 (xI h2 g2 r r' (n:=n) ⋯ λd e x y u v q1 q2 q3 q4 q5=>ih A.in1 d e x y u v huA q1 q2 q3 q4 q5);rw[xP,hl,fk,beq_self_eq_true,gm];have e1:its.toArray.size=m.length:=by erw[ak];lia
      rw[e1]at this;exact this
     ·rw[xP,beq_eq_false_iff_ne.mpr hl,dJ];exact SeqAt.RcAt.lists_lengths p.isList p'.isList (by rw[bne_iff_ne];erw[ak];lia) hu1
  | tup l =>
   erw[Is]at hx
   let#[a,xs,rfl,h1,h2]:=hx;cases rx;let#[its,r,p,_]:=I.tuple h1
   cases e with
   | non=>erw[Is]at hy;subst hy;cases ry;exact SeqAt.EqAt.tuple_none p hu1
   | bl b=>erw[Is]at hy;subst hy;cases ry;exact SeqAt.EqAt.tuple_bool b p hu1
   | int b=>erw[Is]at hy;subst hy;let#[t,rfl]:=ry;exact SeqAt.EqAt.tuple_int b t p hu1
   | str b=>erw[Is]at hy;subst hy;let#[t,rfl]:=ry;exact SeqAt.EqAt.tuple_str b t p hu1
   | lst m =>
    erw[Is]at hy
    let#[b,ys,rfl,g1,g2]:=hy;cases ry;let#[its',r',p',_]:=I.list g1;exact SeqAt.EqAt.tuple_list p p'.isList hu1
   | tup m =>
    have hy':=hy
    erw[Is]at hy
    let#[b,ys,rfl,g1,g2]:=hy;cases ry;let#[its',r',p',_]:=I.tuple g1
    erw[dpD]at hd
    by_cases hab:a=b
    ·subst hab;have:=Vz I (.tup l) (.tup m) (.ref a) (by erw[Is];exact#[a,xs,rfl,h1,h2]) hy';rw[this,uC];exact SeqAt.EqAt.same _
    ·refine .of_refs hab ?_
     erw[eqD]
     have L1:=h2.len;have L2:=g2.len;have L3:=r.length;have L4:=r'.length;have:=SeqAt.RcAt.tuples (A:=A) p p' hu1 (xI h2 g2 r r' (n:=n) ⋯ λd e x y u v q1 q2 q3 q4 q5=>ih A.in1 d e x y u v huA q1 q2 q3 q4 q5);rw[xP]
     erw[ak]at this
     rw[<- L1,<- L2,L3,L4];exact this
  | non =>
   erw[Is]at hx
   subst hx
   cases e with
   | lst m =>
    erw[Is]at hy
    let#[b,ys,rfl,g1,g2]:=hy;cases rx;cases ry;let#[its',r',p',_]:=I.list g1;exact SeqAt.EqAt.none_list p'.isList hu1
   | tup m =>
    erw[Is]at hy
    let#[b,ys,rfl,g1,g2]:=hy;cases rx;cases ry;let#[its',r',p',_]:=I.tuple g1;exact SeqAt.EqAt.none_tuple p' hu1
   | _=>erw[Is]at hy;subst hy;exact WM rx ry rfl rfl
  | bl c =>
   erw[Is]at hx
   subst hx
   cases e with
   | lst m =>
    erw[Is]at hy
    let#[b,ys,rfl,g1,g2]:=hy;cases rx;cases ry;let#[its',r',p',_]:=I.list g1;exact SeqAt.EqAt.bool_list _ p'.isList hu1
   | tup m =>
    erw[Is]at hy
    let#[b,ys,rfl,g1,g2]:=hy;cases rx;cases ry;let#[its',r',p',_]:=I.tuple g1;exact SeqAt.EqAt.bool_tuple _ p' hu1
   | _=>erw[Is]at hy;subst hy;exact WM rx ry rfl rfl
  | int c =>
   erw[Is]at hx
   subst hx
   cases e with
   | lst m =>
    erw[Is]at hy
    let#[b,ys,rfl,g1,g2]:=hy;let#[t,rfl]:=rx;cases ry;let#[its',r',p',_]:=I.list g1;exact SeqAt.EqAt.int_list _ _ p'.isList hu1
   | tup m =>
    erw[Is]at hy
    let#[b,ys,rfl,g1,g2]:=hy;let#[t,rfl]:=rx;cases ry;let#[its',r',p',_]:=I.tuple g1;exact SeqAt.EqAt.int_tuple _ _ p' hu1
   | _=>erw[Is]at hy;subst hy;exact WM rx ry rfl rfl
  | str c =>
   erw[Is]at hx
   subst hx
   cases e with
   | lst m =>
    erw[Is]at hy
    let#[b,ys,rfl,g1,g2]:=hy;let#[t,rfl]:=rx;cases ry;let#[its',r',p',_]:=I.list g1;exact SeqAt.EqAt.str_list _ _ p'.isList hu1
   | tup m =>
    erw[Is]at hy
    let#[b,ys,rfl,g1,g2]:=hy;let#[t,rfl]:=rx;cases ry;let#[its',r',p',_]:=I.tuple g1;exact SeqAt.EqAt.str_tuple _ _ p' hu1
   | _=>erw[Is]at hy;subst hy;exact WM rx ry rfl rfl
def zgL(K:sL):R2:=λx y H Q=>∃l m,((Is K H (.lst l) x/\Is K H (.lst m) y)\/(Is K H (.tup l) x/\Is K H (.tup m) y))/\vG l<50/\Q (.bl (uH l m)) H
def zgz(K:sL):R2:=λx y H Q=>∃l m,((Is K H (.lst l) x/\Is K H (.lst m) y)\/(Is K H (.tup l) x/\Is K H (.tup m) y))/\vG l<50/\Q (.bl (!uH l m)) H
theorem WE(hu:X.A.units+100<cLine):OpR X (sX .Eq) (zgL X.K):=by
 intros x y v u Q I rx ry h;let#[l,m,hh,hd,q]:=h;have hu1:X.A.units<cLine:=⋯;have huA:X.A.in1.units+50<cLine:=by show X.A.units+1+50<cLine;lia
 rcases hh with ⟨hx,hy⟩ | ⟨hx,hy⟩
 ·erw[Is]at hx hy
  let#[a,xs,rfl,h1,h2]:=hx;let#[b,ys,rfl,g1,g2]:=hy;cases rx;cases ry;let#[its,r,p,_]:=I.list h1;let#[its',r',p',_]:=I.list g1;have L1:=h2.len;have L2:=g2.len;have L3:=r.length;have L4:=r'.length;by_cases hl:l.length=m.length
  ·have:=SeqAt.RcAt.lists (A:=X.A) p.isList p'.isList (by erw[ak];lia) hu1 (xI h2 g2 r r' (n:=50) hd λd e x y u v q1 q2 q3 q4 q5=>qx I 50 X.A.in1 d e x y u v huA q1 q2 q3 q4 q5);have e1:its.toArray.size=m.length:=by erw[ak];lia
   rw[e1]at this;rw[xP,hl,fk,beq_self_eq_true,gm]at q;exact this X.prog X.w X.xe _ #[.bl _,H,I,rfl,q]
  ·rw[xP,beq_eq_false_iff_ne.mpr hl,dJ]at q;exact SeqAt.RcAt.lists_lengths p.isList p'.isList (by rw[bne_iff_ne];erw[ak];lia) hu1 X.prog X.w X.xe _ #[.bl _,H,I,rfl,q]
 ·erw[Is]at hx hy
  let#[a,xs,rfl,h1,h2]:=hx;let#[b,ys,rfl,g1,g2]:=hy;cases rx;cases ry;let#[its,r,p,_]:=I.tuple h1;let#[its',r',p',_]:=I.tuple g1;have L1:=h2.len;have L2:=g2.len;have L3:=r.length;have L4:=r'.length;have:=SeqAt.RcAt.tuples (A:=X.A) p p' hu1 (xI h2 g2 r r' (n:=50) hd λd e x y u v q1 q2 q3 q4 q5=>qx I 50 X.A.in1 d e x y u v huA q1 q2 q3 q4 q5)
  erw[ak]at this
  rw[xP,<- L1,<- L2,L3,L4]at q;exact this X.prog X.w X.xe _ #[.bl _,H,I,rfl,q]
theorem zaO(hu:X.A.units+100<cLine):OpR X (sX .NotEq) (zgz X.K):=by
 intros x y v u Q I rx ry h;let#[l,m,hh,hd,q]:=h;have hu1:X.A.units<cLine:=⋯;have huA:X.A.in1.units+50<cLine:=by show X.A.units+1+50<cLine;lia
 rcases hh with ⟨hx,hy⟩ | ⟨hx,hy⟩
 ·erw[Is]at hx hy
  let#[a,xs,rfl,h1,h2]:=hx;let#[b,ys,rfl,g1,g2]:=hy;cases rx;cases ry;let#[its,r,p,_]:=I.list h1;let#[its',r',p',_]:=I.list g1;have L1:=h2.len;have L2:=g2.len;have L3:=r.length;have L4:=r'.length;by_cases hl:l.length=m.length
  ·have:=SeqAt.RcNeAt.lists (A:=X.A) p.isList p'.isList (by erw[ak];lia) hu1 (xI h2 g2 r r' (n:=50) hd λd e x y u v q1 q2 q3 q4 q5=>qx I 50 X.A.in1 d e x y u v huA q1 q2 q3 q4 q5);have e1:its.toArray.size=m.length:=by erw[ak];lia
   rw[e1]at this;rw[xP,hl,fk,beq_self_eq_true,gm]at q;exact this X.prog X.w X.xe _ #[.bl _,H,I,rfl,q]
  ·rw[xP,beq_eq_false_iff_ne.mpr hl,dJ]at q;exact SeqAt.RcNeAt.lists_lengths p.isList p'.isList (by rw[bne_iff_ne];erw[ak];lia) hu1 X.prog X.w X.xe _ #[.bl _,H,I,rfl,q]
 ·erw[Is]at hx hy
  let#[a,xs,rfl,h1,h2]:=hx;let#[b,ys,rfl,g1,g2]:=hy;cases rx;cases ry;let#[its,r,p,_]:=I.tuple h1;let#[its',r',p',_]:=I.tuple g1;have L1:=h2.len;have L2:=g2.len;have L3:=r.length;have L4:=r'.length;have:=SeqAt.RcNeAt.tuples (A:=X.A) p p' hu1 (xI h2 g2 r r' (n:=50) hd λd e x y u v q1 q2 q3 q4 q5=>qx I 50 X.A.in1 d e x y u v huA q1 q2 q3 q4 q5)
  erw[ak]at this
  rw[xP,<- L1,<- L2,L3,L4]at q;exact this X.prog X.w X.xe _ #[.bl _,H,I,rfl,q]
end
theorem jT(l m:List Int):uH (l.map D.int) (m.map D.int)=decide (l=m):=by
 induction l generalizing m with
 | nil=>cases m <;> simp [uH]
 | cons a l ih =>
  cases m with
  | nil=>simp [uH]
  | cons b m =>
   erw[ao,uH,eqD,ih m]
   by_cases h1:a=b
   ·subst h1;by_cases h2:l=m
    ·simp [h2]
    ·simp [h2]
   ·simp [h1]
theorem uN(l:List Int):vG (l.map D.int)=0:=by
 induction l with
 | nil=>rfl
 | cons a l ih=>erw[ao,vG,dpD,ih];rfl
abbrev CNx(n i:Nat)(Pv:Nat->List V->Hp->Prop)(Bg:List V)(H:Hp):Prop:=∃m',m'<n - i/\(m'=n - (i+1)/\i+1<=n/\Pv (i+1) Bg H)
def CNx.mk(hi:i<n)(h:Pv (i+1) Bg H):CNx n i Pv Bg H:=#[n - (i+1),⋯,rfl,hi,h]
def YX(J:It)(g:TG)(tt:TT)(te:TE)(own:Nat)(ix:())(σ:St)(H1:Hp)(Q:VK)(D:sM):Prop:=∃W:Nat->Nat->List V->Hp->Prop,(∃m,W 0 m [] (upd H1 D (.lst []))) /\
 ∀i m Bg H',W i m Bg H'->(J.stop i H'/\Q (.ref D) H')\/(J.go i H'/\∀x H2,J.yld i H' x H2->g x (vR σ own ix) H2 λσ3 H3=>xm (vR σ own ix) σ3/\tt σ3 H3 λb H4=>if b=Bc then
  te σ3 H4 λv H5=>H5 D=Ba (.lst Bg)/\Bg.length<sK/\∃m',m'<m/\W (i+1) m' (Bg ++ [v]) (upd H5 D (.lst (Bg ++ [v])))
  else ∃m',m'<m/\W (i+1) m' Bg H4)
def CompR(lo:Int)(n:Nat)(g:TG)(tt:TT)(te:TE)(own:Nat)(ix:())(σ:St)(H1:Hp)(Q:VK)(D:sM):Prop:=YX (Itr lo n) g tt te own ix σ H1 Q D
def CompL(K:sL)(a:sM)(g:TG)(tt:TT)(te:TE)(own:Nat)(ix:())(σ:St)(H1:Hp)(Q:VK)(D:sM):Prop:=YX (Itl K a) g tt te own ix σ H1 Q D
def CompS(x:sS)(g:TG)(tt:TT)(te:TE)(own:Nat)(ix:())(σ:St)(H1:Hp)(Q:VK)(D:sM):Prop:=YX (Its x) g tt te own ix σ H1 Q D
def zaN : qC (zcB ta) g tt te own ix σ H Q=ta σ H λvs H1=>∃j:Int,vs=[.int j]/\-(2 ^ 62)<=j/\j<2 ^ 62/\∀D,H1 D=Bb->CompR 0 j.toNat g tt te own ix σ H1 Q D:=rfl
def ze3{K:sL}:qC (zbW K tl) g tt te own ix σ H Q=tl σ H λx H1=>∃a,x=.ref a/\(∃xs,SqL K H1 a xs)/\∀D,H1 D=Bb->CompL K a g tt te own ix σ H1 Q D:=rfl
def ze4 : qC (zfr tl) g tt te own ix σ H Q=tl σ H λv H1=>∃x,v=.str x/\∀D,H1 D=Bb->CompS x g tt te own ix σ H1 Q D:=rfl
section
variable{g:TG}{tt:TT}{te:TE}{own:Nat}{ix:()}{σ:St}{H1:Hp}{Q:VK}{D:sM}
theorem CompR.by{lo:Int}(Pv:Nat->List V->Hp->Prop)(h0:Pv 0 [] (upd H1 D (.lst [])))(hs:∀i Bg H',i<n->Pv i Bg H'->g (.int (lo+i)) (vR σ own ix) H' λσ3 H3=>xm (vR σ own ix) σ3/\tt σ3 H3 λb H4=>if b=Bc then
   te σ3 H4 λv H5=>H5 D=Ba (.lst Bg)/\Bg.length<sK/\CNx n i Pv (Bg ++ [v]) (upd H5 D (.lst (Bg ++ [v])))else CNx n i Pv Bg H4) (hd:∀Bg H',Pv n Bg H'->Q (.ref D) H'):CompR lo n g tt te own ix σ H1 Q D:=by
 refine#[λi m Bg H=>m=n - i/\i<=n/\Pv i Bg H,#[n,by simp,ar _,h0],?_];rintro i m Bg H' ⟨rfl,hi,p⟩;by_cases hlt:i<n
 ·refine .inr #[hlt,λx H2 y=>?_];let#[e,y]:=y;subst e y;exact hs i Bg _ hlt p
 ·have e:i=n:=⋯;subst e;exact .inl #[al _,hd Bg H' p]
theorem CompL.by{K:sL}(Pv:Nat->List V->Hp->Prop)(h0:Pv 0 [] (upd H1 D (.lst [])))(hl:∀i Bg H',i<=xs.length->Pv i Bg H'->SqL K H' a xs)(hs:∀i x Bg H',xs[i]? = Ba x->Pv i Bg H'->g x (vR σ own ix) H' λσ3 H3=>xm (vR σ own ix) σ3/\tt σ3 H3 λb H4=>if b=Bc then
   te σ3 H4 λv H5=>H5 D=Ba (.lst Bg)/\Bg.length<sK/\CNx xs.length i Pv (Bg ++ [v]) (upd H5 D (.lst (Bg ++ [v])))else CNx xs.length i Pv Bg H4) (hd:∀Bg H',Pv xs.length Bg H'->Q (.ref D) H'):CompL K a g tt te own ix σ H1 Q D:=by
 refine#[λi m Bg H=>m=xs.length - i/\i<=xs.length/\Pv i Bg H,#[xs.length,by simp,ar _,h0],?_];rintro i m Bg H' ⟨rfl,hi,p⟩;have q:=hl i Bg H' hi p;by_cases hlt:i<xs.length
 ·refine .inr #[#[xs,xs[i],q,by simp [hlt]],λx H2 y=>?_];let#[e,y]:=y;subst e;exact hs i x Bg _ (y xs q) p
 ·have e:i=xs.length:=⋯;subst e;exact .inl #[#[xs,q,al _],hd Bg H' p]
theorem CompS.by(Pv:Nat->List V->Hp->Prop)(h0:Pv 0 [] (upd H1 D (.lst [])))(hs:∀i c Bg H',l[i]? = Ba c->Pv i Bg H'->g ⇑[c] (vR σ own ix) H' λσ3 H3=>xm (vR σ own ix) σ3/\tt σ3 H3 λb H4=>if b=Bc then
   te σ3 H4 λv H5=>H5 D=Ba (.lst Bg)/\Bg.length<sK/\CNx l.length i Pv (Bg ++ [v]) (upd H5 D (.lst (Bg ++ [v])))else CNx l.length i Pv Bg H4) (hd:∀Bg H',Pv l.length Bg H'->Q (.ref D) H'):CompS (tx l) g tt te own ix σ H1 Q D:=by
 refine#[λi m Bg H=>m=l.length - i/\i<=l.length/\Pv i Bg H,#[l.length,by simp,ar _,h0],?_];rintro i m Bg H' ⟨rfl,hi,p⟩;by_cases hlt:i<l.length
 ·refine .inr #[hlt,λv H2 y=>?_];let#[e,c,hc,ev]:=y;subst e ev;exact hs i c Bg _ hc p
 ·have e:i=l.length:=⋯;subst e;exact .inl #[rfl,hd Bg H' p]
end
mutual section
theorem yz : xm (Bb::r) (Ba x::r):=#[rfl,λi v h=>by
 cases i with
 | zero=>cases h
 | succ i=>exact h]
def zK(h1:scope.kind=.function)(h2:scope.names.all (λy=>y.2 != .cell)=Bc)(h3:scope.names.all (λy=>y.2 != .local || scope.names.lookup y.1 == Ba .local)=Bc)(h4:scope.names.all (λy=>y.2 != .free || sc.names.lookup y.1 == Ba .cell)=Bc)(hsc:X.env.scope=sc)(h5:own.all (λy=>scope.names.lookup y == Ba .local)=Bc)(h6:caps.all (λy=>scope.names.lookup y == Ba .free)=Bc)(h7:ix.map (λi=>X.N[i]?)=caps.map Ba):kF X scope own caps ix:=by
 refine#[h1,λy hy=>?_,λy hy e=>?_,λy hy=>?_,λy hy=>?_,λy hy=>?_,h7]
 ·have:=Br.mp h2 y hy;simpa using this
 ·have:=Br.mp h3 y hy;rw[e]at this;simpa using this
 ·have:=Br.mp h4 _ hy;have:=by simpa using this
  refine .inl ?_;show X.env.scope.names.lookup y=Ba .cell;rw[hsc];exact this
 ·have:=Br.mp h5 y hy;simpa using this
 ·have:=Br.mp h6 y hy;simpa using this
def Yc(l:List α){a b:Int}(h0:0<=a)(h1:a<=b)(h2:b<=l.length):cut l (Ba a) (Ba b)=(l.drop a.toNat).take (b - a).toNat:=by let#[m,rfl]:=bQ h0;let#[n,rfl]:=bQ (by lia:0<=b);unfold cut;rw[HT.sIx_nat,HT.sIx_nat,cD ⋯,cD ⋯];have:((n:Int) - (m:Int)).toNat=n - m:=⋯;rw[this];rfl
def wz(r:Room k A):A.units+100<cLine:=by have:=r.un;lia
def ZH{K:sL}(h:(Is K H (.lst l) x/\Is K H (.lst m) y)\/(Is K H (.tup l) x/\Is K H (.tup m) y))(hd:vG l<50)(q:Q (.bl (uH l m)) H):zgL K x y H Q:=#[l,m,h,hd,q]
def QB{K:sL}(h:(Is K H (.lst l) x/\Is K H (.lst m) y)\/(Is K H (.tup l) x/\Is K H (.tup m) y))(hd:vG l<50)(q:Q (.bl (!uH l m)) H):zgz K x y H Q:=#[l,m,h,hd,q]
def zgg(t u:TS):TS:=λD σ H=>∃R:St->Hp->Prop,t { D with nx:=R } σ H/\∀σ' H',R σ' H'->u D σ' H'
theorem zh{st:sV}{rest:List sV}(h1:PS X st t)(h2:PSs X rest u):PSs X (st::rest) (zgg t u):=by
 intros D I h;let#[R,h,hr]:=h;refine tX (thn (h1 Be s σ H { D with nx:=R } I h) λf s1 q=>?_)
 cases f with
 | next =>
  let#[σ',H',I',q]:=q;exact h2 Be s1 σ' H' D I' (hr _ _ q)
 | ret v=>exact q
 | brk=>exact q
 | cont=>exact q
def qv{D:Zm}(R:St->Hp->Prop)(h:t { D with nx:=R } σ H)(hr:∀σ' H',R σ' H'->u D σ' H'):zgg t u D σ H:=#[R,h,hr]
def zj{D:Zm}(R:St->Hp->Prop)(h:t { D with nx:=R } σ H)(hr:∀G:St->Hp->Prop,G=u D->∀σ' H',R σ' H'->G σ' H'):zgg t u D σ H:=#[R,h,hr _ rfl]
def nm4{α β γ δ:Type}{P R:α->β->γ->δ->Prop}{B:α->β->γ->δ->Prop}(h:∀G:α->β->γ->δ->Prop,G=B->∀a b c d,P a b c d->R a b c d->G a b c d):∀a b c d,P a b c d->R a b c d->B a b c d:=h _ rfl
def nm3{α β γ:Type}{P R:α->β->γ->Prop}{B:α->β->γ->Prop}(h:∀G:α->β->γ->Prop,G=B->∀a b c,P a b c->R a b c->G a b c):∀a b c,P a b c->R a b c->B a b c:=h _ rfl
def zu(h:Same H H')(e:H a=Bb):Same H (upd H' a o):=λb u q=>by
 rw[zt (zN q e)];exact h b u q
def ForL.by{K:sL}{D:Zm}(Pv:Nat->St->Hp->Prop)(h0:Pv 0 σ H)(hl:∀i σ H,i<=xs.length->Pv i σ H->SqL K H a xs)(hs:∀i x σ H,xs[i]? = Ba x->Pv i σ H->g x σ H λσ2 H2=>tb { D with nx:=Pv (i+1),ct:=Pv (i+1),bk:=D.nx } σ2 H2)(hd:∀σ H,Pv xs.length σ H->D.nx σ H):ForL K a g tb D σ H:=Kz Pv h0 hl hs hd
def Yg{A B:Prop}(h:B):if Bc=Bd then A else B:=by rw[w9 ∅];exact h
def CompV(K:sL)(a:sM)(n:Nat)(g:TG)(tt:TT)(te:TE)(own:Nat)(ix:())(σ:L2.St)(H1:Hp)(Q:VK)(D:sM):Prop:=YX (Irv K a n) g tt te own ix σ H1 Q D
def zeo{K:sL}:qC (zgZ K ta) g tt te own ix σ H Q=ta σ H λvs H1=>∃a xs,vs=[.ref a]/\SqL K H1 a xs/\∀D,H1 D=Bb->CompV K a xs.length g tt te own ix σ H1 Q D:=rfl
def CompV.by{K:sL}{D:sM}(Pv:Nat->List V->Hp->Prop)(h0:Pv 0 [] (upd H1 D (.lst [])))(hl:∀i Bg H',i<=xs.length->Pv i Bg H'->SqL K H' a xs)(hs:∀i x Bg H',xs.reverse[i]? = Ba x->Pv i Bg H'->g x (vR σ own ix) H' λσ3 H3=>xm (vR σ own ix) σ3/\tt σ3 H3 λb H4=>if b=Bc then
   te σ3 H4 λv H5=>H5 D=Ba (.lst Bg)/\Bg.length<sK/\CNx xs.length i Pv (Bg ++ [v]) (upd H5 D (.lst (Bg ++ [v])))else CNx xs.length i Pv Bg H4) (hd:∀Bg H',Pv xs.length Bg H'->Q (.ref D) H'):CompV K a xs.length g tt te own ix σ H1 Q D:=by
 refine#[λi m Bg H=>m=xs.length - i/\i<=xs.length/\Pv i Bg H,#[xs.length,by simp,ar _,h0],?_];rintro i m Bg H' ⟨rfl,hi,p⟩;have q:=hl i Bg H' hi p;by_cases hlt:i<xs.length
 ·refine .inr #[#[xs,q,rfl,hlt],λx H2 y=>?_];let#[e,y]:=y;subst e;refine hs i x Bg _ ?_ p;rw[bF hlt];exact y xs q rfl
 ·have e:i=xs.length:=⋯;subst e;exact .inl #[rfl,hd Bg H' p]
def zfX : ya 0 (Ba v::σ) H Q=Q v H:=rfl
def zfv : ya 1 (a0::Ba v::σ) H Q=Q v H:=rfl
def zge : ya 2 (a0::a1::Ba v::σ) H Q=Q v H:=rfl
def zft : ya 3 (a0::a1::a2::Ba v::σ) H Q=Q v H:=rfl
def zfO : ya 4 (a0::a1::a2::a3::Ba v::σ) H Q=Q v H:=rfl
def zfY : ya 5 (a0::a1::a2::a3::a4::Ba v::σ) H Q=Q v H:=rfl
def zfZ : ya 6 (a0::a1::a2::a3::a4::a5::Ba v::σ) H Q=Q v H:=rfl
def zfG : ya 7 (a0::a1::a2::a3::a4::a5::a6::Ba v::σ) H Q=Q v H:=rfl
def zgq : ya 8 (a0::a1::a2::a3::a4::a5::a6::a7::Ba v::σ) H Q=Q v H:=rfl
def zgi : ya 9 (a0::a1::a2::a3::a4::a5::a6::a7::a8::Ba v::σ) H Q=Q v H:=rfl
def zbE : ya 10 (a0::a1::a2::a3::a4::a5::a6::a7::a8::a9::Ba v::σ) H Q=Q v H:=rfl
def zdc : ya 11 (a0::a1::a2::a3::a4::a5::a6::a7::a8::a9::a10::Ba v::σ) H Q=Q v H:=rfl
def zbL : ya 12 (a0::a1::a2::a3::a4::a5::a6::a7::a8::a9::a10::a11::Ba v::σ) H Q=Q v H:=rfl
def zey{p:Bool->Prop}:(∃k,V.bl b=V.bl k/\p k)=p b:=propext #[λ⟨_,h,q⟩=>by cases h;exact q,λq=>#[_,rfl,q]]
def zbg{p:Int->Prop}:(∃k,V.int b=V.int k/\p k)=p b:=propext #[λ⟨_,h,q⟩=>by cases h;exact q,λq=>#[_,rfl,q]]
def zaM{p:sS->Prop}:(∃k,V.str b=V.str k/\p k)=p b:=propext #[λ⟨_,h,q⟩=>by cases h;exact q,λq=>#[_,rfl,q]]
def zbu{p:sM->Prop}:(∃k,V.ref b=V.ref k/\p k)=p b:=propext #[λ⟨_,h,q⟩=>by cases h;exact q,λq=>#[_,rfl,q]]
def zf0 : onInt (.int i) p=p i:=rfl
def zgw : onStr (.str i) p=p i:=rfl
def zgd : onBl (.bl i) p=p i:=rfl
def zf1 : onRef (.ref i) p=p i:=rfl
def zfI{K:sL}:zgb K (.bl b) H p=p b:=rfl
def za7 : onInt x p=∃k,x=.int k/\p k:=propext #[onInt.of,onInt.to]
def za5 : onStr x p=∃k,x=.str k/\p k:=propext #[onStr.of,onStr.to]
def zbe : onBl x p=∃k,x=.bl k/\p k:=propext #[onBl.of,onBl.to]
def zbn : onRef x p=∃k,x=.ref k/\p k:=propext #[onRef.of,onRef.to]
def Qs : ya i σ H Q=∃v,σ[i]? = Ba (Ba v)/\Q v H:=propext #[onSl.of,λ⟨v,h,q⟩=>by erw[ya,onSl,h];exact q]
def zcW : rEq (.int a) (.int b) H Q=Q (.bl (decide (a=b))) H:=rfl
def zcK : rEq (.str a) (.str b) H Q=Q (.bl (decide (a=b))) H:=rfl
def zb4 : rNe (.int a) (.int b) H Q=Q (.bl (!decide (a=b))) H:=rfl
def zc5 : rNe (.str a) (.str b) H Q=Q (.bl (!decide (a=b))) H:=rfl
def zcT : Y1 (.int a) y H Q=onInt y λj=>Q (.int (a+j)) H:=rfl
def zbG : Y1 (.str a) y H Q=onStr y λj=>a.length+j.length<=sK/\Q (.str (a ++ j)) H:=rfl
def zcY : Y1 (.ref a) y H Q=zdj (.ref a) y H Q:=rfl
def zbU : zb1 (.int a) y H Q=onInt y λj=>CMul a j/\Q (.int (a * j)) H:=rfl
def zcd : zb1 (.str z) y H Q=onInt y λn=>0<=n/\n<=1000/\z.length<=1000/\Q ⇑(aR n.toNat (cs z)).flatten H:=rfl
def zgt : zfm (.int a) y H Q=onInt y λj=>Q (.bl (decide (a<j))) H:=rfl
def zgm : zfm (.str a) y H Q=onStr y λj=>Q (.bl (decide (cs a<cs j))) H:=rfl
def zfx : zfg (.int a) y H Q=onInt y λj=>Q (.bl (decide (a<=j))) H:=rfl
def zfH : zfg (.str a) y H Q=onStr y λj=>Q (.bl (!(decide (cs j<cs a)))) H:=rfl
def zfE : zdR (.int a) y H Q=onInt y λj=>Q (.bl (decide (j<a))) H:=rfl
def zgj : zdR (.str a) y H Q=onStr y λj=>Q (.bl (decide (cs j<cs a))) H:=rfl
def zfq{K:sL}:rIx K (.ref a) y H Q=onInt y λi=>(∃xs,SqL K H a xs/\∃v,atI xs i=Ba v/\Q v H)\/∃xs,SqT K H a xs/\∃v,atI xs i=Ba v/\Q v H:=rfl
def zfw{K:sL}:rIx K (.str z) y H Q=zaQ (.str z) y H Q:=rfl
def zbK{K:sL}{lo hi:Option Int}:ze9 K (.str z) lo hi H Q=(z.length<=sK/\Q ⇑(cut (cs z) lo hi) H):=rfl
def zb2{K:sL}{lo hi:Option Int}:ze9 K (.ref a) lo hi H Q=(∃xs,SqL K H a xs/\∀p,H p=Bb->Q (.ref p) (upd H p (.lst (Ur xs lo hi)))):=rfl
def zcr{K:sL}:WR K [.str z] H Q=(z.length<=sK/\Q (.int z.length) H):=rfl
def zc9{K:sL}:WR K [.ref a] H Q=(∃n:Nat,((∃xs,SqL K H a xs/\n=xs.length)\/∃xs,SqT K H a xs/\n=xs.length)/\Q (.int n) H):=rfl
def zcG : zgH x .non H Q=Q (.bl (decide (x=.non))) H:=rfl
def zdb : zd3 x .non H Q=Q (.bl (!decide (x=.non))) H:=rfl
def zcx : K7 [.int i,.int j] H Q=Q (.int (if j > i then j else i)) H:=rfl
def zcF : QM (.ref a) [y] H Q=(∃xs,H a=Ba (.lst xs)/\xs.length<sK/\Q .non (upd H a (.lst (xs ++ [y])))):=rfl
def zgV{K:sL}:(tyV K "str" (.str z) H/\p)=p:=propext #[λh=>h.2,λh=>#[rfl,h]]
def zy(i:Nat)(hN:X.N.Nodup)(he:PE X e te)(hi:‹X.N[i]? = Ba x›)(hx:‹Loc X.env.scope x›)(hs:‹swapsWith e (Ba (.Name x pos')) pos.line X.env=pure Bd›)(hf:‹X.fn x=Bc\/X.env.scope.names.lookup x=Ba .local›) :
  PS X (.Assign [.Name x pos'] e pos) (zdm te (yv i)):=xM hN hi hx he hs hf
def zk(hr:IxR X r)(ha:PE X a ta)(hb:PE X b tb)(hs:U8 b:=by exact λZ Z=>rfl):PE X (.Subscript a b pos) (tOp r ta tb):=zgh hr ha hb hs
def zA(hm:X.mg "len" = Bb)(he:PE X e te)(hg:‹Gl X "len"›)(h1:‹sJ [e] X.env=(Bd,eval e X.env)::sJ [] X.env›)(h2:‹(tw pos (sJ [] X.env)).any (·.1)=Bd›):PE X (.Call (.Name "len" p) [e] [] pos) (tCB (WR X.K) (zM te xw)) :=
 yW zfR hg hm PySem.boot_len (za he zg h1) (he:=h1) (hpl:=h2)
theorem QL:∀{ys:List sS} {its:List sN},Vals (ys.map V.str) its->∃l:List (sS × AQ),its=strValues l/\l.map (·.1)=ys
 | [],_,.nil=>#[[],rfl,rfl]
 | y::ys,_,.cons r t=>by
  let#[tk,rfl]:=r;let#[l,e1,e2]:=QL t;exact#[(y,tk)::l,by rw[e1];rfl,by rw[ao,e2]]
def zfL(K:sL):V->List V->Hp->VK->Prop:=λx xs H Q=>∃z p ys,x=.str z/\xs=[.ref p]/\SqL K H p (ys.map V.str)/\JoinOk z ys=Bc/\Q (.str (Txt.join z ys)) H
def zeT:MtR X "str.join" (zfL X.K):=by intros x xs v us Q I rx rv h;let#[z,p,ys,rfl,rfl,hS,hok,q]:=h;let#[t,rfl]:=rx;let#[u,rfl,ru]:=wK rv;cases ru;let#[its,r,pl,_]:=I.list hS;let#[l,rfl,e]:=QL r;exact PySem.SC.join pl.isList e hok λt' k=>#[.str _,H,I.tok _,#[_,rfl],q]
theorem ZC:∀{bs:List Bool} {its:List sN} {i:Nat} {v:sN},Vals (bs.map V.bl) its->its[i]? = Ba v->v=.bool (bs.getD i Bd)
 | [],_,_,_,.nil,h=>by cases h
 | b::bs,_,0,v,.cons r t,h=>by
  cases r;cases h;rfl
 | b::bs,_,i+1,v,.cons r t,h=>ZC (bs:=bs) (i:=i) t h
theorem QN(bs:List Bool):(aK bs.length).all (λi=>bs.getD i Bd)=bs.all id:=by
 induction bs with
 | nil=>rfl
 | cons b bs ih =>
  rw[aG,dU,eY,List.all_map,eY,<- ih];rfl
def zg8(K:sL):List V->Hp->VK->Prop:=λxs H Q=>∃(p:sM) (bs:List Bool),xs=[.ref p]/\SqL K H p (bs.map V.bl)/\Q (.bl (bs.all id)) H
def zdQ(hc:X.calm=Bc):wX X (.builtin "all") (zg8 X.K):=by
 intros xs us Q I r h;let#[p,bs,rfl,hS,q]:=h;let#[u,rfl,ru]:=wK r;cases ru;let#[its,rv,pl,hz]:=I.list hS
 have hlen:its.length=bs.length:=by
  have:=rv.length;rw[aa]at this;exact this.symm
 have hh:X.A.in1.handled=Bb:=I.ok.hd hc
 have hne:p≠s⁻¹:=by
  let#[o,n,e,_]:=pl;exact ay (aw e)
 let#[f0,f1,f2,f3,f4,f5]:=I.fpOk (H':=H) (al _) (I.hok.fresh (al _));have I1:=I.kept (t':=s.toks) (h':=s.heap.push { cls:=.type "list_iterator",data:=.fields (r9 [.ref p,.int 0 0]) }) λb o e=>ag _ e;refine call_all_walk (Ac pl.isList ?_);refine#[s⁻¹,_,_,_,_,_,λi=>bs.getD i Bd,rfl,Walks.list hh s⁻¹ p hne its.toArray,#[#[_,aE _ rfl,rfl,rfl],?_],?_,?_]
 ·let#[o,n,e,c,d,dt]:=pl;exact#[o,ag _ e,c,n,dt]
 ·intro i v s' Q' E' hv hq;have:=ZC rv (i:=i) (v:=v) ↥hv;rw[this];exact tm hq
 ·intro h' tk hk
  have e:(aK its.toArray.size).all (λi=>bs.getD i Bd)=bs.all id:=by
   rw[ak,hlen,QN]
  rw[e];refine#[.bl _,H,?_,rfl,q];exact I1.turned (t':=tk) (it:=s⁻¹) (λb o hb q=>hk b o ↥hb q) f0 f1 f3 f4 f5
def zd0(hfr:A.frames=Ba (env0::outer))(hl:s.heap.FunFrames base (env0::outer))(hf:env0.frame=Ba L)(he:env.frame=Ba L)(hx:s.heap.get? x=Ba (xob C dx t tb))(htb:zcZ s.heap x tb)(h:∀h' T oT ts,h'.get? x=Ba (xob C dx t (.ref T))->T≠x->(tb=.ref T\/s⁻¹<=T)->h'.get? T=Ba oT->oT.data=.fields ts->3<ts.size ->
   (∀b o,b≠x->tb≠.ref b->b ∉ frs (env0::outer)->s.heap.get? b=Ba o->h'.get? b=Ba o)->(∀b o,b≠x->tb≠.ref b->s.heap.get? b=Ba o->∃sl,h'.get? b=Ba { o with slots:=sl })->Q Unit.unit { s with heap:=h' }) :
  sQ M A (noteFrame (.ref x) env) Q E s:=by
 have land:∀(h1:tB) (T:sM) (oT:tZ) (ts:Array sN),h1.get? x=Ba (xob C dx t (.ref T))->T≠x->(tb=.ref T\/s⁻¹<=T)->h1.get? T=Ba oT->oT.data=.fields ts->3<ts.size ->
   (∀b o,b≠x->tb≠.ref b->b ∉ frs (env0::outer)->s.heap.get? b=Ba o->h1.get? b=Ba o)->(∀b o,b≠x->tb≠.ref b->s.heap.get? b=Ba o->∃sl,h1.get? b=Ba { o with slots:=sl }) ->
   Q Unit.unit { s with heap:=h1 }:=λh1 T oT ts e1 nT oldT e2 d2 z2 k1 k2=>h h1 T oT ts e1 nT oldT e2 d2 z2 k1 k2
 unfold noteFrame
 erw[he]
 refine sF (tU hx rfl (x:=tb) rfl ?_);rcases htb with rfl | ⟨T,oT,ts,rfl,nT,e2,d2,z2⟩
 ·rw[w9 ∅];refine Ya hfr hl hf he hx λh' oT ts e1 ne e2 d2 z2 k1 k2=>land h' _ oT ts e1 ne (.inr (al _)) e2 d2 z2 (λb o hb Z hbf e=>k1 b o hb hbf e) λb o hb Z e=>k2 b o hb e
 ·rw[w6 (show (r8 T != p9)=Bc from by simp)];obtain⟨y,hy⟩:∃y,ts[3]? = Ba y:=#[ts[3],by simp [z2]];refine sF (tU e2 d2 (x:=y) hy ?_);by_cases c:(y == rawInt L)=Bc
  ·rw[w6 c];exact sH (land s.heap T oT ts hx nT (.inl rfl) e2 d2 z2 (λb o Z Z Z e=>e) λb o Z Z e=>#[o.slots,e])
  ·rw[w9 c];refine sF (tS e2 d2 z2 ?_);have oth:∀b,b≠T->(s.heap.update T (Obj.mapFields (·.setIfInBounds 3 p9))).get? b=s.heap.get? b:=λb hb=>az _ _ (Ne.symm hb);have hl1:(s.heap.update T (Obj.mapFields (·.setIfInBounds 3 p9))).FunFrames base (env0::outer):=hl.of_keeps λb o hb hnf=>#[o,(oth b λq=>by rw[q,e2]at hb;cases hb;exact hnf ts d2).trans hb,rfl];have hsz:(s.heap.update T (Obj.mapFields (·.setIfInBounds 3 p9))).objs.size=s⁻¹:=dv ..;refine Ya (s:={ s with heap:=s.heap.update T (Obj.mapFields (·.setIfInBounds 3 p9)) }) hfr hl1 hf he ((oth x (Ne.symm nT)).trans hx) λh' oT' ts' e1 ne e2' d2' z2' k1 k2=>?_;refine land h' _ oT' ts' e1 ne (.inr (by rw[hsz];exact al _)) e2' d2' z2' (λb o hb hbt hbf e=>k1 b o hb hbf ((oth b λq=>hbt (by rw[q])).trans e)) λb o hb hbt e=>k2 b o hb ((oth b λq=>hbt (by rw[q])).trans e)
def Inv.noted{tb:sN}(I1:Inv X Be σ H1 s1)(hst:X.stack=X.env::X.outer)(fx:wo X Be H1 x)(fT:∀T,tb=.ref T->wo X Be H1 T)(fT':wo X Be H1 T)(k1:∀b o,b≠x->tb≠.ref b->b ∉ frs (X.env::X.outer)->s1.heap.get? b=Ba o->h'.get? b=Ba o)(k2:∀b o,b≠x->tb≠.ref b->s1.heap.get? b=Ba o->∃sl,h'.get? b=Ba { o with slots:=sl }):Inv X Be σ H1 { s1 with heap:=h' }:=by
 have tbs:∀b,tb=.ref b->H1 b=Bb:=λb hb=>(fT b hb).1
 have nch:∀b o,s1.heap.get? b=Ba o->b ∉ (x::T::tbL tb)->b≠x/\tb≠.ref b:=λb o Z hb=>by
  refine#[λz=>hb (by simp [z]),λz=>hb ?_];rw[z];simp [tbL]
 have un:Un (frs X.stack) (x::T::tbL tb) H1 H1 s1.heap h':=by
  rw[hst];refine#[λb o e n hb hc=>?_,λb o e n hb hc=>?_,λb o e n Z=>n,λb o e hc=>?_,λb xs e=>e,λb o u e=>e,λb ps e=>#[#[],by rw[e];simp]]
  ·let#[a1,a2]:=nch b o e hc;exact k1 b o a1 a2 hb e
  ·let#[a1,a2]:=nch b o e hc;exact k2 b o a1 a2 e
  ·let#[a1,a2]:=nch b o e hc;let#[sl,q]:=k2 b o a1 a2 e;exact#[_,q]
 have hok:HOk X.prog X.w H1 h':=λb u e=>by
  refine (I1.hok b u e).stay (λc v hc q=>k1 c v ?_ ?_ ?_ q) (λZ q=>q) λZ Z q=>q
  ·rintro rfl;rcases hc with rfl | hc
   ·rw[fx.1]at e;cases e
   ·rw[fx.1]at hc;cases hc
  ·intro z;have:=tbs c z;rcases hc with rfl | hc
   ·rw[this]at e;cases e
   ·rw[this]at hc;cases hc
  ·intro z;rw[<- hst]at z;have:=I1.stkFree c z;rcases hc with rfl | hc
   ·rw[this]at e;cases e
   ·rw[this]at hc;cases hc
 exact I1.call' (s':={ s1 with heap:=h' }) rfl un hok I1.bare λb hb=>by
  have fb:wo X Be H1 b:=by
   rcases Bk.mp hb with z | z
   ·rw[z];exact fx
   ·rcases Bk.mp z with z | z
    ·rw[z];exact fT'
    ·cases tb with
     | ref b' =>
      have:b=b':=by simpa [tbL] using z
      rw[this];exact fT b' rfl
     | _=>simp [tbL]at z
  let#[_,a1,_,a3,a4,a5]:=fb;exact#[a3,a1,a4,a5]
def Jd(hst:X.stack=X.env::X.outer/\X.env.frame=Ba X.env.locals)(hxe:XE X EX)(hc1:∀y c,cl.lookup y=Ba c->X.env.cells.lookup y=Ba c)(I3:Inv X Be σ H3 s3)(f3:∀b ∈ fp,wo X Be H3 b)(fl:zd1 (yC X scope cl s3⁻¹ N Be s3 H3 fp xe) EX e s1)(hRE:∀m s' x,s'.heap.Ns s3⁻¹ m->(∀h',Heap.SameBut s3⁻¹ s'.heap h'->∀cenv:AU,cenv.locals=s3⁻¹->sQ (model X.prog X.w) X.A (gy "comprehension.variables-let-go" x cenv:Sem sN) (λZ Z=>False) X.xe { s' with heap:=h' })->RE x s') :
  notedBy (model X.prog X.w) X.A (compEnvC scope cl s3⁻¹ X.env) RE e s1:=by
 let#[pins',σ',H1,x,C,t,dx,tb,rfl,I1,ob,tr,fx,fT,q]:=fl
 have IX:Inv X Be σ H1 s1:=I3.call' (s':=s1) I1.os I1.base I1.hok I1.bare λb hb=>by
  let#[_,a1,a2,a3,a4,a5]:=f3 b hb;exact#[a3,a1,a4,a5]
 have up:∀b,wo (yC X scope cl s3⁻¹ N Be s3 H3 fp xe) pins' H1 b->wo X Be H1 b:=λb hb=>by
  let#[a0,a1,a2,a3,a4,a5]:=hb;rcases a3 with a3 | a3
  ·exact#[a0,(f3 b a3).2]
  ·exact I3.fpOk a3 a0
 have fx':=up x fx;have fT':∀T,tb=.ref T->wo X Be H1 T:=λT h=>up T (fT T h);have fr:X.A.frames=Ba (X.env::X.outer):=by rw[<- hst.1];exact IX.ok.frames
 have ff:s1.heap.FunFrames X.base (X.env::X.outer):=by rw[<- hst.1];exact IX.stack
 let#[m,hm,_]:=I1.loc;have fC:wo X Be H1 s3⁻¹:=I3.fpOk (al _) I1.free;refine zd0 fr ff hst.2 hst.2 ob tr λh' T oT ts e1 nT oldT e2 d2 z2 k1 k2=>?_
 have fT2:wo X Be H1 T:=by
  rcases oldT with z | z
  ·exact fT' T z
  ·exact IX.fpOk z (IX.hok.fresh z)
 have I2:Inv X Be σ H1 { s1 with heap:=h' }:=Inv.noted IX hst.1 fx' fT' fT2 k1 k2;have hCx:s3⁻¹≠x:=λz=>fx.2.1 z.symm;have hCtb:tb≠.ref s3⁻¹:=λz=>(fT _ z).2.1 rfl;let#[oC,es,ep,hoC,rC]:=hm
 have hCT:T≠s3⁻¹:=by
  rcases oldT with z | z
  ·exact (fT T z).2.1
  ·exact cC (aq (aw hoC) z)
 have hCf:s3⁻¹ ∉ frs (X.env::X.outer):=λz=>by
  rw[<- hst.1]at z;rcases Bk.mp (IX.stkSub _ z)with y | y
  ·exact fC.2.1 y
  ·exact fC.2.2.1 y
 refine hRE m _ _ #[oC,es,ep,k1 _ _ hCx hCtb hCf hoC,rC] λh2 sb cenv hcenv=>?_;have I3':Inv X Be σ H1 { s1 with heap:=h2 }:=I2.turned (t':=s1.toks) (λb o hb e=>(sb.2 b hb).trans e) fC.1 fC.2.1 fC.2.2.2.1 fC.2.2.2.2.1 fC.2.2.2.2.2;have ob2:h2.get? x=Ba (xob C dx t (.ref T)):=(sb.2 x (Ne.symm hCx)).trans e1;have oT2:h2.get? T=Ba oT:=(sb.2 T hCT).trans e2;unfold gy;refine sF (tU (s:={ s1 with heap:=h2 }) ob2 rfl (x:=.ref T) rfl ?_);rw[w9 (show ¬ (r8 T == p9)=Bc from by simp)];unfold setFlight;refine sF (sF (tU (s:={ s1 with heap:=h2 }) ob2 rfl (x:=.ref T) rfl ?_));rw[w6 (show (r8 T != p9)=Bc from by simp)];refine tS (s:={ s1 with heap:=h2 }) oT2 d2 z2 (wpAny_throw (hxe _ _ ?_));have d3:=Obj.data_mapFields d2 (·.setIfInBounds 3 (cenv.frame.elim p9 λf=>rawInt f))
 have I4:Inv X Be σ H1 { s1 with heap:=h2.update T (Obj.mapFields (·.setIfInBounds 3 (cenv.frame.elim p9 λf=>rawInt f))) } :=
  I3'.turned (t':=s1.toks) (λb o hb e=>(az _ _ (Ne.symm hb)).trans e) fT2.1 fT2.2.1 fT2.2.2.2.1 fT2.2.2.2.2.1 fT2.2.2.2.2.2
 exact#[Be,σ,H1,x,C,t,dx,.ref T,rfl,I4,(az _ _ nT).trans ob2,.inr #[T,_,_,rfl,nT,cu _ oT2 (Obj.isFreed_of_fields d3),d3,by simpa using z2],fx',λT' z=>by cases z;exact fT2,q]
end
open PySem.AutoSeq1 (wpAny_loadPart')
open MeetsSeq MeetsSeq2 MeetsSeq3 SeqRoads2 SeqAt
mutual section
def jG(op:AO)(A:tG)(s:sP)(y x:sN)(b:Bool):Prop :=
 ∀(prog:sU) (w:sZ) (E:sN->sP->Prop) (Q:sN->sP->Prop),Q (.bool b) s->sQ (model prog w) A (richCompare op y x) Q E s
abbrev LtAt:=jG .Lt
def zdO:AO->Nat->Nat->Bool
 | .Gt,m,n=>decide (n<m)
 | _,m,n=>decide (m<n)
def zg0:AO->Int
 | .Gt=>4
 | _=>0
def LG(op:AO):Prop:=op=.Lt\/op=.Gt
def uw(op:AO)(e t r:Nat->Bool)(m n:Nat):Prop:=∀i,i<=m->i<=n->r i=if i<m/\i<n then (if e i=Bc then r (i+1)else t i)else zdO op m n
abbrev zfs:=uw .Lt
variable{op:AO}
theorem Qo(ho:LG op)(l b:sM)(items Bf:Array sN)(n n2:Nat)(dd dd2:Option sM)(sl sl2:Array (Option sN))(e t r:Nat->Bool)(hr:uw op e t r items.size Bf.size)(k:Nat) :
  ∀i:Nat,i<=items.size->i<=Bf.size->items.size - i=k->Meets (Builtin.«list.__eq__.loop» #[[.ref l,.ref b,rawInt i,rawInt (zg0 op)],[]]) (λA R s=>s.heap.get? l=Ba { cls:=.type "list",dict:=dd,data:=.seq items n,slots:=sl }/\s.heap.get? b=Ba { cls:=.type "list",dict:=dd2,data:=.seq Bf n2,slots:=sl2 } /\
    (∀j (h1:j<items.size) (h2:j<Bf.size),EqAt A.in1 s items[j] Bf[j] (e j))/\(∀j (h1:j<items.size) (h2:j<Bf.size),e j=Bd->jG op A.in1 s items[j] Bf[j] (t j)) /\
    R (.ok (.ret (.bool (r i)))) s):=by
 rcases ho with rfl | rfl <;> erw[zg0] <;> erw[uw,zdO]at hr
 all_goals
  induction k with
  | zero =>
   intro i b1 b2 hk prog w A R s h;let#[hp,g,d,tk,os]:=s;let#[hl,hb,he,ht,h]:=h;have hri:=hr i b1 b2;rw[w9 ⋯]at hri;rw[hri]at h
   wp_walk using wpAny_loadPart' hl,wpAny_loadPart' hb
   have hi1:items[((i:Nat):Int).toNat]? = Bb:=by simp;lia
   rw[hi1]
   wp_walk using wpAny_loadPart' hl,wpAny_loadPart' hb
   exact h
  | succ k ih =>
   intro i b1 b2 hk prog w A R s h;let#[hp,g,d,tk,os]:=s;let#[hl,hb,he,ht,h]:=h;have hlt:i<items.size:=⋯;have hi1:items[((i:Nat):Int).toNat]? = Ba items[i]:=by simp [hlt]
   have hc:((i:Int)+1)=((i+1:Nat):Int):=by push_cast;rfl
   have hri:=hr i b1 b2;by_cases hlt2:i<Bf.size
   ·rw[w6 #[hlt,hlt2]]at hri;rw[hri]at h;have hi2:Bf[((i:Nat):Int).toNat]? = Ba Bf[i]:=by simp [hlt2]
    wp_walk using wpAny_loadPart' hl,wpAny_loadPart' hb
    rw[hi1,hi2];refine sF (he i hlt hlt2 prog w _ _ ?_)
    cases hb':e i with
    | true =>
     rw[hb',w6 rfl]at h
     wp_walk
     rw[hc]
     exact#[plainId_quiet plain_eq_loop _,tI entry_eq_loop (by
      rw[Around.under_plainId plain_eq_loop _]
      exact ih (i+1) ⋯ ⋯ ⋯ prog w A R _ #[hl,hb,he,ht,h])]
    | false =>
     rw[hb',w9 aD]at h
     wp_walk using wpAny_loadPart' hl,wpAny_loadPart' hb
     rw[hi1,hi2];refine sF (ht i hlt hlt2 hb' prog w _ _ ?_)
     wp_walk
     exact h
   ·rw[w9 ⋯]at hri;rw[hri]at h;have hi2:Bf[((i:Nat):Int).toNat]? = Bb:=by simp;lia
    wp_walk using wpAny_loadPart' hl,wpAny_loadPart' hb
    rw[hi1,hi2]
    wp_walk using wpAny_loadPart' hl,wpAny_loadPart' hb
    exact h
def Ys(ho:LG op)(l b:sM)(items Bf:Array sN)(n n2:Nat)(dd dd2:Option sM)(sl sl2:Array (Option sN))(e t r:Nat->Bool)(hr:uw op e t r items.size Bf.size) :
  Meets ((match op with | .Gt=>Builtin.«list.__gt__» | _=>Builtin.«list.__lt__») ⟨[.ref l,.ref b],[]⟩) (λA R s=>s.heap.get? l=Ba { cls:=.type "list",dict:=dd,data:=.seq items n,slots:=sl }/\s.heap.get? b=Ba { cls:=.type "list",dict:=dd2,data:=.seq Bf n2,slots:=sl2 } /\
    (∀j (h1:j<items.size) (h2:j<Bf.size),EqAt A.in1 s items[j] Bf[j] (e j))/\(∀j (h1:j<items.size) (h2:j<Bf.size),e j=Bd->jG op A.in1 s items[j] Bf[j] (t j)) /\
    R (.ok (.ret (.bool (r 0)))) s):=by
 rcases id ho with rfl | rfl
 all_goals
  intro prog w A R s h;let#[hp,g,d,tk,os]:=s;let#[hl,hb,he,ht,h]:=h;have f3:=AutoSeq1.sub_list_list
  wp_walk using wpAny_loadPart' hl,wpAny_loadPart' hb
  exact#[plainId_quiet plain_eq_loop _,tI entry_eq_loop (by
   rw[Around.under_plainId plain_eq_loop _]
   exact Qo ho l b items Bf n n2 dd dd2 sl sl2 e t r hr _ 0 (ar _) (ar _) rfl prog w A R _ #[hl,hb,he,ht,h])]
theorem kK(ho:LG op)(l b:sM)(items Bf:Array sN)(n n2:Nat)(dd dd2:Option sM)(sl sl2:Array (Option sN))(e t r:Nat->Bool)(hr:uw op e t r items.size Bf.size) :
  Meets ((match op with | .Gt=>Builtin.«tuple.__gt__» | _=>Builtin.«tuple.__lt__») ⟨[.ref l,.ref b],[]⟩) (λA R s=>s.heap.get? l=Ba { cls:=.type "tuple",dict:=dd,data:=.seq items n,slots:=sl }/\s.heap.get? b=Ba { cls:=.type "tuple",dict:=dd2,data:=.seq Bf n2,slots:=sl2 } /\
    (∀j (h1:j<items.size) (h2:j<Bf.size),EqAt A.in1 s items[j] Bf[j] (e j))/\(∀j (h1:j<items.size) (h2:j<Bf.size),e j=Bd->jG op A.in1 s items[j] Bf[j] (t j)) /\
    R (.ok (.ret (.bool (r 0)))) s):=by
 rcases ho with rfl | rfl <;> erw[uw,zdO]at hr
 all_goals
  refine .of_wp λprog w A R s h=>?_;let#[hp,g,d,tk,os]:=s;let#[hl,hb,he,ht,h]:=h;have f2:=AutoSeq1.sub_tuple_tuple;have hZ:(items.toList.zip Bf.toList).length=min items.size Bf.size:=by simp
  wp_walk using wpAny_loadPart' hl,wpAny_loadPart' hb,wpAny_forIn_list _ (λrest b s'=>b.1=Bb/\s'=#[hp,g,d,tk,os]/\∃i,i<=min items.size Bf.size/\rest=(items.toList.zip Bf.toList).drop i /\
   R (.ok (.ret (.bool (r i)))) #[hp,g,d,tk,os]) _
  case turn =>
   rintro⟨y,x⟩ rest b s' ⟨hb',rfl,i,hi,hz,hR⟩
   have hlt:i<(items.toList.zip Bf.toList).length:=by
    rcases ef i (items.toList.zip Bf.toList).length with h' | h'
    ·exact h'
    ·rw[bf h']at hz;cases hz
   have hm:i<min items.size Bf.size:=hZ ▸ hlt;have h1:i<items.size:=aq hm (Nat.min_le_left _ _);have h2:i<Bf.size:=aq hm (Nat.min_le_right _ _);rw[aY hlt]at hz;injection hz with hyx hrest;have hy:y=items[i]:=by have:=congrArg Prod.fst hyx;simpa using this
   have hx:x=Bf[i]:=by have:=congrArg Prod.snd hyx;simpa using this
   subst hy hx;have hri:=hr i ⋯ ⋯;rw[w6 #[h1,h2]]at hri;rw[hri]at hR;refine sF (he i h1 h2 prog w _ _ ?_)
   cases hy:e i with
   | true =>
    rw[hy,w6 rfl]at hR
    wp_walk
    exact#[rfl,rfl,i+1,⋯,hrest,hR]
   | false =>
    rw[hy,w9 aD]at hR
    erw[fY,if_true]
    refine sF (AR ?_);refine sF (ht i h1 h2 hy prog w _ _ ?_)
    wp_walk
    exact#[_,rfl,hR]
  case fin =>
   rintro⟨b1,b2⟩ s' ⟨hb',rfl,i,hi,hz,hR⟩;simp only at hb';subst hb'
   have hge:min items.size Bf.size<=i:=by
    rcases ef i (items.toList.zip Bf.toList).length with h' | h'
    ·rw[aY h']at hz;cases hz
    ·exact hZ ▸ h'
   have hri:=hr i ⋯ ⋯;rw[w9 ⋯]at hri;rw[hri]at hR
   wp_walk
   exact#[_,rfl,hR]
  case h =>
   exact#[rfl,rfl,0,ar _,rfl,h]
def LtAt.lists(ho:LG op)(hl:s.heap.IsList l items)(hb:s.heap.IsList b Bf)(hr:uw op e t r items.size Bf.size)(hu:A.units<cLine)(he:∀j (h1:j<items.size) (h2:j<Bf.size),EqAt A.in1 s items[j] Bf[j] (e j))(ht:∀j (h1:j<items.size) (h2:j<Bf.size),e j=Bd->jG op A.in1 s items[j] Bf[j] (t j)):jG op A s (.ref l) (.ref b) (r 0):=λprog w E Q h=>by
 let#[#[cls,dd,data,sl],h1,hc,n,hd]:=id hl;let#[#[cls2,dd2,data2,sl2],h2,hc2,n2,hd2]:=id hb;simp only at hc hd hc2 hd2;subst hc hd hc2 hd2;have z:Value.bool (r 0)≠Value.notImplemented/\Q (.bool (r 0)) s:=#[(λx=>nomatch x),h];rcases id ho with rfl | rfl
 ·exact richCompare_meets_room #[_,h1,rfl] #[_,h2,rfl] F.slot_list_lt F.entry_list_lt (F.args_list_lt_2 _ _) (Ys ho l b items Bf n n2 dd dd2 sl sl2 e t r hr) #[h1,h2,he,ht,z] hu
 ·exact richCompare_meets_room #[_,h1,rfl] #[_,h2,rfl] F.slot_list_gt F.entry_list_gt (F.args_list_gt_2 _ _) (Ys ho l b items Bf n n2 dd dd2 sl sl2 e t r hr) #[h1,h2,he,ht,z] hu
def LtAt.tuples(ho:LG op)(hl:s.heap.IsTuple l items)(hb:s.heap.IsTuple b Bf)(hr:uw op e t r items.size Bf.size)(hu:A.units<cLine)(he:∀j (h1:j<items.size) (h2:j<Bf.size),EqAt A.in1 s items[j] Bf[j] (e j))(ht:∀j (h1:j<items.size) (h2:j<Bf.size),e j=Bd->jG op A.in1 s items[j] Bf[j] (t j)):jG op A s (.ref l) (.ref b) (r 0):=λprog w E Q h=>by
 let#[#[cls,dd,data,sl],h1,hc,n,hd]:=id hl;let#[#[cls2,dd2,data2,sl2],h2,hc2,n2,hd2]:=id hb;simp only at hc hd hc2 hd2;subst hc hd hc2 hd2;have z:Value.bool (r 0)≠Value.notImplemented/\Q (.bool (r 0)) s:=#[(λx=>nomatch x),h];rcases id ho with rfl | rfl
 ·exact richCompare_meets_room #[_,h1,rfl] #[_,h2,rfl] F.slot_tuple_lt F.entry_tuple_lt (F.args_tuple_lt_2 _ _) (kK ho l b items Bf n n2 dd dd2 sl sl2 e t r hr) #[h1,h2,he,ht,z] hu
 ·exact richCompare_meets_room #[_,h1,rfl] #[_,h2,rfl] F.slot_tuple_gt F.entry_tuple_gt (F.args_tuple_gt_2 _ _) (kK ho l b items Bf n n2 dd dd2 sl sl2 e t r hr) #[h1,h2,he,ht,z] hu
end
mutual
def okD:D->D->Prop
 | .int _,e=>match e with | .int _=>True | _=>False
 | .lst l,e=>match e with | .lst m=>Zg l m | _=>False
 | .tup l,e=>match e with | .tup m=>Zg l m | _=>False
 | _,_=>False
def Zg:List D->List D->Prop
 | d::l,m=>match m with | e::m=>okD d e/\Zg l m | []=>True
 | [],_=>True
end
mutual
noncomputable def ltD:D->D->Bool
 | .int a,e=>match e with | .int b=>decide (a<b) | _=>Bd
 | .lst l,e=>match e with | .lst m=>wL l m | _=>Bd
 | .tup l,e=>match e with | .tup m=>wL l m | _=>Bd
 | _,_=>Bd
noncomputable def wL:List D->List D->Bool
 | d::l,m=>match m with | e::m=>if eqD d e=Bc then wL l m else ltD d e | []=>Bd
 | [],m=>match m with | []=>Bd | _::_=>Bc
end
theorem Qd(l m:List D):zfs (λj=>eqD (l.getD j .non) (m.getD j .non)) (λj=>ltD (l.getD j .non) (m.getD j .non)) (λi=>wL (l.drop i) (m.drop i)) l.length m.length:=by
 intro i b1 b2
 erw[zdO]
 by_cases h:i<l.length/\i<m.length
 ·rw[w6 h,aY h.1,aY h.2,wL];rw[ae,ae,af h.1,af h.2];rfl
 ·rw[w9 h];by_cases h1:i<l.length
  ·have h2:¬ i<m.length:=λz=>h #[h1,z];rw[aY h1,bf (cp h2),wL]
   ·simp;lia
   all_goals simp
  ·rw[bf (cp h1)];by_cases h2:i<m.length
   ·rw[aY h2,wL];simp;lia
   ·rw[bf (cp h2),wL]
    ·simp;lia
    all_goals simp
mutual
theorem WC:∀d e:D,eqD d e=eqD e d
 | .lst l,e=>by cases e <;> erw[eqD];exact jO l _
 | .tup l,e=>by cases e <;> erw[eqD];exact jO l _
 | .int _,e=>by cases e <;> erw[eqD] <;> exact gn
 | .str _,e=>by cases e <;> erw[eqD] <;> exact gn
 | .bl _,e=>by cases e <;> erw[eqD] <;> exact gn
 | .non,e=>by cases e <;> erw[eqD]
theorem jO:∀l m:List D,uH l m=uH m l
 | [],[]=>rfl
 | [],_::_=>by erw[uH]
 | _::_,[]=>by erw[uH]
 | d::l,e::m=>by erw[uH,WC d e,jO l m]
end
mutual section
def cm:AO->D->D->Bool
 | .Gt,d,e=>ltD e d
 | _,d,e=>ltD d e
def cms:AO->List D->List D->Bool
 | .Gt,d,e=>wL e d
 | _,d,e=>wL d e
def Jj(ho:LG op)(l m:List D):uw op (λj=>eqD (l.getD j .non) (m.getD j .non)) (λj=>cm op (l.getD j .non) (m.getD j .non)) (λi=>cms op (l.drop i) (m.drop i)) l.length m.length:=by
 rcases ho with rfl | rfl
 ·exact Qd l m
 ·intro i b1 b2;have h:=Qd m l i b2 b1
  erw[zdO,cm,cms]at h ⊢
  rw[h,WC (m.getD i .non)];by_cases q:i<l.length/\i<m.length
  ·rw[w6 q,w6 q.symm]
  ·rw[w9 q,w9 λz=>q z.symm]
theorem zdt:∀{l m:List D} {j:Nat} {d e:D},Zg l m->l[j]? = Ba d->m[j]? = Ba e->okD d e
 | d::l,e::m,0,_,_,h,q1,q2=>by
  cases q1;cases q2
  erw[Zg]at h
  exact h.1
 | d::l,e::m,j+1,_,_,h,q1,q2=>by
  erw[Zg]at h
  exact zdt (j:=j) h.2 q1 q2
theorem Vl{X:Cx}{H:Hp}{s:sP}(hl:Iss X.K H l xs)(hm:Iss X.K H m ys)(r:Vals xs its)(r':Vals ys its')(hn:vG l<n)(ok:Zg l m)(ih:∀(d e:D) (x y:V) (u v:sN),dpD d<n->okD d e->Is X.K H d x->Is X.K H e y->RelV x u->RelV y v->jG op A s u v (cm op d e)) :
  ∀j (h1:j<its.toArray.size) (h2:j<its'.toArray.size),jG op A s its.toArray[j] its'.toArray[j] (cm op (l.getD j .non) (m.getD j .non)):=by
 intro j h1 h2;rw[ak]at h1 h2;have e1:=hl.len;have e2:=hm.len;have e3:=r.length;have e4:=r'.length;have g1:l[j]? = Ba l[j]:=af ⋯;have g2:m[j]? = Ba m[j]:=af ⋯;generalize l[j]=d at g1;generalize m[j]=e at g2;let#[x,hx,ix]:=hl.at g1;let#[y,hy,iy]:=hm.at g2;let#[u,hu,ru]:=xX r hx;let#[v,hv,rv]:=xX r' hy
 have q1:its.toArray[j]=u:=by
  have:=(Bh.mp hu).2;simpa using this
 have q2:its'.toArray[j]=v:=by
  have:=(Bh.mp hv).2;simpa using this
 rw[q1,q2,ae,ae,g1,g2];exact ih d e x y u v (bC (Ki g1) hn) (zdt ok g1 g2) ix iy ru rv
theorem zca(ho:LG op)(I:Inv X Be σ H s):∀(n:Nat) (A:tG) (d e:D) (x y:V) (u v:sN),A.units+n<cLine->dpD d<n->okD d e->Is X.K H d x->Is X.K H e y->RelV x u->RelV y v->jG op A s u v (cm op d e):=by
 intro n
 induction n with
 | zero=>intro A d e x y u v _ h;exact w4 h (bq _)
 | succ n ih =>
  intro A d e x y u v hu hd ok hx hy rx ry;have hu1:A.units<cLine:=⋯;have huA:A.in1.units+n<cLine:=by show A.units+1+n<cLine;lia
  cases d with
  | int a =>
   cases e with
   | int b =>
    erw[Is]at hx hy
    subst hx hy;let#[t,rfl]:=rx;let#[t',rfl]:=ry;rcases ho with rfl | rfl
    ·exact λprog w E Q h=>lt_int h
    ·exact λprog w E Q h=>gt_int h
   | _=>erw[okD]at ok
  | lst l =>
   cases e with
   | lst m =>
    erw[Is]at hx hy
    let#[a,xs,rfl,h1,h2]:=hx;let#[b,ys,rfl,g1,g2]:=hy;cases rx;cases ry;let#[its,r,p,_]:=I.list h1;let#[its',r',p',_]:=I.list g1
    erw[dpD]at hd
    erw[okD]at ok
    have L1:=h2.len;have L2:=g2.len;have L3:=r.length;have L4:=r'.length;have st:=Jj ho l m;rw[show l.length=its.toArray.size by erw[ak];lia,show m.length=its'.toArray.size by erw[ak];lia]at st
    have r0:=LtAt.lists ho (A:=A) p.isList p'.isList st hu1 (xI h2 g2 r r' (n:=n) ⋯ λd e x y u v q1 q2 q3 q4 q5=>qx I n A.in1 d e x y u v huA q1 q2 q3 q4 q5)
     (λj h1 h2 Z=>Vl (n:=n) (A:=A.in1) (by assumption) g2 r r' ⋯ ok (λd e x y u v q1 q2 q3 q4 q5 q6=>ih A.in1 d e x y u v huA q1 q2 q3 q4 q5 q6) j h1 h2)
    rcases id ho with rfl | rfl <;> exact r0
   | _=>erw[okD]at ok
  | tup l =>
   cases e with
   | tup m =>
    erw[Is]at hx hy
    let#[a,xs,rfl,h1,h2]:=hx;let#[b,ys,rfl,g1,g2]:=hy;cases rx;cases ry;let#[its,r,p,_]:=I.tuple h1;let#[its',r',p',_]:=I.tuple g1
    erw[dpD]at hd
    erw[okD]at ok
    have L1:=h2.len;have L2:=g2.len;have L3:=r.length;have L4:=r'.length;have st:=Jj ho l m;rw[show l.length=its.toArray.size by erw[ak];lia,show m.length=its'.toArray.size by erw[ak];lia]at st
    have r0:=LtAt.tuples ho (A:=A) p p' st hu1 (xI h2 g2 r r' (n:=n) ⋯ λd e x y u v q1 q2 q3 q4 q5=>qx I n A.in1 d e x y u v huA q1 q2 q3 q4 q5)
     (λj h1 h2 Z=>Vl (n:=n) (A:=A.in1) (by assumption) g2 r r' ⋯ ok (λd e x y u v q1 q2 q3 q4 q5 q6=>ih A.in1 d e x y u v huA q1 q2 q3 q4 q5 q6) j h1 h2)
    rcases id ho with rfl | rfl <;> exact r0
   | _=>erw[okD]at ok
  | non=>cases e <;> erw[okD]at ok
  | bl _=>cases e <;> erw[okD]at ok
  | str _=>cases e <;> erw[okD]at ok
def U6(I:Inv X Be σ H s):∀(n:Nat) (A:tG) (d e:D) (x y:V) (u v:sN),A.units+n<cLine->dpD d<n->okD d e->Is X.K H d x->Is X.K H e y->RelV x u->RelV y v->LtAt A s u v (ltD d e):=zca (.inl rfl) I
def zgP(K:sL):R2:=λx y H Q=>∃d e,Is K H d x/\Is K H e y/\dpD d<50/\okD d e/\Q (.bl (ltD d e)) H
theorem zfa(hu:X.A.units+100<cLine):OpR X (sX .Lt) (zgP X.K):=by intros x y v u Q I rx ry h;let#[d,e,hx,hy,hd,ok,q]:=h;exact U6 I 50 X.A d e x y v u ⋯ hd ok hx hy rx ry X.prog X.w X.xe _ #[.bl _,H,I,rfl,q]
def zcC{K:sL}(h1:Is K H d x)(h2:Is K H e y)(h3:dpD d<50)(h4:okD d e)(q:Q (.bl (ltD d e)) H):zgP K x y H Q:=#[d,e,h1,h2,h3,h4,q]
def ltI:List Int->List Int->Bool
 | a::l,m=>match m with | b::m=>if a=b then ltI l m else decide (a<b) | []=>Bd
 | [],m=>match m with | []=>Bd | _::_=>Bc
theorem uo:∀(l m:List Int),Zg (l.map D.int) (m.map D.int)
 | [],_=>by erw[aI,Zg]
 | _::_,[]=>by erw[aI,ao,Zg]
 | a::l,b::m=>by erw[ao,Zg,okD,true_and];exact uo l m
theorem YL:∀(l m:List Int),wL (l.map D.int) (m.map D.int)=ltI l m
 | [],[]=>by erw[aI,wL,ltI]
 | [],_::_=>by erw[aI,ao,wL,ltI]
 | _::_,[]=>by erw[aI,ao,wL,ltI]
 | a::l,b::m=>by
  erw[ao,wL,ltI,eqD,ltD,YL l m,beq_iff_eq]
end
mutual
def xp:D->Prop
 | .lst _=>False
 | .tup l=>z9 l
 | _=>True
def z9:List D->Prop
 | []=>True
 | d::l=>xp d/\z9 l
end
def qT{K:sL}(hp:H p=Ba (.lst ys))(h:SqT K H a xs):SqT K (upd H p (.lst zs)) a xs:=by
 rcases h with (h | ⟨o,h⟩) | h
 ·refine .inl (.inl ?_);rw[zt (λe=>by rw[e,hp]at h;cases h)];exact h
 ·refine .inl (.inr #[o,?_]);rw[zt (λe=>by rw[e,hp]at h;cases h)];exact h
 ·exact .inr h
mutual
theorem Is.updL{K:sL}(hp:H p=Ba (.lst ys)):∀(d:D) (v:V),xp d->Is K H d v->Is K (upd H p (.lst zs)) d v
 | .non,v,_,h=>by erw[Is]at h ⊢;exact h
 | .bl b,v,_,h=>by erw[Is]at h ⊢;exact h
 | .int b,v,_,h=>by erw[Is]at h ⊢;exact h
 | .str b,v,_,h=>by erw[Is]at h ⊢;exact h
 | .lst l,v,f,h=>by erw[xp]at f
 | .tup l,v,f,h=>by
  erw[Is]at h ⊢
  erw[xp]at f
  let#[a,xs,e1,e2,e3]:=h;exact#[a,xs,e1,qT hp e2,Iss.updL hp l xs f e3]
theorem Iss.updL{K:sL}(hp:H p=Ba (.lst ys)):∀(l:List D) (vs:List V),z9 l->Iss K H l vs->Iss K (upd H p (.lst zs)) l vs
 | [],vs,_,h=>by erw[Iss]at h ⊢;exact h
 | d::l,vs,f,h=>by
  erw[Iss]at h ⊢
  erw[z9]at f
  let#[v,r,e1,e2,e3]:=h;exact#[v,r,e1,Is.updL hp d v f.1 e2,Iss.updL hp l r f.2 e3]
end
mutual section
theorem vk:∀{l:List D},(∀d ∈ l,xp d)->z9 l
 | [],_=>by erw[z9]
 | d::l,h=>by erw[z9];exact#[h d (by simp),vk λe he=>h e (by simp [he])]
theorem XF : ∀{l:List D},(∀d ∈ l,dpD d<=n)->vG l<=n
 | [],_=>by erw[vG];lia
 | d::l,h=>by
  have h1:=h d (by simp);have h2:=XF (n:=n) (l:=l) λe he=>h e (by simp [he])
  erw[vG]
  lia
def LsA(K:sL)(H:Hp)(a:sM)(ds:List D):Prop:=∃xs,H a=Ba (.lst xs)/\Iss K H ds xs
def LsA.same{K:sL}{H H':Hp}{a:sM}{ds:List D}(h:LsA K H a ds)(e:Same H H'):LsA K H' a ds:=let #[xs,h1,h2]:=h; #[xs,e _ _ h1,Iss.same e _ _ h2]
def LsA.is{K:sL}(h:LsA K H a ds):Is K H (.lst ds) (.ref a):=by
 let#[xs,h1,h2]:=h
 erw[Is]
 exact#[a,xs,rfl,SqL.of h1,h2]
def LsA.nil{K:sL}:LsA K (upd H a (.lst [])) a []:=#[[],zc,by erw[Iss]]
def LsA.snoc{K:sL}(h1:H a=Ba (.lst xs))(h2:Iss K H ds xs)(f:z9 ds)(fd:xp d)(hv:Is K H d v):LsA K (upd H a (.lst (xs ++ [v]))) a (ds ++ [d]) :=
 #[_,zc,Iss.append (Iss.updL h1 _ _ f h2) (by erw[Iss];exact#[v,[],rfl,Is.updL h1 _ _ fd hv,rfl])]
def Is.tup{K:sL}{H:Hp}{p:sM}{vs:List V}{ds:List D}(hp:H p=Bb)(h:Iss K H ds vs):Is K (upd H p (.tup vs)) (.tup ds) (.ref p):=by
 erw[Is]
 exact#[p,vs,rfl,SqT.of zc,Iss.same (zf hp) _ _ h]
abbrev dS(l:()):D:=⇑l
abbrev zH:=() × ()
def dR(r:zH):D:=.tup [dS r.1,dS r.2]
def zdy{K:sL}(h:Is K H (dR r) v):∃p,v=.ref p/\SqT K H p [⇑r.1,⇑r.2]:=by
 erw[dR,Is,Iss]at h
 let#[a,xs,e,hs,v1,r1,rfl,rfl,v2,r2,rfl,rfl,rfl]:=h;exact#[a,e,hs]
def Ub{K:sL}(h:SqT K H p [⇑l,⇑m]):Is K H (dR (l,m)) (.ref p):=by
 erw[dR,Is,Iss]
 exact#[p,_,rfl,h,_,_,rfl,rfl,_,_,rfl,rfl,rfl]
def qh(r:zH):xp (dR r):=by erw[dR,xp,z9,and_self]
theorem zfF(r:zH):dpD (dR r)<=1:=by erw[dR,dpD,vG];lia
def xf(rs:List zH):z9 (rs.map dR):=vk λd h=>by let#[r,_,rfl]:=Bj.mp h;exact qh r
def zbi(rs:List zH):vG (rs.map dR)<=1:=XF λd h=>by let#[r,_,rfl]:=Bj.mp h;exact zfF r
abbrev N3:=Nat × Nat × Nat
def d3(t:N3):D:=.tup [.int (t.1:Nat),.int (t.2.1:Nat),.int (t.2.2:Nat)]
def zfD{K:sL}(h:Is K H (d3 t) v):∃p,v=.ref p/\SqT K H p [.int (t.1:Nat),.int (t.2.1:Nat),.int (t.2.2:Nat)]:=by
 erw[d3,Is,Iss]at h
 let#[a,xs,e,hs,v1,r1,rfl,rfl,v2,r2,rfl,rfl,v3,r3,rfl,rfl,rfl]:=h;exact#[a,e,hs]
def zdY{K:sL}:Iss K H [.int (i:Nat),.int (j:Nat),.int (k:Nat)] [.int (i:Nat),.int (j:Nat),.int (k:Nat)]:=by
 erw[Iss,Is]
 exact#[_,_,rfl,rfl,_,_,rfl,rfl,_,_,rfl,rfl,rfl]
def zcA(t:N3):xp (d3 t):=by erw[d3,xp,z9,and_self]
def Vr(rs:List N3):z9 (rs.map d3):=vk λd h=>by let#[r,_,rfl]:=Bj.mp h;exact zcA r
theorem Iss.get{K:sL}{j:Nat}(h:Iss K H l vs)(q:vs[j]? = Ba v):∃d,l[j]? = Ba d/\Is K H d v:=by have hj:=(Bh.mp q).1;have hl:=h.len;have g1:l[j]? = Ba l[j]:=af ⋯;let#[x,hx,ix]:=h.at g1;rw[q]at hx;cases hx;exact#[_,g1,ix]
def Iss.getR{K:sL}{rs:List zH}{j:Nat}(h:Iss K H (rs.map dR) vs)(q:vs[j]? = Ba v):∃r p,rs[j]? = Ba r/\v=.ref p/\SqT K H p [⇑r.1,⇑r.2]:=by let#[d,e,i]:=h.get q;rw[au]at e;let#[r,hr,rfl]:=Bo.mp e;let#[p,e1,e2]:=zdy i;exact#[r,p,hr,e1,e2]
def Iss.get3{K:sL}{rs:List N3}{j:Nat}(h:Iss K H (rs.map d3) vs)(q:vs[j]? = Ba v):∃r p,rs[j]? = Ba r/\v=.ref p/\SqT K H p [.int (r.1:Nat),.int (r.2.1:Nat),.int (r.2.2:Nat)]:=by let#[d,e,i]:=h.get q;rw[au]at e;let#[r,hr,rfl]:=Bo.mp e;let#[p,e1,e2]:=zfD i;exact#[r,p,hr,e1,e2]
theorem Ux(l:List α)(h0:0<=a)(h1:a<=b):cut l (Ba a) (Ba b)=(l.drop a.toNat).take (b - a).toNat:=by
 by_cases h2:b<=l.length
 ·exact Yc l h0 h1 h2
 ·let#[m,rfl]:=bQ h0;let#[n,rfl]:=bQ (by lia:0<=b);unfold cut;rw[HT.sIx_nat,HT.sIx_nat,cN (by lia:l.length<=n)];have e:(((n:Nat):Int) - ((m:Nat):Int)).toNat=n - m:=⋯;have e2:((m:Nat):Int).toNat=m:=rfl;rw[e,e2,aW (l:=l.drop m) (by rw[aS];lia)];by_cases hm:m<=l.length
  ·rw[cD hm,aW (by rw[aS];lia)]
  ·rw[cN ⋯,bf (al _),bf ⋯,List.take_nil]
def YU(ns:List Int)(h0:0<=a)(h1:a<=b):Ur (ns.map V.int) (Ba a) (Ba b)=((ns.drop a.toNat).take (b - a).toNat).map V.int:=by have e:Ur (ns.map V.int) (Ba a) (Ba b)=cut (ns.map V.int) (Ba a) (Ba b):=rfl;rw[e,Ux _ h0 h1,gp,List.map_drop]
end
open Classical in
end in def eqAtV (K:sL) (H:Hp) (d:D) (u:sN):Bool:=decide (∃x e,zgy u=Ba x/\Is K H e x/\eqD e d=Bc)
section
variable{X:Cx}{Be:List (sM × tZ)}{σ:L2.St}{H:Hp}{s:sP}
open Classical in
theorem VD(I:Inv X Be σ H s)(r:RelV x u)(h:Is X.K H e x):eqAtV X.K H d u=eqD e d:=by
 unfold eqAtV
 cases hb:eqD e d with
 | true=>exact u6 #[x,e,r.abs,h,hb]
 | false =>
  refine u9 ?_;rintro⟨y,e',hy,hi,hq⟩;rw[r.abs]at hy;cases hy;rw[Vz I e' e x hi h,hb]at hq;cases hq
theorem Xk(I:Inv X Be σ H s):∀{l:List D} {xs:List V} {us:List sN},Iss X.K H l xs->Vals xs us->us.any (eqAtV X.K H d)=l.any λe=>eqD e d
 | [],xs,us,h,r=>by
  erw[Iss]at h
  subst h;cases r;rfl
 | e::l,xs,us,h,r=>by
  erw[Iss]at h
  let#[v,vs,rfl,h1,h2]:=h
  cases r with
  | cons r1 r2=>rw[dY,dY,VD I r1 h1,Xk I h2 r2]
theorem WT:∀{xs:List V} {us:List sN} {l:List D} {u:sN},Vals xs us->Iss X.K H l xs->u ∈ us->∃x e,RelV x u/\Is X.K H e x/\e ∈ l
 | _,_,_,_,.nil,_,h=>nomatch h
 | _,_,[],u,.cons r t,hi,h=>by
  erw[Iss]at hi
  cases hi
 | _,_,e::l,u,.cons r t,hi,h=>by
  erw[Iss]at hi
  let#[v,vs,q,h1,h2]:=hi;cases q;rcases Bk.mp h with rfl | h
  ·exact#[_,e,r,h1,aB ..]
  ·let#[x,e',a,b,c]:=WT t h2 h;exact#[x,e',a,b,av _ c]
def zdw(h:e ∈ l):dpD e<=vG l:=by let#[j,hj]:=List.getElem?_of_mem h;exact Ki hj
def zhm(K:sL)(neg:Bool):R2:=λx y H Q=>∃p l d,y=.ref p/\Is K H (.lst l) y/\Is K H d x/\vG l<50/\Q (.bl (if neg then !(l.any λe=>eqD e d)else l.any λe=>eqD e d)) H
theorem zdJ(hu:X.A.units+100<cLine):OpR X (sX .In) (zhm X.K Bd):=by
 intros x y v u Q I rx ry h;let#[p,l,d,rfl,hl,hd,hp,q]:=h;cases ry
 erw[Is]at hl
 let#[_,xs,e,hq,hi]:=hl;cases e;let#[its,r,pl,hz]:=I.list hq;have huA:X.A.in1.units+50<cLine:=by show X.A.units+1+50<cLine;lia
 refine SeqAt.in_listAt (eqAtV X.K H d) pl.isList (λw hw=>?_) #[.bl _,H,I,rfl,?_]
 ·let#[z,e,rz,iz,me]:=WT r hi ↥hw;rw[VD I rz iz];exact qx I 50 X.A.in1 e d z x w v huA (bC (zdw me) hp) iz hd rz rx
 ·rw[show its.toArray.any (eqAtV X.K H d)=its.any (eqAtV X.K H d) by simp,Xk I hi r];exact q
end
mutual section
structure DM(P:sU)(w:sZ)(K:sL)(mg:sS->Option sN)(base:tB)(CX:CXT)(k:Nat)(C:sM)(m:sS)(ps:List sS)(sp:Sp):Prop where
 ex:∃f fd,zeL K C m f/\FnOk P w K mg base CX k f fd ps sp/\Binds K fd ps []
structure DMk(P:sU)(w:sZ)(K:sL)(mg:sS->Option sN)(base:tB)(CX:CXT)(k:Nat)(C:sM)(ps:List sS)(sp:Sp):Prop where
 ex:∃f fd,Mk K C f/\FnOk P w K mg base CX k f fd ps sp/\Binds K fd ps []
def me0(D:DM X.prog X.w X.K X.mg X.base CX0 k C m ps sp)(c:Cls X.K C)(hr:Room j X.A)(he:PE X o ta)(ht:eval (.Call (.Attribute o m apos) [] [] pos) X.env=(do
      let ov <- eval o X.env
      standAt apos.atName
      let (f,first) <- holding [ov] (getMethod ov m pl)
      callWith pos f first (tw pos (sJ [] X.env)) (tE pos (tj [] X.env))):=by rfl) (hj:‹k<=j›):PE X (.Call (.Attribute o m apos) [] [] pos) (Zk C m sp [] E0 ta xw):=by let#[f,fd,hm,F,hb]:=D.ex;exact K8 he c hm F (hr.mono hj) hb .nil V1 ht
def me1(D:DM X.prog X.w X.K X.mg X.base CX0 k C m ps sp)(c:Cls X.K C)(hr:Room j X.A)(he:PE X o ta)(ha:PA X (e::es) t)(hst:‹sJ (e::es) X.env=(Bd,eval e X.env)::sJ es X.env›)(hpl:‹(tw pos (sJ es X.env)).any (·.1)=Bd›)(ht:eval (.Call (.Attribute o m apos) (e::es) [] pos) X.env=(do
      let ov <- eval o X.env
      standAt apos.atName
      let (f,first) <- holding [ov] (getMethod ov m pl)
      callWith pos f first (tw pos (sJ (e::es) X.env)) (tE pos (tj [] X.env))):=by rfl) (hj:‹k<=j›):PE X (.Call (.Attribute o m apos) (e::es) [] pos) (Zk C m sp [] E0 ta t):=by let#[f,fd,hm,F,hb]:=D.ex;exact zb0 he c hm F (hr.mono hj) hb .nil V1 ha hst hpl ht
def mkC(D:DMk X.prog X.w X.K X.mg X.base CX0 k C ps sp)(hr:Room j X.A)(hg:Gl X x)(hm:X.mg x=Ba (.ref C))(ha:PA X (e::es) t)(hdb:‹(x ==("__debug__" : sS))=Bd›)(he:‹sJ (e::es) X.env=(Bd,eval e X.env)::sJ es X.env›)(hpl:‹(tw pos (sJ es X.env)).any (·.1)=Bd›) (hj:‹k+1<=j›):PE X (.Call (.Name x p) (e::es) [] pos) (Q8 C sp [] E0 t):=by let#[f,fd,M,F,hb]:=D.ex;exact UY M F (hr.mono hj) hg hm hb .nil V1 ha hdb he hpl
def zB(Fam:sM->Prop)(m:sS)(sp:sM->Sp)(dvs:List V)(E:XK)(ta:TE)(t:TA):TE:=λσ H Q=>ta σ H λx H1=>∃C a dx fs,Fam C/\x=.ref a/\H1 a=Ba (.ins C dx fs)/\fs.lookup m=Bb /\
 t σ H1 λvs H2=>sp C (x::(vs ++ dvs)) H2 Q E
structure DMF(P:sU)(w:sZ)(K:sL)(mg:sS->Option sN)(base:tB)(CX:CXT)(k:Nat)(Fam:sM->Prop)(m:sS)(ps:List sS)(sp:sM->Sp):Prop where
 ex:∀C,Fam C->Cls K C/\DM P w K mg base CX k C m ps (sp C)
def zho(D:DMF X.prog X.w X.K X.mg X.base CX0 k Fam m ps sp)(hr:Room j X.A)(he:PE X o ta)(ht:eval (.Call (.Attribute o m apos) [] [] pos) X.env=(do
      let ov <- eval o X.env
      standAt apos.atName
      let (f,first) <- holding [ov] (getMethod ov m pl)
      callWith pos f first (tw pos (sJ [] X.env)) (tE pos (tj [] X.env))):=by rfl) (hj:‹k<=j›):PE X (.Call (.Attribute o m apos) [] [] pos) (zB Fam m sp [] E0 ta xw):=by intros Q I h;refine cS (pl:=pl) (thn (he Be s σ H _ I h) λu s1=>el5 λx H1 I1 rx q_z=>?_) ht;let#[C,a,dx,fs,fam,ex,ea,l,q]:=q_z;subst ex;obtain rfl:u=r8 a:=rx;let#[c,#[f,fd,hm,F,hb]]:=D.ex C fam;refine wc I1 ea c hm l ?_;exact gu (first:=[.ref a]) I1.kIn hm.kp (Yo (us:=[.ref a]) (vs:=[.ref a]) F (hr.mono hj) hb .nil V1 I1 (.cons rfl .nil) q)
def zdi(D:DMF X.prog X.w X.K X.mg X.base CX0 k Fam m ps sp)(hr:Room j X.A)(he:PE X o ta)(ha:PA X (e::es) t)(hst:‹sJ (e::es) X.env=(Bd,eval e X.env)::sJ es X.env›)(hpl:‹(tw pos (sJ es X.env)).any (·.1)=Bd›)(ht:eval (.Call (.Attribute o m apos) (e::es) [] pos) X.env=(do
      let ov <- eval o X.env
      standAt apos.atName
      let (f,first) <- holding [ov] (getMethod ov m pl)
      callWith pos f first (tw pos (sJ (e::es) X.env)) (tE pos (tj [] X.env))):=by rfl) (hj:‹k<=j›):PE X (.Call (.Attribute o m apos) (e::es) [] pos) (zB Fam m sp [] E0 ta t):=by intros Q I h;refine cS (pl:=pl) (thn (he Be s σ H _ I h) λu s1=>el5 λx H1 I1 rx q_z=>?_) ht;let#[C,a,dx,fs,fam,ex,ea,l,q]:=q_z;subst ex;obtain rfl:u=r8 a:=rx;let#[c,#[f,fd,hm,F,hb]]:=D.ex C fam;refine wc I1 ea c hm l ?_;refine cr (first:=[.ref a]) (h₀:=X.base) I.ok.mod.kin hm.kp (thn (ha pos Be s1 σ H1 _ I1 q) λus s2=>el5 λvs H2 I2 r q2=>#[I2.kIn,?_]) hst hpl;exact Yo (us:=.ref a::us) (vs:=.ref a::vs) F (hr.mono hj) hb .nil V1 I2 (.cons rfl r) q2
def yy(K:sL):List V->Hp->VK->Prop:=λxs H Q=>∃(p:sM) (ns:List Int),xs=[.ref p]/\SqL K H p (ns.map V.int)/\Q (.int ns.sum) H
theorem VG(l:()):((p7 Bb Bb (-1) (tx l).length).filterMap ((tx l).cps[·]?))=l.reverse:=by
 rw[zI,picked_rev];have e:(tx l).cps=l.toArray:=rfl;rw[e];apply List.ext_getElem?;intro i
 have h:((aK l.length).map λk=>l.length - 1 - k).filterMap (l.toArray[·]?)=(aK l.length).map λk=>l.getD (l.length - 1 - k) 0:=by
  rw[filterMap_get,cf]
  ·refine bV λk Z=>?_;show l.toArray.getD (l.length - 1 - k) 0=_;simp [gh,List.getD];split <;> simp_all
  ·intro i hi;let#[k,hk,rfl]:=Bj.mp hi;have:=Bn.mp hk;show _<l.toArray.size;rw[ak];lia
 rw[h];by_cases hi:i<l.length
 ·rw[bF hi,au,eM hi];show Ba (l.getD (l.length - 1 - i) 0)=_;rw[ae,af ⋯];rfl
 ·rw[cw (by simp;lia),cw (by simp;lia)]
def yw(te ts:TE):TE:=λσ H Q=>te σ H λx H1=>ts σ H1 λy H2=>y=.int (-1)/\∃l:(),x=⇑l/\l.length<=sK/\Q ⇑l.reverse H2
end
section
variable{X:Cx}{e st:tR}{te ts:TE}{pos p2:AW}
def zbB(he:PE X e te)(hs:PE X st ts):PE X (.Subscript e (.Slice Bb Bb (Ba st) p2) pos) (yw te ts):=by
 intros Q I h;refine AT (thn (he Be s σ H _ I h) λv s1=>el5 λx H1 I1 r1 q1=>?_);refine wpAny_Slice ?_;rw[evalPart_none];refine sH (sH ?_);rw[evalPart_some];refine thn (hs Be s1 σ H1 _ I1 q1) λu s2=>el5 λy H2 I2 r2 q_z=>?_;let#[ey,l,ex,hl,q2]:=q_z;subst ey ex;let#[t,rfl]:=r1;let#[tk,rfl]:=r2;have I4:Inv X Be σ H2 { s2 with heap:=s2.heap.push { cls:=.type "slice",data:=.fields (r9 [.none,.none,.int (-1) tk]) } }:=I2.kept (t':=s2.toks) λb ob q=>ag _ q;show sQ (model X.prog X.w) X.A (AA e (.Slice Bb Bb (Ba st) p2) (.str (tx l) t) (.ref s2⁻¹)) (EP X Be σ Q) X.xe { s2 with heap:=s2.heap.push { cls:=.type "slice",data:=.fields (r9 [.none,.none,.int (-1) tk]) } };refine tail_any (ops:=[.ref s2⁻¹,.str (tx l) t]) (typeIs_str _ (tx l) t) slot_str_getitem.lookup ?_ (by with_unfolding_all rfl);refine Al (l:=Bb) (u:=Bb) (st:=Ba (-1,tk)) (Heap.IsSliceOf.new ..) rfl ?_;unfold sliceMade slicePicked
 have hc':¬ (((Ba ((-1:Int),tk)).map (·.1)).getD 1 == 1 && (p7 ((Bb:Option (Int × AQ)).map (·.1)) ((Bb:Option (Int × AQ)).map (·.1)) (((Ba ((-1:Int),tk)).map (·.1)).getD 1) (tx l).length).length ==(tx l).length)=Bc:=by
  have:(((Ba ((-1:Int),tk)).map (·.1)).getD 1 == 1)=Bd:=rfl;rw[this];simp
 rw[w9 hc']
 have e:Str.mk ((p7 Bb Bb (-1) (tx l).length).filterMap ((tx l).cps[·]?)).toArray=tx l.reverse:=by
  rw[VG]
 show (Str.mk ((p7 Bb Bb (-1) (tx l).length).filterMap ((tx l).cps[·]?)).toArray).length<=sK/\_;rw[e];refine#[by rw[zI,bL];exact hl,?_]
 exact#[⇑l.reverse,H2,I4.tok _,#[_,by
  show Value.str (Str.mk ((p7 Bb Bb (-1) (tx l).length).filterMap ((tx l).cps[·]?)).toArray) _=_
  rw[e]],q2]
end
def zC:V->List V->Hp->VK->Prop:=λx xs H Q=>∃(z y:sS) (i:Nat),x=.str z/\xs=[.str y]/\PySem.Txt.find z y=(i:Int)/\Q (.int (i:Nat)) H
theorem JO:MtR X "str.index" zC:=by
 intros x xs v us Q I rx rv h;let#[z,y,i,rfl,rfl,hf,q]:=h;let#[t,rfl]:=rx;let#[u,rfl,t',rfl]:=wK rv;unfold PySem.Txt.find at hf
 cases ho:Builtin.Str.occurrences z y 0 z.length 1 with
 | nil=>rw[ho]at hf;dsimp only at hf;lia
 | cons a r =>
  rw[ho]at hf;have:a=i:=by dsimp only at hf;lia
  subst this;exact PySem.SC.index ho #[.int _,H,I.tok _,#[_,rfl],q]
end in def Izs(K:sL)(l:())(b:sM):It:=#[λi H=>∃ys y,SqT K H b ys/\i<l.length/\ys[i]? = Ba y,λi H v H'=>∃p c y,H p=Bb/\l[i]? = Ba c/\(∀ys,SqT K H b ys->ys[i]? = Ba y)/\v=.ref p/\H'=upd H p (.tup [⇑[c],y]),λi H=>i=l.length]
def iZs(K:sL)(ta:TA):TI:=λσ H R=>ta σ H λvs H1=>∃l b,vs=[⇑l,.ref b]/\(∃ys,SqT K H1 b ys)/\R (Izs K l b) H1
def zgp(K:sL)(l:())(b:sM)(g:TG)(tt:TT)(te:TE)(own:Nat)(ix:())(σ:L2.St)(H1:Hp)(Q:VK)(D:sM):Prop:=YX (Izs K l b) g tt te own ix σ H1 Q D
def zL{K:sL}:qC (iZs K ta) g tt te own ix σ H Q=ta σ H λvs H1=>∃l b,vs=[⇑l,.ref b]/\(∃ys,SqT K H1 b ys)/\∀D,H1 D=Bb->zgp K l b g tt te own ix σ H1 Q D:=rfl
def yq(t1 t2:TE):TE:=λσ H Q=>t1 σ H Q\/t2 σ H Q
def zbt(h1:PE X e t1)(h2:PE X e t2):PE X e (yq t1 t2):=by
 intros Q I h;rcases h with h | h
 ·exact h1 Be s σ H Q I h
 ·exact h2 Be s σ H Q I h
def zel(D1:DM X.prog X.w X.K X.mg X.base CX0 k1 C1 m ps s1)(D2:DM X.prog X.w X.K X.mg X.base CX0 k2 C2 m ps s2)(D3:DM X.prog X.w X.K X.mg X.base CX0 k3 C3 m ps s3)(c1:Cls X.K C1)(c2:Cls X.K C2)(c3:Cls X.K C3)(hr:Room j X.A)(he:PE X o ta)(ha:PA X (e::es) t)(hst:‹sJ (e::es) X.env=(Bd,eval e X.env)::sJ es X.env›)(hpl:‹(tw pos (sJ es X.env)).any (·.1)=Bd›)(ht:eval (.Call (.Attribute o m apos) (e::es) [] pos) X.env=(do
      let ov <- eval o X.env
      standAt apos.atName
      let (f,first) <- holding [ov] (getMethod ov m pl)
      callWith pos f first (tw pos (sJ (e::es) X.env)) (tE pos (tj [] X.env))):=by rfl) (h1:‹k1<=j›) (h2:‹k2<=j›) (h3:‹k3<=j›) :
    PE X (.Call (.Attribute o m apos) (e::es) [] pos) (yq (Zk C1 m s1 [] E0 ta t) (yq (Zk C2 m s2 [] E0 ta t) (Zk C3 m s3 [] E0 ta t))) :=
  zbt (me1 (pl:=pl) D1 c1 hr he ha hst hpl ht h1) (zbt (me1 (pl:=pl) D2 c2 hr he ha hst hpl ht h2) (me1 (pl:=pl) D3 c3 hr he ha hst hpl ht h3))
open PySem PySem.Spec PyProof.Rows L2 PySem.W PySem.Calls
def uU(n:Int):Prop:=Builtin.Int.intBits n<=1048576
theorem zaT:∀(ns:List Int),WData.weightAll (ns.map WData.int)<=1048576->∀n ∈ ns,uU n
 | [],_,n,h=>nomatch h
 | m::ns,hw,n,h=>by
  rw[ao,WData.weightAll]at hw;rcases Bk.mp h with rfl | h
  ·have e:WData.weight (.int n)=Builtin.Int.intBits n:=by
    rw[WData.weight];rfl
   unfold uU;lia
  ·exact zaT ns ⋯ n h
theorem Ka(hi:uU i)(hj:uU j):IntMulOk i j:=by unfold IntMulOk Builtin.Int.intTooBig;unfold uU at hi hj;have:(bitsLine:Nat)=134217728:=rfl;simp;intro _ _;lia
def KZ:OpR X (binaryOp .Mult) (rI (λi j=>uU i/\uU j) λi j=>.int (i * j)):=opI λZ Z Z Z Z Z Z hc q=>mul_int q (Ka hc.1 hc.2)
def YQ{l:AY}{XP:(sS->Option sN)->tB->Prop}(hn:l.most=Ba n)(hdf:d.params.defaults=[])(call:∀(w:sZ) (s₀ s₁:sP) (mg mb:sS->Option sN) (fa:sM) (o:tZ) (pm cd doc:sN) (a:sM) (vs:List sN) (ns:List Int),
   Ground q loose [] XP w s₀ mg mb s₁.heap->YP w s₁.heap ->
   s₁.heap.get? fa=Ba o->o.data=.func (docDef d.name d.params d.body d.scope pm cd doc)->s₁.heap.CodeRec cd d.name->mg d.name=Ba (.ref fa) ->
   s₁.heap.get? a=Ba { cls:=.type "list",data:=.seq vs.toArray }->AH vs ns->ns.length<=n->(∀z ∈ ns,uU z)->s₁.gens=#[] ->
   tM (model l.prog w) callerA (.call (.ref fa) #[[.ref a],[]]) (λr s'=>r=.ok (.ret (.bool Bc))/\OldK s₁.heap s'.heap/\s'.os=s₁.os/\Ag s'.gens) s₁) :
  WalkO q loose XP YP l.row.toRowW d [] (λf vs=>gg f vs):=by
 intro w s₀ s₁ mg mb G Y fa o pm cd doc dV kV ho hd hcd hD hmg hg args vals as hpre hlay hrd hwl hlo;obtain rfl:dV=.none:=Dflts.none hD hdf;obtain rfl:kV=.none:=Dflts.noKw hD;let#[a,vs,ns,rfl,rfl,hobj,hints,hlen]:=Att.script_of hn hpre hwl
 have hb:∀z ∈ ns,uU z:=by
  refine zaT ns ?_
  have h1:WData.layable (WData.list (ns.map WData.int))=Bc:=by
   have:=hlay;unfold WData.layableAll at this;simpa using this
  unfold WData.layable at h1
  erw[ba,decide_eq_true_eq]at h1
  have h2:=h1.2;rw[WData.weight]at h2;exact h2
 refine enter_call (tY (call w s₀ s₁ mg mb fa o pm cd doc a vs ns G Y ho (fd_plain hd) hcd hmg hobj hints hlen hb hg) λr s' hq=>?_);let#[rfl,h2,h3,h4]:=hq;exact#[.inl #[.bool Bc,.bool Bc,[],rfl,λZ=>rfl,.bool Bc,Att.post_true l _,λZ=>#[List.Pairwise.nil,λZ hm=>(nomatch hm)]],h2,h3,h4]
def XEg.xe(h:XEg X E):XE X E:=λe s hz=>by
 let#[Be,σ,H,x,C,t,dx,tb,q]:=hz;exact h e s #[.none,Bd,Be,σ,H,x,C,t,dx,tb,q]
theorem Wg(x y:sS)(i j:Int)(t u v v':AQ):Gives (Builtin.«str.find» #[[.str x t,.str y u,.int i v,.int j v'],[]]) (.int (match Builtin.Str.occurrences x y (fromIndex x.length i) (min (fromIndex x.length j) x.length) 1 with | k::_=>(k:Int) | []=>-1)):=by
 show Gives (match Builtin.Str.occurrences x y (fromIndex x.length i) (min (fromIndex x.length j) x.length) 1 with | k::_=>retInt k | []=>(do rule "str.find.not-found";retInt (-1))) _
 cases Builtin.Str.occurrences x y (fromIndex x.length i) (min (fromIndex x.length j) x.length) 1 with
 | nil=>exact .rule (.of_eq rfl)
 | cons k _=>exact .of_eq rfl
theorem Xy(x y:sS)(lo hi:Nat) :
  (Builtin.Str.occurrences x y lo hi 1=[]/\∀i,lo<=i->¬ StrLaws.At x y hi i) \/
  ∃i r,Builtin.Str.occurrences x y lo hi 1=i::r/\lo<=i/\StrLaws.At x y hi i/\∀k,lo<=k->k<i->¬ StrLaws.At x y hi k:=by
 rw[StrLaws.occ_eq];rcases StrLaws.occ_first x y hi 1 (al 1) (List.range' lo (hi+1 - lo)) lo (λi hm=>(List.mem_range'_1.mp hm).1)with ⟨e,no⟩ | ⟨pre,a,post,e,e0,at_a,no⟩
 ·exact .inl #[by rw[e],λi h1 h2=>no i (by have:=h2.1;rw[List.mem_range'_1];lia) h2]
 ·have sp:=StrLaws.range'_split_from e;generalize (forIn (List.range' lo (hi+1 - lo)) ((#[]:Array Nat),lo) (StrLaws.occBody x y hi 1)).run.fst=z at e0 ⊢;let#[zs]:=z
  cases zs with
  | nil=>simp at e0
  | cons b r =>
   have:b=a:=by simpa using e0
   subst this;exact .inr #[b,r,rfl,sp.1,at_a,λk h1 h2=>no k (sp.2 k h1 h2)]
def zdk(l p:())(hi i:Nat):StrLaws.At (tx l) (tx p) hi i ↔ i+p.length<=hi/\(l.drop i).take p.length=p:=by
 unfold StrLaws.At Builtin.Str.subAt;rw[zI,beq_iff_eq]
 have e1:((tx l).cps.extract i (i+p.length)).toList=(l.drop i).take p.length:=by
  show (l.toArray.extract i (i+p.length)).toList=_;simp [fh]
 have e2:((tx l).cps.extract i (i+p.length)=(tx p).cps) ↔ (l.drop i).take p.length=p:=by
  constructor
  ·intro h;rw[<- e1,h]
  ·intro h;apply Array.toList_inj.mp;rw[e1,h]
 rw[e2]
def zaL:V->List V->Hp->VK->Prop:=λx xs H Q=>∃(l p:()) (lo hi:Int),x=⇑l/\xs=[⇑p,.int lo,.int hi]/\0<=lo/\0<=hi/\∀r:Int,((r=-1/\∀q:Nat,lo<=q->(q:Int)+p.length<=hi->q+p.length<=l.length->(l.drop q).take p.length≠p)\/∃k:Nat,r=k/\lo<=k/\(k:Int)+p.length<=hi/\k+p.length<=l.length/\(l.drop k).take p.length=p/\∀q:Nat,lo<=q->q<k->(l.drop q).take p.length≠p)->Q (.int r) H
theorem zct : MtR X "str.find" zaL:=by
 intros x xs v us Q I rx rv h;let#[l,p,lo,hi,rfl,rfl,h0,h1,q]:=h;let#[t,rfl]:=rx
 cases rv with
 | cons r1 r2 =>
  cases r2 with
  | cons r2 r3 =>
   let#[w3,rfl,t3,rfl]:=wK r3;let#[t1,rfl]:=r1;let#[t2,rfl]:=r2;have f0:fromIndex (tx l).length lo=lo.toNat:=by unfold fromIndex;rw[w9 ⋯];lia
   have f1:fromIndex (tx l).length hi=hi.toNat:=by unfold fromIndex;rw[w9 ⋯];lia
   refine call_gives F.slot_str_find (typeIs_str _ _ _) F.entry_str_find (F.args_str_find_4 _ _ _ _) (Wg _ _ lo hi t t1 t2 t3) ?_;refine#[.int _,H,I.tok _,#[_,rfl],q _ ?_];rw[f0,f1];have hm:∀k:Nat,k+p.length<=min hi.toNat (tx l).length ↔ (k:Int)+p.length<=hi/\k+p.length<=l.length:=λk=>by rw[zI];lia
   rcases Xy (tx l) (tx p) lo.toNat (min hi.toNat (tx l).length)with ⟨e,no⟩ | ⟨i,r,e,hl,ha,no⟩
   ·rw[e];exact .inl #[rfl,λk k1 k2 k3 k4=>no k ⋯ ((zdk l p _ k).mpr #[(hm k).mpr #[k2,k3],k4])]
   ·rw[e];let#[a1,a2]:=(zdk l p _ i).mp ha;let#[b1,b2]:=(hm i).mp a1;exact .inr #[i,rfl,⋯,b1,b2,a2,λk k1 k2 k4=>no k ⋯ k2 ((zdk l p _ k).mpr #[(hm k).mpr #[⋯,⋯],k4])]
end L3
set_option linter.unusedVariables false
namespace L3
def zfT(l p:())(r:Int):Prop:=(r=-1/\∀q:Nat,¬ (q+p.length<=l.length/\(l.drop q).take p.length=p))\/∃q:Nat,r=(q:Int)/\(q+p.length<=l.length/\(l.drop q).take p.length=p)/\∀q':Nat,q'<q->¬ (q'+p.length<=l.length/\(l.drop q').take p.length=p)
def zfu:V->List V->Hp->VK->Prop:=λx xs H Q=>∃l p:(),x=⇑l/\xs=[⇑p]/\∀r:Int,zfT l p r->Q (.int r) H
def zch:MtR X "str.find" zfu:=by
 intros x xs v us Q I rx rv h;let#[l,p,rfl,rfl,q]:=h;refine Qh Be s σ H _ _ v us Q I rx rv #[_,_,rfl,rfl,q _ ?_];rcases find_whole (tx l) (tx p)with ⟨h1,h2⟩ | ⟨e,h1,h2,h3⟩
 ·exact .inl #[h1,λq hq=>h2 q ((zdk l p _ q).mpr (by rw[zI];exact hq))]
 ·refine .inr #[e,h1,?_,λk hk hq=>h3 k hk ((zdk l p _ k).mpr (by rw[zI];exact hq))];have:=(zdk l p _ e).mp h2;rw[zI]at this;exact this
theorem Jv(hh:A.handled=Bb)(hlI:l≠I)(hSI:S≠I)(hSl:S≠l)(xs:Array sN)(val:Nat->Int)(hv:∀i v,xs[i]? = Ba v->∃t,v=Value.int (val i) t)(d:sN) :
  ∀(k j:Nat) (z:Int) (t:AQ) (s:sP) (c:Nat),xs.size - j=k->j<=xs.size->(∀i,i<j->val i<=z)->s.heap.IsListIter I l j->s.heap.IsList l xs->s.heap.get? S=Ba (sW "list" (r9 [.int z t,.int z t]) c) ->
   (∀z' t' h' tk,(∀i,i<xs.size->val i<=z')->(∀b o,b≠I->b≠S->s.heap.get? b=Ba o->h'.get? b=Ba o)->R (.ok (.ret (.int z' t'))) { s with heap:=h',toks:=tk }) ->
   tM (model prog w) A (.builtin "max.loop" #[[.ref I,.none,.ref S],[(cE "default",d)]]) R s:=by
 have nm:(toString "max" ++ toString ".loop" : String)="max.loop":=∅;have W:=Walks.list (prog:=prog) (w:=w) (A:=A.in1) hh I l hlI xs;intro k
 induction k with
 | zero =>
  intro j z t s c hk hj hz hit hl hS hR;have e:j=xs.size:=⋯;refine tI (b:=Builtin.«max.loop») dW ?_;rw[Around.under_plainId (id:="max.loop") bR _];show sQ _ A.in1 (seqItems? (r8 S) >>= _) _ _ s;refine sF (tT (items:=(r9 [.int z t,.int z t])) hS rfl ?_);show sQ _ A.in1 (tryCatch (pyNext (r8 I)) _ >>= _) _ _ s;refine sF (tF (W.done s _ _ #[e ▸ hit,hl] λh' tk kp=>?_));have hS':=kp S _ ↥hSI hS;show sQ _ A.in1 (updateSeq S (λZ=>(#[]:Array sN)) >>= _) _ _ _;refine sF (tP hS' rfl (sF (tN (sH ?_))));exact hR z t _ tk (λi hi=>hz i ⋯) λb o hb hb' q=>(az _ _ (Ne.symm hb')).trans (kp b o ↥hb q)
 | succ k ih =>
  intro j z t s c hk hj hz hit hl hS hR;refine tI (b:=Builtin.«max.loop») dW ?_;rw[Around.under_plainId (id:="max.loop") bR _];show sQ _ A.in1 (seqItems? (r8 S) >>= _) _ _ s;refine sF (tT (items:=(r9 [.int z t,.int z t])) hS rfl ?_);show sQ _ A.in1 (tryCatch (pyNext (r8 I)) _ >>= _) _ _ s;refine sF (tF (W.item j s _ _ ⋯ #[hit,hl] λv h' tk hP st kp=>?_));let#[t2,rfl]:=hv j v hP;have hS':=kp S _ ↥hSI hS;show sQ _ A.in1 (tryCatch (holding [Value.int (val j) t2,Value.int (val j) t2] (richCompare .Gt (.int (val j) t2) (.int z t) >>= _)) _ >>= _) _ _ _;refine sF (tF (tu (sF (CmpOf.ints_gt (prog:=prog) (w:=w) (A:=A.in1) (P:=λi v=>∃t,v=Value.int (if i=0 then val j else z) t) (λi=>if i=0 then val j else z) (λi v h=>h) 0 1 _ _ _ _ _ #[t2,rfl] #[t,rfl] ?_))));refine sF (tu (tm (sF (tN (sH ?_)))));by_cases g:val j > z
  ·erw[if_true,Nat.one_ne_zero,if_false,g,decide_true]
   refine sF (tP hS' rfl (sF (tN ?_)));rw[nm];refine sH #[plainId_quiet bR _,ih (j+1) (val j) t2 _ _ ⋯ ⋯ (λi hi=>?_) (W.frame _ _ _ st λb hb o q=>?_).1 (W.frame _ _ _ st λb hb o q=>?_).2 (get?_update_seq hS' _) λz' t' h'' tk'' a1 a2=>hR z' t' h'' tk'' a1 λb o hb hb' q=>a2 b o hb hb' ((az _ _ (Ne.symm hb')).trans (kp b o ↥hb q))]
   ·by_cases e:i=j
    ·rw[e];exact Int.le_refl _
    ·have:=hz i ⋯;lia
   all_goals
    refine (az _ _ (λe:S=b=>?_)).trans q;subst e;rcases Bk.mp hb with e | e
    ·exact hSI e
    ·exact hSl (Bm.mp e)
  ·erw[if_true,Nat.one_ne_zero,if_false,g,decide_false,be]
   refine sF (tN ?_);rw[nm];refine sH #[plainId_quiet bR _,ih (j+1) z t _ _ ⋯ ⋯ (λi hi=>?_) st.1 st.2 hS' λz' t' h'' tk'' a1 a2=>hR z' t' h'' tk'' a1 λb o hb hb' q=>a2 b o hb hb' (kp b o ↥hb q)];by_cases e:i=j
   ·rw[e];lia
   ·exact hz i ⋯
def Uy(a v:sN):argsOk "max" #[[a],[(cE "default",v)]]:=by unfold argsOk;kernel_rfl
def Qm(hh:A.handled=Bb)(xs:Array sN)(val:Nat->Int)(hv:∀i v,xs[i]? = Ba v->∃t,v=Value.int (val i) t)(hl:s.heap.IsList l xs)(d:sN)(h:∀v h' tk,(xs.size=0->v=d)->(0<xs.size->∃z t,v=Value.int z t/\∀i,i<xs.size->val i<=z)->(∀b o,s.heap.get? b=Ba o->h'.get? b=Ba o)->Q v { s with heap:=h',toks:=tk }) :
  sQ (model prog w) A (call (.builtin "max") [.ref l] [(cE "default",d)]) Q E s:=by
 have nm:(toString "max" ++ toString ".loop" : String)="max.loop":=∅;have hlt:l<s⁻¹:=by let#[_,e,_]:=hl;exact aw e
 refine kmb_tree PySem.F.kind_max PySem.F.plain_max PySem.F.entry_max (Uy _ _) ?_;show sQ _ A.in1 (Builtin.Builtins.bindParams "max" ["key","default"] 0 #[[],[(cE "default",d)]] >>= _) _ _ s;refine sF (wpAny_of_eq (show Builtin.Builtins.bindParams "max" ["key","default"] 0 #[[],[(cE "default",d)]]=pure [Bb,Ba d]from rfl) (sF (sH ?_)));refine sF (Ac hl (sF (Af ?_ (ar _))));rw[nm];refine sH #[plainId_quiet bR _,?_];have gI:(s.heap.push { cls:=.type "list_iterator",data:=.fields (r9 [.ref l,.int 0 0]) }).IsListIter s⁻¹ l 0:=#[_,aE _ rfl,rfl,rfl];have gl:=hl.push { cls:=.type "list_iterator",data:=.fields (r9 [.ref l,.int 0 0]) };have kp0:∀b o,s.heap.get? b=Ba o->(s.heap.push { cls:=.type "list_iterator",data:=.fields (r9 [.ref l,.int 0 0]) }).get? b=Ba o:=λb o q=>ag _ q;have hsz:(s.heap.push { cls:=.type "list_iterator",data:=.fields (r9 [.ref l,.int 0 0]) }).objs.size=s⁻¹+1:=dk _ _;have hold:∀b o,s.heap.get? b=Ba o->b<s⁻¹:=λb o q=>aw q;have hlI:l≠s⁻¹:=ay hlt;generalize s.heap.push { cls:=.type "list_iterator",data:=.fields (r9 [.ref l,.int 0 0]) }=h1 at *;generalize hIe:s⁻¹=I at *;have W:=Walks.list (prog:=prog) (w:=w) (A:=A.in1) hh I l hlI xs;have gS:(h1.push { cls:=.type "list",data:=.seq ([]:List sN).toArray }).get? h1.objs.size=Ba (sW "list" #[] 0):=aE _ rfl;have st0:=W.frame 0 _ (h1.push { cls:=.type "list",data:=.seq ([]:List sN).toArray }) #[gI,gl] λb Z o q=>ag _ q;have kp1:∀b o,s.heap.get? b=Ba o->(h1.push { cls:=.type "list",data:=.seq ([]:List sN).toArray }).get? b=Ba o:=λb o q=>ag _ (kp0 b o q);have hSI:h1.objs.size≠I:=by rw[hsz];exact Nat.succ_ne_self I
 have hSl:h1.objs.size≠l:=by rw[hsz];exact cC (dj hlt)
 have hSb:∀b o,s.heap.get? b=Ba o->b≠I/\b≠h1.objs.size:=λb o q=>#[ay (hold b o q),by rw[hsz];exact ay (dj (hold b o q))];generalize h1.push { cls:=.type "list",data:=.seq ([]:List sN).toArray }=h2 at *;generalize h1.objs.size=S at *;refine tI (b:=Builtin.«max.loop») dW ?_;rw[Around.under_plainId (id:="max.loop") bR _];show sQ _ A.in1 (seqItems? (r8 S) >>= _) _ _ _;refine sF (tT (items:=#[]) gS rfl ?_);show sQ _ A.in1 (tryCatch (pyNext (r8 I)) _ >>= _) _ _ _;by_cases hz:xs.size=0
 ·refine sF (tF (W.done _ _ _ (by rw[hz];exact st0) λh' tk kp=>?_));show sQ _ A.in1 (rule _ >>= λZ=>_) _ _ _;refine sF (AR (sH ?_));exact h d h' tk (λZ=>rfl) (λq=>w4 q ⋯) λb o q=>kp b o ↥(hSb b o q).1 (kp1 b o q)
 ·refine sF (tF (W.item 0 _ _ _ ⋯ st0 λv h' tk hP st kp=>?_));let#[t,rfl]:=hv 0 v hP;have hS':=kp S _ ↥hSI gS;show sQ _ A.in1 (updateSeq S (λZ=>(r9 [Value.int (val 0) t,Value.int (val 0) t])) >>= _) _ _ _;refine sF (tP hS' rfl ?_);rw[nm]
  have st':=W.frame _ _ (h'.update S (Obj.mapSeq λZ=>(r9 [Value.int (val 0) t,Value.int (val 0) t]))) st λb hb o q=>by
   refine (az _ _ (λe:S=b=>?_)).trans q;subst e;rcases Bk.mp hb with e | e
   ·exact hSI e
   ·exact hSl (Bm.mp e)
  refine sH #[plainId_quiet bR _,Jv hh hlI hSI hSl xs val hv d _ 1 (val 0) t _ _ rfl ⋯ (λi hi=>?_) st'.1 st'.2 (get?_update_seq hS' _) λz' t' h'' tk'' a1 a2=>?_]
  ·have:i=0:=⋯;rw[this];exact Int.le_refl _
  ·exact h _ h'' tk'' (λq=>w4 q hz) (λZ=>#[z',t',rfl,a1]) λb o q=>a2 b o (hSb b o q).1 (hSb b o q).2 ((az _ _ (Ne.symm (hSb b o q).2)).trans (kp b o ↥(hSb b o q).1 (kp1 b o q)))
def zaH(X:Cx)(id:String)(ks:List sS)(r:List V->List V->Hp->VK->Prop):Prop :=
 ∀(Be:List (sM × tZ)) (s:sP) (σ:L2.St) (H:Hp) (vs zs:List V) (us ws:List sN) (Q:VK),Inv X Be σ H s->Vals vs us->Vals zs ws->r vs zs H Q->sQ (model X.prog X.w) X.A (call (.builtin id) us (ks.zip ws)) (EP X Be σ Q) X.xe s
def zgG(r:List V->List V->Hp->VK->Prop)(t tk:TA):TE:=λσ H Q=>t σ H λvs H1=>tk σ H1 λzs H2=>r vs zs H2 Q
def QZ{X:Cx}{id:String}{x:sS}{e:tR}{es:List tR}{kws:List Ax}{ks:List sS}{p:AW}{pos:AW}{t:TA}{tk:TA}(hc:zaH X id ks r)(hg:Gl X x)(hm:X.mg x=Bb)(hv:tD x=Ba (.builtin id))(ha:PA X (e::es) t)(hk:PK X kws tk)(hks:‹(tE pos (tj kws X.env)).filterMap (·.1)=ks›)(hn:‹x≠"__name__"›)(hdb:‹(x ==("__debug__" : sS))=Bd›)(he:‹tw pos (sJ (e::es) X.env)=(Bd,eval e X.env)::tw pos (sJ es X.env)›)(hpl:‹(tw pos (sJ (e::es) X.env)).any (·.1)=Bd›)(hall:‹(tE pos (tj kws X.env)).all (·.1.isSome)=Bc›)(hkw:‹(tE pos (tj kws X.env)).any (·.1.isNone)=Bd›):PE X (.Call (.Name x p) (e::es) kws pos) (zgG r t tk):=by intros Q I h;refine tz (vK I hg hm hv ?_ hn hdb);refine callWith_kw (thn (ha pos Be s σ H _ I h) λus s1=>el5 λvs H1 I1 r1 q1=>thn (hk pos Be s1 σ H1 _ I1 q1) λws s2=>el5 λzs H2 I2 r2 q2=>?_) he hpl hall hkw;rw[hks];exact hc Be s2 σ H2 vs zs us ws Q I2 r1 r2 q2
def zgs(K:sL):List V->List V->Hp->VK->Prop:=λvs zs H Q=>∃(a:sM) (ns:List Int) (d:Int),vs=[.ref a]/\zs=[.int d]/\SqL K H a (ns.map V.int)/\∀z:Int,(ns=[]->z=d)->(∀n ∈ ns,n<=z)->Q (.int z) H
def zeH(hc:X.calm=Bc):zaH X "max" [cE "default"] (zgs X.K):=by
 intros vs zs us ws Q I r1 r2 h;let#[a,ns,d,rfl,rfl,hS,q]:=h;let#[u,rfl,ru]:=wK r1;cases ru;let#[w',rfl,td,rfl]:=wK r2;let#[its,rv,pl,hz]:=I.list hS;have hlen:=rv.length;rw[aa]at hlen
 have hat:∀(i:Nat) (v:sN),its.toArray[i]? = Ba v->∃t,v=Value.int (ns.getD i 0) t:=λi v hi=>by
  have hi':its[i]? = Ba v:=by simpa using hi
  have hil:=(Bh.mp hi').1;let#[u,hu,t,rfl]:=xX rv (j:=i) (x:=.int (ns.getD i 0)) (by rw[au,ae,af ⋯];rfl);rw[hi']at hu;cases hu;exact#[t,rfl]
 refine Qm (I.ok.hd hc) its.toArray (λi=>ns.getD i 0) hat pl.isList (.int d td) λv h' tk h0 h1 kp=>?_;by_cases hn:ns=[]
 ·have:=h0 (by rw[ak,<- hlen,hn];rfl);subst this;exact#[.int d,H,I.kept kp,#[_,rfl],q d (λZ=>rfl) (λn hm=>by rw[hn]at hm;cases hm)]
 ·let#[z,t,rfl,hzz]:=h1 (by rw[ak,<- hlen];exact Bu.mpr hn);refine#[.int z,H,I.kept kp,#[_,rfl],q z (λe=>w4 e hn) λn hm=>?_];let#[i,hi,rfl]:=List.getElem_of_mem hm;have:=hzz i (by rw[ak,<- hlen];exact hi);rw[ae,af hi]at this;exact this
section
variable{prog:sU}{w:sZ}{A:tG}{R:Result->sP->Prop}{I S:sM}{fp wr:List sM}{P:Nat->sN->Prop}{St:Nat->tB->Prop}
def WB:(toString "min" ++ toString ".loop" : String)="min.loop":=∅
def Vg(W:Walks prog w A.in1 I fp wr 2 P St)(hw:S ∉ wr)(st:St 2 s.heap)(hS:s.heap.get? S=Ba (sW "list" (r9 [v,v]) c))(hR:∀h' tk,(∀b o,b ∉ wr->b≠S->s.heap.get? b=Ba o->h'.get? b=Ba o)->R (.ok (.ret v)) { s with heap:=h',toks:=tk }):tM (model prog w) A (.builtin "min.loop" #[[.ref I,.none,.ref S],[]]) R s:=by refine tI (b:=Builtin.«min.loop») dX ?_;rw[Around.under_plainId (id:="min.loop") bS _];show sQ _ A.in1 (seqItems? (r8 S) >>= _) _ _ s;refine sF (tT (items:=(r9 [v,v])) hS rfl ?_);show sQ _ A.in1 (tryCatch (pyNext (r8 I)) _ >>= _) _ _ s;refine sF (tF (W.done s _ _ st λh' tk kp=>?_));have hS':=kp S _ hw hS;show sQ _ A.in1 (updateSeq S (λZ=>(#[]:Array sN)) >>= _) _ _ _;refine sF (tP hS' rfl (sF (tN (sH ?_))));exact hR _ tk λb o hb hb' q=>(az _ _ (Ne.symm hb')).trans (kp b o hb q)
theorem VQ(W:Walks prog w A.in1 I fp wr 2 P St)(hf:S ∉ fp)(hb:∀v,P 1 v->v=b)(st:St 1 s.heap)(hS:s.heap.get? S=Ba (sW "list" (r9 [a,a]) c))(hc:∀h' tk,(∀b o,b ∉ wr->b≠S->s.heap.get? b=Ba o->h'.get? b=Ba o)->LtAt A.in1 { s with heap:=h',toks:=tk } b a bt)(hR:∀h' tk,(∀b o,b ∉ wr->b≠S->s.heap.get? b=Ba o->h'.get? b=Ba o)->R (.ok (.ret (if bt=Bc then b else a))) { s with heap:=h',toks:=tk }):tM (model prog w) A (.builtin "min.loop" #[[.ref I,.none,.ref S],[]]) R s:=by
 have hw:S ∉ wr:=λh=>hf (W.sub _ h);refine tI (b:=Builtin.«min.loop») dX ?_;rw[Around.under_plainId (id:="min.loop") bS _];show sQ _ A.in1 (seqItems? (r8 S) >>= _) _ _ s;refine sF (tT (items:=(r9 [a,a])) hS rfl ?_);show sQ _ A.in1 (tryCatch (pyNext (r8 I)) _ >>= _) _ _ s;refine sF (tF (W.item 1 s _ _ ∅ st λv h' tk hP st' kp=>?_));obtain rfl:=hb v hP;have hS':=kp S _ hw hS;show sQ _ A.in1 (tryCatch (holding [v,v] (richCompare .Lt v a >>= _)) _ >>= _) _ _ _;refine sF (tF (tu (sF (hc h' tk (λb o q Z e=>kp b o q e) prog w _ _ ?_))));refine sF (tu (tm (sF (tN (sH ?_)))))
 cases bt with
 | true =>
  erw[if_true]
  refine sF (tP hS' rfl (sF (tN ?_)));rw[WB];refine sH #[plainId_quiet bS _,Vg W hw (W.frame _ _ _ st' λb hbf o e=>?_) (get?_update_seq hS' _) λh'' tk'' k2=>?_]
  ·exact (az _ _ (λz:S=b=>hf (by rw[z];exact hbf))).trans e
  ·exact hR h'' tk'' λb o q1 q2 e=>k2 b o q1 q2 ((az _ _ (Ne.symm q2)).trans (kp b o q1 e))
 | false =>
  erw[be,if_false]
  refine sF (tN ?_);rw[WB];refine sH #[plainId_quiet bS _,Vg W hw st' hS' λh'' tk'' k2=>?_];exact hR h'' tk'' λb o q1 q2 e=>k2 b o q1 q2 (kp b o q1 e)
def JZ(W:Walks prog w A.in1 I fp wr 2 P St)(hf:S ∉ fp)(ha:∀v,P 0 v->v=a)(hb:∀v,P 1 v->v=b)(st:St 0 s.heap)(hS:s.heap.get? S=Ba (sW "list" #[] c))(hc:∀h' tk,(∀b o,b ∉ wr->b≠S->s.heap.get? b=Ba o->h'.get? b=Ba o)->LtAt A.in1 { s with heap:=h',toks:=tk } b a bt)(hR:∀h' tk,(∀b o,b ∉ wr->b≠S->s.heap.get? b=Ba o->h'.get? b=Ba o)->R (.ok (.ret (if bt=Bc then b else a))) { s with heap:=h',toks:=tk }):tM (model prog w) A (.builtin "min.loop" #[[.ref I,.none,.ref S],[]]) R s:=by
  have hw:S ∉ wr:=λh=>hf (W.sub _ h);refine tI (b:=Builtin.«min.loop») dX ?_;rw[Around.under_plainId (id:="min.loop") bS _];show sQ _ A.in1 (seqItems? (r8 S) >>= _) _ _ s;refine sF (tT (items:=#[]) hS rfl ?_);show sQ _ A.in1 (tryCatch (pyNext (r8 I)) _ >>= _) _ _ s;refine sF (tF (W.item 0 s _ _ ∅ st λv h' tk hP st' kp=>?_));obtain rfl:=ha v hP;have hS':=kp S _ hw hS;show sQ _ A.in1 (updateSeq S (λZ=>(r9 [v,v])) >>= _) _ _ _;refine sF (tP hS' rfl ?_);rw[WB];have k1:∀b o,b ∉ wr->b≠S->s.heap.get? b=Ba o->(h'.update S (Obj.mapSeq λZ=>(r9 [v,v]))).get? b=Ba o:=λb o q1 q2 e=>(az _ _ (Ne.symm q2)).trans (kp b o q1 e);refine sH #[plainId_quiet bS _,VQ (a:=v) (bt:=bt) W hf hb (W.frame _ _ _ st' λb hbf o e=>?_) (get?_update_seq hS' _) (λh'' tk'' k2=>?_) λh'' tk'' k2=>?_]
  . exact (az _ _ (λz:S=b=>hf (by rw[z];exact hbf))).trans e
  . exact hc h'' tk'' λb o q1 q2 e=>k2 b o q1 q2 (k1 b o q1 q2 e)
  . exact hR h'' tk'' λb o q1 q2 e=>k2 b o q1 q2 (k1 b o q1 q2 e)
def Ks(hh:A.handled=Bb)(hc:∀h' tk,(∀b o,s.heap.get? b=Ba o->h'.get? b=Ba o)->LtAt A.in1 { s with heap:=h',toks:=tk } b a bt)(h:∀h' tk,(∀b o,s.heap.get? b=Ba o->h'.get? b=Ba o)->Q (if bt=Bc then b else a) { s with heap:=h',toks:=tk }):sQ (model prog w) A (call (.builtin "min") [a,b]) Q E s:=by
  refine kmb_tree PySem.F.kind_min PySem.F.plain_min PySem.F.entry_min (PySem.F.args_min2 _ _) ?_;show sQ _ A.in1 (Builtin.Builtins.bindParams "min" ["key","default"] 0 #[[],[]] >>= _) _ _ s;refine sF (wpAny_of_eq (show Builtin.Builtins.bindParams "min" ["key","default"] 0 #[[],[]]=pure [Bb,Bb]from rfl) ?_);show sQ _ A.in1 (newTuple [a,b] >>= _) _ _ s;refine sF (Ad ?_);have hT:(s.heap.push { cls:=.type "tuple",data:=.seq (r9 [a,b]) }).IsTuple s⁻¹ (r9 [a,b]):=#[_,aE _ rfl,rfl,0,rfl];have hz:(s.heap.push { cls:=.type "tuple",data:=.seq (r9 [a,b]) }).objs.size=s⁻¹+1:=dk ..;have k0:∀b' o,s.heap.get? b'=Ba o->(s.heap.push { cls:=.type "tuple",data:=.seq (r9 [a,b]) }).get? b'=Ba o:=λb' o q=>ag _ q;have hold:∀b o,s.heap.get? b=Ba o->b<s⁻¹:=λb o q=>aw q;refine sF (AB hT (sF (Ad ?_)));rw[WB];refine sH #[plainId_quiet bS _,?_];generalize s.heap.push { cls:=.type "tuple",data:=.seq (r9 [a,b]) }=h1 at *;generalize hTe:s⁻¹=T at *;have gI:(h1.push { cls:=.type "tuple_iterator",data:=.fields (r9 [.ref T,.int 0 0]) }).IsTupleIter h1.objs.size T 0:=#[_,aE _ rfl,rfl,rfl];have gT:=hT.push { cls:=.type "tuple_iterator",data:=.fields (r9 [.ref T,.int 0 0]) };have k1:∀b' o,s.heap.get? b'=Ba o->(h1.push { cls:=.type "tuple_iterator",data:=.fields (r9 [.ref T,.int 0 0]) }).get? b'=Ba o:=λb' o q=>ag _ (k0 b' o q);have hz1:(h1.push { cls:=.type "tuple_iterator",data:=.fields (r9 [.ref T,.int 0 0]) }).objs.size=h1.objs.size+1:=dk ..;generalize h1.push { cls:=.type "tuple_iterator",data:=.fields (r9 [.ref T,.int 0 0]) }=h2 at *;generalize h1.objs.size=I at *;have a1:Nat.lt T I:=by rw[hz];exact dZ _
  have a2:Nat.lt I h2.objs.size:=by rw[hz1];exact dZ _
  have W:=Walks.tuple (prog:=prog) (w:=w) (A:=A.in1) hh I T (ay a1) (r9 [a,b]);refine JZ (S:=h2.objs.size) (a:=a) (b:=b) (bt:=bt) W (λq=>?_) (λv q=>?_) (λv q=>?_) (W.frame 0 _ _ #[gI,gT] λb Z o q=>ag _ q) (aE _ rfl) (λh' tk kp=>hc h' tk λb o q=>?_) λh' tk kp=>h h' tk λb o q=>?_
  . rcases Bk.mp q with e | q
    . exact cC a2 e
    . exact cC (cF a1 a2) (Bm.mp q)
  . cases q;rfl
  . cases q;rfl
  all_goals
    have b1:=cF (hold b o q) a1;exact kp b o (λz=>ay b1 (Bm.mp z)) (ay (cF b1 a2)) (ag _ (k1 b o q))
end
mutual section
def zfC(K:sL):List V->Hp->VK->Prop:=λxs H Q=>∃(p r:sM) (i j k m:Int),xs=[.ref p,.ref r]/\SqT K H p [.int i,.int j]/\SqT K H r [.int k,.int m]/\Q (if k<i\/(k=i/\m<j)then .ref r else .ref p) H
def zcb(i j k m:Int):ltD (.tup [.int k,.int m]) (.tup [.int i,.int j])=decide (k<i\/(k=i/\m<j)):=by
 erw[ltD,wL,eqD]
 by_cases h1:k=i
 ·subst h1;by_cases h2:m=j
  ·subst h2;simp
  ·simp [h2]
 ·simp [h1]
def zek(hc:X.calm=Bc)(hu:X.A.units+100<cLine):wX X (.builtin "min") (zfC X.K):=by
 intros xs us Q I r h;let#[p,q,i,j,k,m,rfl,hp,hq,hQ]:=h;let#[u,v,rfl,r1,r2]:=VM r;have d1:Is X.K H (.tup [.int i,.int j]) (.ref p):=by erw[Is,Iss];exact#[p,_,rfl,hp,_,_,rfl,rfl,_,_,rfl,rfl,rfl]
 have d2:Is X.K H (.tup [.int k,.int m]) (.ref q):=by erw[Is,Iss];exact#[q,_,rfl,hq,_,_,rfl,rfl,_,_,rfl,rfl,rfl]
 refine Ks (bt:=decide (k<i\/(k=i/\m<j))) (I.ok.hd hc) (λh' tk kp=>?_) λh' tk kp=>#[_,H,I.kept kp,?_,hQ]
 ·rw[<- zcb];exact U6 (I.kept kp) 50 X.A.in1 _ _ _ _ _ _ (by show X.A.units+1+50<cLine;lia) (by erw[dpD,vG];decide) (by erw[okD,Zg,and_self]) d2 d1 r2 r1
 ·by_cases g:k<i\/(k=i/\m<j)
  ·rw[w6 g,w6 (u6 g)];exact r2
  ·rw[w9 g,w9 ↥g];exact r1
def zfM(y l:())(e:Nat):Prop:=e+y.length<=l.length/\(l.drop e).take y.length=y
instance (y l:()) (e:Nat):Decidable (zfM y l e):=by unfold zfM;infer_instance
def zhi(y l:()):Option (() × ()):=((aK (l.length+1)).find? λe=>decide (zfM y l e)).map λe=>(l.take e,l.drop (e+y.length))
theorem kO{D:sM}(hg:Gl X cn)(hm:X.mg cn=Ba (.ref D))(hdb:(cn ==("__debug__" : sS))=Bd)(xc:Xo X.K D=Bc)(hsu:∀e,PSs (Cx.suite X e) (b0::suite) th)(I:Inv X Be σ H s)(hob:∃t cx kx,s.heap.get? x=Ba (xog C dx t (.ref T) cx kx))(hoT:∃oT ts,s.heap.get? T=Ba oT/\oT.data=.fields ts/\3<ts.size)(fT:wo X Be H T)(hb:dz X.K (.ref C) (.ref D)=Ba Bc)(q:th Dd σ H):sQ (model X.prog X.w) X.A (handleBy (.ref x) X.env (.ExceptHandler (Ba (.Name cn np)) Bb (b0::suite) hpos::hs)) (SP X Be Dd) X.xe s:=by
 let#[t,cx,kx,ob]:=hob;let#[oT,ts,eT,dT,zT]:=hoT;have I':=Inv.suite I (.ref x);refine wpAny_handleBy_cons (codeAny_handlers_test (ub (X:=Cx.suite X (.ref x)) I' hg hm (zdF I.kIn xc ob hb ?_) hdb)) (by intro q;cases q);refine codeAny_handlers_suite ?_;unfold setFlight;refine sF (tU ob rfl (x:=.ref T) rfl ?_);rw[w6 (show (r8 T != p9)=Bc from by simp)];refine tS eT dT zT ?_;let#[f0,f1,f2,f3,f4,f5]:=fT
 have I2:Inv X Be σ H { s with heap:=s.heap.update T (Obj.mapFields (·.setIfInBounds 3 ((Bb:Option sM).elim p9 λf=>rawInt f))) } :=
  I.turned (t':=s.toks) (λb o hb e=>(az _ _ (Ne.symm hb)).trans e) f0 f1 f3 f4 f5
 refine tL (thn (hsu _ Be _ σ H _ (Inv.suite I2 (.ref x)) q) λfl s4 q4=>?_)
 cases fl with
 | next =>
  let#[σ4,H4,I4,n4]:=q4;exact#[_,_,Inv.unsuite I I4,n4]
 | brk =>
  let#[σ4,H4,I4,n4]:=q4;exact#[_,_,Inv.unsuite I I4,n4]
 | cont =>
  let#[σ4,H4,I4,n4]:=q4;exact#[_,_,Inv.unsuite I I4,n4]
 | ret v =>
  let#[y,σ4,H4,I4,r4,n4]:=q4;exact#[y,_,_,Inv.unsuite I I4,r4,n4]
def zbo(K:sL)(i:Nat)(D:sM)(te:TX)(th:TS):TS:=λDd σ H=>te σ H (λv H1=>Dd.nx (σ.set i (Ba v)) H1) λcls dx H1=>∃C,cls=.ref C/\dz K (.ref C) (.ref D)=Ba Bc/\∀x,H1 x=Bb->th Dd σ (upd H1 x (XT x C dx))
def KU{D:sM}(hN:X.N.Nodup)(hy:X.N[i]? = Ba y)(hly:Loc X.env.scope y)(hf:X.fn y=Bc\/X.env.scope.names.lookup y=Ba .local)(hst:X.stack=X.env::X.outer/\X.env.frame=Ba X.env.locals)(he:PEX X e te)(hg:Gl X cn)(hm:X.mg cn=Ba (.ref D))(xc:Xo X.K D=Bc)(hsu:∀e,PSs (Cx.suite X e) (b0::suite) th)(hdb:‹(cn ==("__debug__" : sS))=Bd›)(hsw:‹swapsWith e (Ba (.Name y yp)) apos.line X.env=pure Bd›) :
  PS X (.Try [.Assign [.Name y yp] e apos] (.ExceptHandler (Ba (.Name cn np)) Bb (b0::suite) hpos::hs) [] [] pos) (zbo X.K i D te th):=by
 intros D I hq;refine AK (tX (AG (tO (he Be s σ H _ _ I hq) (λv s1=>el5 λz H1 I1 r1 q1=>?_) λe s1 fl=>?_) hsw))
 ·exact Zq I1 hN hy hly r1 (λs2 I2=>tQ (tQ #[_,H1,I2,q1])) hf
 ·let#[cx,kx,H1,x,C,t,dx,tb,rfl,I1,ob,tr,fx,fT,C',ec,hsb,q1]:=fl;cases ec;have fr:X.A.frames=Ba (X.env::X.outer):=by rw[<- hst.1];exact I1.ok.frames
  have ff:s1.heap.FunFrames X.base (X.env::X.outer):=by rw[<- hst.1];exact I1.stack
  refine Zj fr ff hst.2 hst.2 ob tr λh' T oT ts e1 nT oldT e2 d2 z2 k1 k2=>?_
  have fT':wo X Be H1 T:=by
   rcases oldT with z | z
   ·exact fT T z
   ·exact I1.fpOk z (I1.hok.fresh z)
  have tbs:∀b,tb=.ref b->H1 b=Bb:=λb hb=>(fT b hb).1
  have nch:∀b o,s1.heap.get? b=Ba o->b ∉ (x::T::tbL tb)->b≠x/\tb≠.ref b:=λb o Z hb=>by
   refine#[λz=>hb (by simp [z]),λz=>hb ?_];rw[z];simp [tbL]
  have un:Un (frs X.stack) (x::T::tbL tb) H1 H1 s1.heap h':=by
   rw[hst.1];refine#[λb o e n hb hc=>?_,λb o e n hb hc=>?_,λb o e n Z=>n,λb o e hc=>?_,λb xs e=>e,λb o u e=>e,λb ps e=>#[#[],by rw[e];simp]]
   ·let#[a1,a2]:=nch b o e hc;exact k1 b o a1 a2 hb e
   ·let#[a1,a2]:=nch b o e hc;exact k2 b o a1 a2 e
   ·let#[a1,a2]:=nch b o e hc;let#[sl,q]:=k2 b o a1 a2 e;exact#[_,q]
  have hok:HOk X.prog X.w H1 h':=λb u e=>by
   refine (I1.hok b u e).stay (λc v hc q=>k1 c v ?_ ?_ ?_ q) (λZ q=>q) λZ Z q=>q
   ·rintro rfl;rcases hc with rfl | hc
    ·rw[fx.1]at e;cases e
    ·rw[fx.1]at hc;cases hc
   ·intro z;have:=tbs c z;rcases hc with rfl | hc
    ·rw[this]at e;cases e
    ·rw[this]at hc;cases hc
   ·intro z;rw[<- hst.1]at z;have:=I1.stkFree c z;rcases hc with rfl | hc
    ·rw[this]at e;cases e
    ·rw[this]at hc;cases hc
  have I2:Inv X Be σ H1 { s1 with heap:=h' }:=I1.call' (s':={ s1 with heap:=h' }) rfl un hok I1.bare λb hb=>by
   have fb:wo X Be H1 b:=by
    rcases Bk.mp hb with z | z
    ·rw[z];exact fx
    ·rcases Bk.mp z with z | z
     ·rw[z];exact fT'
     ·cases tb with
      | ref b' =>
       have:b=b':=by simpa [tbL] using z
       rw[this];exact fT b' rfl
      | _=>simp [tbL]at z
   let#[_,a1,_,a3,a4,a5]:=fb;exact#[a3,a1,a4,a5]
  have I3:Inv X Be σ (upd H1 x (XT x C dx)) { s1 with heap:=h' }:=Inv.track I2 fx (zdX e1);exact kO hg hm hdb xc hsu I3 #[t,_,_,e1] #[oT,ts,e2,d2,z2] #[by rw[zt nT];exact fT'.1,fT'.2] hsb (q1 x fx.1)
def Jm(K:sL)(D:sM)(te:TX)(th:TS):TS:=λDd σ H=>te σ H (λz H1=>Dd.rt z H1) λcls dx H1=>∃C,cls=.ref C/\dz K (.ref C) (.ref D)=Ba Bc/\∀x,H1 x=Bb->th Dd σ (upd H1 x (XT x C dx))
def WQ{D:sM}(hst:X.stack=X.env::X.outer/\X.env.frame=Ba X.env.locals)(he:PEX X e te)(hg:Gl X cn)(hm:X.mg cn=Ba (.ref D))(xc:Xo X.K D=Bc)(hsu:∀e,PSs (Cx.suite X e) (b0::suite) th)(hdb:‹(cn ==("__debug__" : sS))=Bd›) :
  PS X (.Try [.Return (Ba e) apos] (.ExceptHandler (Ba (.Name cn np)) Bb (b0::suite) hpos::hs) [] [] pos) (Jm X.K D te th):=by
 intros D I hq;refine AK (tX (AF (tO (he Be s σ H _ _ I hq) (λv s1=>el5 λz H1 I1 r1 q1=>?_) λe s1 fl=>?_)))
 ·exact#[z,σ,H1,I1,r1,q1]
 ·let#[cx,kx,H1,x,C,t,dx,tb,rfl,I1,ob,tr,fx,fT,C',ec,hsb,q1]:=fl;cases ec;have fr:X.A.frames=Ba (X.env::X.outer):=by rw[<- hst.1];exact I1.ok.frames
  have ff:s1.heap.FunFrames X.base (X.env::X.outer):=by rw[<- hst.1];exact I1.stack
  refine Zj fr ff hst.2 hst.2 ob tr λh' T oT ts e1 nT oldT e2 d2 z2 k1 k2=>?_
  have fT':wo X Be H1 T:=by
   rcases oldT with z | z
   ·exact fT T z
   ·exact I1.fpOk z (I1.hok.fresh z)
  have tbs:∀b,tb=.ref b->H1 b=Bb:=λb hb=>(fT b hb).1
  have nch:∀b o,s1.heap.get? b=Ba o->b ∉ (x::T::tbL tb)->b≠x/\tb≠.ref b:=λb o Z hb=>by
   refine#[λz=>hb (by simp [z]),λz=>hb ?_];rw[z];simp [tbL]
  have un:Un (frs X.stack) (x::T::tbL tb) H1 H1 s1.heap h':=by
   rw[hst.1];refine#[λb o e n hb hc=>?_,λb o e n hb hc=>?_,λb o e n Z=>n,λb o e hc=>?_,λb xs e=>e,λb o u e=>e,λb ps e=>#[#[],by rw[e];simp]]
   ·let#[a1,a2]:=nch b o e hc;exact k1 b o a1 a2 hb e
   ·let#[a1,a2]:=nch b o e hc;exact k2 b o a1 a2 e
   ·let#[a1,a2]:=nch b o e hc;let#[sl,q]:=k2 b o a1 a2 e;exact#[_,q]
  have hok:HOk X.prog X.w H1 h':=λb u e=>by
   refine (I1.hok b u e).stay (λc v hc q=>k1 c v ?_ ?_ ?_ q) (λZ q=>q) λZ Z q=>q
   ·rintro rfl;rcases hc with rfl | hc
    ·rw[fx.1]at e;cases e
    ·rw[fx.1]at hc;cases hc
   ·intro z;have:=tbs c z;rcases hc with rfl | hc
    ·rw[this]at e;cases e
    ·rw[this]at hc;cases hc
   ·intro z;rw[<- hst.1]at z;have:=I1.stkFree c z;rcases hc with rfl | hc
    ·rw[this]at e;cases e
    ·rw[this]at hc;cases hc
  have I2:Inv X Be σ H1 { s1 with heap:=h' }:=I1.call' (s':={ s1 with heap:=h' }) rfl un hok I1.bare λb hb=>by
   have fb:wo X Be H1 b:=by
    rcases Bk.mp hb with z | z
    ·rw[z];exact fx
    ·rcases Bk.mp z with z | z
     ·rw[z];exact fT'
     ·cases tb with
      | ref b' =>
       have:b=b':=by simpa [tbL] using z
       rw[this];exact fT b' rfl
      | _=>simp [tbL]at z
   let#[_,a1,_,a3,a4,a5]:=fb;exact#[a3,a1,a4,a5]
  have I3:Inv X Be σ (upd H1 x (XT x C dx)) { s1 with heap:=h' }:=Inv.track I2 fx (zdX e1);exact kO hg hm hdb xc hsu I3 #[t,_,_,e1] #[oT,ts,e2,d2,z2] #[by rw[zt nT];exact fT'.1,fT'.2] hsb (q1 x fx.1)
theorem UU(bs:List Bool):(aK bs.length).any (λi=>bs.getD i Bd)=bs.any id:=by
 induction bs with
 | nil=>rfl
 | cons b bs ih =>
  rw[aG,dU,dY,List.any_map,dY,<- ih];rfl
def zhc(K:sL):List V->Hp->VK->Prop:=λxs H Q=>∃(p:sM) (bs:List Bool),xs=[.ref p]/\SqL K H p (bs.map V.bl)/\Q (.bl (bs.any id)) H
def zgn(hc:X.calm=Bc):wX X (.builtin "any") (zhc X.K):=by
 intros xs us Q I r h;let#[p,bs,rfl,hS,q]:=h;let#[u,rfl,ru]:=wK r;cases ru;let#[its,rv,pl,hz]:=I.list hS
 have hlen:its.length=bs.length:=by
  have:=rv.length;rw[aa]at this;exact this.symm
 have hh:X.A.in1.handled=Bb:=I.ok.hd hc
 have hne:p≠s⁻¹:=by
  let#[o,n,e,_]:=pl;exact ay (aw e)
 let#[f0,f1,f2,f3,f4,f5]:=I.fpOk (H':=H) (al _) (I.hok.fresh (al _));have I1:=I.kept (t':=s.toks) (h':=s.heap.push { cls:=.type "list_iterator",data:=.fields (r9 [.ref p,.int 0 0]) }) λb o e=>ag _ e;refine call_any_walk (Ac pl.isList ?_);refine#[s⁻¹,_,_,_,_,_,λi=>bs.getD i Bd,rfl,Walks.list hh s⁻¹ p hne its.toArray,#[#[_,aE _ rfl,rfl,rfl],?_],?_,?_]
 ·let#[o,n,e,c,d,dt]:=pl;exact#[o,ag _ e,c,n,dt]
 ·intro i v s' Q' E' hv hq;have:=ZC rv (i:=i) (v:=v) ↥hv;rw[this];exact tm hq
 ·intro h' tk hk
  have e:(aK its.toArray.size).any (λi=>bs.getD i Bd)=bs.any id:=by
   rw[ak,hlen,UU]
  rw[e];refine#[.bl _,H,?_,rfl,q];exact I1.turned (t':=tk) (it:=s⁻¹) (λb o hb q=>hk b o ↥hb q) f0 f1 f3 f4 f5
def CompEL(K:sL)(a:sM)(g:TG)(tt:TT)(te:TE)(own:Nat)(ix:())(σ:L2.St)(H1:Hp)(Q:VK)(D:sM):Prop:=YX (Iel K a) g tt te own ix σ H1 Q D
def zeE{K:sL}:qC (UD K ta) g tt te own ix σ H Q=ta σ H λvs H1=>∃a,vs=[.ref a]/\(∃xs,SqL K H1 a xs)/\∀D,H1 D=Bb->CompEL K a g tt te own ix σ H1 Q D:=rfl
def CompEL.by{g:TG}{tt:TT}{te:TE}{own:Nat}{ix:()}{σ:L2.St}{H1:Hp}{Q:VK}{D:sM}{K:sL}(Pv:Nat->List V->Hp->Prop)(h0:Pv 0 [] (upd H1 D (.lst [])))(hl:∀i Bg H',i<=xs.length->Pv i Bg H'->SqL K H' a xs)(hs:∀i x Bg H' p,xs[i]? = Ba x->Pv i Bg H'->H' p=Bb->g (.ref p) (vR σ own ix) (upd H' p (.tup [.int (i:Nat),x])) λσ3 H3=>xm (vR σ own ix) σ3/\tt σ3 H3 λb H4=>if b=Bc then
   te σ3 H4 λv H5=>H5 D=Ba (.lst Bg)/\Bg.length<sK/\CNx xs.length i Pv (Bg ++ [v]) (upd H5 D (.lst (Bg ++ [v])))else CNx xs.length i Pv Bg H4) (hd:∀Bg H',Pv xs.length Bg H'->Q (.ref D) H'):CompEL K a g tt te own ix σ H1 Q D:=by
 refine#[λi m Bg H=>m=xs.length - i/\i<=xs.length/\Pv i Bg H,#[xs.length,by simp,ar _,h0],?_];rintro i m Bg H' ⟨rfl,hi,p⟩;have q:=hl i Bg H' hi p;by_cases hlt:i<xs.length
 ·refine .inr #[#[xs,xs[i],q,by simp [hlt]],λv H2 y=>?_];let#[p',x,hp,hx,ev,eH]:=y;subst ev eH;exact hs i x Bg H' p' (hx xs q) p hp
 ·have e:i=xs.length:=⋯;subst e;exact .inl #[#[xs,q,rfl],hd Bg H' p]
end
open PySem PySem.W PyProof.Rows
end in def J6(lt:Nat->Nat->Bool){α:Type}:AZ α->α
 | .ret a=>a
 | .ask i j k=>J6 lt (k (lt i j))
def Kok(lt:Nat->Nat->Bool)(n:Nat){α:Type}:AZ α->(α->Prop)->Prop
 | .ret a,Q=>Q a
 | .ask i j k,Q=>i<n/\j<n/\Kok lt n (k (lt i j)) Q
section
variable{lt:Nat->Nat->Bool}{n:Nat}{α β:Type}
theorem Kok.mono(hq:∀a,Q a->Q' a):∀(t:AZ α),Kok lt n t Q->Kok lt n t Q'
 | .ret a,h=>hq a h
 | .ask _ _ k,h=>#[h.1,h.2.1,Kok.mono hq (k _) h.2.2]
theorem Kok.bind : ∀(t:AZ α),Kok lt n t (λa=>Kok lt n (f a) Q)->Kok lt n (t.bind f) Q
 | .ret _,h=>h
 | .ask _ _ k,h=>#[h.1,h.2.1,Kok.bind (k _) h.2.2]
theorem Kok.run : ∀(t:AZ α),Kok lt n t Q->Q (J6 lt t)
 | .ret _,h=>h
 | .ask _ _ k,h=>Kok.run (k _) h.2.2
theorem Kok.same{Q:α->Prop}:∀(t:AZ α),Kok lt n t Q->Kok lt n t (λa=>a=J6 lt t)
 | .ret _,h=>rfl
 | .ask _ _ k,h=>#[h.1,h.2.1,Kok.same (k _) h.2.2]
theorem Kok.wp{I:sP->Prop}(hc:∀i j C s,i<n->j<n->I s->(∀s',I s'->C (lt i j) s')->cmp i j C s)(hR:∀a s,Q a->I s->R a s):∀(t:AZ α) (s:sP),I s->Kok lt n t Q->t.kasWp cmp R s
 | .ret a,s,hI,h=>hR a s h hI
 | .ask i j k,s,hI,h=>hc i j _ s h.1 h.2.1 hI λs' hI'=>Kok.wp hc hR (k _) s' hI' h.2.2
end
structure Wk(lt:Nat->Nat->Bool):Prop where
 asym:∀a b,lt a b=Bc->lt b a=Bd
 ntr:∀a b c,lt b a=Bd->lt c b=Bd->lt c a=Bd
section
mutual section
variable{lt:Nat->Nat->Bool}{n:Nat}
abbrev Lq(lt:Nat->Nat->Bool)(a b:Nat):Prop:=lt b a=Bd
theorem Wk.refl(W:Wk lt)(a:Nat):Lq lt a a:=by
 cases h:lt a a with
 | false=>exact h
 | true=>exact w4 h (by rw[W.asym a a h];decide)
abbrev pg(p:Array Nat)(i:Nat):Nat:=p.getD i 0
def VZ(p:Array Nat)(i:Nat):pg p i=(p[i]?).getD 0:=by simp [pg,Array.getD_eq_getD_getElem?]
def Up(lt:Nat->Nat->Bool)(p:Array Nat)(m:Nat):Prop:=∀i j,i<j->j<m->Lq lt (pg p i) (pg p j)
def Dn(lt:Nat->Nat->Bool)(p:Array Nat)(m:Nat):Prop:=∀i j,i<j->j<m->Lq lt (pg p j) (pg p i)
def Rg(n:Nat)(p:Array Nat):Prop:=p.toList.Perm (aK n)
def Rg.size(h:Rg n p):p.size=n:=by have:=h.length_eq;simpa using this
theorem Rg.bd(h:Rg n p)(hi:i<n):pg p i<n:=by
 have hs:=h.size;have hi':i<p.size:=⋯;have e:pg p i=p[i]:=by simp [pg,gh,hi']
 rw[e];have hm:p[i] ∈ p.toList:=Array.mem_toList_iff.mpr (Array.getElem_mem hi');exact Bn.mp (h.mem_iff.mp hm)
def vP(hj:j<=p.size)(k:Nat):pg (kas_rev p i j) k=if i<=k/\k<j then pg p (i+j - 1 - k)else pg p k:=by rw[VZ,kas_rev,getElem?_mirror_all hj];split <;> rw[VZ]
def Rg.rev(h:Rg n p)(i j:Nat):Rg n (kas_rev p i j):=(Array.perm_iff_toList_perm.mp (mirror_perm p i j _)).trans h
def Rg.bub(h:Rg n p)(i j:Nat):Rg n (bubble p i j):=(Array.perm_iff_toList_perm.mp (bubble_perm p i j)).trans h
theorem JH(W:Wk lt)(hp:Rg n p):∀(f k:Nat),1<=k->k+f<=n->Up lt p k->Kok lt n (kas_asc p f k) (λm=>k<=m/\m<=k+f/\Up lt p m/\(m=k+f\/lt (pg p m) (pg p (m - 1))=Bc))
 | 0,k,h1,h2,hu=>#[⋯,⋯,hu,Or.inl ⋯]
 | f+1,k,h1,h2,hu=>by
  refine#[hp.bd ⋯,hp.bd ⋯,?_];rcases cG (lt (pg p k) (pg p (k - 1)))with hc | hc
  ·show Kok lt n (if lt (pg p k) (pg p (k - 1))=Bc then .ret k else _) _;rw[w6 hc];exact#[⋯,⋯,hu,Or.inr hc]
  ·show Kok lt n (if lt (pg p k) (pg p (k - 1))=Bc then .ret k else _) _;rw[w9 (by rw[hc];decide)];refine (JH W hp f (k+1) ⋯ ⋯ λi j hij hj=>?_).mono (λm hm=>#[⋯,⋯,hm.2.2.1,?_]) _
   ·by_cases e:j=k
    ·subst e;by_cases e2:i=j - 1
     ·subst e2;exact hc
     ·exact W.ntr _ _ _ (hu i (j - 1) ⋯ ⋯) hc
    ·exact hu i j hij ⋯
   ·rcases hm.2.2.2 with h | h
    ·exact Or.inl ⋯
    ·exact Or.inr h
def Ev(lt:Nat->Nat->Bool)(p:Array Nat)(a b:Nat):Prop:=∀i j,a<=i->i<b->a<=j->j<b->Lq lt (pg p i) (pg p j)
theorem mir(h1:a<=k)(h2:k<m):a<=a+m - 1 - k/\a+m - 1 - k<m:=⋯
theorem zhl(h1:i<j)(h2:j<m):a+m - 1 - j<a+m - 1 - i:=⋯
def YV(h:i<k+1)(e:i≠k):i<k:=cy (bU h) e
def zb5(h:1<=k):k - 1<k:=Nat.sub_lt h Nat.one_pos
end
set_option tactic.hygienic true in
def za3(hm:m<=p.size)(hd:Dn lt p m)(he:Ev lt p a m):Dn lt (kas_rev p a m) m:=by
 intro i j hij hj;rw[vP hm,vP hm];by_cases h1:a<=i
 ·have hi:=cF hij hj;have h2:=aH h1 (cB hij);rw[w6 #[h2,hj],w6 #[h1,hi]];exact he _ _ (mir h2 hj).1 (mir h2 hj).2 (mir h1 hi).1 (mir h1 hi).2
 ·rw[w9 (show ¬ (a<=i/\i<m)from λz=>h1 z.1)];split
  ·rename_i h;exact hd _ _ (aq (fm h1) (mir h.1 h.2).1) (mir h.1 h.2).2
  ·exact hd _ _ hij hj
set_option tactic.hygienic true in
theorem Z8(W:Wk lt):∀(f:Nat) (p:Array Nat) (k q:Nat),Rg n p->1<=k->k+f<=n->q+1<=k->Dn lt p k->Ev lt p (k - (q+1)) k ->
  Kok lt n (kas_desc f p k q) (λr=>Rg n r.1/\k<=r.2.1/\r.2.1<=k+f/\r.2.2+1<=r.2.1/\Dn lt r.1 r.2.1/\Ev lt r.1 (r.2.1 - (r.2.2+1)) r.2.1)
 | 0,p,k,q,hp,h1,h2,hq,hd,he=>#[hp,al _,Nat.le_add_right _ _,hq,hd,he]
 | f+1,p,k,q,hp,h1,h2,hq,hd,he=>by
  have hkn:k<n:=aq (fF (db f)) h2;have hkp:k<=p.size:=by rw[hp.size];exact cB hkn
  have k1:=zb5 h1;have k1n:=cF k1 hkn;have ha:k - (q+1)<=k - 1:=Nat.sub_le_sub_left (cj (ar q)) k;have h2':k+1+f<=n:=dh k 1 f ▸ h2;refine#[hp.bd hkn,hp.bd k1n,?_]
  have one:∀(p:Array Nat),Ev lt p (k+1 - (0+1)) (k+1):=λp i j a b c d=>by
   rw[cH (bU b) a,cH (bU d) c];exact W.refl _
  have fin:∀r:Array Nat × Nat × Nat,Rg n r.1/\k+1<=r.2.1/\r.2.1<=k+1+f/\r.2.2+1<=r.2.1/\Dn lt r.1 r.2.1/\Ev lt r.1 (r.2.1 - (r.2.2+1)) r.2.1->Rg n r.1/\k<=r.2.1/\r.2.1<=k+(f+1)/\r.2.2+1<=r.2.1/\Dn lt r.1 r.2.1/\Ev lt r.1 (r.2.1 - (r.2.2+1)) r.2.1:=λr hr=>#[hr.1,Nat.le_of_succ_le hr.2.1,aH hr.2.2.1 (dm (dh k 1 f)),hr.2.2.2]
  have grow:Lq lt (pg p k) (pg p (k - 1))->Dn lt p (k+1):=λhle i j hij hj=>by
   by_cases e:j=k
   ·subst e;by_cases e2:i=j - 1
    ·subst e2;exact hle
    ·exact W.ntr _ _ _ hle (hd i (j - 1) (cy (dw hij) e2) k1)
   ·exact hd i j hij (YV hj e)
  rcases cG (lt (pg p k) (pg p (k - 1)))with hc | hc
  ·show Kok lt n (if lt (pg p k) (pg p (k - 1))=Bc then _ else _) _;rw[w6 hc];have hle:Lq lt (pg p k) (pg p (k - 1)):=W.asym _ _ hc;split
   ·refine (Z8 W f _ (k+1) 0 (hp.rev _ _) (db k) h2' (cj (ar _)) (λi j hij hj=>?_) (one _)).mono fin _;by_cases e:j=k
    ·subst e;rw[vP hkp,vP hkp,w9 λz=>cJ _ z.2];split
     ·rename_i h;exact W.ntr _ _ _ hle (he _ _ ha k1 (mir h.1 h.2).1 (mir h.1 h.2).2)
     ·rename_i h;exact W.ntr _ _ _ hle (hd _ _ (aq (fm λz=>h #[z,hij]) ha) k1)
    ·exact za3 hkp hd he i j hij (YV hj e)
   ·exact (Z8 W f _ (k+1) 0 hp (db k) h2' (cj (ar _)) (grow hle) (one _)).mono fin _
  ·show Kok lt n (if lt (pg p k) (pg p (k - 1))=Bc then _ else _) _;rw[w9 (by rw[hc];decide)];refine#[hp.bd k1n,hp.bd hkn,?_];rcases cG (lt (pg p (k - 1)) (pg p k))with hd2 | hd2
   ·show Kok lt n (if lt (pg p (k - 1)) (pg p k)=Bc then _ else _) _;rw[w6 hd2];exact#[hp,al _,Nat.le_add_right _ _,hq,hd,he]
   ·show Kok lt n (if lt (pg p (k - 1)) (pg p k)=Bc then _ else _) _;rw[w9 (by rw[hd2];decide)];refine (Z8 W f _ (k+1) (q+1) hp (db k) h2' (cj hq) (grow hd2) (λi j a b c d=>?_)).mono fin _;rw[Nat.add_sub_add_right]at a c;have b1:∀i,k - (q+1)<=i->i<k->Lq lt (pg p i) (pg p (k - 1))/\Lq lt (pg p (k - 1)) (pg p i):=λi a b=>#[he _ _ a b ha k1,he _ _ ha k1 a b];by_cases e:j=k
    ·subst e;by_cases e3:i=j
     ·subst e3;exact W.refl _
     ·exact W.ntr _ _ _ (b1 i a (YV b e3)).1 hc
    ·by_cases e3:i=k
     ·subst e3;exact W.ntr _ _ _ hd2 (b1 j c (YV d e)).2
     ·exact he _ _ a (YV b e3) c (YV d e)
def Vn(W:Wk lt)(hp:Rg n p)(h1:1<=m)(hm:m<=n)(hd:Dn lt p m):Kok lt n (kas_tail3 m n p) (λr=>Rg n r.2/\1<=r.1/\r.1<=n/\Up lt r.2 r.1):=by
 have hps:m<=p.size:=by rw[hp.size];exact hm
 have hmn:=dm (dA hm);unfold kas_tail3;refine Kok.bind _ ((JH W (hp.rev 0 m) (n - m) m h1 hmn λi j hij hj=>?_).mono (λk hk=>#[hp.rev 0 m,aH h1 hk.1,aH hk.2.1 hmn,hk.2.2.1]) _);have hi:=cF hij hj;rw[vP hps,vP hps,w6 #[ar _,hi],w6 #[ar _,hj]];exact hd _ _ (zhl hij hj) (mir (ar _) hi).2
def jU(W:Wk lt)(hp:Rg n p)(h1:1<=m)(hm:m+1<=n)(hd:Dn lt p (m+1)):Kok lt n (kas_descPart m n p) (λr=>Rg n r.2/\1<=r.1/\r.1<=n/\Up lt r.2 r.1):=by
 unfold kas_descPart;have hmn:=dm (dA hm);refine Kok.bind _ ((Z8 W (n - (m+1)) p (m+1) 0 hp (db m) hmn (cj (ar _)) hd λi j a b c d=>?_).mono (λr hr=>?_) _)
 ·rw[cH (bU b) a,cH (bU d) c];exact W.refl _
 ·let#[r1,r2,r3,r4,r5,r6]:=hr;have hs:r.2.1<=r.1.size:=by rw[r1.size];exact aH r3 hmn
  have g1:=aH (db m) r2;have g2:=aH r3 hmn
  (try dsimp only)
  split
  ·exact Vn W (r1.rev _ _) g1 g2 (za3 hs r5 r6)
  ·exact Vn W r1 g1 g2 r5
def zas(W:Wk lt)(hp:Rg n p)(hn:1<=n):Kok lt n (kas_count n p) (λr=>Rg n r.2/\1<=r.1/\r.1<=n/\Up lt r.2 r.1):=by
 have hps:=hp.size;unfold kas_count;have hn1:=dm (dA hn);refine Kok.bind _ ((JH W hp (n - 1) 1 (al _) hn1 λi j hij hj=>w4 hij (by rw[BH.mp hj];exact bq i)).mono (λm hm=>?_) _);let#[m1,m2,mu,ms]:=hm;have m2:=aH m2 hn1;by_cases e:(m == n)=Bc
 ·rw[w6 e];exact#[hp,m1,m2,mu]
 ·rw[w9 e];have hne:m≠n:=λh=>e (by rw[h];exact beq_self_eq_true _);have hmn:=cy m2 hne;have hlt:lt (pg p m) (pg p (m - 1))=Bc:=ms.resolve_left λh=>hne (h.trans (dA hn));have hle:Lq lt (pg p m) (pg p (m - 1)):=W.asym _ _ hlt;have k1:=zb5 m1;by_cases h1:m > 1
  ·rw[w6 h1];refine#[hp.bd hn,hp.bd (cF k1 hmn),?_];rcases cG (lt (pg p 0) (pg p (m - 1)))with hc | hc
   ·show Kok lt n (if lt (pg p 0) (pg p (m - 1))=Bc then _ else _) _;rw[w6 hc];exact#[hp,m1,m2,mu]
   ·show Kok lt n (if lt (pg p 0) (pg p (m - 1))=Bc then _ else _) _;rw[w9 (by rw[hc];decide)]
    have u0:∀i,i<m->Lq lt (pg p 0) (pg p i):=λi hi=>by
     by_cases h:i=0
     ·subst h;exact W.refl _
     ·exact mu 0 i (Nat.pos_of_ne_zero h) hi
    have ul:∀i,i<m->Lq lt (pg p i) (pg p (m - 1)):=λi hi=>by
     by_cases h:i=m - 1
     ·subst h;exact W.refl _
     ·exact mu i (m - 1) (cy (dw hi) h) k1
    have ev:∀i j,i<m->j<m->Lq lt (pg p i) (pg p j):=λi j hi hj=>W.ntr _ _ _ (ul i hi) (W.ntr _ _ _ hc (u0 j hj));have hmp:m<=p.size:=by rw[hps];exact m2
    refine jU W (hp.rev 0 m) m1 hmn λi j hij hj=>?_;by_cases h:j=m
    ·subst h;rw[vP hmp,vP hmp,w9 (λz=>cJ _ z.2),w6 #[ar _,hij]];exact W.ntr _ _ _ hle (ev _ _ k1 (mir (ar _) hij).2)
    ·have hj':=YV hj h;have hi':=cF hij hj';rw[vP hmp,vP hmp,w6 #[ar _,hj'],w6 #[ar _,hi']];exact ev _ _ (mir (ar _) hj').2 (mir (ar _) hi').2
  ·rw[w9 h1];have e1:m=1:=cH (cp h1) m1;subst e1;refine jU W hp (al _) hmn λi j hij hj=>?_;have h1:j=1:=cH (bU hj) (bC (ar _) hij);subst h1;rw[BH.mp hij];exact hle
theorem mid(h:l<r):l<=(l+r) / 2/\(l+r) / 2<r:=⋯
theorem Yb(W:Wk lt)(hp:Rg n p)(hk:k<n)(hu:Up lt p k):∀(f l r:Nat),l<=r->r<=k->r - l<=f->(∀i,i<l->Lq lt (pg p i) (pg p k))->(∀i,r<=i->i<k->Lq lt (pg p k) (pg p i)) ->
  Kok lt n (kas_place p k f l r) (λm=>m<=k/\(∀i,i<m->Lq lt (pg p i) (pg p k))/\(∀i,m<=i->i<k->Lq lt (pg p k) (pg p i)))
 | 0,l,r,hl,hr,hf,h1,h2=>by
  have:l=r:=cH hl (Nat.le_of_sub_eq_zero (Nat.le_zero.mp hf));subst this;exact#[hr,h1,h2]
 | f+1,l,r,hl,hr,hf,h1,h2=>by
  unfold kas_place;by_cases e:l ≥ r
  ·rw[w6 e];have:l=r:=cH hl e;subst this;exact#[hr,h1,h2]
  ·rw[w9 e];have hlr:=fm e;let#[a,b]:=mid hlr;have bk:=aq b hr;refine#[hp.bd hk,hp.bd (cF bk hk),?_];generalize (l+r) / 2=m at *;rcases cG (lt (pg p k) (pg p m))with hc | hc
   ·show Kok lt n (if lt (pg p k) (pg p m)=Bc then _ else _) _;rw[w6 hc];refine Yb W hp hk hu f l m a (cB bk) (bU (aq (gk a b) hf)) h1 λi hi hik=>?_;by_cases e2:i=m
    ·subst e2;exact W.asym _ _ hc
    ·exact W.ntr _ _ _ (W.asym _ _ hc) (hu _ _ (cy hi (Ne.symm e2)) hik)
   ·show Kok lt n (if lt (pg p k) (pg p m)=Bc then _ else _) _;rw[w9 (by rw[hc];decide)];refine Yb W hp hk hu f (m+1) r b hr (bU (aq (Nat.sub_lt_sub_left hlr (Nat.lt_succ_of_le a)) hf)) (λi hi=>?_) h2;by_cases e2:i=m
    ·subst e2;exact hc
    ·exact W.ntr _ _ _ (hu i m (YV hi e2) bk) hc
def zaG(hk:k<p.size)(hl:l<=k)(i:Nat):pg (bubble p k (k - l)) i=if i=l then pg p k else if l<i/\i<=k then pg p (i - 1)else pg p i:=by
 have e:k - (k - l)=l:=Nat.sub_sub_self hl;rw[VZ,getElem?_bubble hk (k - l) (Nat.sub_le _ _),e];by_cases h:i=l
 ·rw[w6 h,w6 h];exact (VZ p k).symm
 ·rw[w9 h,w9 h];by_cases h':l<i/\i<=k
  ·rw[w6 h',w6 h'];exact (VZ p (i - 1)).symm
  ·rw[w9 h',w9 h'];exact (VZ p i).symm
theorem zaV(W:Wk lt):∀(f:Nat) (p:Array Nat) (k:Nat),Rg n p->k+f=n->Up lt p k->Kok lt n (kas_bin f p k) (λp'=>Rg n p'/\Up lt p' n)
 | 0,p,k,hp,hk,hu=>by
  have:k=n:=hk;subst this;exact#[hp,hu]
 | f+1,p,k,hp,hk,hu=>by
  have hkn:k<n:=hk ▸ fF (db f);have hkp:k<p.size:=by rw[hp.size];exact hkn
  refine Kok.bind _ ((Yb W hp hkn hu k 0 k (ar _) (al _) (Nat.sub_le _ _) (λi hi=>w4 hi (bq i)) (λi h1 h2=>w4 h1 (Nat.not_le_of_lt h2))).mono (λl hl=>?_) _);let#[l1,l2,l3]:=hl;refine zaV W f _ (k+1) (hp.bub _ _) ((dh k 1 f).trans hk) λi j hij hj=>?_;have hjk:=bU hj;have j1:=aq (zb5 (bC (ar i) hij)) hjk;rw[zaG hkp l1,zaG hkp l1];by_cases h1:i=l
  ·subst h1;rw[w6 rfl,w9 (cC hij),w6 #[hij,hjk]];exact l3 _ (dw hij) j1
  ·rw[w9 h1];by_cases h2:j=l
   ·subst h2;rw[w6 rfl,w9 λz=>Nat.lt_asymm z.1 hij];exact l2 _ hij
   ·rw[w9 h2];by_cases h3:l<i/\i<=k
    ·rw[w6 h3,w6 #[cF h3.1 hij,hjk]];exact hu _ _ (gk (bC (ar l) h3.1) hij) j1
    ·rw[w9 h3];by_cases h4:l<j/\j<=k
     ·rw[w6 h4];have hil:i<l:=cy (cp λz=>h3 #[z,cB (aq hij h4.2)]) h1;exact hu _ _ (aq hil (dw h4.1)) j1
     ·rw[w9 h4];exact hu _ _ hij (aq (cy (cp λz=>h4 #[z,hjk]) h2) l1)
theorem Xx(W:Wk lt)(hn:1<=n):Kok lt n (kas_sort n) (λp=>Rg n p/\Up lt p n):=by
 unfold kas_sort;refine Kok.bind _ ((zas W (p:=aU (aK n)) (by unfold Rg;exact List.Perm.refl _) hn).mono (λr hr=>?_) _);let#[r1,r2,r3,r4]:=hr
 (try dsimp only)
 split
 ·have:max r.1 1=r.1:=⋯;rw[this];exact zaV W _ _ _ r1 ⋯ r4
 ·have:r.1=n:=⋯;rw[this]at r4;exact#[r1,r4]
end
end in def srt{α:Type}(lt:α->α->Bool)(d:α)(xs:List α):List α :=
 if xs.length<2 then xs else (J6 (λi j=>lt (xs.getD i d) (xs.getD j d)) (kas_sort xs.length)).toList.map λi=>xs.getD i d
structure WkO{α:Type}(lt:α->α->Bool):Prop where
 asym:∀a b,lt a b=Bc->lt b a=Bd
 ntr:∀a b c,lt b a=Bd->lt c b=Bd->lt c a=Bd
set_option tactic.hygienic true in
def Vt{lt:α->α->Bool}(W:WkO lt)(d:α)(xs:List α):(srt lt d xs).Perm xs/\(srt lt d xs).Pairwise λa b=>lt b a=Bd:=by
 unfold srt;split
 ·rename_i h;refine#[List.Perm.refl _,?_]
  match xs,h with
  | [],_=>exact List.Pairwise.nil
  | [a],_=>exact fG _ _
  | _::_::_,h=>exact w4 h (by simp)
 ·rename_i h;have W':Wk (λi j=>lt (xs.getD i d) (xs.getD j d)):=#[λa b=>W.asym _ _,λa b c=>W.ntr _ _ _];let#[h1,h2]:=Kok.run _ (Xx (n:=xs.length) W' ⋯);generalize J6 (λi j=>lt (xs.getD i d) (xs.getD j d)) (kas_sort xs.length)=p at h1 h2
  have e:(aK xs.length).map (λi=>xs.getD i d)=xs:=by
   refine List.ext_getElem (by simp) λi a b=>?_;have hb:i<xs.length:=by simpa using b
   simp [hb]
  refine#[(h1.map (λi=>xs.getD i d)).trans (by rw[e]),?_];rw[List.pairwise_map,List.pairwise_iff_getElem];intro i j hi hj hij;have hs:=h1.size;have hi':i<p.size:=by simpa using hi
  have hj':j<p.size:=by simpa using hj
  have q:=h2 i j hij ⋯;have ei:pg p i=p.toList[i]:=by simp [pg,gh,hi']
  have ej:pg p j=p.toList[j]:=by simp [pg,gh,hj']
  rw[ei,ej]at q;exact q
theorem QR{lt lt':Nat->Nat->Bool}{Q:α->Prop}(h:∀i j,i<n->j<n->lt i j=lt' i j):∀t:AZ α,Kok lt n t Q->J6 lt t=J6 lt' t
 | .ret _,_=>rfl
 | .ask i j k,q=>by
  show J6 lt (k (lt i j))=J6 lt' (k (lt' i j));rw[<- h i j q.1 q.2.1];exact QR h _ q.2.2
set_option tactic.hygienic true in
def za9{lt lt':α->α->Bool}(W:WkO lt){d d':α}{xs:List α}(h:∀a ∈ xs,∀b ∈ xs,lt a b=lt' a b):srt lt d xs=srt lt' d' xs:=by
 have g:∀i,i<xs.length->∃a ∈ xs,xs.getD i d=a/\xs.getD i d'=a:=λi hi=>#[xs[i],d5 hi,by rw[ae,af hi];rfl,by rw[ae,af hi];rfl];unfold srt;split
 ·rfl
 ·rename_i hl;have W':Wk (λi j=>lt (xs.getD i d) (xs.getD j d)):=#[λa b=>W.asym _ _,λa b c=>W.ntr _ _ _];have ok:=Xx (n:=xs.length) W' ⋯
  have e:=QR (lt':=λi j=>lt' (xs.getD i d') (xs.getD j d')) (λi j hi hj=>by
   let#[a,ha,a1,a2]:=g i hi;let#[b,hb,b1,b2]:=g j hj;show lt (xs.getD i d) (xs.getD j d)=lt' (xs.getD i d') (xs.getD j d');rw[a1,a2,b1,b2]
   exact h a ha b hb) _ ok
  rw[<- e];let#[h1,_]:=Kok.run _ ok;refine bV λi hi=>?_;let#[a,_,a1,a2]:=g i (Bn.mp (h1.mem_iff.mp hi));rw[a1,a2]
def Qt{lt:β->β->Bool}(f:α->β)(d:α)(xs:List α):srt lt (f d) (xs.map f)=(srt (λa b=>lt (f a) (f b)) d xs).map f:=by
 have e:∀i,(xs.map f).getD i (f d)=f (xs.getD i d):=λi=>by
  rw[ae,ae,au];cases xs[i]? <;> rfl
 unfold srt;rw[aa];split
 ·rfl
 ·erw[e,cf]
  rfl
end L3
namespace L3
open PySem PySem.W PyProof.Rows
structure Idp(n:Nat)(p:Array Nat)(m:Nat):Prop where
 r:Rg n p
 lo:∀i,i<m->pg p i<m
 hi:∀i,m<=i->i<n->pg p i=i
def Idp.up(h:Idp n p m)(hk:m<=k)(hn:k<=n):Idp n p k:=#[h.r,λi hi=>by
 by_cases e:i<m
 ·have:=h.lo i e;lia
 ·rw[h.hi i ⋯ ⋯];exact hi,λi a b=>h.hi i ⋯ b]
end L3
namespace L3
structure KeyFam(α:Type) where
 dec:α->List D
 lt:α->α->Bool
 fst:Bool
 d0:α
structure KeyFam.Ok{α:Type}(F:KeyFam α):Prop where
 w:WkO F.lt
 eq:∀a b,wL (F.dec a) (F.dec b)=F.lt a b
 ok:∀a b,Zg (F.dec a) (F.dec b)
 dp:∀a,vG (F.dec a)<40
 sh:∀a,∃d r,F.dec a=d::r/\((F.fst=Bc/\∃n,d=.int n)\/(F.fst=Bd/\∃l,d=.tup l))
def okF:List D->List D->Prop
 | d::l,e::m=>if eqD d e=Bc then okF l m else okD d e
 | _,_=>True
structure KeyFam.OkF{α:Type}(F:KeyFam α):Prop where
 w:WkO F.lt
 eq:∀a b,wL (F.dec a) (F.dec b)=F.lt a b
 ok:∀a b,okF (F.dec a) (F.dec b)
 dp:∀a,vG (F.dec a)<40
 sh:∀a,∃d r,F.dec a=d::r/\((F.fst=Bc/\∃n,d=.int n)\/(F.fst=Bd/\∃l,d=.tup l))
theorem zbf:∀{l m:List D},Zg l m->okF l m
 | [],m,_=>by erw[okF]
 | d::l,[],_=>by erw[okF]
 | d::l,e::m,h=>by
  erw[Zg]at h
  erw[okF]
  split
  ·exact zbf h.2
  ·exact h.1
def KeyFam.Ok.f{F:KeyFam α}(h:F.Ok):F.OkF:=#[h.w,h.eq,λa b=>zbf (h.ok a b),h.dp,h.sh]
def Inv.repin(I:Inv X (Be ++ [(b,o)]) σ H s)(hs:X.s₀.heap.objs.size<=b)(hn:∀p ∈ X.pn ++ Be,p.1≠b)(sb:Heap.SameBut b s.heap h')(ho:h'.get? b=Ba o')(hd:∀v,o'.data≠.cell v) :
  Inv X (Be ++ [(b,o')]) σ H { s with heap:=h' }:=by
 have I1:Inv X Be σ H s:=I.unpinned;let#[p1,p2,p3,p4,p5]:=I.pin (b,o) (aF _ (aF _ (Bm.mpr rfl)))
 have I2:Inv X Be σ H { s with heap:=h' }:=Inv.turns I1 (fp:=[b]) (t':=s.toks) (λb' u hb e=>(sb.2 b' ↥hb).trans e) λb' hb=>by
  have e:b'=b:=by simpa using hb
  subst e;refine#[p2,p3,p4,.inr hs,λx c e z=>?_,hn];let#[v,o1,ho1,hd1]:=I.cell x c e;subst z;rw[p1]at ho1;cases ho1;exact p5 v hd1
 exact I2.pins_of λp hp=>by
  rcases Bl.mp hp with z | z
  ·exact I2.pin p (aF _ z)
  ·have e:p=(b,o'):=by simpa using z
   subst e;exact#[ho,p2,p3,p4,hd]
def Inv.newpin(I:Inv X Be σ H s)(hf:wo X Be H b)(ho:s.heap.get? b=Ba o)(hd:∀v,o.data≠.cell v):Inv X (Be ++ [(b,o)]) σ H s :=
 I.pins_of λp hp=>by
  rcases Bl.mp hp with z | z
  ·exact I.pin p (aF _ z)
  ·have e:p=(b,o):=by simpa using z
   subst e;exact#[ho,hf.1,hf.2.1,hf.2.2.1,hd]
set_option tactic.hygienic true in
theorem zd2(I:Inv X Be σ H s)(hu:A.units+50<cLine):∀(l m:List D) (xs ys:List V) (its its':List sN) (i:Nat),Iss X.K H l xs->Iss X.K H m ys->Vals xs its->Vals ys its'->okF l m->vG l<40 ->
  (b=Bc->i=0->(∃n r,l=.int n::r)/\∃n r,m=.int n::r)->Q (wL l m) s->PySem.W.KatLex X.prog X.w A b (decide (its.length<its'.length)) Q (its.zip its') i s
 | [],m,xs,ys,its,its',i,h1,h2,r1,r2,ok,hd,hb,q=>by
  erw[Iss]at h1
  subst h1;cases r1
  have e:wL [] m=decide (([]:List sN).length<its'.length):=by
   have e1:=h2.len;have e2:=r2.length;have e3:m.length=its'.length:=⋯;rw[<- e3]
   cases m with
   | nil=>simp [wL]
   | cons _ _=>simp [wL]
  rw[e]at q;rw[List.zip_nil_left];exact gJ q
 | d::l,[],xs,ys,its,its',i,h1,h2,r1,r2,ok,hd,hb,q=>by
  erw[Iss]at h2
  subst h2;cases r2
  erw[wL]at q
  rw[List.zip_nil_right];exact gJ ↥q
 | d::l,e::m,xs,ys,its,its',i,h1,h2,r1,r2,ok,hd,hb,q=>by
  erw[Iss]at h1 h2
  let#[x,xr,rfl,hx,hxr]:=h1;let#[y,yr,rfl,hy,hyr]:=h2
  cases r1 with | cons rx rxr =>
  cases r2 with | cons ry ryr =>
  erw[okF]at ok
  erw[vG]at hd
  rename_i u us v vs;rw[dH];refine PySem.W.kat_cons (qx I 45 A d e x y u v ⋯ ⋯ hx hy rx ry X.prog X.w _ _ ?_)
  cases he:eqD d e with
  | true =>
   refine PySem.W.kat_yes ?_;have:=zd2 I (b:=b) hu l m xr yr us vs (i+1) hxr hyr rxr ryr (by rw[w6 he]at ok;exact ok) ⋯ (λZ z=>w4 z ⋯) (by simpa only[wL,he,if_true] using q);simpa using this
  | false =>
   refine PySem.W.kat_no ?_;have q':Q (ltD d e) s:=by simpa only[wL,he,be,if_false] using q
   by_cases hbi:(b && i == 0)=Bc
   ·rw[hbi]
    erw[ba,beq_iff_eq]at hbi
    let#[#[n,r,e1],n',r',e2]:=hb hbi.1 hbi.2;cases e1;cases e2
    erw[Is]at hx hy
    subst hx hy;let#[t,rfl]:=rx;let#[t',rfl]:=ry
    erw[ltD]at q'
    exact oneLt_int q'
   ·rw[show (b && i == 0)=Bd by simpa using hbi];exact PySem.W.kat_one _ _ (U6 I 45 A d e x y u v ⋯ ⋯ (by rw[w9 (by rw[he];decide)]at ok;exact ok) hx hy rx ry X.prog X.w _ _ q')
def zc3(I:Inv X Be σ H s)(hu:A.units+50<cLine)(hx:Is X.K H (.tup l) x)(hy:Is X.K H (.tup m) y)(rx:RelV x u)(ry:RelV y v)(ok:okF l m)(hd:vG l<40)(hb:b=Bc->(∃n r,l=.int n::r)/\∃n r,m=.int n::r)(q:Q (wL l m) s):sQ (model X.prog X.w) A (keyLt' (tuples' b) u v) Q E s:=by
 erw[Is]at hx hy
 let#[a,xs,rfl,h1,h2]:=hx;let#[c,ys,rfl,g1,g2]:=hy;cases rx;cases ry;let#[its,r,#[o,ho,hoc,n,hod],_]:=I.tuple h1;let#[its',r',#[o',ho',hoc',n',hod'],_]:=I.tuple g1;refine PySem.W.kat_lt ho hod ho' hod' ?_;have:=zd2 I (A:=A) (b:=b) (Q:=Q) hu l m xs ys its its' 0 h2 g2 r r' ok hd (λz Z=>hb z) q;simpa using this
set_option tactic.hygienic true in
mutual section
theorem zbb{F:KeyFam α}(FO:F.OkF)(I:Inv X Be σ H s):∀(rs:List α) (Bg:List V) (ks:List sN),Iss X.K H (rs.map λa=>.tup (F.dec a)) Bg->Vals Bg ks ->
  ∃fs,PySem.W.KatTups s.heap ks fs/\fs.length=rs.length/\∀v ∈ fs,PySem.W.Looks M s.heap (typeOf v) (.type (if F.fst=Bc then "int" else "tuple"))
 | [],Bg,ks,h,r=>by
  erw[aI,Iss]at h
  subst h;cases r;exact#[[],PySem.W.KatTups.nil,rfl,λv hv=>by cases hv]
 | a::rs,Bg,ks,h,r=>by
  erw[ao,Iss]at h
  let#[x,xr,rfl,hx,hxr]:=h
  cases r with | cons rx rxr =>
  rename_i u us;let#[fs,t1,t2,t3]:=zbb FO I (M:=M) rs xr us hxr rxr
  erw[Is]at hx
  let#[c,xs,rfl,h1,h2]:=hx;cases rx;let#[its,ri,#[o,ho,hoc,n,hod],_]:=I.tuple h1;let#[d,dr,ed,hsh]:=FO.sh a;rw[ed]at h2
  erw[Iss]at h2
  let#[y,yr,rfl,hy,_]:=h2
  cases ri with | cons ry rir =>
  rename_i v vs;refine#[v::fs,PySem.W.KatTups.cons ho hoc hod (by simp) t1,by simp [t2],λz hz=>?_];rcases Bk.mp hz with e | hz
  ·subst e;rcases hsh with ⟨hf,n',rfl⟩ | ⟨hf,l,rfl⟩
   ·rw[w6 hf]
    erw[Is]at hy
    subst hy;let#[t,rfl]:=ry;exact PySem.W.Looks.of_pure rfl
   ·rw[w9 (by rw[hf];decide)]
    erw[Is]at hy
    let#[c',xs',rfl,g1,_]:=hy;cases ry;let#[its',ri',#[o',ho',hoc',n',hod'],_]:=I.tuple g1;rw[<- hoc'];exact (PySem.W.Looks.ld ho').andThen .now
  ·exact t3 z hz
def Ui{α:Type}(K:sL)(F:KeyFam α)(xs:List V)(Q:VK):List V->Hp->Prop:=λBg H'=>∃rs:List α,Iss K H' (rs.map λa=>.tup (F.dec a)) Bg /\
 ∀ys:List (α × V),ys=srt (λp q=>F.lt p.1 q.1) (F.d0,.non) (rs.zip xs)->∀D,H' D=Bb->Q (.ref D) (upd H' D (.lst (ys.map (·.2))))
def Inv.fp_of_pin(I:Inv X (Be ++ [(b,o)]) σ H s)(hs:X.s₀.heap.objs.size<=b)(hn:∀p ∈ X.pn ++ Be,p.1≠b):wo X Be H b:=by let#[p1,p2,p3,p4,p5]:=I.pin (b,o) (aF _ (aF _ (Bm.mpr rfl)));refine#[p2,p3,p4,.inr hs,λx c e z=>?_,hn];let#[v,o1,ho1,hd1]:=I.cell x c e;subst z;rw[p1]at ho1;cases ho1;exact p5 v hd1
def Inv.at_pin(I:Inv X (Be ++ [(b,o)]) σ H s):s.heap.get? b=Ba o:=(I.pin (b,o) (aF _ (aF _ (Bm.mpr rfl)))).1
def y4 : ∀v,(sW c xs n).data≠.cell v:=λv z=>by cases z
def zd4{D kS:sM}{st:SortSt}(I:Inv X ((Be ++ [(D,sW "list" #[] e1)]) ++ [(kS,sW "list" (aU ks) e)]) σ H s)(hD:X.s₀.heap.objs.size<=D)(hK:X.s₀.heap.objs.size<=kS)(nD:∀p ∈ X.pn ++ Be,p.1≠D)(nK:∀p ∈ X.pn ++ (Be ++ [(D,sW "list" #[] e1)]),p.1≠kS)(hkz:ks.length<64)(hout:(arrOf st).map (·.2)=aU out)(hoz:out.length<64)(hf:failedOf st=Bb)(h:∀s' c,Inv X (Be ++ [(D,sW "list" (aU out) c)]) σ H s'->P (.done (.ret .none)) s') :
  sQ (model X.prog X.w) A (ksk_tail D Bd e1 (.ref kS) st) P E s:=by
 have pk:=Inv.at_pin I;have s1:=Heap.SameBut.update s.heap kS (Obj.mapSeq λZ=>(#[]:Array sN));obtain⟨ck,hck⟩:∃ck,(s.heap.update kS (Obj.mapSeq λZ=>(#[]:Array sN))).get? kS=Ba (sW "list" #[] ck):=#[_,get?_update_seq pk λZ=>#[]];have I2:=(Inv.repin I hK nK s1 hck y4).unpinned;have pd:=Inv.at_pin I2;have s2:=Heap.SameBut.update (s.heap.update kS (Obj.mapSeq λZ=>(#[]:Array sN))) D (Obj.mapSeq λZ=>aU out);obtain⟨c2,hc2⟩:∃c2,((s.heap.update kS (Obj.mapSeq λZ=>(#[]:Array sN))).update D (Obj.mapSeq λZ=>aU out)).get? D=Ba (sW "list" (aU out) c2):=#[_,get?_update_seq pd λZ=>aU out];have I3:=Inv.repin I2 hD nD s2 hc2 y4;unfold ksk_tail
 (try dsimp only)
 rw[hout];refine sF (listUpdate_at pk rfl ?_ (by rw[ak,sY];lia) (ar _));refine sF (tN ?_);refine sF (seqEpoch_at pd rfl ?_);refine sF (listUpdate_at pd rfl ?_ (ar _) (by erw[be,if_false];rw[ak,sY];lia));rw[hf]
 erw[bne_self_eq_false,be,if_false]
 exact sH (h _ c2 I3)
def zd6{F:KeyFam α}(FO:F.OkF){rs:List α}{T:SortSt->Sem PySem.Fin}(hu:A.units+50<cLine)(I:Inv X pz σ H s)(rk:Vals Bg ks)(rv:Vals xs its)(hl:ks.length=its.length)(hz:its.length<64)(hR:Iss X.K H (rs.map λa=>.tup (F.dec a)) Bg)(h:∀st s' (out:List sN),Vals ((srt (λp q=>F.lt p.1 q.1) (F.d0,V.non) (rs.zip xs)).map (·.2)) out->out.length<64->(arrOf st).map (·.2)=aU out->failedOf st=Bb->Inv X pz σ H s'->sQ (model X.prog X.w) A (T st) P E s') :
  sQ (model X.prog X.w) A (do
   let kind <- if its.toArray.size<2 then pure general' else keyKind' (aU ks)
   let (Unit.unit,st) <- (if its.toArray.size<2 then pure Unit.unit else sortRuns').run (SortSt.mk' kind ((aU ks).zip its.toArray) #[] 7 Bb)
   T st) P E s:=by
 have L1:=hR.len;have L2:=rk.length;have L3:=rv.length;rw[aa]at L1;have lz:(rs.zip xs).length=its.length:=by rw[List.length_zip];lia
 by_cases h2:its.toArray.size<2
 ·rw[w6 h2,w6 h2];refine sF (sH ?_);dsimp only;rw[StateT.run_pure];refine sF (sH ?_)
  (try dsimp only)
  refine h _ _ its ?_ hz ?_ rfl I
  ·rw[ak]at h2;unfold srt;rw[w6 ⋯,List.map_snd_zip ⋯];exact rv
  ·show ((aU ks).zip its.toArray).map (·.2)=_;apply Array.toList_inj.mp;rw[Array.toList_map,ksk_zip];exact List.map_snd_zip (by simp;lia)
 ·rw[w9 h2,w9 h2];rw[ak]at h2;let#[fs,t1,t2,t3]:=zbb FO I (M:=model X.prog X.w) rs Bg ks hR rk;refine sF (PySem.W.kat_kind t1 ⋯ t3 (by simp) ?_)
  have hfst:((Value.type (if F.fst=Bc then "int" else "tuple"):sN) != Value.type "tuple")=F.fst:=by
   cases hF:F.fst with
   | true=>rfl
   | false=>rfl
  rw[hfst];have W:Wk (λi j=>F.lt (rs.getD i F.d0) (rs.getD j F.d0)):=#[λa b=>FO.w.asym _ _,λa b c=>FO.w.ntr _ _ _];have ok:=Xx (n:=its.length) W ⋯
  have lt_eq:(λi j=>F.lt (rs.getD i F.d0) (rs.getD j F.d0))=(λi j=>(λ(p q:α × V)=>F.lt p.1 q.1) ((rs.zip xs).getD i (F.d0,.non)) ((rs.zip xs).getD j (F.d0,.non))):=by
   have one:∀i,((rs.zip xs).getD i (F.d0,V.non)).1=rs.getD i F.d0:=λi=>by
    by_cases hi:i<its.length
    ·have a1:i<rs.length:=⋯;have a2:i<xs.length:=⋯;rw[ae,ae,af ⋯,af a1];simp
    ·rw[ae,ae,cw ⋯,cw ⋯];rfl
   funext i j
   erw[one]
  have wp:=Kok.wp (n:=its.length) (cmp:=gK X.prog X.w A (tuples' F.fst) ks) (I:=λs'=>Inv X pz σ H s')
   (R:=λp s'=>p=J6 (λi j=>F.lt (rs.getD i F.d0) (rs.getD j F.d0)) (PySem.W.kas_sort its.length)/\Inv X pz σ H s')
   (λi j C s' hi hj I' hC=>?_) (λp s' hp I'=>#[hp,I']) _ s I (Kok.same _ ok)
  ·have run:=PySem.W.kat_run (E:=E) (vs:=its) (ks:=ks) (Q:=λst' s'=>∃p:Array Nat,p.size=its.length/\arrOf st'=p.map (PySem.W.kas_item (ks.toArray.zip its.toArray))/\failedOf st'=Bb/\_) hl ⋯ hz (λp' st' s' a1 a2 a3 a4=>#[p',a1,a2,a3,a4]) wp;refine sF (tO run ?_ λZ Z e=>e);rintro⟨⟨⟩,st'⟩ s' ⟨p,hp,har,hf,hpk,I'⟩
   (try dsimp only)
   have hout:=PySem.W.kat_snds (ks:=ks) (vs:=its) hl har;have hR1:Rg its.length p:=by rw[hpk];exact (Kok.run _ ok).1
   have g1:(p.toList.map λi=>(rs.zip xs).getD i (F.d0,.non))=srt (λp q=>F.lt p.1 q.1) (F.d0,.non) (rs.zip xs):=by
    unfold srt;rw[w9 ⋯,lz,<- lt_eq,<- hpk]
   have olen:(p.toList.map λi=>its.getD i p9).length=its.length:=by rw[aa,eK,hp]
   refine h _ _ (p.toList.map λi=>its.getD i p9) ?_ ⋯ hout hf I';rw[<- g1,cf]
   have all:∀(js:()),(∀j ∈ js,j<its.length)->Vals (js.map ((λx:α × V=>x.2) ∘ λi=>(rs.zip xs).getD i (F.d0,.non))) (js.map λi=>its.getD i p9):=by
    intro js
    induction js with
    | nil=>intro _;exact .nil
    | cons j js ih =>
     intro hj;refine .cons ?_ (ih λi hi=>hj i (av _ hi));have hjl:=hj j aB;have a1:j<xs.length:=⋯;let#[u,hu1,ru]:=xX rv (j:=j) (x:=xs[j]) (af a1)
     have e1:((rs.zip xs).getD j (F.d0,V.non)).2=xs[j]:=by
      rw[ae,af ⋯];simp
     have e2:its.getD j p9=u:=by rw[ae,hu1];rfl
     show RelV ((rs.zip xs).getD j (F.d0,V.non)).2 (its.getD j p9);rw[e1,e2];exact ru
   exact all p.toList λj hj=>Bn.mp (hR1.mem_iff.mp hj)
  ·have a1:i<rs.length:=⋯;have a2:j<rs.length:=⋯;have gi:(rs.map λa=>_root_.L3.D.tup (F.dec a))[i]? = Ba (.tup (F.dec rs[i])):=by rw[au,af a1];rfl
   have gj:(rs.map λa=>_root_.L3.D.tup (F.dec a))[j]? = Ba (.tup (F.dec rs[j])):=by rw[au,af a2];rfl
   let#[x,hx,ix]:=hR.at gi;let#[y,hy,iy]:=hR.at gj;let#[u,hu1,ru]:=xX rk hx;let#[v,hv1,rv1]:=xX rk hy;have e1:ks.getD i p9=u:=by rw[ae,hu1];rfl
   have e2:ks.getD j p9=v:=by rw[ae,hv1];rfl
   have e3:rs.getD i F.d0=rs[i]:=by rw[ae,af a1];rfl
   have e4:rs.getD j F.d0=rs[j]:=by rw[ae,af a2];rfl
   unfold gK;rw[e1,e2];refine zc3 I' hu ix iy ru rv1 (FO.ok _ _) (FO.dp _) (λhb=>?_) ?_
   ·let#[d,r,ed,hd]:=FO.sh rs[i];let#[d',r',ed',hd']:=FO.sh rs[j];rcases hd with ⟨_,n,rfl⟩ | ⟨z,_⟩
    ·rcases hd' with ⟨_,n',rfl⟩ | ⟨z,_⟩
     ·exact#[#[n,r,ed],n',r',ed']
     ·rw[hb]at z;cases z
    ·rw[hb]at z;cases z
   ·rw[FO.eq,<- e3,<- e4];exact hC s' I'
def zfN{F:KeyFam α}(FO:F.OkF){D kS:sM}{rs:List α}(hu:A.units+50<cLine)(I:Inv X ((Be ++ [(D,sW "list" #[] e1)]) ++ [(kS,sW "list" (aU ks) e)]) σ H s)(hD:X.s₀.heap.objs.size<=D)(hK:X.s₀.heap.objs.size<=kS)(nD:∀p ∈ X.pn ++ Be,p.1≠D)(nK:∀p ∈ X.pn ++ (Be ++ [(D,sW "list" #[] e1)]),p.1≠kS)(rk:Vals Bg ks)(rv:Vals xs its)(hl:ks.length=its.length)(hz:its.length<64)(hR:Iss X.K H (rs.map λa=>.tup (F.dec a)) Bg)(h:∀s' (ys:List (α × V)) (out:List sN) c,ys=srt (λp q=>F.lt p.1 q.1) (F.d0,.non) (rs.zip xs)->Vals (ys.map (·.2)) out->out.length<64->Inv X (Be ++ [(D,sW "list" (aU out) c)]) σ H s'->P (.done (.ret .none)) s') :
  sQ (model X.prog X.w) A (ksk_end D Bd its.toArray e1 (.ref kS) (aU ks)) P E s:=by
 unfold ksk_end
 erw[be,if_false]
 exact zd6 FO hu I rk rv hl hz hR λst s' out hv ho har hf I'=>zd4 I' hD hK nD nK ⋯ har ho hf λs2 c I2=>h s2 _ out c rfl hv ho I2
def qm(kc:V->Hp->VK->Prop):List V->List V->Hp->(List V->Hp->Prop)->Prop
 | [],Bg,H,Q=>Q Bg H
 | x::xs,Bg,H,Q=>kc x H (λk H'=>qm kc xs (Bg ++ [k]) H' Q)
def zcc(FO:F.Ok)(hr:Room (k+2) X.A)(hkc:∀(pins':List (sM × tZ)) (s:sP) (H:Hp) (x:V) (u:sN) (Q:VK),Inv X pins' σ H s->RelV x u->kc x H Q->sQ (model X.prog X.w) X.A.in1.in1 (call (.ref q) [u]) (EP X pins' σ Q) (λZ Z=>False) s){D kS:sM}(I:Inv X ((Be ++ [(D,sW "list" #[] e1)]) ++ [(kS,sW "list" #[] 0)]) σ H s)(hD:X.s₀.heap.objs.size<=D)(hK:X.s₀.heap.objs.size<=kS)(nD:∀p ∈ X.pn ++ Be,p.1≠D)(nK:∀p ∈ X.pn ++ (Be ++ [(D,sW "list" #[] e1)]),p.1≠kS)(rv:Vals xs its)(hz:its.length<64)(ht:qm kc xs [] H (Ui X.K F xs Q))(hP:∀s',EP X Be σ Q (.ref D) s'->P (.done (.ret .none)) s') :
  sQ (model X.prog X.w) X.A.in1.in1 (ksk_rest D (.ref q) Bd its.toArray e1 (.ref kS)) P E s:=by
 unfold ksk_rest;refine sF (AR ?_);rw[List.forIn_toArray]
 refine sF (ksk_fold (λj s'=>∃Bg ks e H',Inv X ((Be ++ [(D,sW "list" #[] e1)]) ++ [(kS,sW "list" (aU ks) e)]) σ H' s'/\Vals Bg ks/\ks.length=j/\qm kc (xs.drop j) Bg H' (Ui X.K F xs Q))
  its 0 s #[[],[],0,H,I,.nil,rfl,ht] (λj x s1 hx hJ=>?_) λs1 hJ=>?_)
 ·let#[Bg,ks,e,H1,I1,rk,hkl,tk]:=hJ;rw[eh]at hkl tk;have hjl:j<its.length:=(Bh.mp hx).1;have L3:=rv.length;let#[u,hu,ru]:=xX rv (j:=j) (x:=xs[j]) (af ⋯);rw[hx]at hu;cases hu;rw[aY ⋯]at tk;refine sF (Az (tO (hkc _ _ _ _ _ _ I1 ru tk) (λkv s2 hk=>?_) λZ Z z=>z.elim));let#[v,H2,I2,rv2,tk2]:=hk;have pk:=Inv.at_pin I2;have sb:=Heap.SameBut.update s2.heap kS (Obj.mapSeq (·.push kv));have ea:(aU ks).push kv=aU (ks ++ [kv]):=by simp
  obtain⟨c2,hc2⟩:∃c2,(s2.heap.update kS (Obj.mapSeq (·.push kv))).get? kS=Ba (sW "list" (aU (ks ++ [kv])) c2):=#[_,by rw[<- ea];exact get?_update_seq pk (·.push kv)];have I3:=Inv.repin I2 hK nK sb hc2 y4
  (try dsimp only)
  refine sF (listUpdate_at pk rfl ?_ (by rw[ak,sY];lia) (by rw[Array.size_push,ak,sY];lia));refine sH #[rfl,Bg ++ [v],ks ++ [kv],c2,H2,I3,rk.append (.cons rv2 .nil),by rw[aj,fV,hkl];lia,?_];rw[eh];exact tk2
 ·let#[Bg,ks,e,H1,I1,rk,hkl,tk]:=hJ;rw[eh]at hkl tk;have L3:=rv.length;rw[<- L3,d4]at tk;let#[rs,hR,hq]:=tk
  (try dsimp only)
  refine sF (listItems_at (Inv.at_pin I1) rfl ?_);refine zfN FO.f (by have:=hr.in1.in1.un;lia) I1 hD hK nD nK rk rv hkl hz hR λs' ys out c p1 p3 p4 I'=>hP s' ?_;have fp:=Inv.fp_of_pin I' hD nD;refine#[.ref D,_,Inv.track I'.unpinned (a:=D) (o:=.lst (ys.map (·.2))) fp #[?_,out,c,p3,Inv.at_pin I'],rfl,hq ys p1 D fp.1];rw[p3.length,sY];lia
def JD(FO:F.Ok)(hr:Room (k+2) X.A)(hkc:∀(pins':List (sM × tZ)) (s:sP) (H:Hp) (x:V) (u:sN) (Q:VK),Inv X pins' σ H s->RelV x u->kc x H Q->sQ (model X.prog X.w) X.A.in1.in1 (call (.ref q) [u]) (EP X pins' σ Q) (λZ Z=>False) s)(I:Inv X Be σ H s)(hS:SqL X.K H l xs)(hz:xs.length<64)(ht:qm kc xs [] H (Ui X.K F xs Q)) :
  sQ (model X.prog X.w) X.A (call (.builtin "sorted") [.ref l] [(cE "key",.ref q)]) (EP X Be σ Q) X.xe s:=by
 let#[its,rv,pl,_]:=I.list hS;have hlen:=rv.length;refine call_function_entry_kw kind_sorted plain_sorted entry_sorted (ksk_s1 _ _) ?_;unfold Builtin.«sorted»;refine sF (m:=checkCount "sorted" 1 1 _) (sH ?_);refine sF (collect_list pl.isList ?_ (by rw[sY];lia));refine sF (Af ?_ (by rw[sY];lia));generalize hh1:((s.heap.push (sW "list" #[] 0)).update s⁻¹ (Obj.mapSeq (· ++ its.toArray)))=h1;have sz1:h1.objs.size=s⁻¹+1:=by rw[<- hh1,dv,size_push']
 have kp1:∀b o,s.heap.get? b=Ba o->h1.get? b=Ba o:=λb o e=>by
  have hlt:b<s⁻¹:=aw e;rw[<- hh1,gv _ _ _ _ (ay hlt),Heap.get?_push_ne _ _ _ (ay hlt)];exact e
 have hoL:(h1.push (sW "list" its.toArray 0)).get? h1.objs.size=Ba (sW "list" its.toArray 0):=aE _ rfl;show sQ _ _ _ _ _ { s with heap:=h1.push (sW "list" its.toArray 0) };refine sF (tu (wpAny_call_entry_kw slot_list_sort #[_,hoL,rfl] entry_list_sort ?body (ksk_l1 _ _)));show sQ _ _ (Builtin.«list.sort» #[[.ref h1.objs.size],[(cE "key",.ref q)]]) _ _ _;rw[ksk_t1];generalize hh2:h1.push (sW "list" its.toArray 0)=h2 at hoL;have sz2:h2.objs.size=h1.objs.size+1:=by rw[<- hh2,size_push']
 have kp2:∀b o,s.heap.get? b=Ba o->h2.get? b=Ba o:=λb o e=>by rw[<- hh2];exact ag _ (kp1 b o e)
 generalize hDD:h1.objs.size=D at hoL;obtain⟨e1,ho1⟩:∃e1,(h2.update D (Obj.mapSeq λZ=>(#[]:Array sN))).get? D=Ba (sW "list" #[] e1):=#[_,get?_update_seq hoL λZ=>#[]];have hDs:s⁻¹<=D:=by rw[<- hDD,sz1];exact cP _
 have sb:=Heap.SameBut.update h2 D (Obj.mapSeq λZ=>(#[]:Array sN));unfold ksk_tree;refine sF (listItems_at hoL rfl ?_);refine sF (listUpdate_at hoL rfl ?_ (by rw[ak,sY];lia) (ar _));refine sF (seqEpoch_at ho1 rfl ?_);refine sF (wpAny_newTuple ?_ (by show its.length<=_;rw[sY];lia));refine sF (Af ?_ (ar _));refine tu ?_;generalize hh3:(h2.update D (Obj.mapSeq λZ=>(#[]:Array sN))).push (sW "tuple" its.toArray 0)=h3;have sz3:h3.objs.size=s⁻¹+3:=by rw[<- hh3,size_push',dv,sz2,sz1]
 have hoK:(h3.push (sW "list" #[] 0)).get? h3.objs.size=Ba (sW "list" #[] 0):=aE _ rfl;have hoD:(h3.push (sW "list" #[] 0)).get? D=Ba (sW "list" #[] e1):=ag _ (by rw[<- hh3];exact ag _ ho1)
 have kp3:∀b o,s.heap.get? b=Ba o->(h3.push (sW "list" #[] 0)).get? b=Ba o:=λb o e=>by
  have hlt:b<s⁻¹:=aw e;refine ag _ ?_;rw[<- hh3];exact ag _ ((sb.2 b (ay (aq hlt hDs))).trans (kp2 b o e))
 have I1:Inv X Be σ H { s with heap:=h3.push (sW "list" #[] 0) }:=I.kept (t':=s.toks) kp3;have fD:wo X Be H D:=I.fpOk ⋯ (I.hok.fresh ⋯);have fK:wo X Be H h3.objs.size:=I.fpOk ⋯ (I.hok.fresh ⋯);have I2:=Inv.newpin I1 fD hoD y4
 have nK:∀p ∈ X.pn ++ (Be ++ [(D,sW "list" #[] e1)]),p.1≠h3.objs.size:=λp hp=>by
  rcases Bl.mp hp with z | z
  ·exact fK.2.2.2.2.2 p (bz _ z)
  ·rcases Bl.mp z with z | z
   ·exact fK.2.2.2.2.2 p (aF _ z)
   ·have e:p=(D,sW "list" #[] e1):=by simpa using z
    subst e;show D≠_;lia
 have I3:=Inv.newpin I2 (b:=h3.objs.size) #[fK.1,fK.2.1,fK.2.2.1,fK.2.2.2.1,fK.2.2.2.2.1,nK] hoK y4;have hsz:=I.sz;have hK0:X.s₀.heap.objs.size<=h3.objs.size:=⋯;exact zcc FO hr hkc I3 ⋯ hK0 fD.2.2.2.2.2 nK rv ⋯ ht λs' hE=>#[_,rfl,sH #[_,rfl,hE]]
def jI(D:sM)(before:Nat)(st:SortSt):Sem PySem.Fin:=do
 let sorted:=(arrOf st).map (·.2)
 let touched:=(<- seqEpoch D) != before
 Builtin.List.listUpdate (.ref D) λZ=>sorted
 if let Ba e:=failedOf st then rule "list.sort.comparison-raised";throw e
 if touched then rule "list.sort.modified";raiseError "ValueError" "list modified during sort"
 ret .none
def zeR(K:sL):List V->Hp->VK->Prop:=λvs H Q=>∃(l:sM) (xs:List V) (α:Type) (F:KeyFam α) (rs:List α),vs=[.ref l]/\SqL K H l xs/\xs.length<64/\F.OkF/\Iss K H (rs.map λa=>.tup (F.dec a)) xs /\
 ∀D,H D=Bb->Q (.ref D) (upd H D (.lst ((srt (λp q=>F.lt p.1 q.1) (F.d0,V.non) (rs.zip xs)).map (·.2))))
def zb6{D:sM}{st:SortSt}(I:Inv X (Be ++ [(D,sW "list" #[] e1)]) σ H s)(hD:X.s₀.heap.objs.size<=D)(nD:∀p ∈ X.pn ++ Be,p.1≠D)(hout:(arrOf st).map (·.2)=aU out)(hoz:out.length<64)(hf:failedOf st=Bb)(h:∀s' c,Inv X (Be ++ [(D,sW "list" (aU out) c)]) σ H s'->P (.done (.ret .none)) s') :
  sQ (model X.prog X.w) A (jI D e1 st) P E s:=by
 have pd:=Inv.at_pin I;have s2:=Heap.SameBut.update s.heap D (Obj.mapSeq λZ=>aU out);obtain⟨c2,hc2⟩:∃c2,(s.heap.update D (Obj.mapSeq λZ=>aU out)).get? D=Ba (sW "list" (aU out) c2):=#[_,get?_update_seq pd λZ=>aU out];have I3:=Inv.repin I hD nD s2 hc2 y4;unfold jI
 (try dsimp only)
 rw[hout];refine sF (seqEpoch_at pd rfl ?_);refine sF (listUpdate_at pd rfl ?_ (ar _) (by rw[ak,sY];lia));rw[hf]
 erw[bne_self_eq_false,be,if_false]
 exact sH (h _ c2 I3)
def zd7{F:KeyFam α}(FO:F.OkF){D:sM}{rs:List α}(hu:A.units+50<cLine)(I:Inv X (Be ++ [(D,sW "list" #[] e1)]) σ H s)(hD:X.s₀.heap.objs.size<=D)(nD:∀p ∈ X.pn ++ Be,p.1≠D)(rv:Vals xs its)(hz:its.length<64)(hR:Iss X.K H (rs.map λa=>.tup (F.dec a)) xs)(h:∀s' (out:List sN) c,Vals ((srt (λp q=>F.lt p.1 q.1) (F.d0,V.non) (rs.zip xs)).map (·.2)) out->out.length<64->Inv X (Be ++ [(D,sW "list" (aU out) c)]) σ H s'->P (.done (.ret .none)) s') :
  sQ (model X.prog X.w) A (do
   let kind <- if its.toArray.size<2 then pure general' else keyKind' its.toArray
   let (Unit.unit,st) <- (if its.toArray.size<2 then pure Unit.unit else sortRuns').run (SortSt.mk' kind (its.toArray.zip its.toArray) #[] 7 Bb)
   jI D e1 st) P E s:=by exact zd6 FO hu I rv rv rfl hz hR λst s' out hv ho har hf I'=>zb6 I' hD nD har ho hf λs2 c I2=>h s2 out c hv ho I2
def zbR(hr:Room (k+2) X.A):wX X (.builtin "sorted") (zeR X.K):=by
 intros vs us Q I r1 h;let#[l,xs,α,F,rs,rfl,hS,hz,FO,hR,q]:=h;let#[u,rfl,ru]:=wK r1;cases ru;let#[its,rv,pl,_]:=I.list hS;have hlen:=rv.length;refine Calls.call_function_entry kind_sorted plain_sorted entry_sorted (args_sorted1 _) ?_;unfold Builtin.«sorted»;refine sF (m:=checkCount "sorted" 1 1 _) (sH ?_);refine sF (collect_list pl.isList ?_ (by rw[sY];lia));refine sF (Af ?_ (by rw[sY];lia));generalize hh1:((s.heap.push (sW "list" #[] 0)).update s⁻¹ (Obj.mapSeq (· ++ its.toArray)))=h1;have sz1:h1.objs.size=s⁻¹+1:=by rw[<- hh1,dv,size_push']
 have kp1:∀b o,s.heap.get? b=Ba o->h1.get? b=Ba o:=λb o e=>by
  have hlt:b<s⁻¹:=aw e;rw[<- hh1,gv _ _ _ _ (ay hlt),Heap.get?_push_ne _ _ _ (ay hlt)];exact e
 have hoL:(h1.push (sW "list" its.toArray 0)).get? h1.objs.size=Ba (sW "list" its.toArray 0):=aE _ rfl;show sQ _ _ _ _ _ { s with heap:=h1.push (sW "list" its.toArray 0) };refine sF (tu (wpAny_call_entry slot_list_sort #[_,hoL,rfl] entry_list_sort ?body (args_list_sort _)));show sQ _ _ (Builtin.«list.sort» #[[.ref h1.objs.size],[]]) _ _ _;rw[list_sort_plain];generalize hh2:h1.push (sW "list" its.toArray 0)=h2 at hoL;have sz2:h2.objs.size=h1.objs.size+1:=by rw[<- hh2,size_push']
 have kp2:∀b o,s.heap.get? b=Ba o->h2.get? b=Ba o:=λb o e=>by rw[<- hh2];exact ag _ (kp1 b o e)
 generalize hDD:h1.objs.size=D at hoL;obtain⟨e1,ho1⟩:∃e1,(h2.update D (Obj.mapSeq λZ=>(#[]:Array sN))).get? D=Ba (sW "list" #[] e1):=#[_,get?_update_seq hoL λZ=>#[]];have hDs:s⁻¹<=D:=by rw[<- hDD,sz1];exact cP _
 have sb:=Heap.SameBut.update h2 D (Obj.mapSeq λZ=>(#[]:Array sN));refine sF (listItems_at hoL rfl ?_);refine sF (listUpdate_at hoL rfl ?_ (by rw[ak,sY];lia) (ar _));refine sF (seqEpoch_at ho1 rfl ?_);refine sF (wpAny_newTuple ?_ (by show its.length<=_;rw[sY];lia));refine sF (Af ?_ (ar _));refine tu ?_;generalize hh3:(h2.update D (Obj.mapSeq λZ=>(#[]:Array sN))).push (sW "tuple" its.toArray 0)=h3;have hoD:(h3.push (sW "list" #[] 0)).get? D=Ba (sW "list" #[] e1):=ag _ (by rw[<- hh3];exact ag _ ho1)
 have kp3:∀b o,s.heap.get? b=Ba o->(h3.push (sW "list" #[] 0)).get? b=Ba o:=λb o e=>by
  have hlt:b<s⁻¹:=aw e;refine ag _ ?_;rw[<- hh3];exact ag _ ((sb.2 b (ay (aq hlt hDs))).trans (kp2 b o e))
 have I1:Inv X Be σ H { s with heap:=h3.push (sW "list" #[] 0) }:=I.kept (t':=s.toks) kp3;have fD:wo X Be H D:=I.fpOk ⋯ (I.hok.fresh ⋯);have I2:=Inv.newpin I1 fD hoD y4;have hsz:=I.sz;refine zd7 FO (by have:=hr.in1.in1.un;lia) I2 ⋯ fD.2.2.2.2.2 rv ⋯ hR λs' out c p3 p4 I'=>#[_,rfl,sH #[_,rfl,?_]];have fp:=Inv.fp_of_pin I' ⋯ fD.2.2.2.2.2;refine#[.ref D,_,Inv.track I'.unpinned (a:=D) (o:=.lst _) fp #[?_,out,c,p3,Inv.at_pin I'],rfl,q D fp.1];rw[p3.length,sY];lia
def QW(X:Cx)(N:List sS)(s:sP)(H:Hp)(qual:sS)(scope:Aj)(f:sM)(cd:sN)(cl:List (sS × sM)):Cx where
 prog:=X.prog
 w:=X.w
 K:=X.K
 mg:=X.mg
 base:=X.base
 A:=X.A.in1.in1.deeper (fo qual scope s⁻¹ f cd cl)
 N:=N
 s₀:=s
 H₀:=H
 env:=fo qual scope s⁻¹ f cd cl
 outer:=X.stack
 stack:=fo qual scope s⁻¹ f cd cl::X.stack
 ex:=[]
 calm:=Bc
 fn:=λZ=>Bd
 pn:=[]
 xe:=λZ Z=>False
structure zda(p y:sS)(scope:Aj):Prop where
 kind:scope.kind=.function
 co:scope.isCoroutine=Bd
 gen:scope.isGenerator=Bd
 nocell:∀z ∈ scope.names,z.2≠.cell
 par:scope.names.lookup p=Ba .local
 fre:scope.names.lookup y=Ba .free
 one:∀q ∈ scope.names,q.2=.free->q.1=y
 ne:p≠y
end
section
variable{X:Cx}{Be:List (sM × tZ)}{σ:L2.St}{H:Hp}{s:sP}{p y name qual:sS}{scope:Aj}{params:AM}{body:tR}{f c' c:sM}{pm ctv cv:sN}{k iy:Nat}{vy x:V}{u:sN}{Q:VK}{t:TE}
def zc6(S:zda p y scope)(hd:X.A.in1.in1.handled=Bb)(I:Inv X Be σ H s)(hy:X.N[iy]? = Ba y)(hσ:σ[iy]? = Ba (Ba vy))(hvis:X.env.scope.names.lookup y=Ba .cell)(hc:X.env.cells.lookup y=Ba c)(rx:RelV x u)(hns:h₁.Ns s⁻¹ (λz=>[(p,u)].reverse.lookup z))(hk₁:∀b o,s.heap.get? b=Ba o->h₁.get? b=Ba o) :
  Inv (QW X [p,y] s H qual scope f cv [(y,c)]) [] [Ba x,Ba vy] H { s with heap:=h₁,toks:=tk }:=by
 let#[m,hn,hl]:=I.loc;let#[uy,ry,lk]:=hl iy y vy hy hσ (.inr (.inl hvis))
 have hcell:s.heap.IsCell c (Ba uy):=by
  rcases lk with ⟨z,_⟩ | ⟨_,c2,e2,z⟩
  ·have z':X.env.scope.names.lookup y=Ba .local:=z;rw[hvis]at z';cases z'
  ·rw[hc]at e2;cases e2;exact z
 have hcell':h₁.IsCell c (Ba uy):=by
  let#[o,e,d]:=hcell;exact#[o,hk₁ _ _ e,d]
 have e0:=I.env0;have noA:∀b:sM,b ∉ (QW X [p,y] s H qual scope f cv [(y,c)]).ex:=λb z=>w4 (show b ∈ ([]:List sM)from z) (by simp)
 have lkc:∀z d,bB z [(y,c)]=Ba d->z=y/\d=c:=λz d h=>by
  rw[aZ]at h;by_cases hz:(z == y)=Bc
  ·rw[hz]at h;cases h;exact#[by simpa using hz,rfl]
  ·rw[show (z == y)=Bd by simpa using hz]at h;cases h
 have lky:bB y [(y,c)]=Ba c:=by rw[aZ];simp
 refine#[#[e0.mod,S.kind,rfl,rfl,al _,λz z' d h1 h2=>?_,λz hz=>?_,λz d h Z=>?_,λZ=>hd,Around.frames_deeper e0.frames,.inr #[rfl,rfl],λb z=>w4 z (noA b),e0.bs,e0.bsz,λb Z Z=>noA b,λb z=>w4 z (noA b),e0.funs,e0.frf],
  rfl,e0.bare,Un.kept hk₁,#[_,hns,λi z v h1 h2 h3=>?_],λz d h=>?_,e0.hok.fresh (al _),λz d h=>?_,λq hq=>w4 (show q ∈ ([]:List (sM × tZ))from hq) (by simp),e0.hok.kept hk₁,rfl]
 ·rw[(lkc _ _ h1).1,(lkc _ _ h2).1]
 ·have hz':scope.names.lookup z=Ba .cell\/scope.names.lookup z=Ba .free:=hz;rcases hz' with hz' | hz'
  ·exact w4 rfl (S.nocell _ (ce hz'))
  ·rw[show z=y from S.one _ (ce hz') rfl];exact#[c,lky]
 ·exact w4 (show (Bd:Bool)=Bc from h) ∅
 ·match i,h1,h2 with
  | 0,h1,h2 =>
   cases h1;cases h2;refine#[u,rx,.inl #[S.par,?_]];show bB p [(p,u)].reverse=Ba u;simp [bB]
  | 1,h1,h2 =>
   cases h1;cases h2;exact#[uy,ry,.inr #[.inr S.fre,c,lky,hcell']]
  | i+2,h1,h2=>simp at h2
 ·let#[_,rfl]:=lkc z d h;exact#[_,hcell']
 ·let#[_,rfl]:=lkc z d h;exact I.freeC y _ hc
def Kc(S:zda p y scope)(hr:Room (k+3) X.A)(hbind:bindArgs (cz name qual params body scope [(y,c)] pm cv ctv) #[[u],[]]=pure [(p,u)])(I:Inv X Be σ H s)(ho:s.heap.get? f=Ba { cls:=.type "function",data:=.func (cz name qual params body scope [(y,c)] pm cv ctv) }) (hcd:s.heap.CodeRec cv qual) (hy:X.N[iy]? = Ba y) (hσ:σ[iy]? = Ba (Ba vy)) (hvis:X.env.scope.names.lookup y=Ba .cell) (hc:X.env.cells.lookup y=Ba c)(rx:RelV x u) (hb:PE (QW X [p,y] s H qual scope f cv [(y,c)]) body t) (h:t [Ba x,Ba vy] H Q) :
  sQ (model X.prog X.w) X.A.in1.in1 (call (.ref f) [u]) (EP X Be σ Q) (λZ Z=>False) s:=by
 have hr2:Room (k+1) X.A.in1.in1:=hr.in1.in1;refine tV (PySem.W.kla_callFunE hr2.depth ho rfl S.co S.gen rfl hcd ?_);rw[hbind];refine sH (Ar S.nocell (λz hz=>?_) (λh₁ hns hsb=>?_) S.kind)
 ·have e:z=(p,u):=by simpa using hz
  subst e;exact S.par
 have hk₁:∀b o,s.heap.get? b=Ba o->h₁.get? b=Ba o:=λb o e=>hsb.extBut b o (ay (aw e)) (ag _ e);refine#[I.nolimit.keeps hk₁,?_];have I1:=zc6 (qual:=qual) (f:=f) (cv:=cv) (tk:=s.toks+1) S hr2.hd I hy hσ hvis hc rx hns hk₁;show tM _ _ (.expr body (fo qual scope s⁻¹ f cv [(y,c)])) _ _;refine PySem.W.kla_codeExpr (tO (hb [] _ _ H Q I1 h) (λv s' hv=>?_) λZ Z z=>False.elim z);let#[w',H',J,rw',q]:=hv;exact I.after #[w',H',J.os,J.bare,J.base,J.hok,rw',q]
end
mutual section
def cdE(c':sM)(q:sS):HO:=.ext λh=>h.CodeRec (.ref c') q
def fnE(f:sM)(o:tZ):HO:=.ext λh=>h.get? f=Ba o
def TabOk(H:Hp)(P:sM)(pos:AW)(q:sS):Prop :=
 ∃ps:Array sN,H P=Ba (.tbl ps)/\AV ps.toList/\(codeAmong pos ps.toList=Bb\/∃c',codeAmong pos ps.toList=Ba (.ref c')/\H c'=Ba (cdE c' q))
def SamT(P:sM)(H H':Hp):Prop:=∀b o,b≠P->H b=Ba o->H' b=Ba o
def LamAt(H:Hp)(f:sM)(name qual:sS)(params:AM)(body:tR)(scope:Aj)(cl:List (sS × sM)):Prop :=
 ∃(c':sM) (pm ctv:sN),H c'=Ba (cdE c' qual)/\H f=Ba (fnE f { cls:=.type "function",data:=.func (cz name qual params body scope cl pm (.ref c') ctv) })
def zeP(x:h.CodeRec (.ref c') q):ObjOk P w H h c' (cdE c' q):=by
 refine#[x,?_,λh1 h2 a k=>?_]
 ·let#[c,o,vs,t,e,g,_]:=x;cases e;exact#[o,g]
 ·let#[c,o,vs,t,e,g,r]:=a;cases e;exact#[_,o,vs,t,rfl,k o g,r]
def za8(x:h.get? f=Ba o):ObjOk P w H h f (fnE f o) :=
 #[x,#[o,x],λh1 h2 a k=>k o a]
def Inv.grow(I:Inv X Be σ H s)(hP:H P=Ba (.tbl ps))(hk:∀b u,b≠P->s.heap.get? b=Ba u->h'.get? b=Ba u)(hP':h'.get? P=Ba { cls:=.none,data:=.fields (ps ++ more) })(hc:s⁻¹<=c')(hf:s⁻¹<=f)(hcf:c'≠f)(hcr:h'.CodeRec (.ref c') q)(hfo:h'.get? f=Ba o) :
  Inv X Be σ (upd (upd (upd H P (.tbl (ps ++ more))) c' (cdE c' q)) f (fnE f o)) { s with heap:=h',toks:=tk }:=by
 have Pl:P<s⁻¹:=I.hok.lt hP;have hPc:P≠c':=ay (aq Pl hc);have hPf:P≠f:=ay (aq Pl hf)
 have old:∀b,b<s⁻¹->b≠P->(upd (upd (upd H P (.tbl (ps ++ more))) c' (cdE c' q)) f (fnE f o)) b=H b:=λb hb hbP=>by
  rw[zt (ay (aq hb hf)),zt (ay (aq hb hc)),zt hbP]
 have atP:(upd (upd (upd H P (.tbl (ps ++ more))) c' (cdE c' q)) f (fnE f o)) P=Ba (.tbl (ps ++ more)):=by
  rw[zt hPf,zt hPc,zc]
 have neP:∀b,H b=Bb->b≠P:=λb e z=>by rw[z,hP]at e;cases e
 refine I.un #[λb u e n Z Z=>hk b u (neP b n) e,λb u e n Z Z=>#[u.slots,hk b u (neP b n) e],λb u e n Z=>?_,λb u e Z=>?_,λb xs e=>?_,λb ob u e=>?_,λb qs e=>?_] λb u e=>?_
 ·rw[old b (aw e) (neP b n)];exact n
 ·by_cases hb:b=P
  ·subst hb;exact#[_,hP']
  ·exact#[u,hk b u hb e]
 ·rw[old b (I.hok.lt e) (λz=>by rw[z,hP]at e;cases e)];exact e
 ·rw[old b (I.hok.lt e) (λz=>by rw[z,hP]at e;cases e)];exact e
 ·by_cases hb:b=P
  ·subst hb;rw[hP]at e;cases e;exact#[more,atP]
  ·rw[old b (I.hok.lt e) hb];exact#[#[],by rw[e];simp]
 ·by_cases hbf:b=f
  ·subst hbf;rw[zc]at e;cases e;exact za8 hfo
  ·rw[zt hbf]at e;by_cases hbc:b=c'
   ·subst hbc;rw[zc]at e;cases e;exact zeP hcr
   ·rw[zt hbc]at e;by_cases hbP:b=P
    ·subst hbP;rw[zc]at e;cases e;exact hP'
    ·rw[zt hbP]at e;refine (I.hok b u e).stay (λd v hd g=>hk d v ?_ g) (λd g=>?_) λd xs g=>?_
     ·rcases hd with z | z
      ·rw[z];exact hbP
      ·intro z';rw[z',hP]at z;cases z
     ·rw[old d (I.hok.lt g) (λz=>by rw[z,hP]at g;cases g)];exact g
     ·rw[old d (I.hok.lt g) (λz=>by rw[z,hP]at g;cases g)];exact g
theorem qr : ∀(l:List sN),AV l->AV (l ++ [rawInt a,rawInt b,v])
 | [],_=>trivial
 | .int _ _::.int _ _::_::rest,h=>qr rest h
def Y7{h h':tB}(x:h.BuiltinsAt mg T)(k:∀b o,h.get? b=Ba o->h'.get? b=Ba o):h'.BuiltinsAt mg T:=by let#[bm,o,b1,b2,b3,b4,b5,b6]:=x;exact#[bm,o,b1,b2,b3,b4,k _ _ b5,b6]
def zan(hcode:X.env.code=.ref cc)(hC:PySem.W.CodeHd X.base cc P)(hB:X.base.BuiltinsAt X.mg P)(hgP:sI≠P)(hcl:closureFor scope X.env=pure [(y,c)])(hdef:defaultsOf params X.env=([],[]))(I:Inv X Be σ H s)(hT:TabOk H P pos (X.env.qual ++ "<lambda>"))(h:∀f H',H f=Bb->LamAt H' f "<lambda>" (X.env.qual ++ "<lambda>") params body scope [(y,c)]->TabOk H' P pos (X.env.qual ++ "<lambda>")->SamT P H H'->Q (.ref f) H') :
  sQ (model X.prog X.w) X.A (eval (.Lambda params body scope pos) X.env) (EP X Be σ Q) X.xe s:=by
 refine PySem.W.kla_eval hdef ?_;let#[ps,hP,ht,hh]:=hT;have hPo:s.heap.get? P=Ba (PySem.W.tabObj ps):=I.hok _ _ hP;have hg:=I.mod.glob.keeps I.bk;have Pl:P<s⁻¹:=I.hok.lt hP;rcases hh with hn | ⟨c',hit,hc'⟩
 ·refine PySem.W.kla_makeFunction (mg:=X.mg) hcl I.ok.glob hg hcode (hC.keeps I.bk) hPo ht hn hgP (Y7 hB I.bk) λc' ctv h' tk hx hge hlt hrec htb=>?_;have hsz:s⁻¹<=h'.objs.size:=cB (bC hge hlt)
  have I1:=Inv.grow (P:=P) (c':=c') (f:=h'.objs.size) (more:=(r9 [rawInt pos.line,rawInt pos.col,.ref c'])) (tk:=tk) (o:={ cls:=.type "function",data:=.func (cz "<lambda>" (X.env.qual ++ "<lambda>") params body scope [(y,c)] ((X.mg "__name__").getD .none) (.ref c') ctv) }) I hP
   (λb u hb e=>ag _ (hx b u hb e)) (ag _ htb) hge hsz (ay hlt) (hrec.push _) (aE _ rfl)
  have hPc:P≠c':=ay (aq Pl hge);have hPf:P≠h'.objs.size:=ay (aq Pl hsz)
  have atc:(upd (upd (upd H P (.tbl (ps ++ (r9 [rawInt pos.line,rawInt pos.col,.ref c'])))) c' (cdE c' (X.env.qual ++ "<lambda>"))) h'.objs.size (fnE h'.objs.size { cls:=.type "function",data:=.func (cz "<lambda>" (X.env.qual ++ "<lambda>") params body scope [(y,c)] ((X.mg "__name__").getD .none) (.ref c') ctv) })) c'=Ba (cdE c' (X.env.qual ++ "<lambda>")):=by
   rw[zt (ay hlt),zc]
  refine#[.ref h'.objs.size,_,I1,rfl,h _ _ (I.hok.fresh hsz) #[c',_,ctv,atc,zc] #[ps ++ (r9 [rawInt pos.line,rawInt pos.col,.ref c']),?_,?_,.inr #[c',?_,atc]] λb o hb e=>?_]
  ·rw[zt hPf,zt hPc,zc]
  ·rw[gw];exact qr _ ht
  ·rw[gw];exact codeAmong_snoc _ ht hn
  ·have hl:=I.hok.lt e;rw[zt (ay (aq hl hsz)),zt (ay (aq hl hge)),zt hb];exact e
 ·refine PySem.W.kla_makeFunctionHit (mg:=X.mg) hcl I.ok.glob hg hcode (hC.keeps I.bk) hPo ht hit (Y7 hB I.bk) λctv h' tk hk hsz=>?_;have hfr:H h'.objs.size=Bb:=I.hok.fresh hsz
  have I1:=I.laid (a:=h'.objs.size) (t':=tk) (h':=h'.push { cls:=.type "function",data:=.func (cz "<lambda>" (X.env.qual ++ "<lambda>") params body scope [(y,c)] ((X.mg "__name__").getD .none) (.ref c') ctv) })
   (o:=fnE h'.objs.size { cls:=.type "function",data:=.func (cz "<lambda>" (X.env.qual ++ "<lambda>") params body scope [(y,c)] ((X.mg "__name__").getD .none) (.ref c') ctv) })
   (λb u e=>ag _ (hk b u e)) hsz (za8 (aE _ rfl))
  have sm:=zf (o:=fnE h'.objs.size { cls:=.type "function",data:=.func (cz "<lambda>" (X.env.qual ++ "<lambda>") params body scope [(y,c)] ((X.mg "__name__").getD .none) (.ref c') ctv) }) hfr;exact#[.ref h'.objs.size,_,I1,rfl,h _ _ hfr #[c',_,ctv,sm _ _ hc',zc] #[ps,sm _ _ hP,ht,.inr #[c',hit,sm _ _ hc']] λb o Z e=>sm _ _ e]
def zfA(R:V->Hp->Prop):List V->Hp->Prop
 | [v],H=>R v H
 | _,_=>False
theorem UM : ∀{vs:List V} {H:Hp},zfA R vs H->∃v,vs=[v]/\R v H
 | [v],_,h=>#[v,rfl,h]
def zgA(P:sM)(pos:AW)(q:sS)(LA:Hp->sM->Prop):TE:=λσ H Q=>TabOk H P pos q/\∀f H',H f=Bb->LA H' f->TabOk H' P pos q->SamT P H H'->Q (.ref f) H'
def zaY{α:Type}(K:sL)(F:KeyFam α)(P:sM)(pos:AW)(q:sS)(LA:Hp->sM->Prop)(iy:Nat)(te tb:TE):TE:=λσ H Q=>te σ H λv H1=>TabOk H1 P pos q /\
 ∀f H2,H1 f=Bb->LA H2 f->TabOk H2 P pos q->SamT P H1 H2->∃l xs vy,v=.ref l/\SqL K H2 l xs/\xs.length<64/\σ[iy]? = Ba (Ba vy)/\qm (λx H Q=>LA H f/\tb [Ba x,Ba vy] H Q) xs [] H2 (Ui K F xs Q)
def zeJ(hcode:X.env.code=.ref cc)(hC:PySem.W.CodeHd X.base cc P)(hB:X.base.BuiltinsAt X.mg P)(hgP:sI≠P)(hcl:closureFor scope X.env=pure [(y,c)])(hdef:defaultsOf params X.env=([],[])) :
  PE X (.Lambda params body scope lpos) (zgA P lpos (X.env.qual ++ "<lambda>") λH f=>LamAt H f "<lambda>" (X.env.qual ++ "<lambda>") params body scope [(y,c)]):=by intros Q I h;exact zan hcode hC hB hgP hcl hdef I h.1 h.2
def zaz(FO:F.Ok)(S:zda p y scope)(hr:Room (k+3) X.A)(hg:Gl X x)(hm:X.mg x=Bb)(hv:tD x=Ba (.builtin "sorted"))(ha:PA X [e] (zM te xw))(hcode:X.env.code=.ref cc)(hC:PySem.W.CodeHd X.base cc P)(hB:X.base.BuiltinsAt X.mg P)(hgP:sI≠P)(hcl:closureFor scope X.env=pure [(y,c)])(hdef:defaultsOf params X.env=([],[]))(hbind:∀(cv pm ctv u:sN),bindArgs (cz "<lambda>" (X.env.qual ++ "<lambda>") params body scope [(y,c)] pm cv ctv) #[[u],[]]=pure [(p,u)])(hy:X.N[iy]? = Ba y)(hvis:X.env.scope.names.lookup y=Ba .cell)(hc:X.env.cells.lookup y=Ba c)(hb:∀(s:sP) (H:Hp) (f:sM) (cv:sN),Room k (QW X [p,y] s H (X.env.qual ++ "<lambda>") scope f cv [(y,c)]).A->PE (QW X [p,y] s H (X.env.qual ++ "<lambda>") scope f cv [(y,c)]) body tb)(hn:‹x≠"__name__"›)(hdb:‹(x ==("__debug__" : sS))=Bd›)(hks:‹(tE pos (tj [#[Ba "key",.Lambda params body scope lpos,kpos]] X.env)).filterMap (·.1)=[cE "key"]›)(hst:‹tw pos (sJ [e] X.env)=(Bd,eval e X.env)::tw pos (sJ [] X.env)›)(hpl:‹(tw pos (sJ [e] X.env)).any (·.1)=Bd›)(hall:‹(tE pos (tj [#[Ba "key",.Lambda params body scope lpos,kpos]] X.env)).all (·.1.isSome)=Bc›)(hkw:‹(tE pos (tj [#[Ba "key",.Lambda params body scope lpos,kpos]] X.env)).any (·.1.isNone)=Bd›) :
  PE X (.Call (.Name x pp) [e] [#[Ba "key",.Lambda params body scope lpos,kpos]] pos) (zaY X.K F P lpos (X.env.qual ++ "<lambda>") (λH f=>LamAt H f "<lambda>" (X.env.qual ++ "<lambda>") params body scope [(y,c)]) iy te tb):=by
 intros Q I h;have hlam:PE X (.Lambda params body scope lpos) (zgA P lpos (X.env.qual ++ "<lambda>") λH f=>LamAt H f "<lambda>" (X.env.qual ++ "<lambda>") params body scope [(y,c)]):=zeJ hcode hC hB hgP hcl hdef;refine tz (vK I hg hm hv ?_ hn hdb)
 have h':(zM te xw) σ H (zfA λv H1=>TabOk H1 P lpos (X.env.qual ++ "<lambda>")/\∀f H2,H1 f=Bb->LamAt H2 f "<lambda>" (X.env.qual ++ "<lambda>") params body scope [(y,c)]->TabOk H2 P lpos (X.env.qual ++ "<lambda>")->SamT P H1 H2 ->
   ∃l xs vy,v=.ref l/\SqL X.K H2 l xs/\xs.length<64/\σ[iy]? = Ba (Ba vy)/\qm (λx H Q=>LamAt H f "<lambda>" (X.env.qual ++ "<lambda>") params body scope [(y,c)]/\tb [Ba x,Ba vy] H Q) xs [] H2 (Ui X.K F xs Q)):=h
 refine callWith_kw (thn (ha pos Be s σ H _ I h') λus s1=>el5 λvs H1 I1 r1 q1=>?_) hst hpl hall hkw;let#[v,rfl,hT,q1]:=UM q1;let#[u,rfl,ru]:=wK r1
 refine thn ((JQ hlam zaI:PK X [#[Ba "key",.Lambda params body scope lpos,kpos]] _) pos Be s1 σ H1 (zfA λkv H2=>∃f,kv=.ref f/\LamAt H2 f "<lambda>" (X.env.qual ++ "<lambda>") params body scope [(y,c)] /\
   ∃l xs vy,v=.ref l/\SqL X.K H2 l xs/\xs.length<64/\σ[iy]? = Ba (Ba vy)/\qm (λx H Q=>LamAt H f "<lambda>" (X.env.qual ++ "<lambda>") params body scope [(y,c)]/\tb [Ba x,Ba vy] H Q) xs [] H2 (Ui X.K F xs Q)) I1 #[hT,λf H2 a1 a2 a3 a4=>#[f,rfl,a2,q1 f H2 a1 a2 a3 a4]]) λws s2=>el5 λzs H2 I2 r2 q2=>?_
 let#[kv,rfl,f,rfl,hLA,l,xs,vy,rfl,hS,hz,hσ,hk]:=UM q2;let#[w',rfl,rw']:=wK r2;cases rw';cases ru;rw[hks];show sQ _ _ (call (.builtin "sorted") [.ref l] [(cE "key",.ref f)]) _ _ _;refine JD FO (k:=k+1) hr (λpins' s3 H3 x3 u3 Q3 I3 r3 h3=>?_) I2 hS hz hk;let#[#[c',pm,ctv,e1,e2],h4]:=h3;have hcd:s3.heap.CodeRec (.ref c') (X.env.qual ++ "<lambda>"):=(I3.hok _ _ e1).1;have ho:=(I3.hok _ _ e2).1;exact Kc (k:=k) S hr (hbind _ _ _ _) I3 ho hcd hy hσ hvis hc r3 (hb s3 H3 f (.ref c') (hr.in1.in1.deeper _)) h4
end
section
variable{K:sL}
def SamT.of(s:Same H H'):SamT T H H':=λb o Z e=>s b o e
def SamT.trans(s:SamT T H H')(s':SamT T H' H''):SamT T H H'':=λb o n e=>s' b o n (s b o n e)
def SamT.at(s:SamT T H H')(hT:H T=Ba (.tbl ps))(e:H b=Ba o)(ho:∀qs,o≠.tbl qs):H' b=Ba o:=s b o (λz=>by rw[z,hT]at e;cases e;exact ho _ rfl) e
theorem SamT.free(s:SamT T H H')(hT:H' T=Ba o)(h:H' b=Bb):H b=Bb:=by
 cases e:H b with
 | none=>rfl
 | some u =>
  by_cases hb:b=T
  ·rw[hb,hT]at h;cases h
  ·rw[s b u hb e]at h;cases h
def SamT.seqL(s:SamT T H H')(hT:H T=Ba (.tbl ps))(h:SqL K H a xs):SqL K H' a xs:=by
 rcases h with (h | ⟨o,h⟩) | h
 ·exact .inl (.inl (s.at hT h λZ z=>by cases z))
 ·exact .inl (.inr #[o,s.at hT h λZ z=>by cases z])
 ·exact .inr h
def SamT.seqT(s:SamT T H H')(hT:H T=Ba (.tbl ps))(h:SqT K H a xs):SqT K H' a xs:=by
 rcases h with (h | ⟨o,h⟩) | h
 ·exact .inl (.inl (s.at hT h λZ z=>by cases z))
 ·exact .inl (.inr #[o,s.at hT h λZ z=>by cases z])
 ·exact .inr h
mutual
theorem Is.samT(s:SamT T H H')(hT:H T=Ba (.tbl ps)):∀(d:D) (v:V),Is K H d v->Is K H' d v
 | .non,v,h=>by erw[Is]at h ⊢;exact h
 | .bl b,v,h=>by erw[Is]at h ⊢;exact h
 | .int b,v,h=>by erw[Is]at h ⊢;exact h
 | .str b,v,h=>by erw[Is]at h ⊢;exact h
 | .lst l,v,h=>by
  erw[Is]at h ⊢
  let#[a,xs,e1,e2,e3]:=h;exact#[a,xs,e1,s.seqL hT e2,Iss.samT s hT l xs e3]
 | .tup l,v,h=>by
  erw[Is]at h ⊢
  let#[a,xs,e1,e2,e3]:=h;exact#[a,xs,e1,s.seqT hT e2,Iss.samT s hT l xs e3]
theorem Iss.samT(s:SamT T H H')(hT:H T=Ba (.tbl ps)):∀(l:List D) (vs:List V),Iss K H l vs->Iss K H' l vs
 | [],vs,h=>by erw[Iss]at h ⊢;exact h
 | d::l,vs,h=>by
  erw[Iss]at h ⊢
  let#[v,r,e1,e2,e3]:=h;exact#[v,r,e1,Is.samT s hT d v e2,Iss.samT s hT l r e3]
end
def LsA.samT(h:LsA K H a ds)(s:SamT T H H')(hT:H T=Ba (.tbl ps)):LsA K H' a ds:=by let#[xs,h1,h2]:=h;exact#[xs,s.at hT h1 (λZ z=>by cases z),Iss.samT s hT _ _ h2]
def TabOk.same{H H':Hp}{T:sM}{pos:AW}{q:sS}(h:TabOk H T pos q)(s:Same H H'):TabOk H' T pos q:=by
 let#[ps,h1,h2,h3]:=h;refine#[ps,s _ _ h1,h2,?_];rcases h3 with h3 | ⟨c',h4,h5⟩
 ·exact .inl h3
 ·exact .inr #[c',h4,s _ _ h5]
def LamAt.same{H H':Hp}{f:sM}{name qual:sS}{params:AM}{body:tR}{scope:Aj}{cl:List (sS × sM)}(h:LamAt H f name qual params body scope cl)(s:Same H H'):LamAt H' f name qual params body scope cl:=by let#[c',pm,ctv,h1,h2]:=h;exact#[c',pm,ctv,s _ _ h1,s _ _ h2]
end
section
variable{P:sU}{w:sZ}{K:sL}{mg mb:sS->Option sN}{CX:CXT}{k:Nat}{fa a T cc:sM}{fd:tW}{x:sS}{sp:Sp}{s₁:sP}{vs:List sN}{ns:List Int}{ps:Array sN}
def Yl(KX:K.In s₁.heap)(hKT:K.lookup T=Bb)(hT:s₁.heap.get? T=Ba { cls:=.none,data:=.fields ps })(hTc:AN s₁.heap T)(hns:s₁.heap.Ns sI mg)(hb:s₁.heap.Ns builtinsNs mb)(hbb:∀x:sS,x≠"__name__"->mb x=tD x)(hlim:s₁.heap.NoLimit)(hg:s₁.gens=#[])(ha:s₁.heap.get? a=Ba { cls:=.type "list",data:=.seq vs.toArray }) (hr:Room k callerA)(hbm:s₁.heap.BuiltinsAt mg T) (hcd:PySem.W.CodeHd s₁.heap cc T) (F:∀base:tB,K.In base->base.Ns sI mg->base.BuiltinsAt mg T->PySem.W.CodeHd base cc T->FnOk P w K mg base CX k fa fd [x] sp) (hbind:∀(s:sP) (u:sN),Ay s fd #[[u],[]] [(x,u)])(hCX:∀H e s',CX [] H s₁ (λZ Z Z=>False) e s'->False) (H:Hp) (h1:H T=Ba (.tbl ps)) (h2:∀b u,H b=Ba u->b=T\/(b=a/\K.lookup a=Bb/\u=.frz { cls:=.type "list",data:=.seq vs.toArray } (.lst (ns.map V.int))))(hok:HOk P w H s₁.heap) (hsp:sp [.ref a] H (λv Z=>v=.bl Bc) λZ Z Z=>False) :
  tM (model P w) callerA (.call (.ref fa) #[[.ref a],[]]) (λr s'=>r=.ok (.ret (.bool Bc))/\OldK s₁.heap s'.heap/\s'.os=s₁.os/\Ag s'.gens) s₁:=by
 have stay:∀b o,s₁.heap.get? b=Ba o->(b≠T)->(b≠a)->(QA s₁.heap H).get? b=Ba o:=λb o e n1 n2=>WS e (by
  cases q:H b with
  | none=>rfl
  | some u =>
   rcases h2 b u q with z | z
   ·exact w4 z n1
   ·exact w4 z.1 n2)
 have nsStay:∀(b:sM) (m:sS->Option sN),s₁.heap.Ns b m->(QA s₁.heap H).Ns b m:=λb m hN=>by
  let#[o,es,ep,e,d,rest]:=hN;refine#[o,es,ep,stay b o e (λz=>?_) (λz=>?_),d,rest]
  ·rw[z,hT]at e;cases e;cases d
  ·rw[z,ha]at e;cases e;cases d
 have kStay:K.In (QA s₁.heap H):=λb o e=>by
  have g:=KX b o e;refine WS g ?_
  cases q:H b with
  | none=>rfl
  | some u =>
   rcases h2 b u q with z | z
   ·rw[z,hKT]at e;cases e
   ·rw[z.1,z.2.1]at e;cases e
 have bStay:(QA s₁.heap H).BuiltinsAt mg T:=by
  let#[bm,o,b1,b2,b3,b4,b5,b6,b7,b8]:=hbm;refine#[bm,o,b1,b2,b3,b4,stay bm o b5 b4 (λz=>?_),b6,b7,b8];rw[z,ha]at b5;cases b5;simp at b6
 have cStay:PySem.W.CodeHd (QA s₁.heap H) cc T:=by
  let#[o,vs',file,tf,flags,tg,inF,text,tt,c1,c2,c3,c4,c5,c6,c7,c8,c9,c10]:=hcd;refine#[o,vs',file,tf,flags,tg,inF,text,tt,stay cc o c1 c10 (λz=>?_),c2,c3,c4,c5,c6,c7,c8,c9,c10];rw[z,ha]at c1;cases c1;simp at c2
 let#[mc,l1,l2]:=hlim;have M0:Mod K mg (QA s₁.heap H):={ kin:=kStay,glob:=nsStay _ _ hns,blt:=#[mb,nsStay _ _ hb,hbb],nolimit:=#[mc,nsStay _ _ l1,l2] };have E0:Env0 P w K mg (QA s₁.heap H) callerA [] s₁ H:={ frames:=rfl,mod:=M0,bs:=λb o e=>zcz e,bsz:=dm (Qz _ _),funs:=trivial,frf:=λb z=>(nomatch (show b ∈ ([]:List sM)from z)),hok:=hok,bare:=.of_eq hg };refine tY ((F _ kStay (nsStay _ _ hns) bStay cStay).run callerA [] s₁ H #[[.ref a],[]] [.ref a] [.ref a] (λv Z=>v=.bl Bc) (λZ Z Z=>False) hr E0 (hbind s₁ (.ref a)) (.cons rfl .nil) hsp) λr s' hq=>?_;rcases r with e | fl
 ·exact (hCX H e s' hq).elim
 rcases fl with _ | _ | _ | u
 all_goals first | exact False.elim hq | skip
 let#[v,H',e1,e2,un,hok',rv,ev]:=hq;have ev':v=V.bl Bc:=ev;subst ev';have eu:u=Value.bool Bc:=rv;subst eu;let#[more,hT2]:=un.tbls T ps h1;have hT3:s'.heap.get? T=Ba { cls:=.none,data:=.fields (ps ++ more) }:=hok' T _ hT2
 have each:∀b o,s₁.heap.get? b=Ba o->b≠T->s'.heap.get? b=Ba o:=λb o e n=>by
  cases q:H b with
  | none=>exact un.keep b o e q (λz=>(nomatch (show b ∈ ([]:List sM)from z))) (λz=>(nomatch z))
  | some ob =>
   rcases h2 b ob q with z | ⟨z,_,zz⟩
   ·exact w4 z n
   ·subst zz;have g:=(hok' b _ (un.frzs b _ _ q)).1;rw[z,ha]at e;cases e;exact g
 refine#[rfl,#[λb o e=>?_,λb o e=>?_],e1,e2]
 ·by_cases hbT:b=T
  ·subst hbT;rw[hT]at e;cases e;exact .inr (.inl #[hTc,rfl,ps,more,rfl,hT3])
  ·exact .inl (each b o e hbT)
 ·by_cases hbT:b=T
  ·subst hbT;exact#[_,hT3]
  ·exact#[o,each b o e hbT]
def Jz(KX:K.In s₁.heap)(hKT:K.lookup T=Bb)(hT:s₁.heap.get? T=Ba { cls:=.none,data:=.fields ps })(hTc:AN s₁.heap T)(hns:s₁.heap.Ns sI mg)(hb:s₁.heap.Ns builtinsNs mb)(hbb:∀x:sS,x≠"__name__"->mb x=tD x)(hlim:s₁.heap.NoLimit)(hg:s₁.gens=#[])(ha:s₁.heap.get? a=Ba { cls:=.type "list",data:=.seq vs.toArray }) (hi:AH vs ns) (hl:ns.length<=sK) (hr:Room k callerA)(hbm:s₁.heap.BuiltinsAt mg T) (hcd:PySem.W.CodeHd s₁.heap cc T) (F:∀base:tB,K.In base->base.Ns sI mg->base.BuiltinsAt mg T->PySem.W.CodeHd base cc T->FnOk P w K mg base CX k fa fd [x] sp) (hbind:∀(s:sP) (u:sN),Ay s fd #[[u],[]] [(x,u)])(hCX:∀H e s',CX [] H s₁ (λZ Z Z=>False) e s'->False) (hsp:∀H:Hp,H T=Ba (.tbl ps)->SqL K H a (ns.map V.int)->sp [.ref a] H (λv Z=>v=.bl Bc) λZ Z Z=>False) :
  tM (model P w) callerA (.call (.ref fa) #[[.ref a],[]]) (λr s'=>r=.ok (.ret (.bool Bc))/\OldK s₁.heap s'.heap/\s'.os=s₁.os/\Ag s'.gens) s₁:=by
 have rv:=Xh hi;have hlv:=hi.length
 have hTa:a≠T:=λz=>by
  rw[z,hT]at ha;cases ha
 rcases hk:K.lookup a with _ | o
 ·refine Yl (ns:=ns) KX hKT hT hTc hns hb hbb hlim hg ha hr hbm hcd F hbind hCX (upd (upd (λZ=>Bb) T (.tbl ps)) a (.frz { cls:=.type "list",data:=.seq vs.toArray } (.lst (ns.map V.int)))) ?_ (λb u e=>?_) (λb u e=>?_) ?_
  ·rw[zt (Ne.symm hTa),zc]
  ·by_cases hba:b=a
   ·subst hba;rw[zc]at e;cases e;exact .inr #[rfl,hk,rfl]
   ·rw[zt hba]at e;by_cases hbT:b=T
    ·exact .inl hbT
    ·rw[zt hbT]at e;cases e
  ·by_cases hba:b=a
   ·subst hba;rw[zc]at e;cases e;exact#[ha,by rw[aa];exact hl,vs,_,rv,ha]
   ·rw[zt hba]at e;by_cases hbT:b=T
    ·subst hbT;rw[zc]at e;cases e;exact hT
    ·rw[zt hbT]at e;cases e
  ·exact hsp _ (by rw[zt (Ne.symm hTa),zc]) (.inl (.inr #[_,zc]))
 ·have e:=KX a o hk;rw[ha]at e;cases e;refine Yl (ns:=ns) KX hKT hT hTc hns hb hbb hlim hg ha hr hbm hcd F hbind hCX (upd (λZ=>Bb) T (.tbl ps)) zc (λb u e=>?_) (λb u e=>?_) (hsp _ zc (.inr #[_,vs.toArray,_,hk,rfl,rfl,rfl,by rw[ak,hlv];exact hl,by simpa using rv]))
  ·by_cases hbT:b=T
   ·exact .inl hbT
   ·rw[zt hbT]at e;cases e
  ·by_cases hbT:b=T
   ·subst hbT;rw[zc]at e;cases e;exact hT
   ·rw[zt hbT]at e;cases e
end
end in def zce(K:sL):Bool:=K.all λp=>match p.2 with
 | ⟨.none,_,.fields _,_⟩=>Bd
 | _=>Bc
theorem Vy : ∀{K:sL},K.lookup T=Ba o->(T,o) ∈ K
 | [],h=>by cases h
 | p::K,h=>by
  rw[aZ]at h;by_cases hp:T=p.1
  ·rw[show (T == p.1)=Bc by simpa using hp]at h;cases h;rw[hp];exact aB
  ·rw[show (T == p.1)=Bd by simpa using hp]at h;exact av _ (Vy h)
theorem KI{K:sL}(e:zce K=Bc)(X:K.In h)(hT:h.get? T=Ba { cls:=.none,data:=.fields ps }):K.lookup T=Bb:=by
 cases q:K.lookup T with
 | none=>rfl
 | some o =>
  have g:=X _ _ q;rw[hT]at g;cases g;have:=Br.mp e _ (Vy q);simp at this
def walk_ofT{l:PySem.W.OpenLaw}{XP:(sS->Option sN)->tB->Prop}{K:Params->sL}{CX:sZ->CXT}{sp:sZ->sM->Sp}(hn:l.most=Ba n)(hn2:n<=sK)(hdf:d.params.defaults=[])(hr:Room k callerA)(hdin:din ∈ recsOf q)(hY:∀(w:sZ) (h:tB),YP w h->(K w.params).In h)(hno:∀w:sZ,zce (K w.params)=Bc)(F:∀(w:sZ) (mg:sS->Option sN) (fa:sM) (h:tB) (cc T:sM),(K w.params).In h->h.Ns sI mg->mg d.name=Ba (.ref fa)->(∃a o fd,mg din.name=Ba (.ref a)/\h.get? a=Ba o/\o.data=.func fd/\fd.code=.ref cc)->sI≠T ->
   ∃fd:tW,(∀(s:sP) (u:sN),Ay s fd #[[u],[]] [(x,u)]) /\
    ∀base:tB,(K w.params).In base->base.Ns sI mg->base.BuiltinsAt mg T->PySem.W.CodeHd base cc T->FnOk l.prog w (K w.params) mg base (CX w) k fa fd [x] (sp w T)) (hsp:∀(w:sZ) (H:Hp) (a:sM) (ns:List Int) (T:sM),ns.length<=n->(∀z ∈ ns,uU z)->H T=Ba (.tbl #[])->SqL (K w.params) H a (ns.map V.int)->sp w T [.ref a] H (λv Z=>v=.bl Bc) λZ Z Z=>False) (hCX:∀(w:sZ) (H:Hp) (s:sP) (e:sN) (s':sP),CX w [] H s (λZ Z Z=>False) e s'->False) :
  PySem.W.WalkO q loose XP YP l.row.toRowW d [] (λf vs=>gg f vs):=by
 refine YQ hn hdf λw s₀ s₁ mg mb fa o pm cd doc a vs ns G Y ho hd hcd hmg hobj hints hlen hb' hg=>?_;have X0:=hY w _ Y;let#[ai,oi,fdi,cc,T,m1,m2,m3,m4,m5,m6]:=G.T.tab din hdin;have hcd':PySem.W.CodeHd s₁.heap cc T:=PySem.W.CodeHd.of m5 m6;have hTo:s₁.heap.get? T=Ba { cls:=.none,data:=.fields #[] }:=m6.2;have hTc:AN s₁.heap T:=m6.isCodeTable
 have hgT:sI≠T:=λz=>by
  let#[o,es,ep,e,hd',_]:=G.T.g;rw[z,hTo]at e;cases e;cases hd'
 have hbm:s₁.heap.BuiltinsAt mg T:=by
  let#[bm,ob,b1,b2,b3,b4,b5,b6]:=G.T.bmain;refine#[bm,ob,b1,b2,λz=>?_,λz=>?_,b3,b4,b5,b6]
  ·let#[o,es,ep,e,hd',_]:=G.T.g;rw[z,e]at b3;cases b3;rw[hd']at b6;cases b6
  ·rw[z,hTo]at b3;cases b3;cases b4
 let#[fd,hbd,hF]:=F w mg fa _ cc T X0 G.T.g hmg #[ai,oi,fdi,m1,m2,m3,m4] hgT;exact Jz (T:=T) (ps:=#[]) X0 (KI (hno w) X0 hTo) hTo hTc G.T.g G.T.b G.T.builtins G.T.nolimit hg hobj hints (aH hlen hn2) hr hbm hcd' hF hbd (λH e s'=>hCX w H s₁ e s') λH h1 h2=>hsp w H a ns T hlen hb' h1 h2
def zcy{K:sL}{st:sV}(F:Fun K x qual st f fd)(hcc:fd.code=.ref cc)(S:zo N ps (zi st))(len:∀vs H Q E,sp vs H Q E->vs.length=ps.length)(hbody:∀(A:tG) (outer:List AU) (s:sP) (H:Hp) (vs:List V) (Q:VK) (E:XK),Room k (A.deeper (Ab qual (zi st) s⁻¹ f (.ref cc)))->sp vs H Q E ->
   ∃t,PSs (qX CX0 P w K mg base N qual (zi st) f (.ref cc) A outer s H E).nox (yl st) t/\t { nx:=λZ H'=>Q .non H',rt:=Q } (start N vs) H):FnOk P w K mg base CX0 (k+1) f fd ps sp:=by let#[oc,od,kV,doc,pm,an,cdv,ct,osl,rfl,lk,hcd]:=F.ex;have e:cdv=.ref cc:=hcc;subst e;refine KH lk hcd S len λA outer s H vs Q E hr hsp=>?_;let#[t,h,q]:=hbody A outer s H vs Q E hr hsp;exact#[t,h.nox,q]
end L3
namespace L3
end L3
namespace PySem
namespace F
end F
def Heap.IsRevS(h:tB)(a:sM)(x:sS)(t:AQ)(i:Int):Prop:=∃o,h.get? a=Ba o/\o.cls=.type "reversed"/\o.data=.fields (r9 [.str x t,rawInt i])
def Heap.IsRevS.typeIs{s:sP}(z:s.heap.IsRevS a x t i):s.TypeIs (.ref a) "reversed":=let #[o,ho,hc,_]:=z; #[o,ho,hc]
def Heap.IsRevS.at{h h':tB}(z:h.IsRevS a x t i)(e:∀o,h.get? a=Ba o->h'.get? a=Ba o):h'.IsRevS a x t i:=let #[o,ho,r]:=z; #[o,e _ ho,r]
end PySem
namespace L3
end L3
namespace L2
end in def Itk(lo k:Int)(n:Nat):It:=#[λi Z=>i<n,λi H x H'=>H'=H/\x=.int (lo+i * k),λi Z=>n<=i]
def X9{K:sL}(it:sM)(lo k:Int)(n:Nat):J8 P w K tg (Itk lo k n) [it] it (λi h=>Aw h it (lo+(i:Nat) * k) ((n:Int) - (i:Nat)) k) where
 mem:=by simp
 obj:=λi h st b hb=>by
  have e:b=it:=by simpa using hb
  subst e
  exact#[_,st,λv z=>by
   have z':Data.fields _=Data.cell v:=z
   cases z']
 keep:=λi h h' st k=>k it (by simp) _ st
 item:=by
  intro X hP hw hK hc i Be s σ H E I hf st hg;subst hP hw hK;let#[f0,f1,f2,f3,f4,f5]:=hf it (by simp);have W:=Walks.range (prog:=X.prog) (w:=X.w) (I.ok.hd hc) it lo k n;refine W.item i s _ _ hg st λv h' tk hv st' kk=>?_;let#[t,rfl]:=hv;have I1:Inv X Be σ H { s with heap:=h',toks:=tk }:=I.turned (λb o hb e=>kk b o ↥hb e) f0 f1 f3 f4 f5;exact#[_,rfl,XZ (s:={ s with heap:=h',toks:=tk }) (n:="range_iterator") st' rfl rfl ∅ #[.int (lo+i * k),H,I1,#[t,rfl],#[rfl,rfl],st',λb hb=>(hf b hb).1]]
 done:=by
  intro X hP hw hK hc i Be s σ H E I hf st hg;subst hP hw hK;let#[f0,f1,f2,f3,f4,f5]:=hf it (by simp);exact Am (I.ok.hd hc) st (by have:n<=i:=hg;lia) λh' eb=>#[rfl,I.turned (t':=s.toks) (λb o hb e=>eb b o hb e) f0 f1 f3 f4 f5]
 self:=λZ Z Z Z Z st h=>An st h
def zbp(h1:0<=i)(h2:i<=2 ^ 30)(h3:0<=j)(h4:j<=2 ^ 30)(h5:0<k)(h6:k<2 ^ 30):0<=p0 i j k/\p0 i j k<2 ^ 30+1:=by
 unfold p0;rw[w6 h5];split
 ·have a:=Int.ediv_nonneg (a:=j - i - 1) (b:=k) ⋯ ⋯;have b:=Int.ediv_le_self (a:=j - i - 1) k ⋯;lia
 ·lia
def zbz(h1:0<=i)(h2:i<=2 ^ 30)(h3:0<=j)(h4:j<=2 ^ 30)(h5:0<k)(h6:k<2 ^ 30):Builtin.Range.small i j k=Bc:=by
 let#[a,b]:=zbp h1 h2 h3 h4 h5 h6;unfold Builtin.Range.small
 erw[Builtin.Range.rangeFitsLong,ba,d9,decide_eq_true_eq,beq_iff_eq,h5,gt_iff_lt,if_true]
 lia
def JL{lo hi k:Int}(I:Inv X Be σ H s)(h1:0<=lo)(h2:lo<=2 ^ 30)(h3:0<=hi)(h4:hi<=2 ^ 30)(h5:0<k)(h6:k<2 ^ 30)(q:R (Itk lo k (p0 lo hi k).toNat) H):sQ (model X.prog X.w) X.A (pyIter (.ref s⁻¹)) (PIE X Be σ tg R) E { s with heap:=s.heap.push { cls:=.type "range",data:=.fields (r9 [.int lo t,.int hi u,.int k v]) },toks:=tk }:=by
 refine AC (IsRange.new ..) (zbz h1 h2 h3 h4 h5 h6) ?_;have I1:Inv X Be σ H { s with heap:=s.heap.push { cls:=.type "range",data:=.fields (r9 [.int lo t,.int hi u,.int k v]) },toks:=tk }:=I.kept λb o e=>ag _ e
 refine#[(s.heap.push { cls:=.type "range",data:=.fields (r9 [.int lo t,.int hi u,.int k v]) }).objs.size,[(s.heap.push { cls:=.type "range",data:=.fields (r9 [.int lo t,.int hi u,.int k v]) }).objs.size],_,_,H,rfl,
  I1.kept (t':=tk) λb o e=>ag _ e,X9 _ lo k (p0 lo hi k).toNat,?_,λb hb=>?_,q]
 ·have e1:lo+((0:Nat):Int) * k=lo:=by simp
  have e2:(((p0 lo hi k).toNat:Nat):Int) - ((0:Nat):Int)=p0 lo hi k:=by have:=(zbp h1 h2 h3 h4 h5 h6).1;lia
  show Aw _ _ (lo+((0:Nat):Int) * k) ((((p0 lo hi k).toNat:Nat):Int) - ((0:Nat):Int)) k;rw[e1,e2];exact aE _ rfl
 ·have e:b=(s.heap.push { cls:=.type "range",data:=.fields (r9 [.int lo t,.int hi u,.int k v]) }).objs.size:=by simpa using hb
  subst e;exact I1.fpOk (al _) (I1.hok.fresh (al _))
def ze6(ta:TA):TI:=λσ H R=>ta σ H λvs H1=>∃i j k:Int,vs=[.int i,.int j,.int k]/\(0<=i/\i<=2 ^ 30/\0<=j/\j<=2 ^ 30/\0<k/\k<2 ^ 30)/\R (Itk i k (p0 i j k).toNat) H1
theorem Q1(hg:Gl X "range")(hm:X.mg "range" = Bb)(ha:PA X [a,b,c] ta)(hs:‹sJ [a,b,c] X.env=[(Bd,eval a X.env),(Bd,eval b X.env),(Bd,eval c X.env)]›)(hs2:‹sJ [b,c] X.env=[(Bd,eval b X.env),(Bd,eval c X.env)]›) :
  PI X tg (.Call (.Name "range" p) [a,b,c] [] pos) (ze6 ta):=by
 intros R I h;refine Call_ (vK I hg hm boot_range (bO (thn (ha pos Be s σ H _ I h) λus s1=>el5 λvs H1 I1 r1 q1=>?_) (by rw[hs,hs2]) (by rw[hs2];rfl)));let#[i,j,k,e,#[q1,q2,q3,q4,q5,q6],q]:=q1;subst e
 cases r1 with
 | cons r rr =>
  cases rr with
  | cons r' rr =>
   cases rr with
   | cons r'' rr =>
    cases rr;let#[t,rfl]:=r;let#[t',rfl]:=r';let#[t'',rfl]:=r'';exact call_range_3 ⋯ (JL I1 q1 q2 q3 q4 q5 q6 q) (Or.inl (PyProof.noPylong_small ⋯))
end L2
namespace L3
open PySem L2
def CompK(lo k:Int)(n:Nat)(g:TG)(tt:TT)(te:TE)(own:Nat)(ix:())(σ:L2.St)(H1:Hp)(Q:VK)(D:sM):Prop:=YX (Itk lo k n) g tt te own ix σ H1 Q D
def zeh : qC (ze6 ta) g tt te own ix σ H Q=ta σ H λvs H1=>∃i j k:Int,vs=[.int i,.int j,.int k]/\(0<=i/\i<=2 ^ 30/\0<=j/\j<=2 ^ 30/\0<k/\k<2 ^ 30)/\∀D,H1 D=Bb->CompK i k (p0 i j k).toNat g tt te own ix σ H1 Q D:=rfl
def CompK.by{g:TG}{tt:TT}{te:TE}{own:Nat}{ix:()}{σ:L2.St}{H1:Hp}{Q:VK}{D:sM}{lo k:Int}(Pv:Nat->List V->Hp->Prop)(h0:Pv 0 [] (upd H1 D (.lst [])))(hs:∀i Bg H',i<n->Pv i Bg H'->g (.int (lo+i * k)) (vR σ own ix) H' λσ3 H3=>xm (vR σ own ix) σ3/\tt σ3 H3 λb H4=>if b=Bc then
   te σ3 H4 λv H5=>H5 D=Ba (.lst Bg)/\Bg.length<sK/\CNx n i Pv (Bg ++ [v]) (upd H5 D (.lst (Bg ++ [v])))else CNx n i Pv Bg H4) (hd:∀Bg H',Pv n Bg H'->Q (.ref D) H'):CompK lo k n g tt te own ix σ H1 Q D:=by
 refine#[λi m Bg H=>m=n - i/\i<=n/\Pv i Bg H,#[n,by simp,ar _,h0],?_];rintro i m Bg H' ⟨rfl,hi,p⟩;by_cases hlt:i<n
 ·refine .inr #[hlt,λx H2 y=>?_];let#[e,y]:=y;subst e y;exact hs i Bg _ hlt p
 ·have e:i=n:=⋯;subst e;exact .inl #[al _,hd Bg H' p]
end L3
namespace L3
open PySem.AutoSeq1 (wpAny_loadPart')
open MeetsSeq MeetsSeq2 MeetsSeq3 SeqRoads2 SeqAt
end L3
namespace L3
theorem W4{α:Type}[DecidableEq α](k:α)(v:sN)(x:α):∀kvs:List (α × sN),(kvs.map λkv=>if kv.1=k then (kv.1,v)else kv).find? (λkv=>kv.1=x)=(kvs.find? λkv=>kv.1=x).map λkv=>if kv.1=k then (kv.1,v)else kv
 | []=>rfl
 | p::kvs=>by
  have e:(if p.1=k then (p.1,v)else p).1=p.1:=by split <;> rfl
  rw[ao,dD,dD,W4 k v x kvs]
  erw[e]
  by_cases h:p.1=x
  ·simp [h]
  ·simp [h]
set_option tactic.hygienic true in
mutual section
def VR[DecidableEq α](kvs:List (α × sN))(k:α)(v:sN)(x:α):valueAt (stored kvs k v) x=if x=k then Ba v else valueAt kvs x:=by
 unfold stored valueAt;split
 ·rename_i h;rw[W4];by_cases e:x=k
  ·subst e;rw[w6 rfl];let#[p,hp,hk]:=Bz.mp h
   cases hf:kvs.find? λkv=>kv.1=x with
   | none =>
    have:=BJ.mp hf p hp;exact w4 hk this
   | some q =>
    have hq:=eC hf;have hq':q.1=x:=by simpa using hq
    simp [hq']
  ·rw[w9 e]
   cases hf:kvs.find? λkv=>kv.1=x with
   | none=>rfl
   | some q =>
    have hq:=eC hf;have hq':q.1=x:=by simpa using hq
    have:¬ q.1=k:=λz=>e (hq'.symm.trans z);simp [this]
 ·rename_i h;rw[List.find?_append];by_cases e:x=k
  ·subst e;rw[w6 rfl]
   have:kvs.find? (λkv=>kv.1=x)=Bb:=by
    rw[dI];intro p hp hk;exact h (Bz.mpr #[p,hp,hk])
   rw[this];simp
  ·have e':¬ k=x:=λz=>e z.symm;rw[w9 e];simp [e']
def kd(P:sU)(w:sZ)(a:sM)(m:sS->Option V)(n:Nat):HO:=.ext λh=>(a == sysModules)=Bd/\∃kvs:List (sS × sN),h.DictOf (bH P w) a kvs/\kvs.length<=n/\∀k,RelO (m k) (valueAt kvs k)
def UQ(hs:(a == sysModules)=Bd)(d:h.DictOf (bH P w) a kvs)(hl:kvs.length<=n)(r:∀k,RelO (m k) (valueAt kvs k)):ObjOk P w H h a (kd P w a m n) :=
 #[#[hs,kvs,d,hl,r],(let #[o,es,ep,ho,_]:=d; #[o,ho]),λh1 h2 ⟨hs,kvs,⟨o,es,ep,ho,rest⟩,z⟩ k=>#[hs,kvs,#[o,es,ep,k _ ho,rest],z]]
def Inv.beyond(I:Inv X Be σ H s):(s⁻¹ == sysModules)=Bd:=by let#[o,es,ep,e,_]:=I.ok.mod.glob;have h1:=aw e;have h2:=I.ok.bsz;have h3:=I.sz;have h4:1<=sI:=∅;have h5:1<s⁻¹:=aq (bC h4 h1) (aH h2 h3);rw[beq_eq_false_iff_ne];intro z;exact cC h5 z
def zdT(P:sU)(w:sZ):TE:=λZ H Q=>∀p,H p=Bb->Q (.ref p) (upd H p (kd P w p (λZ=>Bb) 0))
def zcS:PE X (.Dict [] [] pos) (zdT X.prog X.w):=λBe s σ H Q I h =>
 AL #[.ref s⁻¹,_,I.laid (a:=s⁻¹) (t':=s.toks) (λZ Z q=>ag _ q) (al _) (UQ (m:=λZ=>Bb) (Inv.beyond I) (Heap.DictOf.new s.heap) (al _) λZ=>trivial),rfl,h _ (I.hok.fresh (al _))]
def Inv.tdic(I:Inv X Be σ H s)(h:H a=Ba (kd X.prog X.w a m n)):(a == sysModules)=Bd/\∃kvs:List (sS × sN),s.heap.DictOf (bH X.prog X.w) a kvs/\kvs.length<=n/\∀k,RelO (m k) (valueAt kvs k):=(I.hok _ _ h).1
def zfQ(P:sU)(w:sZ):R2:=λx y H Q=>∃a m n k v,x=.ref a/\y=.str k/\H a=Ba (kd P w a m n)/\m k=Ba v/\Q v H
def zc0:IxR X (zfQ X.prog X.w):=by intro value slice Be s σ H x y v u Q I rx ry h hs;let#[a,m,n,k,z,rfl,rfl,ha,hk,q]:=h;cases rx;let#[t,rfl]:=ry;let#[_,kvs,dd,hl,r]:=Inv.tdic I ha;let#[w',hw,rw']:=RelO.some_of (v:=z) (o:=valueAt kvs k) (by rw[<- hk];exact r k);exact tail_any dd.typeIs slot_dict_getitem.lookup (AJ (knd:=bH X.prog X.w) (strKind_is _ _ _ _) dd.mapOf hw #[z,H,I.tok _,rw',q]) hs
def zdx(P:sU)(w:sZ):V->V->V->Hp->(Hp->Prop)->Prop:=λo i v H Q=>∃a m n k,o=.ref a/\i=.str k/\H a=Ba (kd P w a m n)/\n<=100000/\Q (upd H a (kd P w a (λx=>if x=k then Ba v else m x) (n+1)))
def Ku:zgk X (zdx X.prog X.w):=by
 intros o i v ov iv u Q I ro ri rv h;let#[a,m,n,k,rfl,rfl,ha,hn,q]:=h;cases ro;let#[t,rfl]:=ri;let#[hsm,kvs,dd,hl,r]:=Inv.tdic I ha;have s16:=zX;refine wpAny_setItem_pairs (knd:=bH X.prog X.w) (hsz:=by lia) (strKind_is _ _ _ _) dd λh' dd' hs=>#[_,?_,q];have he:∃q,h'.get? a=Ba q:=let #[q,_,_,hq,_]:=dd'; #[q,hq];refine I.write (x:=a) (e:=a) (by rw[ha];exact True.intro) (.inl rfl) (λb q hb z=>(hs.2 b hb).trans z) he (UQ hsm dd' (aH (stored_length_le _ _ _) ⋯) λx=>?_);rw[VR];by_cases e:x=k
 ·rw[w6 e,w6 e];exact rv
 ·rw[w9 e,w9 e];exact r x
def zen(P:sU)(w:sZ):R2:=λx y H Q=>∃a m n k,x=.str k/\y=.ref a/\H a=Ba (kd P w a m n)/\Q (.bl (m k).isNone) H
def KC:OpR X (sX .NotIn) (zen X.prog X.w):=by
 intros x y v u Q I rx ry h;let#[a,m,n,k,rfl,rfl,ha,q]:=h;let#[t,rfl]:=rx;cases ry;let#[hsm,kvs,dd,hl,r]:=Inv.tdic I ha;refine wpAny_notIn_of (knd:=bH X.prog X.w) (strKind_is _ _ _ _) hsm dd.mapOf ?_
 have e:(!(valueAt kvs k).isSome)=(m k).isNone:=by
  have:=r k
  cases hm:m k with
  | none =>
   cases hv:valueAt kvs k with
   | none=>rfl
   | some z=>rw[hm,hv]at this;exact this.elim
  | some z0 =>
   cases hv:valueAt kvs k with
   | none=>rw[hm,hv]at this;exact this.elim
   | some z=>rfl
 rw[e];exact#[.bl _,H,I.tok _,rfl,q]
def Wq(P:sU)(w:sZ)(a:sM)(kvs:List (sS × V))(ep:Nat):HO:=.ext λh=>(a == sysModules)=Bd/\∃kus:List (sS × sN),kus.map (·.1)=kvs.map (·.1)/\Vals (kvs.map (·.2)) (kus.map (·.2))/\h.DictAt (bH P w) a kus ep
def atD(kvs:List (sS × V))(k:sS):Option V:=(kvs.find? λp=>p.1=k).map (·.2)
theorem XY:∀{kvs:List (sS × V)} {kus:List (sS × sN)},kus.map (·.1)=kvs.map (·.1)->Vals (kvs.map (·.2)) (kus.map (·.2))->∀k,RelO (atD kvs k) (valueAt kus k)
 | [],[],_,_,k=>trivial
 | [],q::kus,e,_,k=>nomatch e
 | p::kvs,[],e,_,k=>nomatch e
 | p::kvs,q::kus,e,r,k=>by
  rw[ao,ao,List.cons.injEq]at e;rw[ao,ao]at r
  cases r with
  | cons r1 r2 =>
   unfold atD valueAt;rw[dD,dD,e.1];by_cases h:p.1=k
   ·rw[u6 h];exact r1
   ·rw[u9 h];exact XY e.2 r2 k
def Jw(hs:(a == sysModules)=Bd)(e:kus.map (·.1)=kvs.map (·.1))(r:Vals (kvs.map (·.2)) (kus.map (·.2)))(d:h.DictAt (bH P w) a kus ep):ObjOk P w H h a (Wq P w a kvs ep) :=
 #[#[hs,kus,e,r,d],(let #[o,es,ho,_]:=d; #[o,ho]),λh1 h2 ⟨hs,kus,e,r,o,es,ho,z⟩ k=>#[hs,kus,e,r,o,es,k _ ho,z]]
end
section
variable{X:Cx}{pos:AW}
def zfz(P:sU)(w:sZ):TE:=λZ H Q=>∀p ep,H p=Bb->Q (.ref p) (upd H p (Wq P w p [] ep))
def zby:PE X (.Dict [] [] pos) (zfz X.prog X.w):=λBe s σ H Q I h=>by
 let#[ep,d]:=(Heap.DictOf.new (knd:=bH X.prog X.w) s.heap).dictAt;exact AL #[.ref s⁻¹,_,I.laid (a:=s⁻¹) (t':=s.toks) (λZ Z q=>ag _ q) (al _) (Jw (kvs:=[]) (Inv.beyond I) rfl .nil d),rfl,h _ ep (I.hok.fresh (al _))]
def Inv.odic(I:Inv X Be σ H s)(h:H a=Ba (Wq X.prog X.w a kvs ep)):(a == sysModules)=Bd/\∃kus:List (sS × sN),kus.map (·.1)=kvs.map (·.1)/\Vals (kvs.map (·.2)) (kus.map (·.2))/\s.heap.DictAt (bH X.prog X.w) a kus ep:=(I.hok a _ h).1
def zfb(P:sU)(w:sZ):R2:=λx y H Q=>∃a kvs ep k v,x=.ref a/\y=.str k/\H a=Ba (Wq P w a kvs ep)/\atD kvs k=Ba v/\Q v H
def zcs:IxR X (zfb X.prog X.w):=by intro value slice Be s σ H x y v u Q I rx ry h hs;let#[a,kvs,ep,k,z,rfl,rfl,ha,hk,q]:=h;cases rx;let#[t,rfl]:=ry;let#[_,kus,e,r,dd]:=Inv.odic I ha;let#[w',hw,rw']:=RelO.some_of (v:=z) (o:=valueAt kus k) (by rw[<- hk];exact XY e r k);exact tail_any dd.dictOf.typeIs slot_dict_getitem.lookup (AJ (knd:=bH X.prog X.w) (strKind_is _ _ _ _) dd.dictOf.mapOf hw #[z,H,I.tok _,rw',q]) hs
def zg6(P:sU)(w:sZ):V->List V->Hp->VK->Prop:=λx vs H Q=>∃a kvs ep k v,x=.ref a/\vs=[.str k,v]/\H a=Ba (Wq P w a kvs ep)/\kvs.length<=1000/\(∀u,atD kvs k=Ba u->Q u H)/\(atD kvs k=Bb->∀ep',Q v (upd H a (Wq P w a (kvs ++ [(k,v)]) ep')))
theorem zdr:MtR X "dict.setdefault" (zg6 X.prog X.w):=by
 intros x vs v us Q I rx rv h;let#[a,kvs,ep,k,d,rfl,rfl,ha,hn,q1,q2]:=h;cases rx;let#[u1,u2,rfl,r1,r2]:=Vals.two rv;let#[t,rfl]:=r1;let#[hsm,kus,e,r,da]:=Inv.odic I ha;have hl:kus.length=kvs.length:=by have:=congrArg cQ e;rw[aa,aa]at this;exact this
 have s16:=zX;have hv:=XY e r k;refine call_meetsIn eR da.dictOf.typeIs PySem.F.entry_dict_setdefault (PySem.F.args_dict_setdefault_3 _ _ _) (kt_meets_setdefault (bH X.prog X.w) a (strKind_is _ _ k t) hsm u2) #[kus,da.dictOf,⋯,λz hz=>?_,λhz h' dd hs=>?_]
 ·rw[hz]at hv
  cases hk:atD kvs k with
  | none=>rw[hk]at hv;exact hv.elim
  | some y =>
   rw[hk]at hv;exact#[y,H,I.tok _,hv,q1 y hk]
 ·rw[hz]at hv
  have hk:atD kvs k=Bb:=by
   cases hk:atD kvs k with
   | none=>rfl
   | some y=>rw[hk]at hv;exact hv.elim
  have es:stored kus k u2=kus ++ [(k,u2)]:=by
   unfold stored;rw[w9];intro h;let#[p,hp,hpk]:=Bz.mp h;unfold valueAt at hz;rw[fQ,dI]at hz;exact hz p hp hpk
  rw[es]at dd;let#[ep',dd']:=dd.dictAt;have he:∃q,h'.get? a=Ba q:=let #[q,_,hq,_]:=dd'; #[q,hq];refine#[d,_,I.write (x:=a) (e:=a) (by rw[ha];exact True.intro) (.inl rfl) (λb q hb z=>(hs.2 b hb).trans z) he (Jw hsm ?_ ?_ dd'),r2,q2 hk ep']
  ·rw[am,am,e];rfl
  ·rw[am,am];exact r.append (.cons r2 .nil)
def zgK(P:sU)(w:sZ)(r:V->List V->Hp->VK->Prop)(to:TE)(t:TA):TE:=λσ H Q=>to σ H λx H1=>(∃a kvs ep,x=.ref a/\H1 a=Ba (Wq P w a kvs ep))/\t σ H1 λxs H2=>r x xs H2 Q
variable{o e:tR}{es:List tR}{to:TE}{t:TA}{name:sS}{apos cpos:AW}{id:String}{r:V->List V->Hp->VK->Prop}
def zeg(slot:Slot "dict" name id)(hty:typeOf (.builtin id)=pure (.type "method_descriptor"))(hm:MtR X id r)(ho:PE X o to)(ha:PA X (e::es) t)(hbase:‹attributeBase o name X.env (eval o X.env)=eval o X.env›)(hfew:((tw cpos (sJ (e::es) X.env)).all (λx=>!x.1) && (tE cpos (tj [] X.env)).all (λx=>x.1.isSome)
   && decide ((e::es).length+([]:List Ax).length+(if ([]:List Ax).isEmpty then 0 else 1)<30))=Bc:=by rfl)(hline:‹(apos.endLine == cpos.line)=Bc›) (hs:‹sJ (e::es) X.env=(Bd,eval e X.env)::sJ es X.env›) (hplain:‹(tw cpos (sJ es X.env)).any (·.1)=Bd›) :
  PE X (.Call (.Attribute o name apos) (e::es) [] cpos) (zgK X.prog X.w r to t):=by intros Q I h;refine Ao hbase hfew hline rfl (thn (ho Be s σ H _ I h) λv s1=>el5 λx H1 I1 r1=>ua2 λty q1=>?_);let#[a,kvs,ep,rfl,hA]:=ty;cases r1;let#[_,kus,_,_,dd]:=Inv.odic I1 hA;refine#["dict",id,PySem.F.plainAttrs_dict,slot,hty,dd.dictOf.typeIs,dd.dictOf.mapOf.noDict,?_];have hA:=ha cpos Be s1 σ H1 _ I1 q1;rw[hs]at hA ⊢;refine Calls.callWith_builtin (by show (Bd || (tw cpos (sJ es X.env)).any (·.1))=Bd;rw[hplain] <;> rfl) (Calls.evalArgs_plain ?_);exact thn hA λus s2=>el5 λvs H2 I2 r2 q2=>hm Be s2 σ H2 (.ref a) vs _ us Q I2 rfl r2 q2
end
mutual section
def Itd(P:sU)(w:sZ)(a:sM)(kvs:List (sS × V))(ep:Nat):It :=
 #[λi H=>i<kvs.length/\H a=Ba (Wq P w a kvs ep),λi H x H'=>H'=H/\∃p,kvs[i]? = Ba p/\x=.str p.1,λi H=>i=kvs.length/\H a=Ba (Wq P w a kvs ep)]
def QP{K:sL}(a it:sM)(kvs:List (sS × V))(ep:Nat):J8 P w K tg (Itd P w a kvs ep) [it] it (λi h=>h.IsKeyIter it a i kvs.length ep) where
 mem:=by simp
 obj:=λi h st b hb=>by
  have e:b=it:=by simpa using hb
  subst e;let#[o,e,c,d]:=st;exact#[o,e,λv z=>by rw[d]at z;cases z]
 keep:=λi h h' st k=>st.at λo e=>k it (by simp) o e
 item:=by
  intro X hP hw hK hc i Be s σ H E I hf st hg;subst hP hw hK;let#[hi,ha]:=hg;let#[f0,f1,f2,f3,f4,f5]:=hf it (by simp);let#[_,kus,e,r,dd]:=Inv.odic I ha;have hl:kus.length=kvs.length:=by have:=congrArg cQ e;rw[aa,aa]at this;exact this
  rw[<- hl]at st
  have hk:kus[i].1=kvs[i].1:=by
   have h1:=congrArg (λl=>l[i]?) e;simpa [hi,hl] using h1
  refine wpAny_pyNext_dict_item st dd (af ⋯) λkey h' hkey st' sb=>?_;have I1:Inv X Be σ H { s with heap:=h' }:=I.turned (t':=s.toks) (λb o hb e=>(sb.2 b hb).trans e) f0 f1 f3 f4 f5;let#[o,e',c,d]:=id st'
  have hr:RelV (.str kvs[i].1) key:=by
   replace hkey:(bH X.prog X.w).is kvs[i].1 key=Bc:=by rw[<- hk];exact hkey
   cases key <;> simp [bH,Value.isStrOf]at hkey;exact#[_,by rw[hkey]]
  rw[hl]at st';exact#[key,rfl,XZ (s:={ s with heap:=h' }) e' c d ∅ #[_,H,I1,hr,#[rfl,_,af hi,rfl],st',λb hb=>(hf b hb).1]]
 done:=by
  intro X hP hw hK hc i Be s σ H E I hf st hg;subst hP hw hK;let#[rfl,ha]:=hg;let#[f0,f1,f2,f3,f4,f5]:=hf it (by simp);let#[_,kus,e,r,dd]:=Inv.odic I ha;have hl:kus.length=kvs.length:=by have:=congrArg cQ e;rw[aa,aa]at this;exact this
  rw[<- hl]at st;exact wpAny_pyNext_dict_end (I.ok.hd hc) st dd (by simp) λh' eb=>#[rfl,I.turned (t':=s.toks) (λb o hb e=>eb b o hb e) f0 f1 f3 f4 f5]
 self:=λZ Z Z Z Z st h=>wpAny_pyIter_keyiter st h
def zgx(P:sU)(w:sZ)(tl:TE):TI:=λσ H R=>tl σ H λx H1=>∃a kvs ep,x=.ref a/\H1 a=Ba (Wq P w a kvs ep)/\R (Itd P w a kvs ep) H1
def zeS(hl:PE X l tl):PI X tg l (zgx X.prog X.w tl):=by
 intros R I h;refine thn (hl Be s σ H _ I h) λv s1=>el5 λx H1 I1 r1 q1=>?_;let#[a,kvs,ep,e,ha,q]:=q1;subst e;cases r1;let#[hsm,kus,e,r,dd]:=Inv.odic I1 ha;have hlen:kus.length=kvs.length:=by have:=congrArg cQ e;rw[aa,aa]at this;exact this
 refine wpAny_pyIter_dict hsm dd ?_;refine#[s1⁻¹,[s1⁻¹],_,_,H1,rfl,I1.kept (t':=s1.toks) λb o e=>ag _ e,QP a _ kvs ep,#[_,aE _ rfl,rfl,by rw[hlen];rfl],λb hb=>?_,q];have e:b=s1⁻¹:=by simpa using hb
 subst e;exact I1.fpOk (al _) (I1.hok.fresh (al _))
def CompD(P:sU)(w:sZ)(a:sM)(kvs:List (sS × V))(ep:Nat)(g:TG)(tt:TT)(te:TE)(own:Nat)(ix:())(σ:L2.St)(H1:Hp)(Q:VK)(D:sM):Prop:=YX (Itd P w a kvs ep) g tt te own ix σ H1 Q D
def zf7 : qC (zgx P w tl) g tt te own ix σ H Q=tl σ H λx H1=>∃a kvs ep,x=.ref a/\H1 a=Ba (Wq P w a kvs ep)/\∀D,H1 D=Bb->CompD P w a kvs ep g tt te own ix σ H1 Q D:=rfl
def CompD.by{g:TG}{tt:TT}{te:TE}{own:Nat}{ix:()}{σ:L2.St}{H1:Hp}{Q:VK}{D:sM}(Pv:Nat->List V->Hp->Prop)(h0:Pv 0 [] (upd H1 D (.lst [])))(hl:∀i Bg H',Pv i Bg H'->H' a=Ba (Wq P w a kvs ep))(hs:∀i p Bg H',kvs[i]? = Ba p->Pv i Bg H'->g (.str p.1) (vR σ own ix) H' λσ3 H3=>xm (vR σ own ix) σ3/\tt σ3 H3 λb H4=>if b=Bc then
   te σ3 H4 λv H5=>H5 D=Ba (.lst Bg)/\Bg.length<sK/\CNx kvs.length i Pv (Bg ++ [v]) (upd H5 D (.lst (Bg ++ [v])))else CNx kvs.length i Pv Bg H4) (hd:∀Bg H',Pv kvs.length Bg H'->Q (.ref D) H'):CompD P w a kvs ep g tt te own ix σ H1 Q D:=by
 refine#[λi m Bg H=>m=kvs.length - i/\i<=kvs.length/\Pv i Bg H,#[kvs.length,by simp,ar _,h0],?_];rintro i m Bg H' ⟨rfl,hi,p⟩;have q:=hl i Bg H' p;by_cases hlt:i<kvs.length
 ·refine .inr #[#[hlt,q],λv H2 y=>?_];let#[rfl,r,hx,rfl]:=y;exact hs i r Bg _ hx p
 ·have e:i=kvs.length:=⋯;subst e;exact .inl #[#[rfl,q],hd Bg H' p]
def qy(hc:X.calm=Bc)(S:kF X scope own caps ix)(hg:∀cl C Be s3 H3 fp,PG (yC X scope cl C (own ++ caps) Be s3 H3 fp λZ Z=>False) tg g)(ht:∀cl C Be s3 H3 fp xe,XE (yC X scope cl C (own ++ caps) Be s3 H3 fp xe) EX->PTs (yC X scope cl C (own ++ caps) Be s3 H3 fp xe) ifs tt)(hst:X.stack=X.env::X.outer/\X.env.frame=Ba X.env.locals)(hxe:XE X EX)(he:∀cl C Be s3 H3 fp xe,XE (yC X scope cl C (own ++ caps) Be s3 H3 fp xe) EX->PE (yC X scope cl C (own ++ caps) Be s3 H3 fp xe) elt te)(hc1:∀y c,cl.lookup y=Ba c->X.env.cells.lookup y=Ba c)(hc2:∀y,(y,NameKind.free) ∈ scope.names->∃c,cl.lookup y=Ba c){Q:VK}(I2:Inv X Be σ H2 s2)(T:J8 X.prog X.w X.K tg J fp it tn)(st2:tn 0 s2.heap)(f2:∀b ∈ fp,wo X Be H2 b)(q:∀D,H2 D=Bb->∃W:Nat->Nat->List V->Hp->Prop,(∃m,W 0 m [] (upd H2 D (.lst []))) /\
   ∀i m Bg H',W i m Bg H'->(J.stop i H'/\Q (.ref D) H')\/(J.go i H'/\∀x H2,J.yld i H' x H2->g x (vR σ own.length ix) H2 λσ3 H3=>xm (vR σ own.length ix) σ3/\tt σ3 H3 λb H4=>if b=Bc then
    te σ3 H4 λv H5=>H5 D=Ba (.lst Bg)/\Bg.length<sK/\∃m',m'<m/\W (i+1) m' (Bg ++ [v]) (upd H5 D (.lst (Bg ++ [v])))
    else ∃m',m'<m/\W (i+1) m' Bg H4)) {RR:sN->sM->Result->sP->Prop} (hRR:∀D C m s' H',H2 D=Bb->s'.heap.Ns C m->wo X Be H' C->Inv X Be σ H' s'->Q (.ref D) H'->RR (.ref D) C (.ok .next) s') (hRE:∀D C m s' x,s'.heap.Ns C m->(∀h',Heap.SameBut C s'.heap h'->∀cenv:AU,cenv.locals=C->sQ (model X.prog X.w) X.A (gy "comprehension.variables-let-go" x cenv:Sem sN) (λZ Z=>False) X.xe { s' with heap:=h' })->RR (.ref D) C (.error x) s') :
  sQ (model X.prog X.w) X.A (newList []) (λBg s3=>sQ (model X.prog X.w) X.A (newFunctionEnv scope X.env.globals cl [] X.env.qual Bb .none (Ba X.env)) (λcenv s4 =>
   tM (model X.prog X.w) X.A (.compStart (.ListComp elt [#[tg,iter,ifs,0]] scope pos) 0 (.ref it) Bg { cenv with scope:=relabel scope X.env }) (RR Bg cenv.locals) s4) E s3) E s2:=by
 have hD:H2 s2⁻¹=Bb:=I2.hok.fresh (al _);let#[W,#[m0,w0],turn]:=q _ hD;refine Ad (Ar S.nocell (by intro y hy;simp at hy) (λh1 hns1 hsb1=>?_) S.kind);dsimp only at hns1 hsb1 ⊢
 have I3:Inv X Be σ (upd H2 s2⁻¹ (.lst [])) { s2 with heap:=s2.heap.push { cls:=.type "list",dict:=Bb,data:=.seq ([]:List sN).toArray } } :=
  I2.lnew (its:=[]) (t':=s2.toks) .nil (ar _)
 generalize hs3:({ s2 with heap:=s2.heap.push { cls:=.type "list",dict:=Bb,data:=.seq ([]:List sN).toArray } }:sP)=s3 at I3;have e3:s2.heap.push { cls:=.type "list",dict:=Bb,data:=.seq ([]:List sN).toArray }=s3.heap:=by rw[<- hs3]
 rw[e3]at hns1 hsb1 ⊢;have k1:∀b o,s3.heap.get? b=Ba o->h1.get? b=Ba o:=λb o e=>(hsb1.2 b (ay (aw e))).trans (ag _ e);have k23:∀b o,s2.heap.get? b=Ba o->s3.heap.get? b=Ba o:=λb o e=>by rw[<- e3];exact ag _ e
 have hz:s3⁻¹=s2⁻¹+1:=by rw[<- e3,dk]
 have fpObj:∀b ∈ fp,∃o,s2.heap.get? b=Ba o:=λb hb=>let #[o,e,_]:=T.obj 0 _ st2 b hb; #[o,e];have fplt:∀b ∈ fp,b<s2⁻¹:=λb hb=>let #[o,e]:=fpObj b hb;aw e;have f3:∀b ∈ fp,wo X Be (upd H2 s2⁻¹ (.lst [])) b:=λb hb=>#[by rw[zt (ay (fplt b hb))];exact (f2 b hb).1,(f2 b hb).2]
 have I4:Inv (yC X scope cl s3⁻¹ (own ++ caps) Be s3 (upd H2 s2⁻¹ (.lst [])) fp λZ Z=>False) [] (vR σ own.length ix) (upd H2 s2⁻¹ (.lst [])) { s3 with heap:=h1,toks:=s3.toks+([]:List (sS × sN)).length } :=
  Ue S hc1 hc2 I3 f3 (λb hb=>by rw[hz];exact dj (fplt b hb)) hns1 k1
 have st4:tn 0 h1:=T.keep 0 _ _ st2 λb hb o e=>k1 b o (k23 b o e);generalize hs4:({ s3 with heap:=h1,toks:=s3.toks+([]:List (sS × sN)).length }:sP)=s4 at I4;have es4:({ s2 with heap:=h1,toks:=s2.toks+([]:List (sS × sN)).length }:sP)=s4:=by rw[<- hs4,<- hs3]
 have e4:h1=s4.heap:=by rw[<- hs4]
 have loop:tM (model X.prog X.w) X.A (.compLoop (.ListComp elt [#[tg,iter,ifs,0]] scope pos) 0 (.ref it) (.ref s2⁻¹) (compEnvC scope cl s3⁻¹ X.env)) (RR (.ref s2⁻¹) s3⁻¹) s4:=by
  let X':=yC X scope cl s3⁻¹ (own ++ caps) Be s3 (upd H2 s2⁻¹ (.lst [])) fp λZ Z=>False
  have fp':∀{H':Hp},(∀b ∈ fp,H' b=Bb)->∀b ∈ fp,wo X' [] H' b:=λ{H'} hn b hb=>by
   let#[_,a1,a2,a3,a4,a5]:=f3 b hb;refine#[hn b hb,ay (show b<s3⁻¹ from by rw[hz];exact dj (fplt b hb)),λz=>?_,.inl hb,λx c e=>a4 x c (hc1 x c e),λp hp=>?_]
   ·rcases Bk.mp (I3.stkSub b z)with e | e
    ·exact a1 e
    ·exact a2 e
   ·have:p ∈ (X.pn ++ Be) ++ []:=hp;rw[aT]at this;exact a5 p this
  refine JR (λn s'=>∃i Bg H',Inv X' [] (vR σ own.length ix) H' s'/\tn i s'.heap/\(∀b ∈ fp,H' b=Bb)/\W i n Bg H') rfl ?_ m0 #[0,[],_,I4,by rw[<- e4];exact st4,λb hb=>(f3 b hb).1,w0];rintro n s5 ⟨i,Bg,H5,I5,st5,fr5,w5⟩;refine tL ?_;rcases turn i n Bg H5 w5 with ⟨stop,qn⟩ | ⟨go,step⟩
  ·refine thn (T.done X' rfl rfl rfl hc i [] s5 _ H5 _ I5 (fp' fr5) st5 stop) λr s6 ⟨hr,I6⟩=>?_;subst hr;let#[m,hm,_]:=I6.loc;refine hRR _ _ m s6 H5 hD hm (I3.fpOk (al _) I6.free) (I3.call' (s':=s6) I6.os I6.base I6.hok I6.bare λb hb=>?_) qn;let#[_,a1,a2,a3,a4,a5]:=f3 b hb;exact#[a3,a1,a4,a5]
  ·refine thn (T.item X' rfl rfl rfl hc i [] s5 _ H5 (λZ Z=>False) I5 (fp' fr5) st5 go) λr s6 ⟨u,hr,h6⟩=>?_;subst hr;refine tL (thn h6 λZ s7=>el5 λx H7 I7 r7 q_z=>?_);let#[y7,st7,fr7]:=q_z;have I7':=I7.pinned (fp' fr7) (T.obj _ _ st7);refine tL (thn (hg _ _ _ _ _ _ _ s7 _ H7 x u _ I7' r7 (step x H7 y7)) λZ s8=>el5 λσ8 H8 I8 ks q8=>?_);refine thn (ht cl _ Be s3 (upd H2 s2⁻¹ (.lst [])) fp _ (λe s hfl=>Jd (RE:=λe s'=>RR (.ref s2⁻¹) s3⁻¹ (.error e) s') hst hxe hc1 I3 f3 hfl λm s' x a b=>hRE _ _ m s' x a b) _ s8 σ8 H8 _ (I8.wish _) q8) λb s9=>el3 λH9 I9' q9=>?_;have I9:=Inv.unwish (X:=X') I9'
   have back:∀{s':sP} {H':Hp} {acc':List V} {m':Nat},Inv X' ([] ++ YG fp s7.heap) σ8 H' s'->m'<n->W (i+1) m' acc' H'->∃m,m<n/\∃i Bg H',Inv X' [] (vR σ own.length ix) H' s'/\tn i s'.heap/\(∀b ∈ fp,H' b=Bb)/\W i m Bg H':=λ{s' H' acc' m'} J' hm w'=>by
    refine#[m',hm,i+1,acc',H',(J'.unpinned).weak ks.1 ks.2,T.keep _ _ _ st7 λb hb o e=>(J'.pin (b,o) (aF _ (aF _ (vB hb e)))).1,λb hb=>?_,w'];let#[o,e,d]:=T.obj _ _ st7 b hb;exact (J'.pin (b,o) (aF _ (aF _ (vB hb e)))).2.1
   cases b with
   | false =>
    rw[w9 aD]at q9 ⊢;let#[m',hm,w']:=q9;exact back I9 hm w'
   | true =>
    rw[w6 rfl]at q9 ⊢;refine thn (he cl _ Be s3 (upd H2 s2⁻¹ (.lst [])) fp _ (λe s hfl=>Jd (RE:=λe s'=>RR (.ref s2⁻¹) s3⁻¹ (.error e) s') hst hxe hc1 I3 f3 hfl λm s' x a b=>hRE _ _ m s' x a b) _ s9 σ8 H9 _ (I9.wish _) q9) λv s10=>el5 λy H10 I10' r10 q_z=>?_;let#[hD10,hsz,m',hm,w']:=q_z;have I10:=Inv.unwish (X:=X') I10';refine tL ?_;have:=yx (X:=X') _ s10 σ8 H10 (.ref s2⁻¹) [y] (.ref s2⁻¹) [v] (λZ H'=>H'=upd H10 s2⁻¹ (.lst (Bg ++ [y]))) I10 rfl (.cons r10 .nil) #[Bg,hD10,hsz,rfl];refine thn this λ_ s11 ⟨_,H11,I11,_,eH⟩=>?_;subst eH;exact back I11 hm w'
 have goal:tM (model X.prog X.w) X.A (.compStart (.ListComp elt [#[tg,iter,ifs,0]] scope pos) 0 (.ref it) (.ref s2⁻¹) (compEnvC scope cl s3⁻¹ X.env)) (RR (.ref s2⁻¹) s3⁻¹) s4 :=
  codeAny_compStart_list loop (T.self _ 0 s4 _ _ (by rw[<- e4];exact st4) loop)
 rw[<- es4]at goal;exact goal
def YF(hc:X.calm=Bc)(S:kF X scope own caps ix)(hst:X.stack=X.env::X.outer/\X.env.frame=Ba X.env.locals)(hxe:XE X EX)(hi:PI X tg iter wi)(hg:∀cl C Be s3 H3 fp,PG (yC X scope cl C (own ++ caps) Be s3 H3 fp λZ Z=>False) tg g)(ht:∀cl C Be s3 H3 fp xe,XE (yC X scope cl C (own ++ caps) Be s3 H3 fp xe) EX->PTs (yC X scope cl C (own ++ caps) Be s3 H3 fp xe) ifs tt)(he:∀cl C Be s3 H3 fp xe,XE (yC X scope cl C (own ++ caps) Be s3 H3 fp xe) EX->PE (yC X scope cl C (own ++ caps) Be s3 H3 fp xe) elt te)(hs:‹∀x,foldedSetIterable iter X.env x=pure x›) :
  PE X (.ListComp elt [#[tg,iter,ifs,0]] scope pos) (qC wi g tt te own.length ix):=by
 intros Q I h;let#[cl,hclos,hc1,hc2]:=ut (scope:=scope) (env:=X.env) λy hy=>I.ok.has y (S.free y hy);rw[eval_ListComp];refine Ak (use:=Bb) rfl hs hclos S.kind S.names (thn (hi Be s σ H _ I h) λv s1 h1=>thn h1 λitv s2 h2=>?_);let#[it,fp,tn,J,H2,e,I2,T,st2,f2,q]:=h2;subst e;refine qy (RR:=λBg C=>compPost (model X.prog X.w) X.A X.xe Bb (EP X Be σ Q) Bg C) hc S hg ht hst hxe he hc1 hc2 I2 T st2 f2 q ?_ ?_
 ·intro D C m s' H' _ hn fc I' qn;let#[a0,a1,a2,a3,a4,a5]:=fc;exact#[m,hn,λh' sb=>#[.ref D,H',I'.turned (t':=s'.toks) (λb o hb e=>(sb.2 b hb).trans e) a0 a1 a3 a4 a5,rfl,qn]]
 ·intro D C m s' x hn hp;exact#[m,hn,hp]
def xeN:XE X E0:=λe s h=>by
 let#[_,_,_,_,_,_,_,_,_,_,_,_,_,_,h]:=h;exact h.elim
def zfc(h:PE (X.wish λZ Z=>False) e t):PE X e t:=λBe s σ H Q I hq=>tL (thn (h Be s σ H Q (I.wish _) hq) λv s'=>el5 λx H' I' r q=>#[x,H',I'.unwish,r,q])
def zaF(h:PTs (X.wish λZ Z=>False) ifs t):PTs X ifs t:=λBe s σ H Q I hq=>tL (thn (h Be s σ H Q (I.wish _) hq) λv s'=>el3 λH' I' q=>#[H',I'.unwish,q])
def yM(hc:X.calm=Bc)(S:kF X scope own caps ix)(hi:PI X tg iter wi)(hg:∀cl C Be s3 H3 fp,PG (yC X scope cl C (own ++ caps) Be s3 H3 fp λZ Z=>False) tg g)(ht:∀cl C Be s3 H3 fp,PTs (yC X scope cl C (own ++ caps) Be s3 H3 fp λZ Z=>False) ifs tt)(he:∀cl C Be s3 H3 fp,PE (yC X scope cl C (own ++ caps) Be s3 H3 fp λZ Z=>False) elt te)(hst:‹X.stack=X.env::X.outer/\X.env.frame=Ba X.env.locals›) (hs:‹∀x,foldedSetIterable iter X.env x=pure x›) :
  PE X (.ListComp elt [#[tg,iter,ifs,0]] scope pos) (qC wi g tt te own.length ix) :=
 YF hc S hst xeN hi hg (λa b c d e f Z Z=>zaF (ht a b c d e f)) (λa b c d e f Z Z=>zfc (he a b c d e f)) hs
def XM(hN:X.N.Nodup)(hy:X.N[i]? = Ba y)(hly:Loc X.env.scope y)(hf:X.fn y=Bc\/X.env.scope.names.lookup y=Ba .local)(hc:X.calm=Bc)(S:kF X scope own caps ix)(hi:PI X tg iter wi)(hg:∀cl C Be s3 H3 fp,PG (yC X scope cl C (own ++ caps) Be s3 H3 fp λZ Z=>False) tg g)(ht:∀cl C Be s3 H3 fp,PTs (yC X scope cl C (own ++ caps) Be s3 H3 fp λZ Z=>False) ifs tt)(he:∀cl C Be s3 H3 fp,PE (yC X scope cl C (own ++ caps) Be s3 H3 fp λZ Z=>False) elt te)(hst:‹X.stack=X.env::X.outer/\X.env.frame=Ba X.env.locals›)(hsw:‹swapsWith (.ListComp elt [#[tg,iter,ifs,0]] scope pos) (Ba (.Name y py)) spos.line X.env=pure Bc›)(hs:‹∀x,foldedSetIterable iter X.env x=pure x›) :
  PS X (.Assign [.Name y py] (.ListComp elt [#[tg,iter,ifs,0]] scope pos) spos) (Zf i (qC wi g tt te own.length ix)):=by
 intros D I h;let#[cl,hclos,hc1,hc2]:=ut (scope:=scope) (env:=X.env) λy hy=>I.ok.has y (S.free y hy);rw[exec_Assign_Name_used _ _ _ _ hsw];refine sF (tK (sF ?_));show sQ _ X.A (do let _ <- comprehension (.ListComp elt [#[tg,iter,ifs,0]] scope pos) scope X.env _ (newList []) Bd (eval iter X.env) (Ba (assign (.Name y py) X.env))) _ _ s;refine sF (thn (Ak (use:=Ba (assign (.Name y py) X.env)) (Q:=λZ s'=>SP X Be D .next s') rfl hs hclos S.kind S.names (thn (hi Be s σ H _ I h) λv s1 h1=>thn h1 λitv s2 h2=>?_)) λZ s' hq=>sH (sH hq));let#[it,fp,tn,J,H2,e,I2,T,st2,f2,q]:=h2;subst e;refine qy (Q:=λx H1=>D.nx (σ.set i (Ba x)) H1) (RR:=λBg C=>compPost (model X.prog X.w) X.A X.xe (Ba (assign (.Name y py) X.env)) (λZ s'=>SP X Be D .next s') Bg C) hc S hg (λa b c d e f Z Z=>zaF (ht a b c d e f)) hst xeN (λa b c d e f Z Z=>zfc (he a b c d e f)) hc1 hc2 I2 T st2 f2 q ?_ λD C m s' x hn hp=>#[m,hn,hp];intro D' C m s' H1 hD' hn fc I1 nx;let#[a0,a1,a2,a3,a4,a5]:=fc;show sQ _ X.A (assign (.Name y py) X.env (.ref D')) _ _ s';refine AE (Xi I1 hN hy hly (v:=.ref D') rfl (λs'' I2' ⟨a,sb,ha⟩=>?_) hf)
 have hCa:C≠a:=by
  rcases ha with e | e
  ·rw[e];exact a1
  ·exact λz=>a4 _ _ e z.symm
 refine#[m,hn.sameBut sb hCa,λh' sb'=>#[_,H1,I2'.turned (t':=s''.toks) (λb o hb e=>(sb'.2 b hb).trans e) a0 a1 a3 a4 a5,nx]]
end
end L3
namespace LL
open PySem L2 L3
open L2.SqL renaming of→x4
open L2.SqT renaming of→x6
open CNx renaming mk→x8
open SamT renaming of→x9
open Iss renaming same→ja0,append→jc0
open L2.Same renaming refl→ja1
open ForR renaming «by»→ja2
open CompL renaming «by»→ja3
open ForL renaming «by»→jb0
open ForEL renaming «by»→jb1
open LsA renaming snoc→jb2
open PySem.Pv renaming boot_list→jb3,boot_str→jc1,boot_tuple→jc2
mutual section
def top(i:Nat):sV:=PySem.Challenge.pw_letterlaw_k90_whole_thin_lists_judged.main.body.getD i (.Pass #[0,0,0,0])
abbrev yK:sV:=yF (top 4) 0
abbrev yc:sV:=yF (top 5) 0
abbrev yY:sV:=top 11
abbrev vc:sV:=top 12
abbrev vU:sV:=top 13
abbrev zbF:sV:=top 14
abbrev Ww:sV:=top 16
abbrev ZM:sV:=top 17
abbrev wa:sV:=top 20
abbrev vh:sV:=top 21
abbrev vJ:sV:=top 22
abbrev wu:sV:=yF (top 23) 0
abbrev yG:sV:=yF (top 23) 1
abbrev X6:sV:=top 25
abbrev qj:sV:=top 26
abbrev JF:sV:=top 27
abbrev jQ:sV:=top 28
abbrev Z0:sV:=top 29
abbrev xT:sV:=top 30
abbrev uW:sV:=top 36
abbrev vw:sV:=top 37
abbrev vX:sV:=top 38
abbrev jE:sV:=top 39
abbrev yL:sV:=top 40
abbrev xS:sV:=top 41
abbrev xy:sV:=top 42
abbrev vd:sV:=top 43
abbrev ji:sV:=top 44
abbrev yR:sV:=top 50
abbrev wx:sV:=top 51
abbrev xj:sV:=top 52
abbrev xR:sV:=top 53
abbrev u7:sV:=top 54
abbrev wE:sV:=top 55
abbrev vF:sV:=top 58
abbrev vf:sV:=yF (top 59) 0
abbrev wv:sV:=yF (top 59) 1
abbrev vV:sV:=yF (top 59) 3
abbrev xV:sV:=yF (top 59) 5
abbrev xY:sV:=yF (top 59) 6
abbrev wA:sV:=top 62
abbrev xA:sV:=top 63
abbrev vC:sV:=top 64
abbrev wC:sV:=top 65
abbrev wD:sV:=top 66
abbrev wF:sV:=top 70
abbrev yZ:sV:=top 71
abbrev yQ:sV:=top 72
abbrev ZG:sV:=top 73
abbrev wV:sV:=yF (top 75) 0
abbrev xO:sV:=yF (top 75) 1
abbrev wQ:sV:=yF (top 75) 2
abbrev xL:sV:=yF (top 75) 3
abbrev xU:sV:=yF (top 75) 4
abbrev xl:sV:=yF (top 76) 0
abbrev Jf:sV:=top 78
abbrev Wb:sV:=top 79
abbrev ka:sV:=top 80
abbrev Jx:sV:=top 81
abbrev Wo:sV:=top 82
abbrev Wr:sV:=top 83
abbrev XH:sV:=top 84
abbrev Ut:sV:=top 85
abbrev Qp:sV:=top 86
abbrev X3:sV:=top 87
abbrev zcM:sV:=top 88
abbrev jK:sV:=top 89
abbrev vA:sV:=top 90
abbrev ZB:sV:=top 91
abbrev UE:sV:=top 92
abbrev Qr:sV:=top 93
abbrev Zi:sV:=top 94
abbrev Zp:sV:=top 95
abbrev uX:sV:=top 96
abbrev zbD:sV:=top 97
abbrev Xq:sV:=top 98
abbrev uu:sV:=top 99
abbrev ww:sV:=top 100
abbrev qb:sV:=top 101
abbrev kr:sV:=top 102
end
section
variable{P:sU}{w:sZ}{K:sL}{mg:sS->Option sN}{base:tB}
seal L2.PE L2.PS L2.PA L2.PT L2.PSs L2.PI L2.PG L2.PW L2.PGs
local macro_rules | `($a<<<$b)=>`(Df $(mkIdent `P) $(mkIdent `w) $(mkIdent `K) $(mkIdent `mg) $(mkIdent `base) CX0 $a $b)
local macro_rules | `($a>>>$b)=>`(Df $(mkIdent `P) $(mkIdent `w) $(mkIdent `K) $(mkIdent `mg) $(mkIdent `base) (CXx $(mkIdent `P) $(mkIdent `w)) $a $b)
local macro_rules | `($a&&&$b)=>`(FnOk $(mkIdent `P) $(mkIdent `w) $(mkIdent `K) $(mkIdent `mg) $(mkIdent `base) CX0 $a $(mkIdent `f) $(mkIdent `fd) $b)
local macro_rules | `($a|||$b)=>`(FnOk $(mkIdent `P) $(mkIdent `w) $(mkIdent `K) $(mkIdent `mg) $(mkIdent `base) (CXx $(mkIdent `P) $(mkIdent `w)) $a $(mkIdent `f) $(mkIdent `fd) $b)
local macro_rules | `(!!$a)=>`(Ba (.ref $a))
local macro_rules | `(~~~$a)=>`(Ba (.str (tx $a)))
local macro_rules | `(-~~~$a)=>`(Ba (.int (($a):Nat)))
local macro_rules | `(~~~!$a)=>`(Ba (.int $a))
local macro_rules | `($a^^^$b)=>`(Fun $(mkIdent `K) $a $a $b $(mkIdent `f) $(mkIdent `fd))
end in abbrev sQz(n:Nat)(a:List PySem.Str)(s:PySem.Stmt):=zo a (a.take n) (zi s)
local macro_rules | `(tactic| rfl')=>do
 let A0←("zfX zfv zge zft zfO zfY zfZ zfG zgq zgi zbE zdc zbL zf0 zgw zgd zf1 zfI zcW zcK zb4 zc5 zcT zbG zcY zbU zcd zgt zgm zfx zfH zfE zgj zfq zfw zbK zb2 zcr zc9 zcG zdb zcx zcF".splitOn " ").toArray.mapM fun s=>`(Lean.Parser.Tactic.simpLemma| ↓$(mkIdent s.toName):ident)
 let A1←("zfl KJ zbm zfk V3 tOp tUn tC ud zM xw tCB zdm yv KR zdh zfj tOr QF Jh kJ tIf rI rI0 rU rGe zdC uI zaQ zdj zdz zd5 tSl ZN Xj Uq zef tBM zff zb9 zc1 L2.start zgo cxK cxP cxW ao aI aG bI cM eO Nat.reduceAdd Nat.reduceSub dc dM aM aN bg bE vR fq ft".splitOn " ").toArray.mapM fun s=>`(Lean.Parser.Tactic.simpLemma| $(mkIdent s.toName):ident)
 let A2←("zey zbg zaM zbu zgV zfX zfv zge zft zfO zfY zfZ zfG zgq zgi zbE zdc zbL zf0 zgw zgd zf1 zfI zcW zcK zb4 zc5 zcT zbG zcY zbU zcd zgt zgm zfx zfH zfE zgj zfq zfw zbK zb2 zcr zc9 zcG zdb zcx zcF".splitOn " ").toArray.mapM fun s=>`(Lean.Parser.Tactic.simpLemma| ↓$(mkIdent s.toName):ident)
 let A3←("zfl vR fq ft rU Zf zaN ze3 ze4 KJ zbm zfk V3 tOp tUn Qs tC ud zM xw tCB zdm yv KR zdh zfj tOr QF Jh kJ tIf rI rI0 rEq_is rNe_is zdC uI zaQ zdz zd5 zdj tSl ZN Xj rGe decide_false decide_true Prod.mk.injEq rLen_is ze8 zfd UH Ky Q6 tyV tBM zff if_true if_false be decide_eq_true_eq decide_eq_false_iff_not dP gq fY lt1 Uq zef zdn Yy zdg Xp XD zdq zeY zeA zdM zds zdL Value.ref.injEq L2.start zec zdN zgR zgN zgF zeG zgO zb9 zc1 zg1 UK zeo zdl zgl Zk Q8 Ye yV j2 zI zgo zbl ze5 cxK cxP cxW ao aI aG bI cM eO Nat.reduceAdd Nat.reduceSub and_assoc zeq exists_eq exists_eq' exists_eq_left' exists_eq_left exists_eq_right exists_eq_right' exists_and_left exists_and_right V.int.injEq V.ref.injEq V.str.injEq V.bl.injEq V.ty.injEq reduceCtorEq false_and and_false true_and and_true or_false false_or exists_false exists_const dc dM Option.some.injEq aM aN List.cons.injEq aT bg bE za7 za5 zbe zbn".splitOn " ").toArray.mapM fun s=>`(Lean.Parser.Tactic.simpLemma| $(mkIdent s.toName):ident)
 `(tactic| first | (dsimp only[$A0,*,$A1,*];try simp only[$A2,*,$A3,*]) | simp only[$A2,*,$A3,*])
local macro_rules | `(tactic| ac_rfl)=>do
 let A0←("yq zB zL yw yy zC".splitOn " ").toArray.mapM fun s=>`(Lean.Parser.Tactic.simpLemma| $(mkIdent s.toName):ident)
 `(tactic| repeat (first | rfl' | simp only[$A0,*]))
mutual section
def nmB{α β:Type}{P B:α->β->Prop}(h:∀G:α->β->Prop,G=B->∀a b,P a b->G a b):∀a b,P a b->B a b:=h _ rfl
def nmC{α β γ:Type}{P B:α->β->γ->Prop}(h:∀G:α->β->γ->Prop,G=B->∀a b c,P a b c->G a b c):∀a b c,P a b c->B a b c:=h _ rfl
def nmE{α β γ δ ε:Type}{P R S B:α->β->γ->δ->ε->Prop}(h:∀G:α->β->γ->δ->ε->Prop,G=B->∀a b c d e,P a b c d e->R a b c d e->S a b c d e->G a b c d e):∀a b c d e,P a b c d e->R a b c d e->S a b c d e->B a b c d e:=h _ rfl
def xe0 : XE X E0:=λe s h=>by
 let#[_,_,_,_,_,_,_,_,_,_,_,_,_,_,h]:=h;exact h.elim
def small(l:()):Prop:=∀c ∈ l,97<=c/\c<=122
instance (l:()):Decidable (small l):=by unfold small;infer_instance
def kj(l:()):Bool:=decide (1<=l.length/\l.length<=6/\small l/\l.Nodup)
def ZE:Sp:=λvs H Q Z=>∃c:Nat,vs=[⇑[c]]/\Q (.bl (decide (97<=c/\c<=122))) H
def KT:sQz 1 ["sign"] yY:=by nofun
def Kf(F:("is_small_letter"^^^yY)):(1&&&["sign"]) ZE:=by
 exists F.ok KT
 ·let#[c,rfl,q]:=h;refine#[_,(ze (zl (Vs wJ wJ z6 (pv 0) z6))),?_];have ea:cs (("a" : sS))=[97]:=rfl;have ez:cs (("z" : sS))=[122]:=rfl
  rfl'
  erw[ea,ez,j2,lt1]
  refine yb (λh=>?_) λh=>?_
  ·have e:decide (97<=c/\c<=122)=!decide (122<c):=by
    by_cases h2:122<c
    ·rw[u6 h2,u9 ⋯];rfl
    ·rw[u9 h2,u6 ⋯];rfl
   rw[e]at q;exact q
  ·rw[u9 ⋯]at q;exact q
structure zgS(K:sL)(mg:sS->Option sN)(C:sM):Prop where
 xi:XI K C
 ini:ah K (.ref C) "__init__" = Ba (Ba (.builtin "ValueError.__init__"))
 g:mg "NoLetters" = Ba (.ref C)
 most:∃t,mg "MOST_LETTERS" = Ba (.int 6 t)
def wB(C:sM):Sp:=λvs H Q E=>∃l:(),vs=[⇑l]/\l.length<=1000/\(kj l=Bc->Q ⇑l H)/\(kj l=Bd->E (.ref C) Bb H)
def nP:sQz 1 ["text","sign"] vc:=by nofun
def Zl(B:Bt mg)(T:zgS K mg C)(F:("letters_of"^^^vc))(Ds:(1<<<"is_small_letter") ["sign"] [] ZE):(2|||["text"]) (wB C):=by
 exists Fun.okX F nP,0
 ·let#[l,rfl,hl,q1,q2]:=h;let#[t6,g6]:=T.most
  refine#[_,(zG (zJ (yf (qM wJ wJ zd (zA B.len (pv 0)) (yI (v:=.int 6) rfl g6 #[t6,rfl]))) (ze (ym hx rfl T.xi.toXC T.ini rfl T.g (za z6 zg)))
    zr) (zG (zR PassesOwn.leaving rfl (Yx (pv 0)) (zq (i:=1) nP.nd rfl (.inl rfl)) (zG (zJ (yf (WI (cl0 Ds hr .nil rfl (za (pv 1) zg)) (λZ=>rfl))) (ze (ym hx rfl T.xi.toXC T.ini rfl T.g (za z6 zg)))
     zr) (ze (zJ (zv Xb (wf bK PySem.F.slot_str_count PySem.F.type_str_count zcL (pv 0) (za (pv 1) zg)) zd (zx _)) (ze (ym hx rfl T.xi.toXC T.ini rfl T.g (za z6 zg)))
     zr)))) (ze (zl (pv 0))))),?_]
  have s16:=zX
  rfl'
  have bad:(¬ (1<=l.length/\l.length<=6/\small l/\l.Nodup))->∀H':Hp,H'=H->E (.ref C) Bb H':=λh H' e=>by
   rw[e];exact q2 (u9 h)
  refine#[⋯,yb (λc=>yb (λc2=>#[⋯,bad (λh=>by have:=h.2.1;lia) H rfl]) (λc2=>?_)) (λc=>#[⋯,bad (λh=>by have:=h.1;lia) H rfl])];refine ForS.by (λi σ H'=>H'=H/\∃v,σ=[~~~l,v]/\small (l.take i)/\∀c ∈ l.take i,l.count c<=1) #[rfl,Bb,rfl,λc h=>w4 h (by simp),λc h=>w4 h (by simp)] ?_ ?_
  ·refine nm4 ?_;rintro i c σ H' hg ⟨eH,v,rfl,hs,hn⟩:_;have hc:=ac hg;right
   rfl'
   erw[ZE]
   rfl'
   refine yb (λh=>#[⋯,bad (λz=>by have:=z.2.2.1 c hc;lia) _ eH]) (λh=>yb (λh2=>#[⋯,bad (λz=>?_) _ eH]) (λh2=>#[eH,?_,?_]))
   ·have:=BK.mp z.2.2.2 c;lia
   ·rw[zP hg];intro x hx;rcases Bl.mp hx with q | q
    ·exact hs x q
    ·have:x=c:=by simpa using q
     subst this;lia
   ·rw[zP hg];intro x hx;rcases Bl.mp hx with q | q
    ·exact hn x q
    ·have:x=c:=by simpa using q
     subst this;lia
  ·refine nmB ?_;rintro σ H' ⟨eH,v,rfl,hs,hn⟩:_;rw[aJ]at hs hn;right
   rfl'
   rw[eH];refine q1 (u6 #[⋯,⋯,hs,BK.mpr λc=>?_]);by_cases hc:c ∈ l
   ·exact hn c hc
   ·rw[List.count_eq_zero.mpr hc];lia
def zw(l:())(k:Int)(p:()):Bool:=decide (0<=k/\k+p.length<=l.length/\(l.drop k.toNat).take p.length=p)
def wS:Sp:=λvs H Q Z=>∃(l p:()) (k:Int),vs=[⇑l,.int k,⇑p]/\l.length<=10000/\p.length<=10000/\Q (.bl (zw l k p)) H
def ZS(h1:l.length<=10000)(h2:p.length<=10000)(h:Q (.bl (zw l k p)) H):wS [⇑l,.int k,⇑p] H Q E:=#[l,p,k,rfl,h1,h2,h]
def Yh:sQz 3 ["word","place","part"] vU:=by nofun
def Xf(B:Bt mg)(F:("stands_at"^^^vU)):(1&&&["word","place","part"]) wS:=by
 exists F.ok Yh
 ·let#[l,p,k,rfl,hl,hp,q]:=h
  refine#[_,(zG (zJ (yf (qM wJ wJ zd (pv 1) (zD wn (zA B.len (pv 0)) (zA B.len (pv 2))))) (ze (zl yt))
    zr) (ze (zl (yi xx (zQ yJ (pv 0) (zO (pv 1)) (zO (zD z7 (pv 1) (zA B.len (pv 2))))) (pv 2) (zx _))))),?_]
  have s16:=zX
  rfl'
  have no:¬ (0<=k/\k+p.length<=l.length/\(l.drop k.toNat).take p.length=p)->Q (.bl Bd) H:=λh=>by
   have e:zw l k p=Bd:=u9 h;rw[e]at q;exact q
  refine yb (λh0=>#[⋯,⋯,yb (λh1=>no λh=>w4 h.2.1 ⋯) λh1=>#[⋯,⋯,?_]]) λh0=>no λh=>h0 h.1;rw[Yc _ h0 ⋯ ⋯];have e:(k+(p.length:Int) - k).toNat=p.length:=⋯;rw[e]
  have e2:zw l k p=decide ((l.drop k.toNat).take p.length=p):=by
   unfold zw;exact decide_eq_decide.mpr #[λh=>h.2.2,λh=>#[h0,⋯,h]]
  rw[<- e2];exact q
def yX(l:())(k:Int)(o n:()):():=l.take k.toNat ++ n ++ l.drop (k.toNat+o.length)
def yA(h:zw l k o=Bc):l.take k.toNat ++ o ++ l.drop (k.toNat+o.length)=l/\(l.take k.toNat).length=k.toNat/\0<=k/\k+o.length<=l.length:=by
 unfold zw at h;rw[decide_eq_true_eq]at h;let#[h0,h1,h2]:=h;refine#[?_,by rw[aC];lia,h0,h1]
 have e:l.drop k.toNat=o ++ l.drop (k.toNat+o.length):=by
  have:=bY o.length (l.drop k.toNat);rw[h2,eS]at this;exact this.symm
 rw[aQ,<- e,bY]
def WV(n:())(h:zw l k o=Bc):zw (yX l k o n) k n=Bc/\yX (yX l k o n) k n o=l:=by
 let#[e,hl,h0,h1]:=yA h
 have e1:(yX l k o n).take k.toNat=l.take k.toNat:=by
  unfold yX;rw[aQ,bx ⋯,aW ⋯]
 have e2:(yX l k o n).drop k.toNat=n ++ l.drop (k.toNat+o.length):=by
  unfold yX;rw[aQ,cK ⋯,bf ⋯,bg]
 have e3:(yX l k o n).length=l.length - o.length+n.length:=by
  unfold yX
  erw[aj,aS,hl]
  lia
 refine#[?_,?_]
 ·unfold zw;refine u6 #[h0,⋯,?_];rw[e2,bx ⋯,aW ⋯]
 ·show (yX l k o n).take k.toNat ++ o ++ (yX l k o n).drop (k.toNat+n.length)=l;rw[e1,<- eS,e2,cK ⋯,bf ⋯,bg];exact e
def zcp(h0:0<=k):cut l Bb (Ba k) ++ n ++ cut l (Ba (k + ↑o.length)) Bb=yX l k o n:=by rw[uj _ h0,xq _ ⋯];have:(k+(o.length:Int)).toNat=k.toNat+o.length:=⋯;rw[this];rfl
structure TNU(K:sL)(mg:sS->Option sN)(C:sM):Prop where
 xi:XI K C
 g:mg "NoUse" = Ba (.ref C)
 na:NoAttr K C "at"
def ZX:sQz 2 ["self","at"] yK:=by nofun
def Z1(T:TNU K mg C)(F:Fun K "__init__" "NoUse.__init__" yK f fd):(1&&&["self","at"]) (um C "at"):=by
 exists F.ok ZX
 ·let#[x,v,rfl,hx,q]:=h;refine#[_,(ze (JN (pv 0) (pv 1) rfl)),?_]
  erw[zbw]
  rfl'
  exact#[C,hx,T.xi.toXC,T.na,q]
structure DNU(P:sU)(w:sZ)(K:sL)(mg:sS->Option sN)(base:tB)(C:sM):Prop extends TNU K mg C where
 ini:∃f fd,ah K (.ref C) "__init__" = Ba (Ba (.ref f))/\bc K (.ref f)=Bc/\(1&&&["self","at"]) (um C "at")/\Binds K fd ["self","at"] []
def Vp(C:sM):Sp:=λvs H Q E=>∃(l o n:()) (k:Int),vs=[⇑l,.int k,⇑o,⇑n]/\l.length<=10000/\o.length<=10000/\n.length<=10000/\(zw l k o=Bc->Q ⇑(yX l k o n) H)/\(zw l k o=Bd->∀d H',zgc H d "at" (.int 0) H'->E (.ref C) (Ba d) H')
def ze7:sQz 4 ["word","place","old","new"] zbF:=by nofun
def zdI(B:Bt mg)(T:DNU P w K mg base C)(F:("put"^^^zbF))(rE:(1<<<"stands_at") ["word","place","part"] [] wS):(3|||["word","place","old","new"]) (Vp C):=by
 let#[fi,fdi,hi,hfn,Fi,Bi]:=T.ini
 exists Fun.okX F ze7,0
 ·let#[l,o,n,k,rfl,hl,ho,hn,q1,q2]:=h
  refine#[_,(zG (zJ (yf (WI (cl0 rE hr .nil rfl (za (pv 0) (za (pv 1) (za (pv 2) zg)))) (λZ=>rfl))) (ze (Yq hx rfl T.xi.toXC hi hfn Fi hr Bi rfl T.g (za zd zg)))
    zr) (ze (zl (zD zS (zD zS (zQ yJ (pv 0) yo (zO (pv 1))) (pv 3)) (zQ yJ (pv 0) (zO (zD z7 (pv 1) (zA B.len (pv 2)))) yo))))),?_]
  have s16:=zX
  rfl'
  refine ZS hl ho ?_
  rfl'
  refine yb (λhb=>#[⋯,UA (q2 hb)]) λhb=>?_;have hb':zw l k o=Bc:=by simpa using hb
  let#[_,_,h0,h1]:=yA hb';have c1:=wW l Bb (Ba k);have c2:=wW l (Ba (k + ↑o.length)) Bb;refine#[⋯,⋯,⋯,⋯,?_,?_]
  ·erw[aj]
   lia
  ·have e:cut l Bb (Ba k) ++ n ++ cut l (Ba (k + ↑o.length)) Bb=yX l k o n:=by
    rw[uj _ h0,xq _ ⋯];have:(k+(o.length:Int)).toNat=k.toNat+o.length:=⋯;rw[this];rfl
   rw[e];exact q1 hb'
structure TOrd(K:sL)(mg:sS->Option sN)(CO CR CW:sM):Prop where
 cO:Cls K CO
 cR:Cls K CR
 cW:Cls K CW
 gO:mg "Order" = Ba (.ref CO)
 gR:mg "FromRight" = Ba (.ref CR)
 lO:NoAttr K CO "letters"
 lR:NoAttr K CR "letters"
 lW:NoAttr K CW "letters"
def OrdAt(CO CR CW:sM)(H:Hp)(o:sM)(k:Nat)(l:())(ns:List Int):Prop:=∃dx,(k=0/\H o=Ba (.ins CO dx [("letters",⇑l)]))\/(k=1/\H o=Ba (.ins CR dx [("letters",⇑l)]))
def OrdAt.same{CO CR CW:sM}{H H':Hp}{o:sM}{k:Nat}{l:()}{ns:List Int}(h:OrdAt CO CR CW H o k l ns)(e:Same H H'):OrdAt CO CR CW H' o k l ns:=by
 obtain⟨dx,⟨h1,h2⟩ | ⟨h1,h2⟩⟩:=h
 ·exact#[dx,.inl #[h1,e _ _ h2]]
 ·exact#[dx,.inr #[h1,e _ _ h2]]
def J4(l:())(ns:List Int)(w:()):Int:=((l.zip ns).map λp=>(w.count p.1:Int) * p.2).sum
def zE(k:Nat)(l:())(ns:List Int)(w:()):Int:=if k=2 then J4 l ns w else (w.length:Int)
def yD(k:Nat)(w:()):():=if k=1 then w.reverse else w
def Zo(K:sL):Sp:=λvs H Q Z=>∃(x C dx:sM) (l:()),vs=[.ref x,⇑l]/\kj l=Bc/\Cls K C/\NoAttr K C "letters"/\H x=Ba (.ins C dx [])/\Q .non (upd H x (.ins C dx [("letters",⇑l)]))
def ZV:sQz 2 ["self","letters"] wV:=by nofun
def uA(B:Bt mg)(F:Fun K "__init__" "Order.__init__" wV f fd)(mE:(2>>>"letters_of") ["text"] [] (wB C)):(3&&&["self","letters"]) (Zo K):=by
 exists F.ok ZV
 ·let#[x,C,dx,l,rfl,hg,hC,hN,hx,q]:=h;refine#[_,(ze (YK (pv 0) (clP xe0 mE hr .nil rfl (za (pv 1) zg)) rfl)),?_];have s16:=zX
  rfl'
  exact#[l,rfl,by have:=u5 hg;lia,λZ=>#[_,_,_,hx,hC,hN,∅,q],λe=>by rw[hg]at e;cases e]
def Zs:Sp:=λvs H Q Z=>∃(o:sM) (w:()),vs=[.ref o,⇑w]/\w.length<=1000/\Q (.int (w.length:Nat)) H
def j9:sQz 2 ["self","word"] xO:=by nofun
def wZ(B:Bt mg)(F:Fun K "weight" "Order.weight" xO f fd):(1&&&["self","word"]) Zs:=by
 exists F.ok j9
 ·let#[o,w,rfl,hw,q]:=h;refine#[_,(ze (zl (zA B.len (pv 1)))),?_];have s16:=zX
  rfl'
  exact#[⋯,q]
def Qk:Sp:=λvs H Q Z=>∃(o:sM) (w:()),vs=[.ref o,⇑w]/\Q ⇑w H
def Z6:sQz 2 ["self","word"] wQ:=by nofun
def Zt(B:Bt mg)(F:Fun K "seen" "Order.seen" wQ f fd):(1&&&["self","word"]) Qk:=by
 exists F.ok Z6
 ·let#[o,w,rfl,q]:=h;refine#[_,(ze (zl (pv 1))),?_];have s16:=zX
  rfl'
  exact q
def XG:Sp:=λvs H Q Z=>∃(o:sM) (w:()),vs=[.ref o,⇑w]/\w.length<=1000/\Q ⇑w.reverse H
def qc:sQz 2 ["self","word"] xl:=by nofun
def qd(B:Bt mg)(F:Fun K "seen" "FromRight.seen" xl f fd):(1&&&["self","word"]) XG:=by
 exists F.ok qc
 ·let#[o,w,rfl,hw,q]:=h;refine#[_,(ze (zl (zbB (pv 1) (zfK zeC zd)))),?_];have s16:=zX;ac_rfl;exact#[⋯,q]
theorem zdK : xm (Bb::Bb::r) (Ba x::Ba y::r):=#[rfl,λi v h=>by
 cases i with
 | zero=>cases h
 | succ i =>
  cases i with
  | zero=>cases h
  | succ i=>exact h]
def zfp(l:())(c e:Nat):StrLaws.At (tx l) (tx [c]) (tx l).length e ↔ l[e]? = Ba c:=by
 unfold StrLaws.At Builtin.Str.subAt;rw[zI,zI];have h1:[c].length=1:=rfl;rw[h1,beq_iff_eq]
 have e1:((tx l).cps.extract e (e+1)).toList=(l.drop e).take 1:=by
  show (l.toArray.extract e (e+1)).toList=_;simp [fh]
 have e2:((tx l).cps.extract e (e+1)=(tx [c]).cps) ↔ (l.drop e).take 1=[c]:=by
  constructor
  ·intro h;rw[<- e1,h]
  ·intro h;apply Array.toList_inj.mp;rw[e1,h]
 constructor
 ·rintro⟨h2,h3⟩;have:=e2.mp h3;rw[aY ⋯,eP,bv]at this;rw[af ⋯];injection this with h _;rw[h]
 ·intro h;let#[he,hx]:=Bh.mp h;refine#[⋯,e2.mpr ?_];rw[aY he,eP,bv,hx]
def Vo(h:c ∈ l):Txt.find (tx l) (tx [c])=((l.idxOf c:Nat):Int):=by
 have hlt:=bP h;have hg:l[l.idxOf c]? = Ba c:=by rw[af hlt,eU]
 rcases PyProof.Rows.find_whole (tx l) (tx [c])with ⟨h1,h2⟩ | ⟨e,h1,h2,h3⟩
 ·exact w4 ((zfp l c _).mpr hg) (h2 _)
 ·have he:=(zfp l c e).mp h2
  have:e=l.idxOf c:=by
   rcases dQ e (l.idxOf c)with q | q | q
   ·have:=List.not_of_lt_findIdx (p:=(· == c)) q;let#[h4,h5]:=Bh.mp he;simp [h5]at this
   ·exact q
   ·exact w4 ((zfp l c _).mpr hg) (h3 _ q)
  rw[h1,this]
abbrev MkO(P:sU)(w:sZ)(K:sL)(mg:sS->Option sN)(base:tB)(C:sM):Prop:=DMk P w K mg base CX0 3 C ["self","letters"] (Zo K)
abbrev MW(P:sU)(w:sZ)(K:sL)(mg:sS->Option sN)(base:tB)(C:sM)(m:sS)(sp:Sp):Prop:=DM P w K mg base CX0 1 C m ["self","word"] sp
structure TWS(P:sU)(w:sZ)(K:sL)(mg:sS->Option sN)(base:tB)(CO CR CW:sM):Prop extends TOrd K mg CO CR CW where
 mO:MkO P w K mg base CO
 mR:MkO P w K mg base CR
 wO:MW P w K mg base CO "weight" Zs
 wR:MW P w K mg base CR "weight" Zs
 sO:MW P w K mg base CO "seen" Qk
 sR:MW P w K mg base CR "seen" XG
structure OG(l:())(ns:List Int)(k:Nat):Prop where
 g:kj l=Bc
 k3:k<3
 nl:ns.length=l.length
 nb:∀n ∈ ns,1<=n/\n<=1000000
def qF(l:())(w:()):List Int:=w.map λc=>((l.idxOf c:Nat):Int)
def uK(k:Nat)(l:())(w:()):List Int:=qF l (yD k w)
def zdH(CO CR CW:sM):sM->Prop:=λC=>C=CO\/C=CR\/C=CW
def OrdAt.fam{CO CR CW:sM}(h:OrdAt CO CR CW H o k l ns):∃C dx fs,zdH CO CR CW C/\H o=Ba (.ins C dx fs)/\(∀m:sS,m≠"letters"->m≠"weights"->fs.lookup m=Bb)/\fs.lookup ("letters" : sS)=Ba (V.str (tx l)):=by
 have e1:∀m:sS,m≠"letters"->(m ==("letters" : sS))=Bd:=λm hm=>by simpa using hm
 obtain⟨dx,⟨h1,h2⟩ | ⟨h1,h2⟩⟩:=h
 ·exact#[_,_,_,.inl rfl,h2,λm hm Z=>by simp [bB,e1 m hm],rfl]
 ·exact#[_,_,_,.inr (.inl rfl),h2,λm hm Z=>by simp [bB,e1 m hm],rfl]
def jw(CO CR CW:sM):Sp:=λvs H Q Z=>∃(o:sM) (k:Nat) (l:()) (ns:List Int) (w:()),vs=[.ref o,⇑w]/\OrdAt CO CR CW H o k l ns/\OG l ns k/\w.length<=1000/\(∀c ∈ w,c ∈ l)/\∀(p q:sM) (H':Hp),Same H H'->H' p=Ba (.tup [.int (zE k l ns w),.ref q])->H' q=Ba (.lst ((uK k l w).map V.int))->Q (.ref p) H'
def Kn{CO CR CW o D:sM}(T:TOrd K mg CO CR CW)(ho:OrdAt CO CR CW H o k l ns)(hl:v.length<=1000)(hm:∀c ∈ v,c ∈ l)(hD:H D=Bb)(q:∀H',Same H H'->H' D=Ba (.lst ((qF l v).map V.int))->Q (.ref D) H') :
  CompS (tx v) (yv 0) xo (tBM K "str" zC (zdl K (ya 1) "letters") (zM (ya 0) xw)) 1 [0] [!!o,a1] H Q D:=by
 have s16:=zX;refine CompS.by (λi Bg H'=>Same H H'/\H' D=Ba (.lst Bg)/\Bg=(qF l (v.take i)).map V.int) #[zf hD,zc,rfl] ?_ ?_
 ·refine nm4 ?_;rintro i c Bg H' hc ⟨hs,hH,rfl⟩:_;have hci:=(Bh.mp hc).1;have hcl:=hm c (ac hc);let#[C,dx,fs,hf,ho',_,hlk]:=(ho.same hs).fam
  have hC:Cls K C/\NoAttr K C "letters":=by
   rcases hf with rfl | rfl | rfl
   ·exact#[T.cO,T.lO]
   ·exact#[T.cR,T.lR]
   ·exact#[T.cW,T.lW]
  right
  erw[xo]
  ac_rfl;refine#[yz,_,_,_,ho',hC.1,hC.2,_,hlk,trivial,_,rfl,_,Vo hcl,hH,by rw[aa];unfold qF;rw[aa,aC];lia,x8 hci #[zu hs hD,zc,?_]];unfold qF;rw[zP hc,am,am];rfl
 ·refine nmB ?_;rintro Bg H' ⟨hs,hH,rfl⟩:_;rw[aJ]at hH;right;exact q H' hs hH
def ZU:sQz 2 ["self","word"] xL:=by nofun
def uF{f CO CR CW:sM}(B:Bt mg)(T:TWS P w K mg base CO CR CW)(F:Fun K "rank" "Order.rank" xL f fd):(2&&&["self","word"]) (jw CO CR CW):=by
 exists F.ok ZU
 ·let#[o,k,l,ns,w,rfl,ho,hG,hw,hm,q]:=h;refine#[_,(ze (zl (zW (za (zel T.wO T.wR T.wO T.cO T.cR T.cO hr (pv 0) (za (pv 1) zg)) (za (yM (own:=["letter"]) (caps:=["self"]) (ix:=[0]) (tt:=xo) (te:=(tBM K "str" zC (zdl K (ya 1) "letters") (zM (ya 0) xw))) rfl (zK (sc:=zi xL) rfl (!0) (!0) (!0) rfl (!0) (!0) rfl) (Yx (zel T.sO T.sR T.sO T.cO T.cR T.cO hr (pv 0) (za (pv 1) zg))) (λZ Z Z Z Z Z=>zq (i:=0) (show List.Nodup [_,_] by decide) rfl (.inl rfl)) (λZ Z Z Z Z Z=>yg) (λZ Z Z Z Z Z=>(wf bK fR fS JO (ju (pv 1) rfl) (za (pv 0) zg)))) zg))))),?_];have s16:=zX
  have hsl:(yD k w).length<=1000:=by
   unfold yD;split
   ·rw[bL];exact hw
   ·exact hw
  have hsm:∀c ∈ yD k w,c ∈ l:=λc hc=>by
   unfold yD at hc;split at hc
   ·exact hm c (Bq.mp hc)
   ·exact hm c hc
  have l6:l.length<=6:=(u5 hG.g).2.1;have fin:∀H1,Same H H1->∀D,H1 D=Bb->CompS (tx (yD k w)) (yv 0) xo (tBM K "str" zC (zdl K (ya 1) "letters") (zM (ya 0) xw)) 1 [0] [!!o,~~~w] H1 (λx5 H1=>2<=sK/\∀p,H1 p=Bb->Q (.ref p) (upd H1 p (.tup [.int (zE k l ns w),x5]))) D:=λH1 s1 D hD=>Kn T.toTOrd (ho.same s1) hsl hsm hD λH' s' hH=>#[⋯,λp hp=>q p D _ (s1.trans (s'.trans (zf hp))) zc (zf hp _ _ hH)];ac_rfl;obtain⟨dx',⟨h1,h2⟩ | ⟨h1,h2⟩⟩:=id ho
  ·have e1:zE k l ns w=(w.length:Int):=by unfold zE;rw[w9 ⋯]
   have e2:yD k w=w:=by unfold yD;rw[w9 ⋯]
   rw[e1,e2]at fin;exact .inl #[_,_,h2,rfl,o,w,rfl,hw,.inl #[_,_,h2,rfl,o,w,rfl,_,rfl,fin H (ja1 _)]]
  ·have e1:zE k l ns w=(w.length:Int):=by unfold zE;rw[w9 ⋯]
   have e2:yD k w=w.reverse:=by unfold yD;rw[w6 h1]
   rw[e1,e2]at fin;exact .inr (.inl #[_,_,h2,rfl,o,w,rfl,hw,.inr (.inl #[_,_,h2,rfl,o,w,rfl,hw,_,rfl,fin H (ja1 _)])])
def zU(k:Nat)(l:())(ns:List Int)(u v:()):Bool:=if zE k l ns u=zE k l ns v then ltI (uK k l u) (uK k l v)else decide (zE k l ns u<zE k l ns v)
abbrev DR(P:sU)(w:sZ)(K:sL)(mg:sS->Option sN)(base:tB)(CO CR CW:sM):Prop:=DMF P w K mg base CX0 2 (zdH CO CR CW) "rank" ["self","word"] (λZ=>jw CO CR CW)
def ZJ{ns:List Int}(hp:H p=Ba (.tup [.int z,.ref q]))(hq:H q=Ba (.lst (ns.map V.int))):Is K H (.tup [.int z,.lst (ns.map L3.D.int)]) (.ref p):=by
 erw[Is,Iss]
 exact#[p,_,rfl,x6 hp,_,_,rfl,rfl,_,_,rfl,#[q,_,rfl,x4 hq,Iss.ints ns],rfl]
theorem xt:∀x:List Int,ltI x x=Bd
 | []=>rfl
 | a::x=>by
  rw[ltI,w6 rfl];exact xt x
def Q5(a b:Int)(x y:List Int):ltD (.tup [.int a,.lst (x.map L3.D.int)]) (.tup [.int b,.lst (y.map L3.D.int)])=if a=b then ltI x y else decide (a<b):=by
 erw[ltD,wL,eqD,jT,YL]
 by_cases h:a=b
 ·subst h;by_cases h2:x=y
  ·subst h2;simp [xt]
  ·simp [h2]
 ·simp [h]
def Qb(CO CR CW:sM):Sp:=λvs H Q Z=>∃(o:sM) (k:Nat) (l:()) (ns:List Int) (u v:()),vs=[.ref o,⇑u,⇑v]/\OrdAt CO CR CW H o k l ns/\OG l ns k/\u.length<=1000/\v.length<=1000/\(∀c ∈ u,c ∈ l)/\(∀c ∈ v,c ∈ l)/\∀H':Hp,Same H H'->Q (.bl (zU k l ns u v)) H'
def j5:sQz 3 ["self","one","other"] xU:=by nofun
def wM{f CO CR CW:sM}(B:Bt mg)(DRk:DR P w K mg base CO CR CW)(F:Fun K "before" "Order.before" xU f fd):(3&&&["self","one","other"]) (Qb CO CR CW):=by
 exists F.ok j5
 ·let#[o,k,l,ns,u,v,rfl,ho,hG,hu,hv,hmu,hmv,q]:=h;refine#[_,(ze (zl (yi (zfa (wz hr)) (zdi DRk hr (pv 0) (za (pv 1) zg)) (zdi DRk hr (pv 0) (za (pv 2) zg)) (zx _)))),?_];have s16:=zX;ac_rfl;let#[C,dx,fs,hf,ho1,hn,_]:=ho.fam;have h1:fs.lookup ("rank" : sS)=Bb:=hn _ ∅ ∅;refine#[C,hf,dx,fs,ho1,h1,o,k,l,ns,u,rfl,ho,hG,hu,hmu,λp x H1 s1 hp hx=>#[C,hf,dx,fs,s1 _ _ ho1,h1,o,k,l,ns,v,rfl,ho.same s1,hG,hv,hmv,λp' x' H2 s2 hp' hx'=>?_]];refine zcC (ZJ (s2 _ _ hp) (s2 _ _ hx)) (ZJ hp' hx') (by erw[dpD,vG,uN];decide) (by erw[okD,Zg];exact#[trivial,uo _ _,trivial]) ?_;rw[Q5];exact q H2 (s1.trans s2)
abbrev DB(P:sU)(w:sZ)(K:sL)(mg:sS->Option sN)(base:tB)(CO CR CW:sM):Prop:=DMF P w K mg base CX0 3 (zdH CO CR CW) "before" ["self","one","other"] (λZ=>Qb CO CR CW)
def zaP(k:Int)(ls:())(ns:List Int)(w:()):Int:=(w.map λc=>if k=2 then ns.getD (ls.idxOf c) 0 else 1).sum
theorem zai{w:()}(h:k≠2):zaP k ls ns w=(w.length:Int):=by
 unfold zaP
 induction w with
 | nil=>rfl
 | cons c w ih =>
  rw[ao,bw,ih,w9 h,aG];lia
theorem jo{ls:()}(f g:Nat->Int):((ls.zip ns).map λp=>(f p.1+g p.1) * p.2).sum=((ls.zip ns).map λp=>f p.1 * p.2).sum+((ls.zip ns).map λp=>g p.1 * p.2).sum:=by
 induction ls.zip ns with
 | nil=>rfl
 | cons p r ih =>
  rw[ao,ao,ao,bw,bw,bw,ih,Int.add_mul];lia
theorem QQ:∀{ls:()} {ns:List Int} {c:Nat},ls.Nodup->ns.length=ls.length->c ∈ ls->((ls.zip ns).map λp=>(if p.1=c then (1:Int)else 0) * p.2).sum=ns.getD (ls.idxOf c) 0
 | [],ns,c,_,_,hc=>(nomatch hc)
 | d::ls,[],c,_,hl,_=>by cases hl
 | d::ls,n::ns,c,hn,hl,hc=>by
  rw[dH,ao,bw];have hnd:=Bs.mp hn;by_cases h:d=c
  ·subst h
   have h0:∀(l:()) (m:List Int),d ∉ l->((l.zip m).map λp=>(if p.1=d then (1:Int)else 0) * p.2).sum=0:=by
    intro l
    induction l with
    | nil=>intro m _;rfl
    | cons x l ih =>
     intro m hx
     cases m with
     | nil=>rfl
     | cons y m =>
      rw[dH,ao,bw,ih m (λq=>hx (av _ q)),w9 (show ¬ x=d from λe=>hx (by rw[e];exact aB))];lia
   rw[h0 ls ns hnd.1,w6 rfl,List.idxOf_cons_self];simp
  ·have hc':c ∈ ls:=by
    rcases Bk.mp hc with e | e
    ·exact w4 e.symm h
    ·exact e
   rw[QQ hnd.2 ↥hl hc',w9 h,List.idxOf_cons,show (d == c)=Bd by simpa using h];simp
theorem Vq(hn:ls.Nodup)(hl:ns.length=ls.length):∀{w:()},(∀x ∈ w,x ∈ ls)->zaP 2 ls ns w=J4 ls ns w
 | [],_=>by
  have h0:∀r:List (Nat × Int),(r.map λp=>((([]:()).count p.1:Nat):Int) * p.2).sum=0:=by
   intro r
   induction r with
   | nil=>rfl
   | cons p r ih=>rw[ao,bw,ih];simp
  exact (h0 _).symm
 | c::w,h=>by
  have ih:=Vq hn hl (w:=w) λx hx=>h x (av _ hx)
  have e1:zaP 2 ls ns (c::w)=ns.getD (ls.idxOf c) 0+zaP 2 ls ns w:=by
   unfold zaP;rw[ao,bw,w6 rfl]
  rw[e1,ih,<- QQ hn hl (h c aB)];unfold J4;rw[<- jo (λx=>if x=c then 1 else 0) (λx=>(w.count x:Int))];refine congrArg List.sum (bV λp Z=>?_);rw[List.count_cons];by_cases e:c=p.1
  ·rw[w6 e.symm,w6 ↥e];simp [Int.add_comm]
  ·rw[w9 (λz=>e z.symm),w9 ↥e];simp
def wt(k:Nat)(ns:List Int)(i:Int):Int:=if k=2 then ns.getD i.toNat 0 else 1
theorem wl{g:Int->Int}:∀{x:List Int},(∀i ∈ x,0<g i)->0<=(x.map g).sum
 | [],_=>by simp
 | a::x,h=>by
  have h1:=h a aB;have h2:=wl (x:=x) λi hi=>h i (av _ hi);rw[ao,bw];lia
theorem wN:∀{x y:List Int},x≠y->ltI x y=!ltI y x
 | [],[],h=>w4 rfl h
 | [],_::_,_=>rfl
 | _::_,[],_=>rfl
 | a::x,b::y,h=>by
  rw[ltI,ltI];by_cases e:a=b
  ·rw[w6 e,w6 e.symm];exact wN λq=>h (by rw[e,q])
  ·rw[w9 e,w9 λq=>e q.symm];by_cases c:a<b
   ·rw[u6 c,u9 ⋯];rfl
   ·rw[u9 c,u6 ⋯];rfl
theorem jv:∀{x y z:List Int},ltI x y=Bc->ltI y z=Bc->ltI x z=Bc
 | [],[],_,h,_=>by cases h
 | [],_::_,[],_,h=>by cases h
 | [],_::_,_::_,_,_=>rfl
 | _::_,[],_,h,_=>by cases h
 | _::_,_::_,[],_,h=>by cases h
 | a::x,b::y,c::z,h1,h2=>by
  rw[ltI]at h1 h2 ⊢;by_cases e:a=b
  ·subst e;rw[w6 rfl]at h1;by_cases f:a=c
   ·rw[w6 f]at h2 ⊢;exact jv h1 h2
   ·rw[w9 f]at h2 ⊢;exact h2
  ·rw[w9 e]at h1;have h1':=u5 h1;by_cases f:b=c
   ·subst f;rw[w9 e];exact h1
   ·rw[w9 f]at h2;have h2':=u5 h2;rw[w9 ⋯];exact u6 ⋯
theorem X5:∀(c x y:List Int),ltI (c ++ x) (c ++ y)=ltI x y
 | [],_,_=>rfl
 | a::c,x,y=>by
  rw[bE,bE,ltI,w6 rfl];exact X5 c x y
theorem Vi{g:Int->Int}:∀{x y:List Int},(∀i ∈ x,0<g i)->(∀i ∈ y,0<g i)->(x.map g).sum=(y.map g).sum->ltI (x ++ c) (y ++ c)=ltI x y
 | [],[],_,_,_=>xt c
 | [],b::y,_,hy,h=>by
  have h1:=hy b aB;have h2:=wl (x:=y) λi hi=>hy i (av _ hi);rw[ao,bw,aI,List.sum_nil]at h;lia
 | a::x,[],hx,_,h=>by
  have h1:=hx a aB;have h2:=wl (x:=x) λi hi=>hx i (av _ hi);rw[ao,bw,aI,List.sum_nil]at h;lia
 | a::x,b::y,hx,hy,h=>by
  rw[bE,bE,ltI,ltI];by_cases e:a=b
  ·rw[w6 e,w6 e];rw[ao,bw,ao,bw,e]at h;exact Vi (λi hi=>hx i (av _ hi)) (λi hi=>hy i (av _ hi)) ⋯
  ·rw[w9 e,w9 e]
end
section
mutual section
variable{k:Nat}{l:()}{ns:List Int}{t u v:()}
def zaj(a b:()):J4 l ns (a ++ b)=J4 l ns a+J4 l ns b:=by unfold J4;rw[<- jo (λx=>(a.count x:Int)) (λx=>(b.count x:Int))];refine congrArg List.sum (bV λp Z=>?_);rw[List.count_append];simp
theorem xu(a b:()):zE k l ns (a ++ b)=zE k l ns a+zE k l ns b:=by
 unfold zE;by_cases h:k=2
 ·rw[w6 h,w6 h,w6 h,zaj]
 ·rw[w9 h,w9 h,w9 h,aj];lia
theorem xv(G:OG l ns k):∀{w:()},(∀c ∈ w,c ∈ l)->zE k l ns w=((qF l w).map (wt k ns)).sum:=by
 intro w hm;have hn:l.Nodup:=(u5 G.g).2.2.2
 have e:((qF l w).map (wt k ns)).sum=zaP (k:Int) l ns w:=by
  unfold qF zaP;rw[cf];refine congrArg List.sum (bV λc Z=>?_);show wt k ns _=_;unfold wt;by_cases h:k=2
  ·rw[w6 h,w6 ⋯,aA]
  ·rw[w9 h,w9 ⋯]
 rw[e];unfold zE;by_cases h:k=2
 ·rw[w6 h,h];exact (Vq hn G.nl hm).symm
 ·rw[w9 h,zai ⋯]
theorem YO(G:OG l ns k)(hm:∀c ∈ u,c ∈ l):∀i ∈ qF l u,0<wt k ns i:=by
 intro i hi;let#[c,hc,rfl]:=Bj.mp hi;have hlt:=bP (hm c hc);have hl:=G.nl;unfold wt;split
 ·rw[aA,ae,af ⋯];have:=(G.nb _ (d5 (l:=ns) (n:=l.idxOf c) ⋯)).1;show 0<ns[l.idxOf c];lia
 ·decide
def uq(G:OG l ns k)(hm:∀c ∈ u,c ∈ l):0<=zE k l ns u:=by rw[xv G hm];exact wl (YO G hm)
theorem kW(G:OG l ns k)(hm:∀c ∈ u,c ∈ l)(h:u≠[]):0<zE k l ns u:=by
 cases u with
 | nil=>exact w4 rfl h
 | cons a u =>
  have h1:=YO G hm (l.idxOf a:Nat) (Bj.mpr #[a,aB,rfl]);have h2:0<=((qF l u).map (wt k ns)).sum:=wl (YO (u:=u) G λc hc=>hm c (av _ hc));rw[xv G hm];show 0<((((l.idxOf a:Nat):Int)::qF l u).map (wt k ns)).sum;rw[ao,bw];lia
theorem ZI:∀{u v:()},(∀c ∈ u,c ∈ l)->(∀c ∈ v,c ∈ l)->qF l u=qF l v->u=v
 | [],[],_,_,_=>rfl
 | [],_::_,_,_,h=>by cases h
 | _::_,[],_,_,h=>by cases h
 | a::u,b::v,hu,hv,h=>by
  unfold qF at h;rw[ao,ao]at h;injection h with h1 h2;have h3:l.idxOf a=l.idxOf b:=⋯;have ha:=eU (bP (hu a aB));have hb:=eU (bP (hv b aB))
  have:a=b:=by
   rw[<- ha,<- hb]
   erw[h3]
  rw[this,ZI (λc hc=>hu c (av _ hc)) (λc hc=>hv c (av _ hc)) h2]
def xN:zU k l ns u u=Bd:=by unfold zU;rw[w6 rfl,xt]
def Zx(hu:∀c ∈ u,c ∈ l)(hv:∀c ∈ v,c ∈ l)(h:uK k l u=uK k l v):u=v:=by
 unfold uK yD at h;by_cases e:k=1
 ·rw[w6 e,w6 e]at h;exact List.reverse_inj.mp (ZI (λc hc=>hu c (Bq.mp hc)) (λc hc=>hv c (Bq.mp hc)) h)
 ·rw[w9 e,w9 e]at h;exact ZI hu hv h
theorem jY(hu:∀c ∈ u,c ∈ l)(hv:∀c ∈ v,c ∈ l)(h:u≠v):zU k l ns u v=!zU k l ns v u:=by
 unfold zU;by_cases e:zE k l ns u=zE k l ns v
 ·rw[w6 e,w6 e.symm];exact wN λq=>h (Zx hu hv q)
 ·rw[w9 e,w9 λq=>e q.symm];by_cases c:zE k l ns u<zE k l ns v
  ·rw[u6 c,u9 ⋯];rfl
  ·rw[u9 c,u6 ⋯];rfl
theorem jn(h1:zU k l ns t u=Bc)(h2:zU k l ns u v=Bc):zU k l ns t v=Bc:=by
 unfold zU at h1 h2 ⊢;generalize zE k l ns t=a at *;generalize zE k l ns u=b at *;generalize zE k l ns v=c at *;by_cases e:a=b
 ·subst e;rw[w6 rfl]at h1;by_cases f:a=c
  ·rw[w6 f]at h2 ⊢;exact jv h1 h2
  ·rw[w9 f]at h2 ⊢;exact h2
 ·rw[w9 e]at h1;have h1':=u5 h1;by_cases f:b=c
  ·subst f;rw[w9 e];exact h1
  ·rw[w9 f]at h2;have h2':=u5 h2;rw[w9 ⋯];exact u6 ⋯
def Ve(a b:()):qF l (a ++ b)=qF l a ++ qF l b:=am
def Yj(G:OG l ns k)(hu:∀c ∈ u,c ∈ l)(hv:∀c ∈ v,c ∈ l)(e:zE k l ns u=zE k l ns v)(c:List Int):ltI (qF l u ++ c) (qF l v ++ c)=ltI (qF l u) (qF l v):=by rw[xv G hu,xv G hv]at e;exact Vi (YO G hu) (YO G hv) e
def kT(G:OG l ns k)(hu:∀c ∈ u,c ∈ l):zE k l ns u.reverse=zE k l ns u:=by rw[xv G hu,xv G λc hc=>hu c (Bq.mp hc)];unfold qF;rw[fu,fu,List.sum_reverse]
theorem Yk(G:OG l ns k)(ht:∀c ∈ t,c ∈ l)(hu:∀c ∈ u,c ∈ l)(hv:∀c ∈ v,c ∈ l):zU k l ns (t ++ u) (t ++ v)=zU k l ns u v/\zU k l ns (u ++ t) (v ++ t)=zU k l ns u v:=by
 have hur:∀c ∈ u.reverse,c ∈ l:=λc hc=>hu c (Bq.mp hc);have hvr:∀c ∈ v.reverse,c ∈ l:=λc hc=>hv c (Bq.mp hc);unfold zU;rw[xu,xu,xu,xu];by_cases e:zE k l ns u=zE k l ns v
 ·rw[w6 ⋯,w6 e,w6 ⋯];unfold uK yD;by_cases f:k=1
  ·erw[w6 f,List.reverse_append,Ve]
   exact#[Yj G hur hvr (by rw[kT G hu,kT G hv,e]) _,X5 _ _ _]
  ·erw[w9 f,Ve]
   exact#[X5 _ _ _,Yj G hu hv e _]
 ·rw[w9 ⋯,w9 e,w9 ⋯];exact#[by congr 1;exact propext ⋯,by congr 1;exact propext ⋯]
theorem Kl(G:OG l ns k)(ht:∀c ∈ t,c ∈ l)(hu:∀c ∈ u,c ∈ l)(hv:∀c ∈ v,c ∈ l)(h:t ++ u ++ v≠u):zU k l ns u (t ++ u ++ v)=Bc/\zU k l ns (t ++ u ++ v) u=Bd:=by
 have h0:0<zE k l ns t+zE k l ns v:=by
  have h1:=uq G ht;have h2:=uq G hv;by_cases e:t=[]
  ·by_cases f:v=[]
   ·subst e f;simp at h
   ·have:=kW G hv f;lia
  ·have:=kW G ht e;lia
 unfold zU;rw[xu,xu,w9 ⋯,w9 ⋯];exact#[u6 ⋯,u9 ⋯]
end
end
mutual section
theorem Ym:∀x y:List Int,ltI x y=Bc->ltI y x=Bd
 | [],[],h=>by cases h
 | [],_::_,_=>rfl
 | _::_,[],h=>by cases h
 | a::x,b::y,h=>by
  rw[ltI]at h ⊢;by_cases e:a=b
  ·rw[w6 e]at h;rw[w6 e.symm];exact Ym x y h
  ·rw[w9 e]at h;rw[w9 (λq=>e q.symm)];have:=u5 h;exact u9 ⋯
def Xt(h:zU k l ns u v=Bc):zU k l ns v u=Bd:=by
 unfold zU at h ⊢;by_cases e:zE k l ns u=zE k l ns v
 ·rw[w6 e]at h;rw[w6 e.symm];exact Ym _ _ h
 ·rw[w9 e]at h;rw[w9 (λq=>e q.symm)];have:=u5 h;exact u9 ⋯
def stJ(l:())(ps:List zH)(q j:Nat):Bool:=((ps[j]?).map λp=>zw l (q:Int) p.1).getD Bd
def Zb(h:ps[j]? = Ba p):stJ l ps q j=zw l (q:Int) p.1:=by unfold stJ;rw[h];rfl
theorem vM(h:stJ l ps q j=Bc):j<ps.length/\∃p,ps[j]? = Ba p/\zw l (q:Int) p.1=Bc:=by
 unfold stJ at h
 cases e:ps[j]? with
 | none=>rw[e]at h;cases h
 | some p =>
  rw[e]at h;exact#[(Bh.mp e).1,p,rfl,h]
def je(l:())(ps:List zH)(q i:Nat):List (Nat × Nat):=((aK i).filter (stJ l ps q)).map λj=>(j,q)
def xZ(l:())(ps:List zH)(k:Nat):List (Nat × Nat):=(aK k).flatMap λq=>je l ps q ps.length
def VU(l:())(ps:List zH)(q i:Nat):je l ps q (i+1)=je l ps q i ++ (if stJ l ps q i=Bc then [(i,q)]else []):=by
 unfold je;rw[cT,di,am];congr 1;by_cases h:stJ l ps q i=Bc
 ·rw[w6 h,fH h];rfl
 ·rw[w9 h,fJ h];rfl
def k7(l:())(ps:List zH)(k:Nat):xZ l ps (k+1)=xZ l ps k ++ je l ps k ps.length:=by unfold xZ;rw[cT,dB];simp
def QT(l:())(ps:List zH)(q i:Nat):(je l ps q i).length<=i:=by unfold je;rw[aa];have:=dn (stJ l ps q) (aK i);rw[bM]at this;exact this
theorem JT(l:())(ps:List zH):∀k,(xZ l ps k).length<=k * ps.length
 | 0=>by simp [xZ]
 | k+1=>by
  rw[k7,aj,d8];have:=JT l ps k;have:=QT l ps k ps.length;lia
def usesN_mem : u ∈ je l ps q i ↔ u.2=q/\u.1<i/\stJ l ps q u.1=Bc:=by
 unfold je;rw[List.mem_map];constructor
 ·rintro⟨j,hj,rfl⟩;rw[List.mem_filter,fZ]at hj;exact#[rfl,hj.1,hj.2]
 ·rintro⟨h1,h2,h3⟩;exact#[u.1,Bp.mpr #[Bn.mpr h2,h3],by rw[<- h1]]
def usesK_mem : u ∈ xZ l ps k ↔ u.2<k/\stJ l ps u.2 u.1=Bc:=by
 unfold xZ;rw[List.mem_flatMap];constructor
 ·rintro⟨q,hq,hu⟩;let#[h1,h2,h3]:=usesN_mem.mp hu;rw[fZ]at hq;rw[h1];exact#[hq,h3]
 ·rintro⟨h1,h2⟩;exact#[u.2,Bn.mpr h1,usesN_mem.mpr #[rfl,(vM h2).1,h2]]
def uLt(a b:Nat × Nat):Prop:=a.2<b.2\/(a.2=b.2/\a.1<b.1)
theorem qt(l:())(ps:List zH)(q:Nat):∀i,(je l ps q i).Pairwise uLt
 | 0=>by simp [je]
 | i+1=>by
  rw[VU];refine BA.mpr #[qt l ps q i,?_,λa ha b hb=>?_]
  ·split
   ·exact fG _ _
   ·exact List.Pairwise.nil
  ·let#[h1,h2,_]:=usesN_mem.mp ha;split at hb
   ·rw[Bm.mp hb];exact .inr #[h1,h2]
   ·cases hb
theorem wP(l:())(ps:List zH):∀k,(xZ l ps k).Pairwise uLt
 | 0=>by simp [xZ]
 | k+1=>by
  rw[k7];refine BA.mpr #[wP l ps k,qt l ps k _,λa ha b hb=>?_];have h1:=(usesK_mem.mp ha).1;have h2:=(usesN_mem.mp hb).1;exact .inl ⋯
def FirstN(l:())(ps:List zH)(lo hi n:Nat)(r:Option (Nat × Nat)):Prop :=
 (r=Bb/\∀j q,j<n->lo<=q->q<hi->stJ l ps q j=Bd) \/
 ∃n0 q0,r=Ba (n0,q0)/\n0<n/\lo<=q0/\q0<hi/\stJ l ps q0 n0=Bc/\∀j q,j<n->lo<=q->stJ l ps q j=Bc->q0<q\/(q0=q/\n0<=j)
def FirstN.uniq{lo hi n:Nat}(h:FirstN l ps lo hi n r)(h':FirstN l ps lo hi n r'):r=r':=by
 rcases h with ⟨rfl,h⟩ | ⟨n0,q0,rfl,a1,a2,a3,a4,a5⟩
 ·rcases h' with ⟨rfl,_⟩ | ⟨n0,q0,rfl,a1,a2,a3,a4,a5⟩
  ·rfl
  ·rw[h n0 q0 a1 a2 a3]at a4;cases a4
 ·rcases h' with ⟨rfl,h⟩ | ⟨n1,q1,rfl,b1,b2,b3,b4,b5⟩
  ·rw[h n0 q0 a1 a2 a3]at a4;cases a4
  ·have x1:=a5 n1 q1 b1 b2 b4;have x2:=b5 n0 q0 a1 a2 a4;have e1:q0=q1:=⋯;have e2:n0=n1:=⋯;rw[e1,e2]
theorem VS(h:FirstN l ps 0 l.length ps.length r):r=(xZ l ps l.length).head?:=by
 have hs:=wP l ps l.length;refine h.uniq ?_
 cases e:xZ l ps l.length with
 | nil =>
  refine .inl #[rfl,λj q Z Z hq=>?_]
  cases hb:stJ l ps q j with
  | false=>rfl
  | true =>
   have:(j,q) ∈ xZ l ps l.length:=usesK_mem.mpr #[hq,hb];rw[e]at this;cases this
 | cons u us =>
  rw[e]at hs;have hu:u ∈ xZ l ps l.length:=by rw[e];exact aB
  let#[h1,h2]:=usesK_mem.mp hu;refine .inr #[u.1,u.2,rfl,(vM h2).1,ar _,h1,h2,λj q hj Z hb=>?_];by_cases hq:q<l.length
  ·have:(j,q) ∈ xZ l ps l.length:=usesK_mem.mpr #[hq,hb];rw[e]at this;rcases Bk.mp this with e2 | e2
   ·rw[<- e2];exact .inr #[rfl,al _]
   ·rcases (BL.mp hs).1 _ e2 with h | ⟨h,h'⟩
    ·exact .inl h
    ·exact .inr #[h,cB h']
  ·exact .inl ⋯
def j8{q:Nat}(hp:p≠[])(h:zw l (q:Int) p=Bc):q<l.length:=by let#[h0,h1,_]:=u5 h;have:0<p.length:=Bu.mpr hp;lia
def FirstN.keep{lo hi n:Nat}(h:FirstN l ps lo hi n r)(hp:ps[n]? = Ba p)(hn:∀q:Nat,lo<=q->q<(r.map Prod.snd).getD hi->zw l (q:Int) p.1=Bd):FirstN l ps lo hi (n+1) r:=by
 rcases h with ⟨rfl,h⟩ | ⟨n0,q0,rfl,a1,a2,a3,a4,a5⟩
 ·refine .inl #[rfl,λj q hj h1 h2=>?_];by_cases e:j<n
  ·exact h j q e h1 h2
  ·have:j=n:=⋯;subst this;rw[Zb hp];exact hn q h1 h2
 ·refine .inr #[n0,q0,rfl,⋯,a2,a3,a4,λj q hj h1 h2=>?_];by_cases e:j<n
  ·exact a5 j q e h1 h2
  ·have:j=n:=⋯;subst this;rw[Zb hp]at h2;by_cases hq:q<q0
   ·rw[hn q h1 hq]at h2;cases h2
   ·lia
def FirstN.take{lo hi n k:Nat}(h:FirstN l ps lo hi n r)(hp:ps[n]? = Ba p)(h1:lo<=k)(h2:k<(r.map Prod.snd).getD hi)(h3:zw l (k:Int) p.1=Bc)(hn:∀q:Nat,lo<=q->q<k->zw l (q:Int) p.1=Bd):FirstN l ps lo hi (n+1) (Ba (n,k)):=by
 have hk:k<hi/\∀j q,j<n->lo<=q->stJ l ps q j=Bc->k<q:=by
  rcases h with ⟨rfl,h⟩ | ⟨n0,q0,rfl,a1,a2,a3,a4,a5⟩
  ·refine#[h2,λj q hj hl hb=>?_];by_cases hq:q<hi
   ·rw[h j q hj hl hq]at hb;cases hb
   ·have h2':k<hi:=h2;lia
  ·have h2':k<q0:=h2;refine#[⋯,λj q hj hl hb=>?_];have:=a5 j q hj hl hb;lia
 refine .inr #[n,k,rfl,⋯,h1,hk.1,by rw[Zb hp];exact h3,λj q hj hl hb=>?_];by_cases e:j<n
 ·exact .inl (hk.2 j q e hl hb)
 ·have:j=n:=⋯;subst this;rw[Zb hp]at hb;by_cases hq:q<k
  ·rw[hn q hl hq]at hb;cases hb
  ·lia
def FirstN.window{lo mid hi n:Nat}(h0:FirstN l ps lo mid n Bb)(hm:lo<=mid)(h:FirstN l ps mid hi n r):FirstN l ps lo hi n r:=by
 have h0':∀j q,j<n->lo<=q->q<mid->stJ l ps q j=Bd:=by
  rcases h0 with ⟨_,h⟩ | ⟨_,_,h,_⟩
  ·exact h
  ·cases h
 rcases h with ⟨rfl,h⟩ | ⟨n0,q0,rfl,a1,a2,a3,a4,a5⟩
 ·refine .inl #[rfl,λj q hj h1 h2=>?_];by_cases e:q<mid
  ·exact h0' j q hj h1 e
  ·exact h j q hj ⋯ h2
 ·refine .inr #[n0,q0,rfl,a1,⋯,a3,a4,λj q hj h1 h2=>?_];by_cases e:q<mid
  ·rw[h0' j q hj h1 e]at h2;cases h2
  ·exact a5 j q hj ⋯ h2
def NeL(ps:List zH):Prop:=∀p ∈ ps,p.1≠[]
def FirstN.toEnd{lo hi n:Nat}(hN:NeL ps)(h:FirstN l ps lo hi n r)(hl:r=Bb->l.length<=hi):FirstN l ps lo l.length n r:=by
 have hlt:∀j q,stJ l ps q j=Bc->q<l.length:=λj q hb=>by
  let#[_,p,hp,hs]:=vM hb;exact j8 (hN p (ac hp)) hs
 rcases h with ⟨rfl,h⟩ | ⟨n0,q0,rfl,a1,a2,a3,a4,a5⟩
 ·exact .inl #[rfl,λj q hj h1 h2=>h j q hj h1 (by have:=hl rfl;lia)]
 ·exact .inr #[n0,q0,rfl,a1,a2,hlt _ _ a4,a4,a5]
def zF(l:())(ps:List zH):Option (Nat × Nat):=(xZ l ps l.length).head?
def ZF(h:FirstN l ps 0 l.length ps.length r):r=zF l ps:=VS h
theorem WZ(l:())(ps:List zH)(hN:NeL ps):FirstN l ps 0 l.length ps.length (zF l ps):=by
 have hs:=wP l ps l.length;unfold zF
 cases e:xZ l ps l.length with
 | nil =>
  refine .inl #[rfl,λj q Z Z hq=>?_]
  cases hb:stJ l ps q j with
  | false=>rfl
  | true =>
   have:(j,q) ∈ xZ l ps l.length:=usesK_mem.mpr #[hq,hb];rw[e]at this;cases this
 | cons u us =>
  rw[e]at hs;have hu:u ∈ xZ l ps l.length:=by rw[e];exact aB
  let#[h1,h2]:=usesK_mem.mp hu;refine .inr #[u.1,u.2,rfl,(vM h2).1,ar _,h1,h2,λj q hj Z hb=>?_]
  have hq:q<l.length:=by
   let#[_,p,hp,hs]:=vM hb;exact j8 (hN p (ac hp)) hs
  have:(j,q) ∈ xZ l ps l.length:=usesK_mem.mpr #[hq,hb];rw[e]at this;rcases Bk.mp this with e2 | e2
  ·rw[<- e2];exact .inr #[rfl,al _]
  ·rcases (BL.mp hs).1 _ e2 with h | ⟨h,h'⟩
   ·exact .inl h
   ·exact .inr #[h,cB h']
def WG(ps:List zH)(n:Nat):zH:=ps.getD n ([],[])
def yT(h:ps[n]? = Ba p):WG ps n=p:=by unfold WG;rw[ae,h];rfl
def ZA(l:())(ps:List zH)(u:Nat × Nat):():=yX l (u.2:Int) (WG ps u.1).1 (WG ps u.1).2
def Uo(ps:List zH)(l:()):():=((zF l ps).map (ZA l ps)).getD l
def wAt(ps:List zH)(l:()):Nat->()
 | 0=>l
 | j+1=>Uo ps (wAt ps l j)
def sAt(ps:List zH)(l:())(j:Nat):List (Nat × Nat):=(aK j).map λi=>(zF (wAt ps l i) ps).getD (0,0)
def W3(ps:List zH)(l:())(j:Nat):sAt ps l (j+1)=sAt ps l j ++ [(zF (wAt ps l j) ps).getD (0,0)]:=by unfold sAt;rw[cT,am];rfl
def vY(ps:List zH)(l:())(j:Nat):(sAt ps l j).length=j:=by unfold sAt;rw[aa,bM]
def xJ(h:zF (wAt ps l j) ps=Ba u):wAt ps l (j+1)=ZA (wAt ps l j) ps u:=by show Uo ps (wAt ps l j)=_;unfold Uo;rw[h];rfl
def kM(ps:List zH)(l:())(j:Nat):Prop:=∀i,i<j->zF (wAt ps l i) ps≠Bb
def uf(h1:kM ps l i)(h2:zF (wAt ps l i) ps=Bb)(h3:kM ps l j)(h4:zF (wAt ps l j) ps=Bb):i=j:=by
 rcases dQ i j with h | h | h
 ·exact w4 h2 (h3 i h)
 ·exact h
 ·exact w4 h4 (h1 j h)
def Ul{n q M lo:Nat}(h:FirstN l ps 0 l.length ps.length (Ba (n,q)))(hN:NeL ps)(hM:∀p ∈ ps,p.1.length<=M)(hlo:lo=0\/lo+M<=q+1):FirstN (ZA l ps (n,q)) ps 0 lo ps.length Bb:=by
 refine .inl #[rfl,λj x hj Z hx=>?_];rcases h with ⟨h,_⟩ | ⟨n0,q0,e,a1,a2,a3,a4,a5⟩
 ·cases h
 ·injection e with e;injection e with e1 e2;subst e1 e2
  cases hb:stJ (ZA l ps (n,q)) ps x j with
  | false=>rfl
  | true =>
   let#[_,p,hp,hs]:=vM hb;have hpm:=hM p (ac hp);have hpn:=Bu.mpr (hN p (ac hp));have hxq:x+p.1.length<=q:=⋯;let#[s0,s1,s2]:=u5 hs;rw[aA]at s2;let#[_,p2,hp2,hs2]:=vM a4;let#[t0,t1,t2]:=u5 hs2
   have e4:(ZA l ps (n,q)).take q=l.take q:=by
    unfold ZA yX;rw[aA,aQ,bx (by rw[aC];lia),gb,fk]
   have e5:∀z:(),((z.take q).drop x).take p.1.length=(z.drop x).take p.1.length:=λz=>by
    rw[List.drop_take,gb];congr 1;lia
   have s3:(l.drop x).take p.1.length=p.1:=by rw[<- e5,<- e4,e5,s2]
   have:stJ l ps x j=Bc:=by
    rw[Zb hp];exact u6 #[⋯,⋯,by rw[aA];exact s3]
   have:=a5 j x hj (ar _) this;lia
def FirstN.lower{lo hi n:Nat}(h:FirstN l ps 0 hi n Bb)(hl:lo<=hi):FirstN l ps 0 lo n Bb:=by
 rcases h with ⟨_,h⟩ | ⟨_,_,h,_⟩
 ·exact .inl #[rfl,λj q hj h1 h2=>h j q hj h1 ⋯]
 ·cases h
def zgB(a b c:Nat):min a b+(b - (a+c))<=b:=⋯
def zaq(h:FirstN l ps 0 l.length ps.length (Ba (n,q)))(hm:∀p ∈ ps,p.2.length<=m):(ZA l ps (n,q)).length<=l.length+m:=by
 rcases h with ⟨h,_⟩ | ⟨n0,q0,e,a1,a2,a3,a4,a5⟩
 ·cases h
 ·injection e with e;injection e with e1 e2;subst e1 e2;let#[_,p,hp,hs]:=vM a4;have:=hm p (ac hp);have er:=yT hp;unfold ZA yX
  erw[aj,aC,aS,er]
  rw[dh];exact Nat.add_le_add (zgB _ _ _) this
theorem jf(hN:NeL ps)(hm:∀p ∈ ps,p.2.length<=m):∀j,(wAt ps l j).length<=l.length+j * m
 | 0=>by simp [wAt]
 | j+1=>by
  have ih:=jf (l:=l) hN hm j;have hf:=WZ (wAt ps l j) ps hN;rw[d8]
  cases e:zF (wAt ps l j) ps with
  | none =>
   show (Uo ps (wAt ps l j)).length<=_;unfold Uo;rw[e];show (wAt ps l j).length<=_;lia
  | some u =>
   rw[xJ e];rw[e]at hf;let#[a,b]:=u;have:=zaq hf hm;lia
def UseAt(H:Hp)(r:Option (Nat × Nat))(v:V):Prop:=(r=Bb/\v=.non)\/∃(n q:Nat) (p:sM),r=Ba (n,q)/\v=.ref p/\H p=Ba (.tup [.int (n:Nat),.int (q:Nat)])
def UseAt.same{H H':Hp}{r:Option (Nat × Nat)}{v:V}(h:UseAt H r v)(s:Same H H'):UseAt H' r v:=by
 rcases h with h | ⟨n,q,p,h1,h2,h3⟩
 ·exact .inl h
 ·exact .inr #[n,q,p,h1,h2,s _ _ h3]
def Uz{lo hi:Int}(h0:0<=lo)(h1:0<=hi)(h:∀r:Int,((r=-1/\∀q:Nat,lo<=q->(q:Int)+p.length<=hi->zw l q p=Bd)\/∃k:Nat,r=k/\lo<=k/\(k:Int)+p.length<=hi/\zw l k p=Bc/\∀q:Nat,lo<=q->q<k->zw l q p=Bd)->Q (.int r) H):zaL ⇑l [⇑p,.int lo,.int hi] H Q:=by
 refine#[l,p,lo,hi,rfl,rfl,h0,h1,λr hr=>h r ?_]
 have no:∀q:Nat,((l.drop q).take p.length≠p\/¬ q+p.length<=l.length)->zw l q p=Bd:=λq hq=>u9 λ⟨_,b,c⟩=>by
  rcases hq with hq | hq
  ·exact hq c
  ·lia
 rcases hr with ⟨rfl,hn⟩ | ⟨k,rfl,k1,k2,k3,k4,hn⟩
 ·refine .inl #[rfl,λq q1 q2=>no q ?_];by_cases e:q+p.length<=l.length
  ·exact .inl (hn q q1 q2 e)
  ·exact .inr e
 ·exact .inr #[k,rfl,k1,k2,u6 #[⋯,⋯,k4],λq q1 q2=>no q (.inl (hn q q1 q2))]
def uV(K:sL):Sp:=λvs H Q Z=>∃(a:sM) (l:()) (ps:List zH) (st en:Nat),vs=[.ref a,⇑l,.int (st:Nat),.int (en:Nat)]/\LsA K H a (ps.map dR)/\NeL ps/\(∀p ∈ ps,p.1.length<=1000)/\∀(r:Option (Nat × Nat)) (v:V) (H':Hp),Same H H'->UseAt H' r v->FirstN l ps st en ps.length r->Q v H'
def XS{st en:Nat}{s e:Int}(hs:s=(st:Nat))(he:e=(en:Nat))(hA:LsA K H a (ps.map dR))(hN:NeL ps)(hP:∀p ∈ ps,p.1.length<=1000)(q:∀(r:Option (Nat × Nat)) (v:V) (H':Hp),Same H H'->UseAt H' r v->FirstN l ps st en ps.length r->Q v H'):uV K [.ref a,⇑l,.int s,.int e] H Q E:=by subst hs he;exact#[a,l,ps,st,en,rfl,hA,hN,hP,q]
def gX:sQz 4 ["rules","word","start","end","found","number","rule","place"] wa:=by nofun
def jS(B:Bt mg)(F:("first_within"^^^wa)):(1&&&["rules","word","start","end"]) (uV K):=by
 exists F.ok gX
 ·let#[a,l,ps,st,en,rfl,hA,hN,hP,q]:=h
  refine#[_,(zh (zy 4 gX.nd yd) (zh (zR p8 rfl (y9 rfl B.enum (za (pv 0) zg)) (vQ (n:=2) rfl (zZ (zq (i:=5) gX.nd rfl (.inl rfl)) (zZ (zq (i:=6) gX.nd rfl (.inl rfl)) xW))) (zG (zy 7 gX.nd (wf bK dq du zct (pv 1) (za (!-6) (za (pv 2) (za (zD z7 (zD wn (pv 3) zd) (zA B.len (!-6))) zg))))) (ze (zJ (zv op_ge' (pv 7) zd (zx _)) (zG (zy 4 gX.nd (zW (za (pv 5) (za (pv 7) zg)))) (ze (zy 3 gX.nd (pv 7))))
     zr)))) (ze (zl (pv 4))))),?_]
  have s16:=zX;let#[xs,hX,hI]:=id hA;have hxl:=hI.len;rw[aa]at hxl;have s16:=zX;change H'=H/\σ=%[!!a,~~~l,-~~~st,-~~~en,Ba (.non)|3]
  ·rfl'
  rintro σ H1 ⟨rfl,rfl⟩:0;change Same H1 H'/\∃(r:Option (Nat × Nat)) (v:V) (v3 v5 v6 v7:Option V),UseAt H' r v/\FirstN l ps st en ps.length r/\σ=[!!a,~~~l,-~~~st,v3,Ba (v),v5,v6,v7]
  ·rfl'
   refine#[#[_,x4 hX],jb1 (xs:=xs) (λi σ H'=>Same H1 H'/\∃(r:Option (Nat × Nat)) (v:V) (v5 v6 v7:Option V),UseAt H' r v/\FirstN l ps st en i r/\σ=[!!a,~~~l,-~~~st,Ba (.int (((r.map Prod.snd).getD en:Nat):Int)),Ba (v),v5,v6,v7]) #[ja1 _,Bb,.non,Bb,Bb,Bb,.inl #[rfl,rfl],.inl #[rfl,λj q h=>w4 h (bq j)],rfl] (λi σ H' Z h=>x4 (h.1 _ _ hX)) ?_ ?_]
   ·refine nmE ?_;rintro i y σ H' p hy ⟨hs,r,v,v5,v6,v7,hu,hF,rfl⟩ hpn:_;let#[rl,pr,hri,rfl,hqr]:=hI.getR hy;have hm:=ac hri;have hne:=Bu.mpr (hN rl hm);have hrl:=hP rl hm;have s2:=hs.trans (zf (o:=.tup [.int (i:Nat),.ref pr]) hpn);have hq2:=zp s2 hqr;have hu2:=hu.same (zf (o:=.tup [.int (i:Nat),.ref pr]) hpn);right
    rfl'
    refine#[_,x6 zc,rfl,_,_,rfl,_,_,rfl,rfl,_,rfl,_,hq2,_,rfl,_,rfl,_,hq2,_,rfl,_,#[by rw[zI];lia,rfl],Uz ⋯ (by rw[zI];lia) λz hz=>#[z,rfl,?_]];rw[zI]at hz;rcases hz with ⟨rfl,hn⟩ | ⟨k,rfl,k1,k2,k3,hn⟩
    ·rw[w9 ∅];exact#[s2,r,v,hu2,hF.keep hri λq q1 q2=>hn q ⋯ ⋯,rfl,rfl]
    ·rw[w6 ⋯];refine#[⋯,λp2 hp2=>#[s2.trans (zf hp2),Ba (i,k),.ref p2,.inr #[i,k,p2,rfl,rfl,zc],hF.take hri ⋯ ⋯ k3 λq q1 q2=>hn q ⋯ q2,rfl,rfl]]
   ·refine nmB ?_;rintro σ H' ⟨hs,r,v,v5,v6,v7,hu,hF,rfl⟩:_;rw[hxl]at hF;right;exact#[hs,r,v,hu,hF,_,_,_,_,rfl]
  rintro σ H2 ⟨s2,r,v,v3,v5,v6,v7,hu,hF,rfl⟩:0
  rfl'
  exact q r v H2 s2 hu hF
structure zgM(mg:sS->Option sN):Prop where
 g:∃t,mg "WINDOW" = Ba (.int 128 t)
def Yd(K:sL):Sp:=λvs H Q Z=>∃(a:sM) (l:()) (ps:List zH) (st:Nat),vs=[.ref a,⇑l,.int (st:Nat)]/\LsA K H a (ps.map dR)/\NeL ps/\(∀p ∈ ps,p.1.length<=1000)/\l.length<=100000/\∀(r:Option (Nat × Nat)) (v:V) (H':Hp),Same H H'->UseAt H' r v->FirstN l ps st l.length ps.length r->Q v H'
def Y6{st:Nat}{s:Int}(hs:s=(st:Nat))(hA:LsA K H a (ps.map dR))(hN:NeL ps)(hP:∀p ∈ ps,p.1.length<=1000)(hl:l.length<=100000)(q:∀(r:Option (Nat × Nat)) (v:V) (H':Hp),Same H H'->UseAt H' r v->FirstN l ps st l.length ps.length r->Q v H'):Yd K [.ref a,⇑l,.int s] H Q E:=by subst hs;exact#[a,l,ps,st,rfl,hA,hN,hP,hl,q]
def iD:sQz 3 ["rules","word","start","size","found"] vh:=by nofun
def Zu(B:Bt mg)(T:zgM mg)(F:("first_from"^^^vh))(pF:(1<<<"first_within") ["rules","word","start","end"] [] (uV K)):(2&&&["rules","word","start"]) (Yd K):=by
 let#[t8,g8]:=T.g
 exists F.ok iD
 ·let#[a,l,ps,st,rfl,hA,hN,hP,hl,q]:=h
  refine#[_,(zh (zy 3 iD.nd (yI (v:=.int 128) rfl g8 #[t8,rfl])) (zh (vq p8 (zv Uh (pv 2) (zA B.len (pv 1)) (zx _)) (zG (zy 4 iD.nd (cl0 pF hr .nil rfl (za (pv 0) (za (pv 1) (za (pv 2) (za (zD z7 (pv 2) (pv 3)) zg)))))) (zG (zJ (zv op_notN' (pv 4) yd (zx _)) (ze (zl (pv 4)))
     zr) (zG (zy 2 iD.nd (zD z7 (pv 2) (pv 3))) (ze (zy 3 iD.nd (zD qw (pv 3) zd))))))) (ze (zl yd)))),?_]
  have s16:=zX;change H'=H/\σ=[!!a,~~~l,-~~~st,~~~!128,Bb]
  ·rfl'
  rintro σ H1 ⟨rfl,rfl⟩:0;change Same H1 H'/\FirstN l ps st l.length ps.length Bb
  ·unfold kH;refine#[λm σ H'=>∃(s z:Nat) (v4:Option V),m=l.length - s/\st<=s/\1<=z/\Same H1 H'/\FirstN l ps st s ps.length Bb/\σ=[!!a,~~~l,-~~~s,-~~~z,v4],#[_,st,128,Bb,rfl,al _,∅,ja1 _,.inl #[rfl,λj q Z h1 h2=>by lia],rfl],?_];refine nmC ?_;rintro m σ H' ⟨s,z,v4,rfl,hs,hz,sm,hF,rfl⟩:0
   rfl'
   refine#[⋯,yb (λhlt=>?_) λhge=>#[sm,hF.toEnd hN λZ=>by lia]];refine#[λσ' H''=>∃v4:Option V,Same H1 H''/\FirstN l ps st (s+z) ps.length Bb/\σ'=[!!a,~~~l,Ba (.int ((s+z:Nat):Int)),Ba (.int ((z * 2:Nat):Int)),v4],λσ' H'' ⟨v4,a1,a2,a3⟩=>#[l.length - (s+z),⋯,s+z,rfl,⋯,z * 2,⋯,a1,a2,v4,a3],?_];refine XS (en:=s+z) rfl ⋯ (hA.same sm) hN hP λr v H2 s2 hu hF2=>?_;rcases hu with ⟨rfl,rfl⟩ | ⟨n,qq,p,rfl,rfl,hp⟩
   ·rw[w9 (λh=>h rfl)];exact#[.inr #[∅,∅],Ba .non,sm.trans s2,hF.window hs hF2,by push_cast;rfl]
   ·rw[w6 (by intro h;cases h)];exact q _ _ H2 (sm.trans s2) (.inr #[n,qq,p,rfl,rfl,hp]) ((hF.window hs hF2).toEnd hN (λe=>by cases e))
  rintro σ H2 ⟨s2,hF⟩:0
  rfl'
  exact q Bb .non H2 s2 (.inl #[rfl,rfl]) hF
def LsA.pushT{D p:sM}(h1:H D=Ba (.lst xs))(h2:Iss K H ds xs)(hp:H p=Bb)(hv:Iss K H es vs)(f:z9 ds)(fe:z9 es):LsA K (upd (upd H p (.tup vs)) D (.lst (xs ++ [.ref p]))) D (ds ++ [.tup es]):=by have e:(upd H p (.tup vs)) D=Ba (.lst xs):=zf hp _ _ h1;exact jb2 e (ja0 (zf hp) _ _ h2) f (by erw[xp];exact fe) (Is.tup hp hv)
structure zbM(K:sL)(mg:sS->Option sN)(C:sM):Prop where
 xi:XI K C
 ini:ah K (.ref C) "__init__" = Ba (Ba (.builtin "ValueError.__init__"))
 g:mg "TooFar" = Ba (.ref C)
def dG(u:Nat × Nat):L3.D:=.tup [.int (u.1:Nat),.int (u.2:Nat),.bl Bc]
def zcj(u:Nat × Nat):xp (dG u):=by erw[dG,xp,z9,and_self]
def KB(us:List (Nat × Nat)):z9 (us.map dG):=vk λd h=>by let#[r,_,rfl]:=Bj.mp h;exact zcj r
def zfP : Iss K H [.int (n:Nat),.int (q:Nat),.bl Bc] [.int (n:Nat),.int (q:Nat),.bl Bc]:=by
 erw[Iss,Is]
 exact#[_,_,rfl,rfl,_,_,rfl,rfl,_,_,rfl,rfl,rfl]
structure Rd(ps:List zH)(l:())(J:Nat):Prop where
 live:kM ps l J
 len:∀j,j<=J->(wAt ps l j).length<=10000
 most:J<=10000
def xQ(K:sL)(CF:sM):Sp:=λvs H Q E=>∃(a:sM) (l:()) (ps:List zH) (m:Int) (J:Nat),vs=[.ref a,⇑l,.int m]/\LsA K H a (ps.map dR)/\NeL ps/\ps.length<=100/\(∀p ∈ ps,p.1.length<=1000/\p.2.length<=1000)/\Rd ps l J /\
 ((zF (wAt ps l J) ps=Bb/\(J:Int)<=m/\∀(p S:sM) (H':Hp),Same H H'->H' p=Ba (.tup [.ref S,⇑(wAt ps l J)])->LsA K H' S ((sAt ps l J).map dG)->H S=Bb->Q (.ref p) H') \/
  (zF (wAt ps l J) ps≠Bb/\(J:Int)=m/\∀H',Same H H'->E (.ref CF) Bb H'))
def QE{ps:List zH}{D:sM}(hA:LsA K H a (ps.map dR))(hP:∀p ∈ ps,p.1.length<=1000)(hpl:ps.length<=100)(hD:H D=Bb)(q:∀H',Same H H'->H' D=Ba (.lst ((ps.map λp=>(p.1.length:Int)).map V.int))->Q (.ref D) H') :
  CompL K a (yv 0) xo (tCB (WR K) (zM (tOp (uI K) (ya 0) (tC (.int 0))) xw)) 1 [] σ H Q D:=by
 have s16:=zX;let#[xs,hX,hI]:=hA;have hxl:=hI.len;rw[aa]at hxl;refine ja3 (xs:=xs) (λi Bg H'=>Same H H'/\H' D=Ba (.lst Bg)/\Bg=((ps.take i).map λp=>(p.1.length:Int)).map V.int) #[zf hD,zc,rfl] (λi Bg H' Z h=>x4 (h.1 _ _ hX)) ?_ ?_
 ·refine nm4 ?_;rintro i x Bg H' hx ⟨hs,hH,rfl⟩:_;have hil:=(Bh.mp hx).1;let#[r,pr,hri,rfl,hqr]:=hI.getR hx;have hm:=hP r (ac hri);right
  erw[xo]
  rfl'
  refine#[yz,_,zp hs hqr,_,rfl,_,#[by rw[zI];lia,rfl],hH,by rw[aa,aa,aC];lia,x8 hil #[zu hs hD,zc,?_]];rw[zP hri,am,am,zI];rfl
 ·refine nmB ?_;rintro Bg H' ⟨hs,hH,rfl⟩:_;rw[hxl,aJ]at hH;right;exact q H' hs hH
def zfB{rs:List zH}{i:Nat}(hI:Iss K H (rs.map dR) xs)(hi:rs[i]? = Ba r):∃p,atI xs (i:Int)=Ba (.ref p)/\SqT K H p [⇑r.1,⇑r.2]:=by have hl:=hI.len;rw[aa]at hl;have hil:=(Bh.mp hi).1;let#[v,a1,b1]:=vN (xs:=xs) (i:=(i:Int)) ⋯ ⋯;let#[r',p,h1,rfl,h3]:=hI.getR (j:=i) b1;rw[hi]at h1;cases h1;exact#[p,a1,h3]
def lh:sQz 3 ["rules","word","most","longest","steps","use","number","place"] vJ:=by nofun
def zcm(B:Bt mg)(T:zbM K mg CF)(TU:DNU P w K mg base CU)(F:FunD K "gone" "gone" vJ dV f fd)(nW:(2<<<"first_from") ["rules","word","start"] [] (Yd K))(rd:(3>>>"put") ["word","place","old","new"] [] (Vp CU)):(4|||["rules","word","most"]) (xQ K CF):=by
 exists FunD.okX F lh,0
 ·let#[a,l,ps,m,J,rfl,hA,hN,hpl,hP,hR,hq]:=h
  refine#[_,(zh (zy 3 lh.nd (QZ (zeH rfl) rfl B.max qL (za (yM (own:=["rule"]) (caps:=[]) (ix:=[]) (tt:=xo) (te:=(tCB (WR K) (zM (tOp (uI K) (ya 0) (tC (.int 0))) xw))) rfl (zK (sc:=zi vJ) rfl (!0) (!0) (!0) rfl (!0) (!0) rfl) (zY (pv 0)) (λZ Z Z Z Z Z=>zq (i:=0) (show List.Nodup [_] by decide) rfl (.inl rfl)) (λZ Z Z Z Z Z=>yg) (λZ Z Z Z Z Z=>(zA B.len (!-0)))) zg) (JQ zd zaI))) (zh (zy 4 lh.nd (xg zg)) (zh (zy 5 lh.nd (cl0 nW hr .nil rfl (za (pv 0) (za (pv 1) (za zd zg))))) (zh (vq PassesOwn.leaving (zv op_notN' (pv 5) yd (zx _)) (zh (zJ (zv op_ge' (zA B.len (pv 4)) (pv 2) (zx _)) (ze (ym hx rfl T.xi.toXC T.ini rfl T.g (za z6 zg)))
     zr) (zh (zy 6 lh.nd (!-5)) (zh (zy 7 lh.nd (!-5)) (zh (zy 1 lh.nd (clP hx rd hr .nil rfl (za (pv 1) (za (pv 7) (za (zk t7 (zk ix_list (pv 0) (pv 6)) zd) (za (zk t7 (zk ix_list (pv 0) (pv 6)) zd) zg)))))) (zh (yS (wf aX bh bn yx (pv 4) (za (zW (za (pv 6) (za (pv 7) (za yt zg)))) zg))) (ze (zy 5 lh.nd (cl0 nW hr .nil rfl (za (pv 0) (za (pv 1) (za (yW (JB rfl) rfl B.max qL (za zd (za (zD z7 (zD wn (pv 7) (pv 3)) zd) zg))) zg)))))))))))) (ze (zl (zW (za (pv 4) (za (pv 1) zg))))))))),?_]
  have s16:=zX;change Same H H'/\∃M:Int,(∀p ∈ ps,(p.1.length:Int)<=M)/\σ=%[!!a,~~~l,~~~!m,~~~!M|4]
  ·rfl'
   erw[zgG]
   rfl'
   let#[xs,hX,hI]:=id hA;exact#[#[_,x4 hX],λD hD=>QE hA (λp hp=>(hP p hp).1) hpl hD λH' s' hH=>#[D,_,0,rfl,rfl,x4 hH,λz Z hz=>#[s',z,λp hp=>hz _ (Bj.mpr #[p,hp,rfl]),rfl]]]
  rintro σ H1 ⟨s1,M,hM,rfl⟩:0;change Same H H'/\∃S:sM,H S=Bb/\H' S=Ba (.lst [])/\σ=%[!!a,~~~l,~~~!m,~~~!M,!!S|3]
  ·rfl'
   exact#[⋯,λp hp=>#[s1.trans (zf hp),p,s1.free hp,zc,rfl]]
  rintro σ H2 ⟨s2,S,hSn,hS,rfl⟩:0;change Same H H'/\H' S=Ba (.lst [])/\∃uv:V,UseAt H' (zF l ps) uv/\σ=%[!!a,~~~l,~~~!m,~~~!M,!!S,Ba (uv)|2]
  ·rfl'
   exact Y6 (st:=0) rfl (hA.same s2) hN (λp hp=>(hP p hp).1) (by have:=hR.len 0 (ar _);exact aH this ∅) λr v H' s' hu hF=>#[s2.trans s',s' _ _ hS,(by rw[ZF hF]at hu;exact hu)]
  rintro σ H3 ⟨s3,hS3,uv,hu,rfl⟩:0;change Same H H'/\zF (wAt ps l J) ps=Bb/\LsA K H' S ((sAt ps l J).map dG)/\∃v5 v6 v7,σ=[!!a,Ba ⇑(wAt ps l J),~~~!m,~~~!M,!!S,v5,v6,v7]
  ·unfold kH;refine#[λk σ H'=>∃(j:Nat) (uv:V) (v6 v7:Option V),k=J - j/\j<=J/\Same H H'/\LsA K H' S ((sAt ps l j).map dG)/\UseAt H' (zF (wAt ps l j) ps) uv/\σ=[!!a,Ba ⇑(wAt ps l j),~~~!m,~~~!M,!!S,Ba (uv),v6,v7],#[_,0,uv,Bb,Bb,rfl,ar _,s3,#[[],hS3,by erw[sAt,List.range_zero,aI,Iss]],hu,rfl],?_];refine nmC ?_;rintro k σ H' ⟨j,uv,v6,v7,rfl,hj,hs,hL,hu,rfl⟩:_;have hlj:=hR.len j hj;have hRm:=hR.most;let#[xs,hX,hI]:=id hA;right
   rfl'
   refine yb (λhne=>?_) λhne=>?_
   ·rcases hu with ⟨_,h⟩ | ⟨n,q0,p,hf,rfl,hp⟩
    ·exact w4 h hne
    have hF:=WZ (wAt ps l j) ps hN;rw[hf]at hF
    have hjJ:j<J\/(j=J/\(J:Int)=m/\∀H',Same H H'->E (.ref CF) Bb H'):=by
     by_cases e:j=J
     ·subst e;rcases hq with ⟨h,_⟩ | ⟨_,h1,h2⟩
      ·rw[hf]at h;cases h
      ·exact .inr #[rfl,h1,h2]
     ·exact .inl ⋯
    have hJm:(J:Int)<=m:=by
     rcases hq with ⟨_,h,_⟩ | ⟨_,h,_⟩ <;> lia
    obtain⟨rl,hrl,hst⟩:∃rl,ps[n]? = Ba rl/\zw (wAt ps l j) (q0:Int) rl.1=Bc:=by
     rcases hF with ⟨h,_⟩ | ⟨n0,q1,e,_,_,_,a4,_⟩
     ·cases h
     ·cases e;exact (vM a4).2
    have hlp:=hP rl (ac hrl);have hw:=xJ hf;let#[pr,hai,hqr]:=zfB hI hrl;refine#[λσ' H''=>∃(uv:V) (v6 v7:Option V),j<J/\Same H H''/\LsA K H'' S ((sAt ps l (j+1)).map dG)/\UseAt H'' (zF (wAt ps l (j+1)) ps) uv/\σ'=[!!a,Ba ⇑(wAt ps l (j+1)),~~~!m,~~~!M,!!S,Ba (uv),v6,v7],λσ' H'' ⟨uv,v6,v7,a0,a1,a2,a3,a4⟩=>#[J - (j+1),⋯,j+1,rfl,⋯,a1,a2,uv,a3,v6,v7,a4],?_];let#[ys,hY,hJ2]:=id hL;have hyl:=hJ2.len;rw[aa,vY]at hyl;refine zj (λσ' H''=>H''=H'/\j<J/\σ'=[!!a,Ba ⇑(wAt ps l j),~~~!m,~~~!M,!!S,!!p,v6,v7]) ?_ ?_
    ·rfl'
     refine#[_,.inl #[_,x4 hY,rfl],yb (λhge=>?_) λhge=>?_]
     ·rcases hjJ with h | ⟨_,_,h⟩
      ·lia
      ·exact#[⋯,h _ hs]
     ·rcases hjJ with h | ⟨e,h,_⟩
      ·exact h
      ·lia
    rintro σ' G1 ⟨rfl,hlt,rfl⟩:0;refine zj (λσ' H''=>H''=G1/\σ'=[!!a,Ba ⇑(wAt ps l j),~~~!m,~~~!M,!!S,!!p,-~~~n,v7]) ?_ ?_
    ·rfl'
     exact#[_,x6 hp,rfl]
    rintro σ' G2 ⟨rfl,rfl⟩:0;refine zj (λσ' H''=>H''=G2/\σ'=[!!a,Ba ⇑(wAt ps l j),~~~!m,~~~!M,!!S,!!p,-~~~n,-~~~q0]) ?_ ?_
    ·rfl'
     exact#[_,x6 hp,rfl]
    rintro σ' G3 ⟨rfl,rfl⟩:0;refine zj (λσ' H''=>H''=G3/\σ'=[!!a,Ba ⇑(wAt ps l (j+1)),~~~!m,~~~!M,!!S,!!p,-~~~n,-~~~q0]) ?_ ?_
    ·rfl'
     have hq2:=zp hs hqr;exact#[_,x4 (hs _ _ hX),_,hai,_,rfl,_,hq2,_,rfl,_,x4 (hs _ _ hX),_,hai,_,rfl,_,hq2,_,rfl,wAt ps l j,rl.1,rl.2,(q0:Nat),rfl,hlj,by have:=hlp.1;lia,by have:=hlp.2;lia,λZ=>#[rfl,by rw[hw];unfold ZA;rw[yT hrl]],λh=>by rw[hst]at h;cases h]
    rintro σ' G4 ⟨rfl,rfl⟩:0;refine zj (λσ' H''=>Same H H''/\LsA K H'' S ((sAt ps l (j+1)).map dG)/\σ'=[!!a,Ba ⇑(wAt ps l (j+1)),~~~!m,~~~!M,!!S,!!p,-~~~n,-~~~q0]) ?_ ?_
    ·rfl'
     refine#[.inl #[_,x4 hY],⋯,λt ht=>#[_,zf ht _ _ hY,⋯,zu (hs.trans (zf ht)) hSn,?_]];rw[W3,hf,am];exact LsA.pushT hY hJ2 ht zfP (KB _) (by erw[z9,xp,and_self])
    rintro σ' G5 ⟨s5,hL5,rfl⟩:_;have hl1:=hR.len (j+1) hlt;have hM0:=hM rl (ac hrl);right
    rfl'
    refine Y6 (st:=(if (q0:Int) - M+1 > 0 then (q0:Int) - M+1 else 0).toNat) (by split <;> lia) (hA.same s5) hN (λp hp=>(hP p hp).1) (aH hl1 ∅) λr v H' s' hu hF2=>#[hlt,s5.trans s',hL5.same s',?_];have hb:=Ul (M:=M.toNat) (lo:=(if (q0:Int) - M+1 > 0 then (q0:Int) - M+1 else 0).toNat) hF hN (λp hp=>by have:=hM p hp;lia) (by split <;> lia);rw[<- hw]at hb;rw[ZF (hb.window (ar _) hF2)]at hu;exact hu
   ·have hv:uv=.non:=Decidable.not_not.mp hne
    have hf:zF (wAt ps l j) ps=Bb:=by
     rcases hu with ⟨h,_⟩ | ⟨_,_,_,_,h,_⟩
     ·exact h
     ·rw[hv]at h;cases h
    have e:j=J:=by
     rcases ef j J with h | h
     ·exact w4 hf (hR.live j h)
     ·lia
    subst e;exact#[hs,hf,hL,rfl]
  rintro σ H4 ⟨s4,hF,hL,v5,v6,v7,rfl⟩:0
  rfl'
  rcases hq with ⟨_,_,hq⟩ | ⟨h,_⟩
  ·exact#[⋯,λp hp=>hq p S _ (s4.trans (zf hp)) zc (hL.same (zf hp)) hSn]
  ·exact w4 hF h
abbrev Stp:=Int × Int × Bool
def dSt(t:Stp):D:=.tup [.int t.1,.int t.2.1,.bl t.2.2]
def sdl(r:zH)(f:Bool):zH:=if f=Bc then r else (r.2,r.1)
def yn(ps:List zH)(w:())(t:Stp):Option (()) :=
 if 0<=t.1/\t.1<ps.length then (if zw w t.2.1 (sdl (ps.getD t.1.toNat ([],[])) t.2.2).1=Bc then Ba (yX w t.2.1 (sdl (ps.getD t.1.toNat ([],[])) t.2.2).1 (sdl (ps.getD t.1.toNat ([],[])) t.2.2).2)else Bb)else Bb
def zag{D p:sM}(h1:H D=Ba (.lst xs))(h2:Iss K H ds xs)(hp:H p=Bb)(hv:Iss K H es vs)(f:z9 ds)(fe:z9 es):LsA K (upd (upd H p (.tup vs)) D (.lst (xs ++ [.ref p]))) D (ds ++ [.tup es]):=by have e:(upd H p (.tup vs)) D=Ba (.lst xs):=zf hp _ _ h1;exact jb2 e (ja0 (zf hp) _ _ h2) f (by erw[xp];exact fe) (Is.tup hp hv)
def zeD : Iss K H [dS l,dS m] [⇑l,⇑m]:=by
 erw[Iss,Is]
 exact#[_,_,rfl,rfl,_,_,rfl,rfl,rfl]
def qJ(rs:List zH):Prop:=rs.length<=30/\∀r ∈ rs,r.1.length<=100/\r.2.length<=100
def zaE(h:Is K H (dSt t) v):∃p,v=.ref p/\SqT K H p [.int t.1,.int t.2.1,.bl t.2.2]:=by
 erw[dSt,Is,Iss]at h
 let#[a,xs,e,hs,v1,r1,rfl,rfl,v2,r2,rfl,rfl,v3,r3,rfl,rfl,rfl]:=h;exact#[a,e,hs]
def kN(h:SqT K H p [.int t.1,.int t.2.1,.bl t.2.2]):Is K H (dSt t) (.ref p):=by
 erw[dSt,Is,Iss]
 exact#[p,_,rfl,h,_,_,rfl,rfl,_,_,rfl,rfl,_,_,rfl,rfl,rfl]
def za1 : Iss K H [.int i,.int j,.bl b] [.int i,.int j,.bl b]:=by
 erw[Iss,Is]
 exact#[_,_,rfl,rfl,_,_,rfl,rfl,_,_,rfl,rfl,rfl]
def wm(rs:List Stp):z9 (rs.map dSt):=vk λd h=>by let#[r,_,rfl]:=Bj.mp h;erw[dSt,xp,z9,and_self]
def vz{rs:List Stp}{j:Nat}(h:Iss K H (rs.map dSt) vs)(q:vs[j]? = Ba v):∃r p,rs[j]? = Ba r/\v=.ref p/\SqT K H p [.int r.1,.int r.2.1,.bl r.2.2]:=by let#[d,e,i]:=h.get q;rw[au]at e;let#[r,hr,rfl]:=Bo.mp e;let#[p,e1,e2]:=zaE i;exact#[r,p,hr,e1,e2]
def zeW{rs:List zH}{i:Int}(hI:Iss K H (rs.map dR) xs)(h0:0<=i)(hi:i<rs.length):∃p,atI xs i=Ba (.ref p)/\rs[i.toNat]? = Ba (rs.getD i.toNat ([],[]))/\SqT K H p [⇑(rs.getD i.toNat ([],[])).1,⇑(rs.getD i.toNat ([],[])).2]:=by
 have hl:=hI.len;rw[aa]at hl;let#[v,a1,b1]:=vN (xs:=xs) (i:=i) h0 ⋯;let#[r,p,h1,rfl,h3]:=hI.getR b1;have e:rs.getD i.toNat ([],[])=r:=by rw[ae,h1];rfl
 rw[e];exact#[p,a1,h1,h3]
theorem XU(h:qJ rs)(i:Nat):(rs.getD i ([],[])).1.length<=100/\(rs.getD i ([],[])).2.length<=100:=by
 rw[ae]
 cases e:rs[i]? with
 | none=>exact#[ar _,ar _]
 | some r=>exact h.2 r (ac e)
def y6{w:()}{t:Stp}(h:¬ (0<=t.1/\t.1<ps.length)):yn ps w t=Bb:=w9 h
def yE{w:()}{t:Stp}(h:0<=t.1/\t.1<ps.length):yn ps w t=if zw w t.2.1 (sdl (ps.getD t.1.toNat ([],[])) t.2.2).1=Bc then Ba (yX w t.2.1 (sdl (ps.getD t.1.toNat ([],[])) t.2.2).1 (sdl (ps.getD t.1.toNat ([],[])) t.2.2).2)else Bb:=w6 h
def Ch(rs:List zH)(ws:List (()))(ss:List Stp):Prop:=ws.length=ss.length+1/\∀i s,ss[i]? = Ba s->∃w w',ws[i]? = Ba w/\ws[i+1]? = Ba w'/\yn rs w s=Ba w'
def bk(s:Stp):Stp:=(s.1,s.2.1,!s.2.2)
def yN(ss:List Stp):List Stp:=ss.reverse.map bk
def mvL(ss:List Stp)(z:Int):List Stp:=ss.map λs=>(s.1,s.2.1+z,s.2.2)
def zbI(r:zH)(f:Bool):sdl r (!f)=((sdl r f).2,(sdl r f).1):=by cases f <;> rfl
def kP{w w':()}(h:yn rs w s=Ba w'):yn rs w' (bk s)=Ba w:=by
 by_cases hb:0<=s.1/\s.1<rs.length
 ·rw[yE hb]at h;have hb':0<=(bk s).1/\(bk s).1<rs.length:=hb;rw[yE hb']
  erw[bk,zbI]
  generalize sdl (rs.getD s.1.toNat ([],[])) s.2.2=r at *;by_cases hs:zw w s.2.1 r.1=Bc
  ·rw[w6 hs]at h;cases h;let#[e1,e2]:=WV r.2 hs;rw[w6 e1,e2]
  ·rw[w9 hs]at h;cases h
 ·rw[y6 hb]at h;cases h
def Ch.back(h:Ch rs ws ss):Ch rs ws.reverse (yN ss):=by
 let#[hl,hs]:=h;refine#[by simp [yN,hl],λi s hi=>?_];have hil:i<ss.length:=by have:=(Bh.mp hi).1;simpa [yN] using this
 unfold yN at hi;rw[au,bF hil]at hi;let#[s0,h0,rfl]:=Bo.mp hi;let#[w,w',e1,e2,e3]:=hs _ _ h0;refine#[w',w,?_,?_,kP e3]
 ·rw[bF ⋯,<- e2];congr 1;lia
 ·rw[bF ⋯,<- e1];congr 1;lia
def WX{a w b:()}(h:k<=w.length):(a ++ w ++ b).drop (a.length+k)=w.drop k ++ b:=by rw[aQ,<- eS,gc,cK h]
def ZO{a w b o:()}(h:zw w k o=Bc):zw (a ++ w ++ b) (k+(a.length:Int)) o=Bc:=by let#[_,_,h0,h1]:=yA h;unfold zw at h ⊢;rw[decide_eq_true_eq]at h ⊢;let#[_,_,h2]:=h;refine#[⋯,by erw[aj];lia,?_];rw[show (k+(a.length:Int)).toNat=a.length+k.toNat by lia,WX ⋯,bx (by rw[aS];lia),h2]
def Ud{a w b o n:()}(h:zw w k o=Bc):yX (a ++ w ++ b) (k+(a.length:Int)) o n=a ++ yX w k o n ++ b:=by
 let#[_,_,h0,h1]:=yA h;unfold yX;rw[show (k+(a.length:Int)).toNat=a.length+k.toNat by lia]
 have e1:(a ++ w ++ b).take (a.length+k.toNat)=a ++ w.take k.toNat:=by
  rw[aQ,List.take_length_add_append,bx ⋯]
 have e2:(a ++ w ++ b).drop (a.length+k.toNat+o.length)=w.drop (k.toNat+o.length) ++ b:=by
  rw[Nat.add_assoc];exact WX ⋯
 rw[e1,e2];simp [aQ]
def qu{w w':()}(a b:())(h:yn rs w s=Ba w'):yn rs (a ++ w ++ b) (s.1,s.2.1+(a.length:Int),s.2.2)=Ba (a ++ w' ++ b):=by
 by_cases hb:0<=s.1/\s.1<rs.length
 ·rw[yE hb]at h;rw[yE (by exact hb)];simp only;generalize sdl (rs.getD s.1.toNat ([],[])) s.2.2=r at *;by_cases hs:zw w s.2.1 r.1=Bc
  ·rw[w6 hs]at h;cases h;rw[w6 (ZO hs),Ud hs]
  ·rw[w9 hs]at h;cases h
 ·rw[y6 hb]at h;cases h
def Ch.within(a b:())(h:Ch rs ws ss):Ch rs (ws.map λw=>a ++ w ++ b) (mvL ss (a.length:Int)):=by let#[hl,hs]:=h;refine#[by simp [mvL,hl],λi s hi=>?_];unfold mvL at hi;rw[au]at hi;let#[s0,h0,rfl]:=Bo.mp hi;let#[w,w',e1,e2,e3]:=hs _ _ h0;exact#[a ++ w ++ b,a ++ w' ++ b,by rw[au,e1];rfl,by rw[au,e2];rfl,qu a b e3]
def Fit(rs:List zH)(w:())(m:Int)(s:Stp):Prop:=∃w',yn rs w s=Ba w'/\(w'.length:Int)<=m
def WD{w o n:()}(h:zw w k o=Bc):(yX w k o n).length+o.length=w.length+n.length:=by
 let#[e,hl,h0,h1]:=yA h;unfold yX
 erw[aj,aS,hl]
 lia
def qU{D p:sM}(h1:H D=Ba (.lst xs))(h2:Iss K H ds xs)(hp:H p=Bb)(hv:Iss K H es vs)(f:z9 ds)(fe:z9 es):Iss K (upd (upd H p (.tup vs)) D (.lst (xs ++ [.ref p]))) (ds ++ [.tup es]) (xs ++ [.ref p]):=by let#[ys,hy1,hy2]:=zag h1 h2 hp hv f fe;rw[zc]at hy1;cases hy1;exact hy2
def uY(K:sL):Sp:=λvs H Q Z=>∃(t:sM) (ss:List Stp),vs=[.ref t]/\Is K H (.lst (ss.map dSt)) (.ref t)/\ss.length<=1000/\∀(D:sM) (H':Hp),H D=Bb->Same H H'->LsA K H' D ((yN ss).map dSt)->Q (.ref D) H'
def qK(h1:Is K H (.lst (ss.map dSt)) (.ref t))(h2:ss.length<=1000)(h:∀(D:sM) (H':Hp),H D=Bb->Same H H'->LsA K H' D ((yN ss).map dSt)->Q (.ref D) H'):uY K [.ref t] H Q E:=#[t,ss,rfl,h1,h2,h]
def zbx(h:ss.reverse[i]? = Ba s):(yN ss).take (i+1)=(yN ss).take i ++ [bk s]:=zP (by unfold yN;rw[au,h];rfl)
def zcN:sQz 1 ["steps"] Ww:=by nofun
def zc8(B:Bt mg)(F:("back"^^^Ww)):(1&&&["steps"]) (uY K):=by
 exists F.ok zcN
 ·let#[t,ss,rfl,hT,hsl,q]:=h;refine#[_,(ze (zl (yM (own:=["step"]) (caps:=[]) (ix:=[]) (tt:=xo) (te:=(Uq (zM (tOp (uI K) (ya 0) (tC (.int 0))) (zM (tOp (uI K) (ya 0) (tC (.int 1))) (zM (Jh (tOp (uI K) (ya 0) (tC (.int 2)))) xw))))) rfl (zK (sc:=zi Ww) rfl (!0) (!0) (!0) rfl (!0) (!0) rfl) (zet rfl B.rev (za (pv 0) zg)) (λZ Z Z Z Z Z=>zq (i:=0) (show List.Nodup [_] by decide) rfl (.inl rfl)) (λZ Z Z Z Z Z=>yg) (λZ Z Z Z Z Z=>(zW (za (!-0) (za (!-0) (za (zaC (!-0)) zg)))))))),?_];have s16:=zX
  rfl'
  erw[Is]at hT
  let#[_,ts,e,hTs,hJ]:=hT;cases e;have htl:=hJ.len;rw[aa]at htl;have hbl:(yN ss).length=ss.length:=by simp [yN]
  refine#[ts,hTs,λD hD=>CompV.by (xs:=ts) (λi Bg H'=>Same H H'/\H' D=Ba (.lst Bg)/\Iss K H' (((yN ss).take i).map dSt) Bg) #[zf hD,zc,by erw[bv,aI,Iss]] (λi Bg H' Z h=>h.1.seq hTs) ?_ ?_]
  ·refine nm4 ?_;rintro i x Bg H' hx ⟨hs,hH,hA⟩:_;have hi:i<ts.length:=by have:=(Bh.mp hx).1;simpa using this
   rw[bF hi]at hx;let#[s,ps,hsi,rfl,hqs]:=vz hJ hx;have hsr:ss.reverse[i]? = Ba s:=by rw[bF ⋯,<- hsi,htl]
   have hal:=hA.len;rw[aa,aC]at hal;right
   erw[xo]
   rfl'
   refine#[yz,_,zp hs hqs,_,rfl,_,zp hs hqs,_,rfl,_,zp hs hqs,_,rfl,_,rfl,⋯,λp hp=>#[zf hp _ _ hH,⋯,x8 hi #[zu (hs.trans (zf hp)) hD,zc,?_]]];rw[zbx hsr,am];exact qU hH hA hp za1 (wm _) (by erw[z9,xp,and_self])
  ·refine nmB ?_;rintro Bg H' ⟨hs,hH,hA⟩:_;rw[htl,<- hbl,aJ]at hA;right;exact q D H' hD hs #[Bg,hH,hA]
def Z2(K:sL):Sp:=λvs H Q Z=>∃(t:sM) (ss:List Stp) (z:Int),vs=[.ref t,.int z]/\Is K H (.lst (ss.map dSt)) (.ref t)/\ss.length<=1000/\∀(D:sM) (H':Hp),H D=Bb->Same H H'->LsA K H' D ((mvL ss z).map dSt)->Q (.ref D) H'
def Yr(h1:Is K H (.lst (ss.map dSt)) (.ref t))(h2:ss.length<=1000)(h:∀(D:sM) (H':Hp),H D=Bb->Same H H'->LsA K H' D ((mvL ss z).map dSt)->Q (.ref D) H'):Z2 K [.ref t,.int z] H Q E:=#[t,ss,z,rfl,h1,h2,h]
def KW:sQz 2 ["steps","size"] ZM:=by nofun
def K1(B:Bt mg)(F:("moved"^^^ZM)):(1&&&["steps","size"]) (Z2 K):=by
 exists F.ok KW
 ·let#[t,ss,z,rfl,hT,hsl,q]:=h;refine#[_,(ze (zl (yM (own:=["step"]) (caps:=["size"]) (ix:=[1]) (tt:=xo) (te:=(Uq (zM (tOp (uI K) (ya 0) (tC (.int 0))) (zM (tOp Y1 (tOp (uI K) (ya 0) (tC (.int 1))) (ya 1)) (zM (tOp (uI K) (ya 0) (tC (.int 2))) xw))))) rfl (zK (sc:=zi ZM) rfl (!0) (!0) (!0) rfl (!0) (!0) rfl) (zY (pv 0)) (λZ Z Z Z Z Z=>zq (i:=0) (show List.Nodup [_,_] by decide) rfl (.inl rfl)) (λZ Z Z Z Z Z=>yg) (λZ Z Z Z Z Z=>(zW (za (!-0) (za (zD jV (!-0) (pv 1)) (za (!-0) zg)))))))),?_];have s16:=zX
  rfl'
  erw[Is]at hT
  let#[_,ts,e,hTs,hJ]:=hT;cases e;have htl:=hJ.len;rw[aa]at htl;have hbl:(mvL ss z).length=ss.length:=by simp [mvL]
  refine#[#[ts,hTs],λD hD=>ja3 (xs:=ts) (λi Bg H'=>Same H H'/\H' D=Ba (.lst Bg)/\Iss K H' (((mvL ss z).take i).map dSt) Bg) #[zf hD,zc,by erw[bv,aI,Iss]] (λi Bg H' Z h=>h.1.seq hTs) ?_ ?_]
  ·refine nm4 ?_;rintro i x Bg H' hx ⟨hs,hH,hA⟩:_;have hi:=(Bh.mp hx).1;let#[s,ps,hsi,rfl,hqs]:=vz hJ hx;have hm:(mvL ss z)[i]? = Ba (s.1,s.2.1+z,s.2.2):=by unfold mvL;rw[au,hsi];rfl
   have hal:=hA.len;rw[aa,aC]at hal;right
   erw[xo]
   rfl'
   refine#[yz,_,zp hs hqs,_,rfl,_,zp hs hqs,_,rfl,_,zp hs hqs,_,rfl,⋯,λp hp=>#[zf hp _ _ hH,⋯,x8 hi #[zu (hs.trans (zf hp)) hD,zc,?_]]];rw[zP hm,am];exact qU hH hA hp za1 (wm _) (by erw[z9,xp,and_self])
  ·refine nmB ?_;rintro Bg H' ⟨hs,hH,hA⟩:_;rw[htl,<- hbl,aJ]at hA;right;exact q D H' hD hs #[Bg,hH,hA]
abbrev Ent:=() × () × List Stp
def dE(e:Ent):L3.D:=.tup [dS e.1,dS e.2.1,.lst (e.2.2.map dSt)]
def Wn(es:List Ent)(u:Stp):List Stp:=mvL (if u.2.2=Bc then (es.getD u.1.toNat ([],[],[])).2.2 else yN (es.getD u.1.toNat ([],[],[])).2.2) u.2.1
def byL(es:List Ent)(us:List Stp):List Stp:=us.flatMap (Wn es)
def zem(h:Is K H (dE e) v):∃p s,v=.ref p/\SqT K H p [⇑e.1,⇑e.2.1,.ref s]/\Is K H (.lst (e.2.2.map dSt)) (.ref s):=by
 erw[dE,Is,Iss]at h
 let#[a,xs,e0,hs,v1,r1,rfl,rfl,v2,r2,rfl,rfl,v3,r3,rfl,#[s,zs,rfl,h1,h2],rfl]:=h;refine#[a,s,e0,hs,?_]
 erw[Is]
 exact#[s,zs,rfl,h1,h2]
def zhk{es:List Ent}{i:Int}(hI:Iss K H (es.map dE) xs)(h0:0<=i)(hi:i<es.length):∃p s,atI xs i=Ba (.ref p)/\es[i.toNat]? = Ba (es.getD i.toNat ([],[],[]))/\SqT K H p [⇑(es.getD i.toNat ([],[],[])).1,⇑(es.getD i.toNat ([],[],[])).2.1,.ref s]/\Is K H (.lst ((es.getD i.toNat ([],[],[])).2.2.map dSt)) (.ref s):=by
 have hl:=hI.len;rw[aa]at hl;let#[v,a1,b1]:=vN (xs:=xs) (i:=i) h0 ⋯;let#[d,e,ix]:=hI.get b1;rw[au]at e;let#[r,hr,rfl]:=Bo.mp e;have e:es.getD i.toNat ([],[],[])=r:=by rw[ae,hr];rfl
 rw[e];let#[p,s,rfl,h2,h3]:=zem ix;exact#[p,s,a1,hr,h2,h3]
def YE(ss:List Stp)(z:Int):(mvL ss z).length=ss.length:=by simp [mvL]
def yB(ss:List Stp):(yN ss).length=ss.length:=by simp [yN]
def Qn(K:sL):Sp:=λvs H Q Z=>∃(a t:sM) (es:List Ent) (us:List Stp),vs=[.ref a,.ref t]/\Is K H (.lst (es.map dE)) (.ref a)/\Is K H (.lst (us.map dSt)) (.ref t)/\us.length<=100/\(∀e ∈ es,e.2.2.length<=600)/\(∀u ∈ us,0<=u.1/\u.1<es.length)/\∀(D:sM) (H':Hp),H D=Bb->Same H H'->LsA K H' D ((byL es us).map dSt)->Q (.ref D) H'
def lZ:sQz 2 ["entries","steps","chain","step","own"] uW:=by nofun
def Xv(B:Bt mg)(F:("by_pacts"^^^uW))(rY:(1<<<"moved") ["steps","size"] [] (Z2 K))(mF:(1<<<"back") ["steps"] [] (uY K)):(2&&&["entries","steps"]) (Qn K):=by
 exists F.ok lZ
 ·let#[a,t,es,us,rfl,hE,hU,hul,hel,hub,q]:=h
  refine#[_,(zh (zy 2 lZ.nd (xg zg)) (zh (zR p8 rfl (zY (pv 1)) (zq (i:=3) lZ.nd rfl (.inl rfl)) (zh (zy 4 lZ.nd (zk t7 (zk ix_list (pv 0) (!-3)) zd)) (ze (yS (wf aX PySem.F.slot_list_extend PySem.F.type_list_extend UF (pv 2) (za (cl0 rY hr .nil rfl (za (wG (yk (!-3) (λZ=>rfl)) (pv 4) (cl0 mF hr .nil rfl (za (pv 4) zg))) (za (!-3) zg))) zg)))))) (ze (zl (pv 2))))),?_]
  have s16:=zX;have hE':=hE;have hU':=hU
  erw[Is]at hE' hU'
  let#[_,xs,e,hX,hI]:=hE';cases e;let#[_,ts,e,hTs,hJ]:=hU';cases e;have htl:=hJ.len;rw[aa]at htl;change ∃D,H D=Bb/\Same H H'/\H' D=Ba (.lst [])/\σ=%[!!a,!!t,!!D|2]
  ·rfl'
   exact#[⋯,λp hp=>#[p,hp,zf hp,zc,rfl]]
  rintro σ H1 ⟨D,hD,s1,hD1,rfl⟩:0;change Same H H'/\LsA K H' D ((byL es us).map dSt)/\∃v3 v4,σ=[!!a,!!t,!!D,v3,v4]
  ·rfl'
   refine#[#[_,s1.seq hTs],jb0 (xs:=ts) (λi σ H'=>Same H H'/\LsA K H' D ((byL es (us.take i)).map dSt)/\(byL es (us.take i)).length<=i * 600/\∃v3 v4,σ=[!!a,!!t,!!D,v3,v4]) #[s1,#[[],hD1,by erw[bv,byL,List.flatMap_nil,aI,Iss]],by simp [byL],_,_,rfl] (λi σ H' Z h=>h.1.seq hTs) ?_ ?_]
   ·refine nm4 ?_;rintro i x σ H' hx ⟨hs,hL,hl,v3,v4,rfl⟩:_;let#[u,pu,hui,rfl,hqu]:=vz hJ hx;have hil:=(Bh.mp hui).1;let#[u0,u1]:=hub u (ac hui);let#[pe,se,g1,g2,g3,g4]:=zhk hI u0 u1;have hle:=hel _ (ac g2)
    have hby:byL es (us.take (i+1))=byL es (us.take i) ++ Wn es u:=by
     unfold byL;rw[zP hui,dB];simp
    right
    erw[yv,aN,aM]
    refine zj (λσ H''=>H''=H'/\σ=[!!a,!!t,!!D,!!pu,!!se]) ?_ ?_
    ·rfl'
     exact#[_,zp hs hqu,_,rfl,_,rfl,_,hs.seq hX,_,g1,_,rfl,_,zp hs g3,rfl]
    rintro σ G ⟨rfl,rfl⟩:_;let#[zs,hZ,hZI]:=id hL;have hzl:=hZI.len;rw[aa]at hzl;have hse:=Is.same hs _ _ g4
    have fin:∀(ws:List Stp) (M:sM) (G2:Hp),Wn es u=ws->ws.length<=600->Same G G2->LsA K G2 M (ws.map dSt)->Q4 (V.ref D) [V.ref M] G2 λx H1=>Same H H1/\LsA K H1 D ((byL es (us.take (i+1))).map dSt)/\(byL es (us.take (i+1))).length<=(i+1) * 600:=λws M G2 ew hwl sg hM=>by
     let#[ys,hY,hYI]:=hM;have hyl:=hYI.len;rw[aa]at hyl;have hZ2:=sg _ _ hZ;refine#[D,M,zs,ys,rfl,rfl,hZ2,hY,⋯,zu (hs.trans sg) hD,#[_,zc,?_],?_]
     ·rw[hby,ew,am];exact jc0 (Iss.updL hZ2 _ _ (wm _) (ja0 sg _ _ hZI)) (Iss.updL hZ2 _ _ (wm _) hYI)
     ·rw[hby,ew,aj];lia
    right
    rfl'
    refine#[.inl #[_,x4 hZ],_,zp hs hqu,_,rfl,_,rfl,yb (λhf=>#[_,zp hs hqu,_,rfl,Yr hse ⋯ λM G2 Z sg hM=>fin _ M G2 (by unfold Wn;rw[w6 hf]) (by rw[YE];lia) sg hM]) λhf=>qK hse ⋯ λM0 G1 Z sg0 hM0=>#[_,zp (hs.trans sg0) hqu,_,rfl,Yr hM0.is (by rw[yB];lia) λM G2 Z sg hM=>fin _ M G2 (by unfold Wn;rw[w9 hf]) (by rw[YE,yB];lia) (sg0.trans sg) hM]]
   ·refine nmB ?_;rintro σ H' ⟨hs,hL,hl,v3,v4,rfl⟩:_;rw[htl,aJ]at hL;right;exact#[hs,hL,_,_,rfl]
  rintro σ H2 ⟨s2,hL2,v3,v4,rfl⟩:0
  rfl'
  exact q D H2 hD s2 hL2
def yh(rs:List zH):()->List Stp->Option (())
 | w,[]=>Ba w
 | w,s::ss=>(yn rs w s).bind λw'=>yh rs w' ss
theorem xK(rs:List zH):∀(ss ts:List Stp) (w:()),yh rs w (ss ++ ts)=(yh rs w ss).bind λw'=>yh rs w' ts
 | [],ts,w=>rfl
 | s::ss,ts,w=>by
  erw[bE,yh]
  cases yn rs w s with
  | none=>rfl
  | some w1=>exact xK rs ss ts w1
def uB{w w':()}(h:yh rs w (s::ss)=Ba w'):∃w1,yn rs w s=Ba w1/\yh rs w1 ss=Ba w':=by
 erw[yh]at h
 let#[w1,h1,h2]:=BB.mp h;exact#[w1,h1,h2]
def jd{w w1 w2:()}(h:yh rs w ss=Ba w1)(h2:yn rs w1 s=Ba w2):yh rs w (ss ++ [s])=Ba w2:=by
 rw[xK,h]
 erw[yh,cq]
 rw[h2];rfl
def UO(s:Stp)(ss:List Stp):yN (s::ss)=yN ss ++ [bk s]:=by simp [yN]
theorem wY : ∀{ss:List Stp} {w w':()},yh rs w ss=Ba w'->yh rs w' (yN ss)=Ba w
 | [],w,w',h=>by cases h;rfl
 | s::ss,w,w',h=>by
  let#[w1,h1,h2]:=uB h;rw[UO];exact jd (wY h2) (kP h1)
theorem jD(a b:()):∀{ss:List Stp} {w w':()},yh rs w ss=Ba w'->yh rs (a ++ w ++ b) (mvL ss (a.length:Int))=Ba (a ++ w' ++ b)
 | [],w,w',h=>by cases h;rfl
 | s::ss,w,w',h=>by
  let#[w1,h1,h2]:=uB h;have e:mvL (s::ss) (a.length:Int)=(s.1,s.2.1+(a.length:Int),s.2.2)::mvL ss (a.length:Int):=rfl;rw[e]
  erw[yh]
  rw[qu a b h1];exact jD a b h2
def EOk(rs:List zH)(e:Ent):Prop:=yh rs e.1 e.2.2=Ba e.2.1
def zb(es:List Ent):List zH:=es.map λe=>(e.1,e.2.1)
theorem KS(hE:∀e ∈ es,EOk rs e){w w':()}(h:yn (zb es) w u=Ba w'):yh rs w (Wn es u)=Ba w':=by
 have hb:0<=u.1/\u.1<(zb es).length:=bX λhb=>by rw[y6 hb]at h;cases h
 rw[yE hb]at h;have hl:(zb es).length=es.length:=by unfold zb;rw[aa]
 rw[hl]at hb
 have hg:es[u.1.toNat]? = Ba (es.getD u.1.toNat ([],[],[])):=by
  rw[ae,af ⋯];rfl
 have hp:(zb es).getD u.1.toNat ([],[])=((es.getD u.1.toNat ([],[],[])).1,(es.getD u.1.toNat ([],[],[])).2.1):=by
  unfold zb;rw[ae,au,hg];rfl
 rw[hp]at h;have he:=hE _ (ac hg);unfold Wn;generalize es.getD u.1.toNat ([],[],[])=e at *
 have key:∀(o n:()) (ss:List Stp),sdl (e.1,e.2.1) u.2.2=(o,n)->yh rs o ss=Ba n->yh rs w (mvL ss u.2.1)=Ba w':=λo n ss hs hw=>by
  rw[hs]at h;by_cases hst:zw w u.2.1 o=Bc
  ·rw[w6 hst]at h;cases h;let#[e1,e2,h0,h1]:=yA hst;have:=jD (w.take u.2.1.toNat) (w.drop (u.2.1.toNat+o.length)) hw;rw[e1,e2,show ((u.2.1.toNat:Nat):Int)=u.2.1 by lia]at this;exact this
  ·rw[w9 hst]at h;cases h
 cases hf:u.2.2 with
 | true =>
  rw[w6 rfl];exact key e.1 e.2.1 e.2.2 (by rw[hf];rfl) he
 | false =>
  rw[w9 ∅];exact key e.2.1 e.1 (yN e.2.2) (by rw[hf];rfl) (wY he)
theorem jH(hE:∀e ∈ es,EOk rs e):∀{us:List Stp} {w w':()},yh (zb es) w us=Ba w'->yh rs w (byL es us)=Ba w'
 | [],w,w',h=>by cases h;rfl
 | u::us,w,w',h=>by
  let#[w1,h1,h2]:=uB h;have e:byL es (u::us)=Wn es u ++ byL es us:=by simp [byL]
  rw[e,xK,KS hE h1];exact jH hE h2
def UB(ok:qJ rs){w w':()}(h:yn rs w s=Ba w'):w'.length<=w.length+100:=by
 have hb:0<=s.1/\s.1<rs.length:=bX λhb=>by rw[y6 hb]at h;cases h
 rw[yE hb]at h;have g:=XU ok s.1.toNat;generalize rs.getD s.1.toNat ([],[])=r at *;by_cases hs:zw w s.2.1 (sdl r s.2.2).1=Bc
 ·rw[w6 hs]at h;cases h;have:=WD (n:=(sdl r s.2.2).2) hs
  have h2:(sdl r s.2.2).2.length<=100:=by
   cases s.2.2
   ·exact g.1
   ·exact g.2
  lia
 ·rw[w9 hs]at h;cases h
def ko(D:sM)(H:Hp):Hp:=λb=>if b=D then Bb else H b
def va{D b:sM}(h:b≠D):ko D H b=H b:=by unfold ko;rw[w9 h]
def jR{D:sM}:ko D H D=Bb:=by unfold ko;rw[w6 rfl]
def vm{D:sM}:Same (ko D H) H:=λb o e=>by
 by_cases hb:b=D
 ·rw[hb,jR]at e;cases e
 ·rw[va hb]at e;exact e
def JP{D:sM}(hD:H D=Bb)(s:Same H H'):Same H (ko D H'):=λb o e=>by
 have hb:b≠D:=λz=>by rw[z,hD]at e;cases e
 rw[va hb];exact s _ _ e
def vb{D:sM}(s:Same H H'):Same (ko D H) (ko D H'):=λb o e=>by
 by_cases hb:b=D
 ·rw[hb,jR]at e;cases e
 ·rw[va hb]at e ⊢;exact s _ _ e
def xH{D:sM}:Same (ko D H) (ko D (upd H D o)):=λb o' e=>by
 by_cases hb:b=D
 ·rw[hb,jR]at e;cases e
 ·rw[va hb]at e ⊢;rw[zt hb];exact e
def QC{D a:sM}(hD:H D=Ba (.lst ys))(h:SqT K H a xs):SqT K (ko D H) a xs:=by
 rcases h with (h | ⟨o,h⟩) | h
 ·exact .inl (.inl (by rw[va (λe=>by rw[e,hD]at h;cases h)];exact h))
 ·exact .inl (.inr #[o,by rw[va (λe=>by rw[e,hD]at h;cases h)];exact h])
 ·exact .inr h
theorem WW{D:sM}(hD:H D=Ba (.lst ys)):∀(ss:List Stp) (vs:List V),Iss K H (ss.map dSt) vs->Iss K (ko D H) (ss.map dSt) vs
 | [],vs,h=>by erw[aI,Iss]at h ⊢;exact h
 | s::ss,vs,h=>by
  erw[ao,Iss]at h ⊢
  let#[v,r,rfl,h1,h2]:=h;let#[p,rfl,h3]:=zaE h1;exact#[_,r,rfl,kN (QC hD h3),WW hD ss r h2]
def zf6(h1:SqT K H p [⇑e.1,⇑e.2.1,.ref s])(h2:Is K H (.lst (e.2.2.map dSt)) (.ref s)):Is K H (dE e) (.ref p):=by
 erw[dE,Is,Iss]
 erw[Is]at h2
 exact#[p,_,rfl,h1,_,_,rfl,rfl,_,_,rfl,rfl,_,_,rfl,h2,rfl]
def WK{es:List Ent}{j:Nat}(h:Iss K H (es.map dE) vs)(q:vs[j]? = Ba v):∃e p s,es[j]? = Ba e/\v=.ref p/\SqT K H p [⇑e.1,⇑e.2.1,.ref s]/\Is K H (.lst (e.2.2.map dSt)) (.ref s):=by let#[d,e,i]:=h.get q;rw[au]at e;let#[r,hr,rfl]:=Bo.mp e;let#[p,s,e1,e2,e3]:=zem i;exact#[r,p,s,hr,e1,e2,e3]
def zcq(h:Is K H d v):Iss K H [d] [v]:=by
 erw[Iss]
 exact#[v,[],rfl,h,rfl]
def EnA(K:sL)(H:Hp)(e:Ent)(v:V):Prop:=∃p s,v=.ref p/\SqT K H p [⇑e.1,⇑e.2.1,.ref s]/\LsA K H s (e.2.2.map dSt)
def EnsA(K:sL)(H:Hp):List Ent->List V->Prop
 | [],vs=>vs=[]
 | e::es,vs=>∃v r,vs=v::r/\EnA K H e v/\EnsA K H es r
def EnsL(K:sL)(H:Hp)(a:sM)(es:List Ent):Prop:=∃xs,SqL K H a xs/\EnsA K H es xs
def EnsM(K:sL)(H:Hp)(a:sM)(es:List Ent):Prop:=∃xs,H a=Ba (.lst xs)/\EnsA K H es xs
def EnA.is(h:EnA K H e v):Is K H (dE e) v:=by let#[p,s,rfl,h1,h2]:=h;exact zf6 h1 h2.is
def EnA.same{H H':Hp}{e:Ent}{v:V}(h:EnA K H e v)(q:Same H H'):EnA K H' e v:=by let#[p,s,e0,h1,h2]:=h;exact#[p,s,e0,zp q h1,h2.same q]
theorem EnsA.iss : ∀{es:List Ent} {vs:List V},EnsA K H es vs->Iss K H (es.map dE) vs
 | [],vs,h=>by erw[EnsA]at h;erw[aI,Iss];exact h
 | e::es,vs,h=>by
  erw[EnsA]at h
  let#[v,r,rfl,h1,h2]:=h
  erw[ao,Iss]
  exact#[v,r,rfl,h1.is,h2.iss]
def EnsA.len(h:EnsA K H es vs):vs.length=es.length:=by have:=h.iss.len;rw[aa]at this;exact this
theorem EnsA.same{H H':Hp}(q:Same H H'):∀{es:List Ent} {vs:List V},EnsA K H es vs->EnsA K H' es vs
 | [],vs,h=>by erw[EnsA]at h ⊢;exact h
 | e::es,vs,h=>by
  erw[EnsA]at h ⊢
  let#[v,r,e0,h1,h2]:=h;exact#[v,r,e0,h1.same q,h2.same q]
theorem EnsA.snoc(hv:EnA K H e v):∀{es:List Ent} {vs:List V},EnsA K H es vs->EnsA K H (es ++ [e]) (vs ++ [v])
 | [],vs,h=>by
  erw[EnsA]at h
  subst h
  erw[bg,EnsA]
  exact#[v,[],rfl,hv,rfl]
 | e'::es,vs,h=>by
  erw[EnsA]at h
  let#[x,r,rfl,hx,hr]:=h
  erw[bE,EnsA]
  exact#[x,r ++ [v],rfl,hx,hr.snoc hv]
theorem EnsA.get : ∀{es:List Ent} {vs:List V} {j:Nat} {v:V},EnsA K H es vs->vs[j]? = Ba v->∃e p s,es[j]? = Ba e/\v=.ref p/\SqT K H p [⇑e.1,⇑e.2.1,.ref s]/\LsA K H s (e.2.2.map dSt)
 | [],vs,j,v,h,q=>by
  erw[EnsA]at h
  subst h;simp at q
 | e::es,vs,0,v,h,q=>by
  erw[EnsA]at h
  let#[x,r,rfl,#[p,s,rfl,h1,h2],_]:=h;cases q;exact#[e,p,s,rfl,rfl,h1,h2]
 | e::es,vs,j+1,v,h,q=>by
  erw[EnsA]at h
  let#[x,r,rfl,_,hr]:=h;exact hr.get (j:=j) ↥q
def EnsL.is(h:EnsL K H a es):Is K H (.lst (es.map dE)) (.ref a):=by
 let#[xs,h1,h2]:=h
 erw[Is]
 exact#[a,xs,rfl,h1,h2.iss]
def EnsL.same{H H':Hp}{a:sM}{es:List Ent}(h:EnsL K H a es)(q:Same H H'):EnsL K H' a es:=by let#[xs,h1,h2]:=h;exact#[xs,q.seq h1,h2.same q]
def EnsM.l(h:EnsM K H a es):EnsL K H a es:=by let#[xs,h1,h2]:=h;exact#[xs,x4 h1,h2]
def EnsM.same{H H':Hp}{a:sM}{es:List Ent}(h:EnsM K H a es)(q:Same H H'):EnsM K H' a es:=by let#[xs,h1,h2]:=h;exact#[xs,q _ _ h1,h2.same q]
def EnA.new{D p s:sM}{H:Hp}{e:Ent}{ys:List V}(hD:H D=Ba (.lst ys))(hp:H p=Ba (.tup [⇑e.1,⇑e.2.1,.ref s]))(hs:LsA K H s (e.2.2.map dSt))(hsD:s≠D):EnA K (ko D H) e (.ref p):=by
 let#[zs,hz,hi]:=hs;have hpD:p≠D:=λz=>by rw[z,hD]at hp;cases hp
 exact#[p,s,rfl,x6 (by rw[va hpD];exact hp),zs,by rw[va hsD];exact hz,WW hD _ _ hi]
def xB(es:List Ent):(zb es).length=es.length:=by unfold zb;rw[aa]
def wy(K:sL):Sp:=λvs H Q Z=>∃(a:sM) (es:List Ent),vs=[.ref a]/\Is K H (.lst (es.map dE)) (.ref a)/\es.length<=1000/\∀(D:sM) (H':Hp),H D=Bb->Same H H'->LsA K H' D ((zb es).map dR)->Q (.ref D) H'
def wj(h1:Is K H (.lst (es.map dE)) (.ref a))(h2:es.length<=1000)(h:∀(D:sM) (H':Hp),H D=Bb->Same H H'->LsA K H' D ((zb es).map dR)->Q (.ref D) H'):wy K [.ref a] H Q E:=#[a,es,rfl,h1,h2,h]
def X1:sQz 1 ["entries"] vw:=by nofun
def X2(B:Bt mg)(F:("pairs_of"^^^vw)):(1&&&["entries"]) (wy K):=by
 exists F.ok X1
 ·let#[a,es,rfl,hA,hl,q]:=h;refine#[_,(ze (zl (yM (own:=["entry"]) (caps:=[]) (ix:=[]) (tt:=xo) (te:=(Uq (zM (tOp (uI K) (ya 0) (tC (.int 0))) (zM (tOp (uI K) (ya 0) (tC (.int 1))) xw)))) rfl (zK (sc:=zi vw) rfl (!0) (!0) (!0) rfl (!0) (!0) rfl) (zY (pv 0)) (λZ Z Z Z Z Z=>zq (i:=0) (show List.Nodup [_] by decide) rfl (.inl rfl)) (λZ Z Z Z Z Z=>yg) (λZ Z Z Z Z Z=>(zW (za (!-0) (za (!-0) zg))))))),?_];have s16:=zX
  rfl'
  erw[Is]at hA
  let#[_,xs,e,hX,hI]:=hA;cases e;have hxl:=hI.len;rw[aa]at hxl;have hpl:=xB es;refine#[#[xs,hX],λD hD=>ja3 (xs:=xs) (λi Bg H'=>Same H H'/\H' D=Ba (.lst Bg)/\Iss K H' (((zb es).take i).map dR) Bg) #[zf hD,zc,by erw[bv,aI,Iss]] (λi Bg H' Z h=>h.1.seq hX) ?_ ?_]
  ·refine nm4 ?_;rintro i x Bg H' hx ⟨hs,hH,hA⟩:_;have hi:=(Bh.mp hx).1;let#[e,pe,se,hei,rfl,hqe,_]:=WK hI hx;have hm:(zb es)[i]? = Ba (e.1,e.2.1):=by unfold zb;rw[au,hei];rfl
   have hal:=hA.len;rw[aa,aC]at hal;right
   erw[xo]
   rfl'
   refine#[yz,_,zp hs hqe,_,rfl,_,zp hs hqe,_,rfl,⋯,λp hp=>#[zf hp _ _ hH,⋯,x8 hi #[zu (hs.trans (zf hp)) hD,zc,?_]]];rw[zP hm,am];exact qU hH hA hp zeD (xf _) (by erw[z9,xp,and_self])
  ·refine nmB ?_;rintro Bg H' ⟨hs,hH,hA⟩:_;rw[hxl,<- hpl,aJ]at hA;right;exact q D H' hD hs #[Bg,hH,hA]
def z8(k:Nat)(l:())(ns:List Int)(e:Ent):Ent:=if zU k l ns e.2.1 e.1=Bc then e else (e.2.1,e.1,yN e.2.2)
structure EB(l:())(e:Ent):Prop where
 a:e.1.length<=60
 b:e.2.1.length<=60
 s:e.2.2.length<=600
 ma:∀c ∈ e.1,c ∈ l
 mb:∀c ∈ e.2.1,c ∈ l
def EB.rule(h:EB l e):EB l (z8 k l ns e):=by
 unfold z8;split
 ·exact h
 ·exact#[h.b,h.a,by rw[yB];exact h.s,h.mb,h.ma]
def vg(K:sL)(CO CR CW:sM):Sp:=λvs H Q Z=>∃(o p s:sM) (k:Nat) (l:()) (ns:List Int) (e:Ent),vs=[.ref o,.ref p]/\OrdAt CO CR CW H o k l ns/\OG l ns k/\SqT K H p [⇑e.1,⇑e.2.1,.ref s]/\Is K H (.lst (e.2.2.map dSt)) (.ref s)/\EB l e /\
 (z8 k l ns e=e->∀H',Same H H'->Q (.ref p) H') /\
 (∀(p' s':sM) (H':Hp),Same H H'->H s'=Bb->H' p'=Ba (.tup [⇑(z8 k l ns e).1,⇑(z8 k l ns e).2.1,.ref s'])->LsA K H' s' ((z8 k l ns e).2.2.map dSt)->Q (.ref p') H')
def k9{CO CR CW o p s:sM}(h1:OrdAt CO CR CW H o k l ns)(h2:OG l ns k)(h3:SqT K H p [⇑e.1,⇑e.2.1,.ref s])(h4:Is K H (.lst (e.2.2.map dSt)) (.ref s))(h5:EB l e)(h6:z8 k l ns e=e->∀H',Same H H'->Q (.ref p) H')(h7:∀(p' s':sM) (H':Hp),Same H H'->H s'=Bb->H' p'=Ba (.tup [⇑(z8 k l ns e).1,⇑(z8 k l ns e).2.1,.ref s'])->LsA K H' s' ((z8 k l ns e).2.2.map dSt)->Q (.ref p') H'):vg K CO CR CW [.ref o,.ref p] H Q E :=
 #[o,p,s,k,l,ns,e,rfl,h1,h2,h3,h4,h5,h6,h7]
def Uf:sQz 2 ["order","entry"] jE:=by nofun
def Ua{f CO CR CW:sM}(B:Bt mg)(DBk:DB P w K mg base CO CR CW)(F:("as_rule"^^^jE))(mF:(1<<<"back") ["steps"] [] (uY K)):(4&&&["order","entry"]) (vg K CO CR CW):=by
 exists F.ok Uf
 ·let#[o,p,s,k,l,ns,e,rfl,ho,hG,hp,hs,hE,q1,q2]:=h
  refine#[_,(zG (zJ (yk (zdi DBk hr (pv 0) (za (!-1) (za (!-1) zg))) (λZ=>rfl)) (ze (zl (pv 1)))
    zr) (ze (zl (zW (za (!-1) (za (!-1) (za (cl0 mF hr .nil rfl (za (!-1) zg)) zg))))))),?_]
  have s16:=zX;ac_rfl;let#[C,dx,fs,hf,ho1,hn,_]:=ho.fam;have h1:fs.lookup ("before" : sS)=Bb:=hn _ ∅ ∅;refine#[C,hf,dx,fs,ho1,h1,_,hp,_,rfl,_,hp,_,rfl,o,k,l,ns,e.2.1,e.1,rfl,ho,hG,by have:=hE.b;lia,by have:=hE.a;lia,hE.mb,hE.ma,λH1 s1=>#[_,rfl,yb (λh=>?_) λh=>?_]]
  ·exact q1 (by unfold z8;rw[w6 h]) H1 s1
  ·have er:z8 k l ns e=(e.2.1,e.1,yN e.2.2):=by unfold z8;rw[w9 h]
   rw[er]at q2;have hp1:=zp s1 hp;refine#[_,hp1,_,rfl,_,hp1,_,rfl,_,hp1,_,rfl,qK (Is.same s1 _ _ hs) (by have:=hE.s;lia) λD H2 hD s2 hL=>#[⋯,λt ht=>?_]];exact q2 t D _ (s1.trans (s2.trans (zf ht))) (s1.free hD) zc (hL.same (zf ht))
def XX{w:()}(hb:∀n ∈ ns,1<=n/\n<=1000000):0<=J4 l ns w:=by
 unfold J4
 have key:∀xs:List Int,(∀x ∈ xs,0<=x)->0<=xs.sum:=by
  intro xs
  induction xs with
  | nil=>intro _;simp
  | cons x xs ih =>
   intro h;rw[bw];have h1:=h x aB;have h2:=ih λy hy=>h y (av _ hy);lia
 refine key _ λx hx=>?_;let#[p,hp,rfl]:=Bj.mp hx;have h1:=(hb p.2 (dC (show (p.1,p.2) ∈ l.zip ns from hp)).2).1;exact Int.mul_nonneg ⋯ ⋯
def Jg(hb:∀n ∈ ns,1<=n/\n<=1000000)(h:zU k l ns u v=Bc):v≠[]:=by
 intro e;subst e
 have h0:zE k l ns []=0:=by
  unfold zE;split
  ·unfold J4
   have z:∀xs:List (Nat × Int),(xs.map λp=>(([]:()).count p.1:Int) * p.2).sum=0:=by
    intro xs
    induction xs with
    | nil=>rfl
    | cons x xs ih=>rw[ao,bw,ih];simp
   exact z _
  ·rfl
 have h1:0<=zE k l ns u:=by
  unfold zE;split
  ·exact XX hb
  ·lia
 have h2:uK k l []=[]:=by
  unfold uK yD;split <;> rfl
 unfold zU at h;rw[h0,h2]at h;split at h
 ·cases hr:uK k l u with
  | nil=>rw[hr]at h;cases h
  | cons a r=>rw[hr]at h;cases h
 ·have:=u5 h;lia
def jX(hE:EB l e)(hne:e.1≠e.2.1):zU k l ns (z8 k l ns e).2.1 (z8 k l ns e).1=Bc:=by
 unfold z8;by_cases h:zU k l ns e.2.1 e.1=Bc
 ·rw[w6 h];exact h
 ·rw[w9 h];have:=jY (k:=k) (ns:=ns) hE.ma hE.mb hne;show zU k l ns e.1 e.2.1=Bc;rw[this];simpa using h
def ja(k:Nat)(l:())(ns:List Int)(es:List Ent):List Ent:=(es.filter λe=>!decide (e.1=e.2.1)).map (z8 k l ns)
def zck(k:Nat)(l:())(ns:List Int)(es fs:List Ent):ja k l ns (es ++ fs)=ja k l ns es ++ ja k l ns fs:=by unfold ja;rw[di,am]
def Xu(k:Nat)(l:())(ns:List Int)(es:List Ent):(ja k l ns es).length<=es.length:=by unfold ja;rw[aa];exact dn _ _
def km(k:Nat)(l:())(ns:List Int)(a b:Ent):Bool:=if a.1=b.1 then zU k l ns a.2.1 b.2.1 else zU k l ns a.1 b.1
structure Lined(k:Nat)(l:())(ns:List Int)(es zs:List Ent):Prop where
 perm:zs.Perm (ja k l ns es)
 srt:zs.Pairwise λa b=>km k l ns b a=Bd
 is:zs=L3.srt (km k l ns) ([],[],[]) (ja k l ns es)
structure EndsAt(ps:List zH)(w:())(i:Nat):Prop where
 live:kM ps w i
 end_:zF (wAt ps w i) ps=Bb
 most:i<=40
def U4(ps:List zH)(w:()):(∃i,EndsAt ps w i)\/(kM ps w 40/\zF (wAt ps w 40) ps≠Bb):=by
 have key:∀n,n<=41->(∃i,EndsAt ps w i)\/kM ps w n:=by
  intro n
  induction n with
  | zero=>intro _;exact .inr λi h=>w4 h (bq i)
  | succ n ih =>
   intro hn;rcases ih ⋯ with h | h
   ·exact .inl h
   ·cases e:zF (wAt ps w n) ps with
    | none=>exact .inl #[n,h,e,⋯]
    | some u =>
     refine .inr λi hi=>?_;by_cases hin:i=n
     ·rw[hin,e];intro z;cases z
     ·exact h i ⋯
 rcases key 41 (al _)with h | h
 ·exact .inl h
 ·exact .inr #[λi hi=>h i ⋯,h 40 ∅]
def EndsAt.uniq{w:()}(h1:EndsAt ps w i)(h2:EndsAt ps w j):i=j:=uf h1.live h1.end_ h2.live h2.end_
def stS(us:List (Nat × Nat)):List Stp:=us.map λu=>((u.1:Int),(u.2:Int),Bc)
def yO(bs:List Ent)(e:Ent)(i j:Nat):Ent:=(wAt (zb bs) e.1 i,wAt (zb bs) e.2.1 j,byL bs (yN (stS (sAt (zb bs) e.1 i))) ++ e.2.2 ++ byL bs (stS (sAt (zb bs) e.2.1 j)))
def qY(e:Ent):Prop:=240<e.2.2.length\/60<e.1.length\/60<e.2.1.length
inductive xn(k:Nat)(l:())(ns:List Int):List Ent->List Ent->Option (List Ent)->Prop where
 | nil (bs:List Ent):xn k l ns bs [] (Ba bs)
 | same {bs es:List Ent} {e:Ent} {i j:Nat} {r:Option (List Ent)} (h1:EndsAt (zb bs) e.1 i) (h2:EndsAt (zb bs) e.2.1 j) (h3:wAt (zb bs) e.1 i=wAt (zb bs) e.2.1 j) (h4:xn k l ns bs es r):xn k l ns bs (e::es) r
 | new {bs es:List Ent} {e:Ent} {i j:Nat} {r:Option (List Ent)} (h1:EndsAt (zb bs) e.1 i) (h2:EndsAt (zb bs) e.2.1 j) (h3:wAt (zb bs) e.1 i≠wAt (zb bs) e.2.1 j) (h4:¬ qY (yO bs e i j)) (h5:xn k l ns (bs ++ [z8 k l ns (yO bs e i j)]) es r):xn k l ns bs (e::es) r
 | far {bs es:List Ent} {e:Ent} {i j:Nat} (h1:EndsAt (zb bs) e.1 i) (h2:EndsAt (zb bs) e.2.1 j) (h3:wAt (zb bs) e.1 i≠wAt (zb bs) e.2.1 j) (h4:qY (yO bs e i j)):xn k l ns bs (e::es) Bb
 | stuck {bs es:List Ent} {e:Ent} (h:(∀i,¬ EndsAt (zb bs) e.1 i)\/(∀j,¬ EndsAt (zb bs) e.2.1 j)):xn k l ns bs (e::es) Bb
inductive uL(k:Nat)(l:())(ns:List Int):Nat->List Ent->Option (List Ent)->Prop where
 | out (es:List Ent):uL k l ns 0 es Bb
 | bad {n:Nat} {es zs:List Ent} (h1:Lined k l ns es zs) (h2:xn k l ns [] zs Bb):uL k l ns (n+1) es Bb
 | done {n:Nat} {es zs bs:List Ent} (h1:Lined k l ns es zs) (h2:xn k l ns [] zs (Ba bs)) (h3:zb bs=zb zs):uL k l ns (n+1) es (Ba bs)
 | more {n:Nat} {es zs bs:List Ent} {r:Option (List Ent)} (h1:Lined k l ns es zs) (h2:xn k l ns [] zs (Ba bs)) (h3:zb bs≠zb zs) (h4:uL k l ns n bs r):uL k l ns (n+1) es r
def ye{w:()}(h:zF w ps=Ba u):∃p,ps[u.1]? = Ba p/\zw w (u.2:Int) p.1=Bc:=by have hm:u ∈ xZ w ps w.length:=List.mem_of_mem_head? (by unfold zF at h;rw[h];rfl);exact (vM (usesK_mem.mp hm).2).2
theorem uT{l w:()}(hw:∀c ∈ w,c ∈ l)(hp:∀p ∈ ps,∀c ∈ p.2,c ∈ l):∀j,∀c ∈ wAt ps w j,c ∈ l
 | 0=>hw
 | j+1=>by
  have ih:=uT hw hp j
  cases e:zF (wAt ps w j) ps with
  | none =>
   show ∀c ∈ Uo ps (wAt ps w j),c ∈ l;unfold Uo;rw[e];exact ih
  | some u =>
   let#[p,h1,h2]:=ye e;rw[xJ e];unfold ZA yX;rw[yT h1];intro c hc;rcases Bl.mp hc with hc | hc
   ·rcases Bl.mp hc with hc | hc
    ·exact ih c (bA hc)
    ·exact hp p (ac h1) c hc
   ·exact ih c (cY hc)
structure zcw(R:()->()->Prop):Prop where
 refl:∀u,R u u
 symm:∀{u v},R u v->R v u
 trans:∀{u v w},R u v->R v w->R u w
 ctx:∀{u v} (a b:()),R u v->R (a ++ u ++ b) (a ++ v ++ b)
def VH(R:()->()->Prop)(es:List Ent):Prop:=∀e ∈ es,R e.1 e.2.1
theorem zcl(hR:zcw R)(hk:∀p ∈ ps,R p.1 p.2)(w:()):∀j,R w (wAt ps w j)
 | 0=>hR.refl w
 | j+1=>by
  have ih:=zcl hR hk w j
  cases e:zF (wAt ps w j) ps with
  | none =>
   show R w (Uo ps (wAt ps w j));unfold Uo;rw[e];exact ih
  | some u =>
   let#[p,h1,h2]:=ye e;rw[xJ e];refine hR.trans ih ?_;let#[e1,_]:=yA h2;unfold ZA yX;rw[yT h1];have:=hR.ctx ((wAt ps w j).take ((u.2:Int)).toNat) ((wAt ps w j).drop (((u.2:Int)).toNat+p.1.length)) (hk p (ac h1));rw[e1]at this;exact this
def jC(h:VH R bs):∀p ∈ zb bs,R p.1 p.2:=λp hp=>by
 unfold zb at hp;let#[e,he,rfl]:=Bj.mp hp;exact h e he
def Za(hR:zcw R):R (z8 k l ns e).1 (z8 k l ns e).2.1 ↔ R e.1 e.2.1:=by
 unfold z8;split
 ·exact Iff.rfl
 ·exact#[hR.symm,hR.symm]
def Js(hR:zcw R){e:Ent}(h:VH R bs):R (wAt (zb bs) e.1 i) (wAt (zb bs) e.2.1 j) ↔ R e.1 e.2.1:=by have h1:=zcl hR (jC h) e.1 i;have h2:=zcl hR (jC h) e.2.1 j;exact#[λx=>hR.trans h1 (hR.trans x (hR.symm h2)),λx=>hR.trans (hR.symm h1) (hR.trans x h2)]
theorem zf3(hR:zcw R)(h:xn k l ns bs es r):∀fs,r=Ba fs->(VH R fs ↔ VH R bs/\VH R es):=by
 induction h with
 | nil bs =>
  intro fs e;cases e;exact#[λh=>#[h,λe he=>(nomatch he)],λh=>h.1]
 | @same bs es e i j r h1 h2 h3 h4 ih =>
  intro fs er;rw[ih fs er];refine#[λ⟨a,b⟩=>#[a,λx hx=>?_],λ⟨a,b⟩=>#[a,λx hx=>b x (av _ hx)]];rcases Bk.mp hx with rfl | hx
  ·refine (Js hR a (i:=i) (j:=j)).mp ?_;rw[h3];exact hR.refl _
  ·exact b x hx
 | @new bs es e i j r h1 h2 h3 h4 h5 ih =>
  intro fs er;rw[ih fs er];constructor
  ·rintro⟨a,b⟩;have a':VH R bs:=λx hx=>a x (bz _ hx);refine#[a',λx hx=>?_];rcases Bk.mp hx with rfl | hx
   ·have:=a _ (aF bs (Bm.mpr rfl));exact (Js hR a' (i:=i) (j:=j)).mp ((Za hR).mp this)
   ·exact b x hx
  ·rintro⟨a,b⟩;refine#[λx hx=>?_,λx hx=>b x (av _ hx)];rcases Bl.mp hx with hx | hx
   ·exact a x hx
   ·rw[Bm.mp hx];exact (Za hR).mpr ((Js hR a (i:=i) (j:=j)).mpr (b e aB))
 | far=>intro fs e;cases e
 | stuck=>intro fs e;cases e
def Within(p w:()):Prop:=∃a b:(),w=a ++ p ++ b
def Qi{w p:()}{q:Nat}(h:zw w (q:Int) p=Bc):Within p w:=by let#[e,_]:=yA h;exact#[_,_,e.symm]
def Jo{w p:()}(h:Within p w):∃q:Nat,zw w (q:Int) p=Bc:=by let#[a,b,rfl]:=h;refine#[a.length,?_];unfold zw;refine u6 #[⋯,by erw[aj];lia,?_];rw[aA,aQ,gc,List.take_left]
def UW{w:()}(hN:NeL ps)(h:zF w ps=Bb):∀p ∈ ps,¬ Within p.1 w:=λp hp hw=>by
 let#[q,hq]:=Jo hw;let#[j,hj]:=Bw.mp hp;have hlt:=j8 (hN p hp) hq;have hs:stJ w ps q j=Bc:=by rw[Zb hj];exact hq
 have:(j,q) ∈ xZ w ps w.length:=usesK_mem.mpr #[hlt,hs];unfold zF at h;rw[List.head?_eq_none_iff]at h;rw[h]at this;cases this
structure RL(k:Nat)(l:())(ns:List Int)(bs:List Ent):Prop where
 e:∀e ∈ bs,EB l e
 lt:∀e ∈ bs,zU k l ns e.2.1 e.1=Bc
def zav{w:()}(G:OG l ns k)(hp:∀p ∈ ps,zU k l ns p.2 p.1=Bc/\(∀c ∈ p.1,c ∈ l)/\∀c ∈ p.2,c ∈ l)(hw:∀c ∈ w,c ∈ l)(h:zF w ps=Ba u):zU k l ns (ZA w ps u) w=Bc:=by let#[p,h1,h2]:=ye h;let#[e1,_]:=yA h2;let#[p1,p2,p3]:=hp p (ac h1);unfold ZA yX;rw[yT h1];have ha:∀c ∈ w.take ((u.2:Int)).toNat,c ∈ l:=λc hc=>hw c (bA hc);have hb:∀c ∈ w.drop (((u.2:Int)).toNat+p.1.length),c ∈ l:=λc hc=>hw c (cY hc);generalize w.take ((u.2:Int)).toNat=a at *;generalize w.drop (((u.2:Int)).toNat+p.1.length)=b at *;rw[<- e1];have ap:∀x:(),(∀c ∈ x,c ∈ l)->∀c ∈ a ++ x,c ∈ l:=λx hx c hc=>(Bl.mp hc).elim (ha c) (hx c);rw[(Yk G hb (ap p.2 p3) (ap p.1 p2)).2,(Yk G ha p3 p2).1];exact p1
theorem zaX{w:()}(G:OG l ns k)(hp:∀p ∈ ps,zU k l ns p.2 p.1=Bc/\(∀c ∈ p.1,c ∈ l)/\∀c ∈ p.2,c ∈ l)(hw:∀c ∈ w,c ∈ l):∀j,wAt ps w j=w\/zU k l ns (wAt ps w j) w=Bc
 | 0=>.inl rfl
 | j+1=>by
  have ih:=zaX G hp hw j;have hm:=uT hw (λp hp'=>(hp p hp').2.2) j
  cases e:zF (wAt ps w j) ps with
  | none =>
   show Uo ps (wAt ps w j)=w\/zU k l ns (Uo ps (wAt ps w j)) w=Bc;unfold Uo;rw[e];exact ih
  | some u =>
   rw[xJ e];have h:=zav G hp hm e;rcases ih with h' | h'
   ·rw[h']at h ⊢;exact .inr h
   ·exact .inr (jn h h')
def RL.pairs(h:RL k l ns bs):∀p ∈ zb bs,zU k l ns p.2 p.1=Bc/\(∀c ∈ p.1,c ∈ l)/\∀c ∈ p.2,c ∈ l:=λp hp=>by
 unfold zb at hp;let#[e,he,rfl]:=Bj.mp hp;exact#[h.lt e he,(h.e e he).ma,(h.e e he).mb]
def RL.ne(h:RL k l ns bs)(G:OG l ns k):NeL (zb bs):=λp hp=>Jg G.nb (h.pairs p hp).1
def RL.snoc(h:RL k l ns bs)(hd:EB l d)(hne:d.1≠d.2.1):RL k l ns (bs ++ [z8 k l ns d]):=by
 refine#[λe he=>?_,λe he=>?_]
 ·rcases Bl.mp he with he | he
  ·exact h.e e he
  ·rw[Bm.mp he];exact hd.rule
 ·rcases Bl.mp he with he | he
  ·exact h.lt e he
  ·rw[Bm.mp he];exact jX hd hne
def zbA(hB:RL k l ns bs)(hE:EB l e)(hF:¬ qY (yO bs e i j)):EB l (yO bs e i j):=by unfold qY at hF;exact#[⋯,⋯,⋯,uT hE.ma (λp hp=>(hB.pairs p hp).2.2) i,uT hE.mb (λp hp=>(hB.pairs p hp).2.2) j]
def V9(G:OG l ns k)(hB:RL k l ns bs)(hE:EB l e)(hlt:zU k l ns e.2.1 e.1=Bc)(h1:EndsAt (zb bs) e.1 i)(h2:EndsAt (zb bs) e.2.1 j)(hp1:(z8 k l ns (yO bs e i j)).1=e.1)(hp2:(z8 k l ns (yO bs e i j)).2.1=e.2.1):zF e.1 (zb bs)=Bb/\zF e.2.1 (zb bs)=Bb:=by
 unfold z8 at hp1 hp2;by_cases h:zU k l ns (yO bs e i j).2.1 (yO bs e i j).1=Bc
 ·rw[w6 h]at hp1 hp2;have a1:wAt (zb bs) e.1 i=e.1:=hp1;have a2:wAt (zb bs) e.2.1 j=e.2.1:=hp2;have b1:=h1.end_;have b2:=h2.end_;rw[a1]at b1;rw[a2]at b2;exact#[b1,b2]
 ·rw[w9 h]at hp1 hp2;have a1:wAt (zb bs) e.2.1 j=e.1:=hp1;rcases zaX G hB.pairs hE.mb j with h' | h'
  ·rw[a1]at h';rw[h',xN]at hlt;cases hlt
  ·rw[a1]at h';rw[Xt h']at hlt;cases hlt
theorem kE(G:OG l ns k)(h:xn k l ns bs es r):∀fs,r=Ba fs->RL k l ns bs->RL k l ns es->∃gs,fs=bs ++ gs/\gs.length<=es.length/\RL k l ns fs /\
  (zb gs=zb es->∀i e,es[i]? = Ba e->zF e.1 (zb (bs ++ gs.take i))=Bb/\zF e.2.1 (zb (bs ++ gs.take i))=Bb):=by
 induction h with
 | nil bs =>
  intro fs er hb he;cases er;exact#[[],by simp,al _,hb,λZ i e h=>by simp at h]
 | @same bs es e i j r h1 h2 h3 h4 ih =>
  intro fs er hb he;let#[gs,g1,g2,g3,g4]:=ih fs er hb #[λx hx=>he.e x (av _ hx),λx hx=>he.lt x (av _ hx)];refine#[gs,g1,by rw[aG];lia,g3,λhp=>?_];have:=congrArg cQ hp;unfold zb at this;rw[aa,aa,aG]at this;lia
 | @new bs es e i j r h1 h2 h3 h4 h5 ih =>
  intro fs er hb he;have hEe:=he.e e aB;have hd:=zbA hb hEe h4;let#[gs,g1,g2,g3,g4]:=ih fs er (hb.snoc hd h3) #[λx hx=>he.e x (av _ hx),λx hx=>he.lt x (av _ hx)];refine#[z8 k l ns (yO bs e i j)::gs,by rw[g1,aQ];rfl,by rw[aG,aG];lia,g3,λhp n x hx=>?_];unfold zb at hp;rw[ao,ao]at hp;injection hp with hp1 hp2;have hp1a:=(Prod.ext_iff.mp hp1).1;have hp1b:=(Prod.ext_iff.mp hp1).2
  cases n with
  | zero =>
   have e0:e=x:=by simpa using hx
   subst e0;rw[bv,aT];exact V9 G hb hEe (he.lt _ aB) h1 h2 hp1a hp1b
  | succ n =>
   have:=g4 hp2 n x ↥hx;rw[aQ]at this;rw[eP];exact this
 | far=>intro fs e;cases e
 | stuck=>intro fs e;cases e
def qz(G:OG l ns k){p w:()}(hw:∀c ∈ w,c ∈ l)(h:Within p w):p=w\/zU k l ns p w=Bc:=by
 let#[a,b,rfl]:=h;by_cases e:a ++ p ++ b=p
 ·exact .inl e.symm
 ·refine .inr (Kl G (λc hc=>hw c ?_) (λc hc=>hw c ?_) (λc hc=>hw c ?_) e).1
  ·exact bz _ (bz _ hc)
  ·exact bz _ (aF _ hc)
  ·exact aF _ hc
structure ThinL(k:Nat)(l:())(ns:List Int)(zs:List Ent):Prop where
 rl:RL k l ns zs
 up:∀(i j:Nat) (a b:Ent),zs[i]? = Ba a->zs[j]? = Ba b->i<j->zU k l ns a.1 b.1=Bc
 no1:∀(i j:Nat) (a b:Ent),zs[i]? = Ba a->zs[j]? = Ba b->i≠j->¬ Within b.1 a.1
 no2:∀(i j:Nat) (a b:Ent),zs[i]? = Ba a->zs[j]? = Ba b->¬ Within b.1 a.2.1
def zbV(G:OG l ns k)(hz:RL k l ns zs)(hs:zs.Pairwise λa b=>km k l ns b a=Bd)(h:xn k l ns [] zs (Ba bs))(hp:zb bs=zb zs):ThinL k l ns zs:=by
 let#[gs,g1,g2,g3,g4]:=kE G h bs rfl #[λe he=>(nomatch he),λe he=>(nomatch he)] hz;rw[bg]at g1;subst g1;have irr:=g4 hp
 erw[bg]at irr
 have early:∀(i j:Nat) (a b:Ent),zs[i]? = Ba a->zs[j]? = Ba b->j<i->¬ Within b.1 a.1/\¬ Within b.1 a.2.1:=λi j a b ha hb hj=>by
  have hm:(b.1,b.2.1) ∈ zb (bs.take i):=by
   have e1:zb (bs.take i)=(zb zs).take i:=by
    rw[<- hp];unfold zb;rw[gp]
   rw[e1];refine Bw.mpr #[j,?_];rw[cZ hj];unfold zb;rw[au,hb];rfl
  have hN:NeL (zb (bs.take i)):=λp hp'=>by
   refine (g3.ne G) p ?_;unfold zb at hp' ⊢;let#[x,hx,rfl]:=Bj.mp hp';exact Bj.mpr #[x,bA hx,rfl]
  let#[f1,f2]:=irr i a ha;exact#[UW hN f1 _ hm,UW hN f2 _ hm]
 have later:∀(i j:Nat) (a b:Ent),zs[i]? = Ba a->zs[j]? = Ba b->i<j->zU k l ns b.1 a.1=Bd:=λi j a b ha hb hij=>by
  have hi:=(Bh.mp ha);have hj:=(Bh.mp hb);have:=List.pairwise_iff_getElem.mp hs i j hi.1 hj.1 hij;rw[hi.2,hj.2]at this;unfold km at this;by_cases e:b.1=a.1
  ·rw[e,xN]
  ·rw[w9 e]at this;exact this
 have memz:∀{i:Nat} {a:Ent},zs[i]? = Ba a->EB l a/\zU k l ns a.2.1 a.1=Bc:=λ{i a} ha=>#[hz.e _ (ac ha),hz.lt _ (ac ha)]
 have up:∀(i j:Nat) (a b:Ent),zs[i]? = Ba a->zs[j]? = Ba b->i<j->zU k l ns a.1 b.1=Bc:=λi j a b ha hb hij=>by
  have hne:a.1≠b.1:=λe=>(early j i b a hb ha hij).1 #[[],[],by rw[e];simp];have t:=jY (k:=k) (ns:=ns) (memz ha).1.ma (memz hb).1.ma hne;rw[later i j a b ha hb hij]at t;simpa using t
 refine#[hz,up,λi j a b ha hb hij=>?_,λi j a b ha hb hw=>?_]
 ·rcases Nat.lt_or_gt_of_ne hij with h1 | h1
  ·intro hw;rcases qz G (memz ha).1.ma hw with e | e
   ·have:=up i j a b ha hb h1;rw[e,xN]at this;cases this
   ·rw[later i j a b ha hb h1]at e;cases e
  ·exact (early i j a b ha hb h1).1
 ·have hle:zU k l ns b.1 a.1=Bc:=by
   rcases qz G (memz ha).1.mb hw with e | e
   ·rw[e];exact (memz ha).2
   ·exact jn e (memz ha).2
  rcases dQ i j with h1 | h1 | h1
  ·rw[later i j a b ha hb h1]at hle;cases hle
  ·subst h1;rw[ha]at hb;cases hb;rw[xN]at hle;cases hle
  ·exact (early i j a b ha hb h1).2 hw
theorem uG{w:()}:∀{i:Nat},kM ps w i->yh ps w (stS (sAt ps w i))=Ba (wAt ps w i)
 | 0,_=>rfl
 | i+1,h=>by
  have ih:=uG (i:=i) λj hj=>h j ⋯;have hne:=h i ⋯
  cases e:zF (wAt ps w i) ps with
  | none=>exact w4 e hne
  | some u =>
   rw[W3,xJ e,e];unfold stS at ih ⊢;rw[am];refine jd ih ?_;let#[p,h1,h2]:=ye e;have hl:=(Bh.mp h1).1;show yn ps (wAt ps w i) ((u.1:Int),(u.2:Int),Bc)=_;rw[yE (by show (0:Int)<=(u.1:Int)/\(u.1:Int)<ps.length;lia)];have e2:ps.getD ((u.1:Int)).toNat ([],[])=p:=by rw[aA,ae,h1];rfl
   show (if zw (wAt ps w i) (u.2:Int) (sdl (ps.getD ((u.1:Int)).toNat ([],[])) Bc).1=Bc then _ else Bb)=_;rw[e2,w6 (show zw (wAt ps w i) (u.2:Int) (sdl p Bc).1=Bc from h2)];unfold ZA;rw[yT h1];rfl
def Jr(h:EOk rs e):EOk rs (z8 k l ns e):=by
 unfold z8;split
 ·exact h
 ·exact wY h
def zcX(hb:∀e ∈ bs,EOk rs e)(he:EOk rs e)(h1:EndsAt (zb bs) e.1 i)(h2:EndsAt (zb bs) e.2.1 j):EOk rs (yO bs e i j):=by have w1:=jH hb (wY (uG h1.live));have w2:=jH hb (uG h2.live);have he':yh rs e.1 e.2.2=Ba e.2.1:=he;show yh rs (wAt (zb bs) e.1 i) (byL bs (yN (stS (sAt (zb bs) e.1 i))) ++ e.2.2 ++ byL bs (stS (sAt (zb bs) e.2.1 j)))=Ba (wAt (zb bs) e.2.1 j);rw[xK,xK,w1,cq,he',cq];exact w2
theorem Vd(h:xn k l ns bs es r):∀fs,r=Ba fs->(∀e ∈ bs,EOk rs e)->(∀e ∈ es,EOk rs e)->∀e ∈ fs,EOk rs e:=by
 induction h with
 | nil bs=>intro fs er hb _;cases er;exact hb
 | @same bs es e i j r h1 h2 h3 h4 ih=>intro fs er hb he;exact ih fs er hb λx hx=>he x (av _ hx)
 | @new bs es e i j r h1 h2 h3 h4 h5 ih =>
  intro fs er hb he;refine ih fs er (λx hx=>?_) λx hx=>he x (av _ hx);rcases Bl.mp hx with hx | hx
  ·exact hb x hx
  ·rw[Bm.mp hx];exact Jr (zcX hb (he e aB) h1 h2)
 | far=>intro fs e;cases e
 | stuck=>intro fs e;cases e
def Vf(h:Lined k l ns es zs)(he:∀e ∈ es,EOk rs e):∀e ∈ zs,EOk rs e:=λe hz=>by
 have hm:=h.perm.mem_iff.mp hz;unfold ja at hm;let#[y,hy,rfl]:=Bj.mp hm;exact Jr (he y (Bp.mp hy).1)
def Vc(h:Lined k l ns es zs)(he:∀e ∈ es,EB l e):RL k l ns zs:=by
 have key:∀e ∈ zs,∃y,EB l y/\y.1≠y.2.1/\e=z8 k l ns y:=λe hz=>by
  have hm:=h.perm.mem_iff.mp hz;unfold ja at hm;let#[y,hy,rfl]:=Bj.mp hm;let#[h1,h2]:=Bp.mp hy;exact#[y,he y h1,by simpa using h2,rfl]
 refine#[λe hz=>?_,λe hz=>?_]
 ·let#[y,h1,_,rfl]:=key e hz;exact h1.rule
 ·let#[y,h1,h2,rfl]:=key e hz;exact jX h1 h2
def K0(G:OG l ns k)(hz:RL k l ns zs)(h:xn k l ns [] zs (Ba bs)):RL k l ns bs:=by let#[gs,g1,g2,g3,g4]:=kE G h bs rfl #[λe he=>(nomatch he),λe he=>(nomatch he)] hz;exact g3
theorem WL(G:OG l ns k)(h:uL k l ns n es r):∀fs,r=Ba fs->(∀e ∈ es,EB l e)->(∀e ∈ es,EOk rs e)->(∀e ∈ fs,EOk rs e)/\∃zs,ThinL k l ns zs/\zb fs=zb zs:=by
 induction h with
 | out=>intro fs e;cases e
 | bad=>intro fs e;cases e
 | @done n es zs bs h1 h2 h3 =>
  intro fs er he ho;cases er;have hz:=Vc h1 he;exact#[Vd h2 bs rfl (λe h=>(nomatch h)) (Vf h1 ho),zs,zbV G hz h1.srt h2 h3,h3]
 | @more n es zs bs r h1 h2 h3 h4 ih =>
  intro fs er he ho;have hz:=Vc h1 he;exact ih fs er (K0 G hz h2).e (Vd h2 bs rfl (λe h=>(nomatch h)) (Vf h1 ho))
def rankF:KeyFam (Int × List Int):=#[λr=>[.int r.1,.lst (r.2.map L3.D.int)],λa b=>if a.1=b.1 then ltI a.2 b.2 else decide (a.1<b.1),Bc,(0,[])]
def KY(h:ltI x y=Bc):ltI y x=Bd:=by
 by_cases e:x=y
 ·subst e;rw[xt]at h;cases h
 ·have:=wN e;rw[h]at this;simpa using this.symm
theorem zcD(h1:ltI y x=Bd)(h2:ltI z y=Bd):ltI z x=Bd:=by
 cases h:ltI z x with
 | false=>rfl
 | true =>
  by_cases e:y=x
  ·subst e;rw[h2]at h;cases h
  ·have h3:=wN e;rw[h1]at h3;have h4:ltI x y=Bc:=by simpa using h3.symm
   rw[jv h h4]at h2;cases h2
def rankF_ok:rankF.Ok where
 w:=#[λa b h=>by
   erw[rankF]at h ⊢
   by_cases e:a.1=b.1
   ·rw[w6 e]at h;rw[w6 e.symm];exact KY h
   ·rw[w9 e]at h;rw[w9 (λz=>e z.symm)];have:=u5 h;exact u9 ⋯,
  λa b c h1 h2=>by
   erw[rankF]at h1 h2 ⊢
   by_cases e:b.1=a.1
   ·rw[w6 e]at h1;rw[e]at h2;by_cases f:c.1=a.1
    ·rw[w6 f]at h2 ⊢;exact zcD h1 h2
    ·rw[w9 f]at h2 ⊢;exact h2
   ·rw[w9 e]at h1;have h1':=of_decide_eq_false h1;by_cases f:c.1=b.1
    ·rw[w9 ⋯];exact u9 ⋯
    ·rw[w9 f]at h2;have h2':=of_decide_eq_false h2;rw[w9 ⋯]
     exact u9 ⋯]
 eq:=λa b=>by
  have:=Q5 a.1 b.1 a.2 b.2
  erw[ltD]at this
  exact this
 ok:=λa b=>by erw[rankF,Zg,okD];exact#[trivial,uo _ _,trivial]
 dp:=λa=>by erw[rankF,dpD,vG,uN];decide
 sh:=λa=>#[_,_,rfl,.inl #[rfl,_,rfl]]
def uM(k:Nat)(l:())(ns:List Int)(w:()):Int × List Int:=(zE k l ns w,uK k l w)
theorem Vv : ∀{ds:List L3.D} {vs:List V},Iss K H ds vs->Is K H d v->Iss K H (ds ++ [d]) (vs ++ [v])
 | [],vs,h,hv=>by
  erw[Iss]at h
  subst h
  erw[bg,Iss]
  exact#[v,[],rfl,hv,rfl]
 | e::ds,vs,h,hv=>by
  erw[Iss]at h
  let#[x,r,rfl,hx,hr]:=h
  erw[bE,Iss]
  exact#[x,r ++ [v],rfl,hx,Vv hr hv]
def OrdAt.samT{T CO CR CW:sM}(h:OrdAt CO CR CW H o k l ns)(s:SamT T H H')(hT:H T=Ba (.tbl ps)):OrdAt CO CR CW H' o k l ns:=by
 obtain⟨dx,⟨h1,h2⟩ | ⟨h1,h2⟩⟩:=h
 ·exact#[dx,.inl #[h1,s.at hT h2 λZ z=>by cases z]]
 ·exact#[dx,.inr #[h1,s.at hT h2 λZ z=>by cases z]]
theorem EnsA.samT(s:SamT T H H')(hT:H T=Ba (.tbl ps)):∀{es:List Ent} {vs:List V},EnsA K H es vs->EnsA K H' es vs
 | [],vs,h=>by erw[EnsA]at h ⊢;exact h
 | e::es,vs,h=>by
  erw[EnsA]at h ⊢
  let#[v,r,e0,#[p,s',e1,h1,h2],h3]:=h;exact#[v,r,e0,#[p,s',e1,s.seqT hT h1,h2.samT s hT],EnsA.samT s hT h3]
def jM(h:a≠b):rankF.lt a b=!rankF.lt b a:=by
 erw[rankF]
 by_cases e:a.1=b.1
 ·rw[w6 e,w6 e.symm];exact wN λq=>h (Prod.ext e q)
 ·rw[w9 e,w9 λq=>e q.symm];by_cases c:a.1<b.1
  ·rw[u6 c,u9 ⋯];rfl
  ·rw[u9 c,u6 ⋯];rfl
def JM(a b:Int × List Int):eqD (.tup (rankF.dec a)) (.tup (rankF.dec b))=decide (a=b):=by
 let#[a1,a2]:=a;let#[b1,b2]:=b
 erw[rankF,eqD,uH,jT]
 by_cases h:a1=b1
 ·by_cases h2:a2=b2
  ·simp [h,h2]
  ·simp [h,h2]
 ·simp [h]
def Wv(a b:Int × List Int):ltD (.tup (rankF.dec a)) (.tup (rankF.dec b))=rankF.lt a b:=by
 erw[ltD]
 exact rankF_ok.eq a b
def qp(a:Int × List Int):rankF.lt a a=Bd:=by
 erw[rankF]
 rw[w6 trivial];exact xt _
def pairF:KeyFam ((Int × List Int) × (Int × List Int)):=#[λr=>[.tup (rankF.dec r.1),.tup (rankF.dec r.2)],λa b=>if a.1=b.1 then rankF.lt a.2 b.2 else rankF.lt a.1 b.1,Bd,((0,[]),(0,[]))]
def qQ(a b:(Int × List Int) × (Int × List Int)):pairF.lt a b=if a.1=b.1 then rankF.lt a.2 b.2 else rankF.lt a.1 b.1:=rfl
def pairF_ok:pairF.Ok where
 w:=#[λa b h=>by
   rw[qQ]at h ⊢;by_cases e:a.1=b.1
   ·rw[w6 e]at h;rw[w6 e.symm];exact rankF_ok.w.asym _ _ h
   ·rw[w9 e]at h;rw[w9 λq=>e q.symm];exact rankF_ok.w.asym _ _ h,
  λa b c h1 h2=>by
   rw[qQ]at h1 h2 ⊢;by_cases e:b.1=a.1
   ·rw[w6 e]at h1;rw[e]at h2;by_cases f:c.1=a.1
    ·rw[w6 f]at h2 ⊢;exact rankF_ok.w.ntr _ _ _ h1 h2
    ·rw[w9 f]at h2 ⊢;exact h2
   ·rw[w9 e]at h1;by_cases g:c.1=b.1
    ·rw[g,w9 e];exact h1
    ·rw[w9 g]at h2;by_cases f:c.1=a.1
     ·rw[f]at h2;have:=jM (a:=b.1) (b:=a.1) e;rw[h1,h2]at this;cases this
     ·rw[w9 f]
      exact rankF_ok.w.ntr _ _ _ h1 h2]
 eq:=λa b=>by
  show wL [.tup (rankF.dec a.1),.tup (rankF.dec a.2)] [.tup (rankF.dec b.1),.tup (rankF.dec b.2)]=_;rw[qQ,wL,JM,wL,JM,Wv,Wv,wL];by_cases e:a.1=b.1
  ·rw[w6 (u6 e),w6 e];by_cases f:a.2=b.2
   ·rw[w6 (u6 f),f,qp]
   ·rw[w9 ↥f]
  ·rw[w9 ↥e,w9 e]
 ok:=λa b=>by
  show Zg [.tup (rankF.dec a.1),.tup (rankF.dec a.2)] [.tup (rankF.dec b.1),.tup (rankF.dec b.2)]
  erw[Zg,okD]
  exact#[rankF_ok.ok _ _,rankF_ok.ok _ _,trivial]
 dp:=λa=>by erw[pairF,rankF,dpD,vG,uN];decide
 sh:=λa=>#[_,_,rfl,.inr #[rfl,_,rfl]]
def rkE(k:Nat)(l:())(ns:List Int)(e:Ent):(Int × List Int) × (Int × List Int):=(uM k l ns e.1,uM k l ns e.2.1)
def zbr(hu:∀c ∈ u,c ∈ l)(hv:∀c ∈ v,c ∈ l):uM k l ns u=uM k l ns v ↔ u=v :=
 #[λh=>Zx hu hv (Prod.ext_iff.mp h).2,λh=>by rw[h]]
def Qy(ha:EB l a)(hb:EB l b):pairF.lt (rkE k l ns a) (rkE k l ns b)=km k l ns a b:=by
 rw[qQ];unfold km;have h:(rkE k l ns a).1=(rkE k l ns b).1 ↔ a.1=b.1:=zbr ha.ma hb.ma;by_cases e:a.1=b.1
 ·rw[w6 (h.mpr e),w6 e];rfl
 ·rw[w9 λq=>e (h.mp q),w9 e];rfl
theorem Qu : ∀{es:List Ent} {vs:List V},EnsA K H es vs->∀t ∈ es.zip vs,EnA K H t.1 t.2
 | [],_,_,t,ht=>by simp at ht
 | e::es,vs,h,t,ht=>by
  erw[EnsA]at h
  let#[v,r,rfl,h1,h2]:=h;rw[dH]at ht;rcases Bk.mp ht with rfl | ht
  ·exact h1
  ·exact Qu h2 t ht
theorem za2 : ∀{ts:List (Ent × V)},(∀t ∈ ts,EnA K H t.1 t.2)->EnsA K H (ts.map (·.1)) (ts.map (·.2))
 | [],_=>by erw[aI,EnsA]
 | t::ts,h=>by
  erw[ao,EnsA]
  exact#[_,_,rfl,h t aB,za2 λu hu=>h u (av _ hu)]
def Xr(hI:EnsA K H es vs)(hE:∀e ∈ es,EB l e)(h1:ys=srt (λp q=>pairF.lt p.1 q.1) d ((es.map (rkE k l ns)).zip vs)) :
  ∃zs:List Ent,zs.Perm es/\zs.Pairwise (λa b=>km k l ns b a=Bd)/\zs=srt (km k l ns) ([],[],[]) es/\EnsA K H zs (ys.map (·.2)):=by
 have hl:=hI.len
 have e0:(es.map (rkE k l ns)).zip vs=(es.zip vs).map λt=>(rkE k l ns t.1,t.2):=by
  rw[List.zip_map_left];rfl
 have W0:WkO λ(p q:((Int × List Int) × (Int × List Int)) × V)=>pairF.lt p.1 q.1:=#[λa b=>pairF_ok.w.asym _ _,λa b c=>pairF_ok.w.ntr _ _ _];have W1:WkO λ(p q:Ent × V)=>pairF.lt (rkE k l ns p.1) (rkE k l ns q.1):=#[λa b=>pairF_ok.w.asym _ _,λa b c=>pairF_ok.w.ntr _ _ _];have W2:WkO λ(p q:Ent)=>pairF.lt (rkE k l ns p) (rkE k l ns q):=#[λa b=>pairF_ok.w.asym _ _,λa b c=>pairF_ok.w.ntr _ _ _];rw[e0,za9 W0 (d':=(λt:Ent × V=>(rkE k l ns t.1,t.2)) (([],[],[]),.non)) (λZ Z Z Z=>rfl)]at h1
 replace h1:=h1.trans (Qt (lt:=λ(p q:((Int × List Int) × (Int × List Int)) × V)=>pairF.lt p.1 q.1) (λt:Ent × V=>(rkE k l ns t.1,t.2)) (([],[],[]),.non) (es.zip vs))
 let#[p,h2]:=Vt W1 (([],[],[]),.non) (es.zip vs)
 have e2:(srt (λ(p q:Ent × V)=>pairF.lt (rkE k l ns p.1) (rkE k l ns q.1)) (([],[],[]),.non) (es.zip vs)).map (·.1)=srt (km k l ns) ([],[],[]) es:=by
  rw[<- za9 W2 (d:=([],[],[])) λa ha b hb=>Qy (hE a ha) (hE b hb)];have:=Qt (lt:=λ(p q:Ent)=>pairF.lt (rkE k l ns p) (rkE k l ns q)) (λt:Ent × V=>t.1) (([],[],[]),.non) (es.zip vs);rw[fv ⋯]at this;exact this.symm
 generalize srt (λ(p q:Ent × V)=>pairF.lt (rkE k l ns p.1) (rkE k l ns q.1)) (([],[],[]),.non) (es.zip vs)=ts at h1 h2 p e2;have hm:∀t ∈ ts,t.1 ∈ es:=λt ht=>(dC (show (t.1,t.2) ∈ es.zip vs from p.mem_iff.mp ht)).1;refine#[ts.map (·.1),?_,?_,e2,?_]
 ·have:=p.map (·.1);rw[fv ⋯]at this;exact this
 ·rw[List.pairwise_map];refine h2.imp_of_mem λ{a b} ha hb h=>?_;rw[<- Qy (hE _ (hm _ hb)) (hE _ (hm _ ha))];exact h
 ·rw[h1,cf];exact za2 λt ht=>Qu hI t (p.mem_iff.mp ht)
def tbE(K:sL)(CO CR CW:sM):TE:=Uq (zM (zB (zdH CO CR CW) "rank" (λZ=>jw CO CR CW) [] E0 (ya 1) (zM (tOp (uI K) (ya 0) (tC (.int 0))) xw)) (zM (zB (zdH CO CR CW) "rank" (λZ=>jw CO CR CW) [] E0 (ya 1) (zM (tOp (uI K) (ya 0) (tC (.int 1))) xw)) xw))
def zep{CO CR CW o p s:sM}(hG:OG l ns k)(ho:OrdAt CO CR CW H o k l ns)(hE:EB l e)(hp:SqT K H p [⇑e.1,⇑e.2.1,.ref s])(q:∀(t:sM) (H':Hp),Same H H'->Is K H' (.tup (pairF.dec (rkE k l ns e))) (.ref t)->Q (.ref t) H'):tbE K CO CR CW [!!p,!!o] H Q:=by
 have s16:=zX;let#[C,dx,fs,hf,ho1,hn,_]:=ho.fam;have h1:fs.lookup ("rank" : sS)=Bb:=hn _ ∅ ∅;unfold tbE;ac_rfl;refine#[C,hf,dx,fs,ho1,h1,_,hp,_,rfl,o,k,l,ns,e.1,rfl,ho,hG,by have:=hE.a;lia,hE.ma,λp1 q1 H1 s1 hp1 hq1=>#[C,hf,dx,fs,s1 _ _ ho1,h1,_,zp s1 hp,_,rfl,o,k,l,ns,e.2.1,rfl,ho.same s1,hG,by have:=hE.b;lia,hE.mb,λp2 q2 H2 s2 hp2 hq2=>#[⋯,λt ht=>?_]]];refine q t _ (s1.trans (s2.trans (zf (o:=.tup [.ref p1,.ref p2]) ht))) ?_;show Is K _ (.tup [.tup (rankF.dec (uM k l ns e.1)),.tup (rankF.dec (uM k l ns e.2.1))]) (.ref t);refine Is.tup ht ?_
 erw[Iss]
 exact#[_,_,rfl,ZJ (s2 _ _ hp1) (s2 _ _ hq1),_,_,rfl,ZJ hp2 hq2,rfl]
theorem zba{CO CR CW o:sM}{LA:Hp->Prop}(hG:OG l ns k)(hLA:∀H H',LA H->Same H H'->LA H'):∀(es:List Ent) (vs Bg:List V) (rs:List ((Int × List Int) × (Int × List Int))) (H:Hp),LA H->OrdAt CO CR CW H o k l ns->(∀e ∈ es,EB l e)->EnsA K H es vs ->
  Iss K H (rs.map λa=>.tup (pairF.dec a)) Bg->(∀acc' H',Same H H'->Iss K H' ((rs ++ es.map (rkE k l ns)).map λa=>.tup (pairF.dec a)) acc'->Qf acc' H')->qm (λx H Q=>LA H/\tbE K CO CR CW [Ba x,!!o] H Q) vs Bg H Qf
 | [],vs,Bg,rs,H,hL,ho,hw,hV,hI,h=>by
  erw[EnsA]at hV
  subst hV;exact h Bg H (ja1 _) ↥hI
 | e::es,vs,Bg,rs,H,hL,ho,hw,hV,hI,h=>by
  have s16:=zX
  erw[EnsA]at hV
  let#[v,r,rfl,#[p,s,rfl,hp,_],hV]:=hV;refine#[hL,zep hG ho (hw e aB) hp λt H' s3 hIs=>?_];refine zba hG hLA es r (Bg ++ [.ref t]) (rs ++ [rkE k l ns e]) _ (hLA _ _ hL s3) (ho.same s3) (λx hx=>hw x (av _ hx)) (hV.same s3) ?_ λacc' H' s' hI'=>h acc' H' (s3.trans s') ↥hI';rw[am];exact Vv (ja0 s3 _ _ hI) hIs
def zeK:tR->AW
 | .Lambda _ _ _ p=>p
 | _=>default
def zha:List sV->AW
 | _::.Return (Ba (.Call _ _ (k::_) _)) _::_=>zeK k.value
 | _=>default
def lp:AW:=zha (yl yL)
def lq:sS:="in_order.<locals>.<lambda>"
def Zd(K:sL)(CO CR CW T:sM):Sp:=λvs H Q Z=>∃(o a:sM) (k:Nat) (l:()) (ns:List Int) (es:List Ent),vs=[.ref o,.ref a]/\OrdAt CO CR CW H o k l ns/\OG l ns k/\EnsL K H a es/\es.length<64/\(∀e ∈ es,EB l e)/\TabOk H T lp lq /\
 ∀(D:sM) (zs:List Ent) (H':Hp),SamT T H H'->TabOk H' T lp lq->H D=Bb->Lined k l ns es zs->EnsM K H' D zs->Q (.ref D) H'
def U3{CO CR CW T o a:sM}(h1:OrdAt CO CR CW H o k l ns)(h2:OG l ns k)(h3:EnsL K H a es)(h4:es.length<64)(h5:∀e ∈ es,EB l e)(h6:TabOk H T lp lq)(h:∀(D:sM) (zs:List Ent) (H':Hp),SamT T H H'->TabOk H' T lp lq->H D=Bb->Lined k l ns es zs->EnsM K H' D zs->Q (.ref D) H'):Zd K CO CR CW T [.ref o,.ref a] H Q E:=#[o,a,k,l,ns,es,rfl,h1,h2,h3,h4,h5,h6,h]
abbrev QS(mg:sS->Option sN):Prop:=mg "sorted" = Bb
def oH:sQz 2 ["order","entries","unlike"] yL:=by nofun
def Wi{f CO CR CW CC TB:sM}(B:Bt mg)(DRk:DR P w K mg base CO CR CW)(hsorted:QS mg)(hCd:PySem.W.CodeHd base CC TB)(hBt:base.BuiltinsAt mg TB)(hgT:sI≠TB)(F:("in_order"^^^yL))(HC:fd.code=.ref CC)(nX:(4<<<"as_rule") ["order","entry"] [] (vg K CO CR CW)):(6&&&["order","entries"]) (Zd K CO CR CW TB):=by
 refine zcy F HC oH (λvs H Q E h=>?_) (λA outer s H vs Q E hr h=>?_)
 ·let#[o,a,k,l,ns,es,rfl,_]:=h;rfl
 ·let#[o,a,k,l,ns,es,rfl,ho,hG,hA,hz,hE,hTab,q]:=h
  refine#[_,(zh (XM (i:=2) oH.nd rfl (.inl rfl) (.inl rfl) (own:=["entry"]) (caps:=["order"]) (ix:=[0]) (tt:=(tBl (tOp rNe (tOp (uI K) (ya 0) (tC (.int 0))) (tOp (uI K) (ya 0) (tC (.int 1)))))) (te:=(ud (vg K CO CR CW) [] E0 (zM (ya 1) (zM (ya 0) xw)))) rfl (zK (sc:=zi yL) rfl (!0) (!0) (!0) rfl (!0) (!0) rfl) (zY (pv 1)) (λZ Z Z Z Z Z=>zq (i:=0) (show List.Nodup [_,_] by decide) rfl (.inl rfl)) (λZ Z Z Z Z Z=>(US (zv uJ (!-0) (!-0) (zx _)))) (λZ Z Z Z Z Z=>(cl0 nX hr .nil rfl (za (pv 1) (za (pv 0) zg))))) (ze (zl (zaz (k:=2) (p:="entry") (y:="order") (iy:=0) (c:=s⁻¹+1) (tb:=tbE K CO CR CW) pairF_ok #[rfl,rfl,rfl,∅,rfl,rfl,∅,∅] (hr.mono ∅) rfl hsorted fw (za (pv 2) zg) rfl hCd hBt hgT rfl rfl (by intro _ _ _ _;exact rfl) rfl rfl rfl (λs H f cv hr'=>zW (za (zdi DRk hr' (pv 1) (za (!-0) zg)) (za (zdi DRk hr' (pv 1) (za (!-0) zg)) zg))))))),?_]
  have s16:=zX;let#[xs,hX,hI]:=id hA;have hxl:=hI.len
  have hEr:∀e ∈ ja k l ns es,EB l e:=λe he=>by
   unfold ja at he;let#[y,hy,rfl]:=Bj.mp he;exact (hE y (Bp.mp hy).1).rule
  have hrl:=Xu k l ns es;change Same H H'/\∃(D0:sM) (Bg:List V),H D0=Bb/\H' D0=Ba (.lst Bg)/\EnsA K (ko D0 H') (ja k l ns es) Bg/\σ=[!!o,!!a,!!D0]
  ·ac_rfl;refine#[#[xs,hX],λD hD=>ja3 (xs:=xs) (λi Bg H'=>Same H H'/\H' D=Ba (.lst Bg)/\EnsA K (ko D H') (ja k l ns (es.take i)) Bg) #[zf hD,zc,by erw[bv,ja,dF,aI,EnsA]] (λi Bg H' Z h=>h.1.seq hX) ?_ ?_]
   ·refine nm4 ?_;rintro i x Bg H' hx ⟨hs,hH,hA⟩:_;have hi:=(Bh.mp hx).1;let#[e,pe,se,hei,rfl,hqe,hse]:=hI.get hx;have hEe:=hE e (ac hei);have hal:=hA.len;have hal2:=Xu k l ns (es.take i);rw[aC]at hal2;have hq1:=zp hs hqe
    have hraw:ja k l ns (es.take (i+1))=ja k l ns (es.take i) ++ if e.1=e.2.1 then []else [z8 k l ns e]:=by
     rw[zP hei,zck];congr 1;unfold ja;by_cases hne:e.1=e.2.1
     ·rw[w6 hne,fJ (by simp [hne])];rfl
     ·rw[w9 hne,fH (by simp [hne])];rfl
    right;ac_rfl;refine#[yz,_,hq1,_,rfl,_,hq1,_,rfl,rfl,yb (λhne=>?_) λheq=>?_]
    ·have hne':¬ e.1=e.2.1:=λz=>hne (by rw[z]);rw[w9 hne']at hraw
     have fin:∀(v:V) (H2:Hp),Same H' H2->EnA K (ko D H2) (z8 k l ns e) v->H2 D=Ba (.lst Bg)/\Bg.length<sK/\CNx xs.length i (λi Bg H'=>Same H H'/\H' D=Ba (.lst Bg)/\EnsA K (ko D H') (ja k l ns (es.take i)) Bg) (Bg ++ [v]) (upd H2 D (.lst (Bg ++ [v]))):=λv H2 s2 hv=>by
      refine#[s2 _ _ hH,⋯,x8 hi #[zu (hs.trans s2) hD,zc,?_]];rw[hraw];exact (hA.same ((vb s2).trans xH)).snoc (hv.same xH)
     refine k9 (ho.same hs) hG hq1 (hse.same hs).is hEe (λer H2 s2=>fin _ _ s2 ?_) λp' s' H2 s2 hsn hp' hL=>fin _ _ s2 ?_
     ·rw[er];exact EnA.same #[pe,se,rfl,hqe,hse] (JP hD (hs.trans s2))
     ·exact EnA.new (s2 _ _ hH) hp' hL (λz=>by rw[z,hH]at hsn;cases hsn)
    ·have heq':e.1=e.2.1:=by
      have:=Classical.not_not.mp heq;injection this with this;exact wI this
     rw[w6 heq',aT]at hraw;exact x8 hi #[hs,hH,by rw[hraw];exact hA]
   ·refine nmB ?_;rintro Bg H' ⟨hs,hH,hA⟩:_;rw[hxl,aJ]at hA;right;exact#[hs,D,hD,Bg,hH,hA,rfl]
  rintro σ H1 ⟨s1,D0,Bg,hD0,hH1,hI1,rfl⟩:_;have hal:=hI1.len;have hT1:=hTab.same s1;let#[ps1,hps1,_]:=id hT1;right;ac_rfl;unfold zaY;refine#[hT1,λf H2 hf hLA hT2 sT=>?_];let#[ps2,hps2,_]:=id hT2;have hI2:=EnsA.samT sT hps1 (hI1.same vm);refine#[D0,Bg,.ref o,rfl,x4 (sT.at hps1 hH1 λZ z=>by cases z),⋯,rfl,?_];refine zba hG (λA A' h1 h2=>LamAt.same h1 h2) (ja k l ns es) Bg [] [] H2 hLA ((ho.same s1).samT sT hps1) hEr hI2 (by erw[aI,Iss]) λacc' H3 s3 hI3=>#[(ja k l ns es).map (rkE k l ns),by simpa using hI3,λys p1 D hD=>?_];let#[zs,z1,z2,z4,z3]:=Xr (hI2.same s3) hEr p1;have sD:=zf (o:=.lst (ys.map (·.2))) hD;refine q D zs _ ((x9 s1).trans (sT.trans (x9 (s3.trans sD)))) (hT2.same (s3.trans sD)) ?_ #[z1,z2,z4] #[_,zc,z3.same sD];exact ((x9 s1).trans (sT.trans (x9 s3))).free (s3 _ _ hps2) hD
structure TMo(mg:sS->Option sN):Prop where
 u:∃t,mg "MOST_USES_thinning" = Ba (.int 40 t)
 s:∃t,mg "MOST_STEPS_thinning" = Ba (.int 240 t)
 d:∃t,mg "MOST_SIDE_thinning" = Ba (.int 60 t)
 p:∃t,mg "MOST_PASSES" = Ba (.int 20 t)
structure BG(k:Nat)(l:())(ns:List Int)(bs:List Ent):Prop where
 n:bs.length<64
 e:∀e ∈ bs,EB l e
 lt:∀e ∈ bs,zU k l ns e.2.1 e.1=Bc
def BG.ne(h:BG k l ns bs)(G:OG l ns k):NeL (zb bs):=λp hp=>by
 unfold zb at hp;let#[e,he,rfl]:=Bj.mp hp;exact Jg G.nb (h.lt e he)
def BG.le(h:BG k l ns bs):∀p ∈ zb bs,p.1.length<=60/\p.2.length<=60:=λp hp=>by
 unfold zb at hp;let#[e,he,rfl]:=Bj.mp hp;exact#[(h.e e he).a,(h.e e he).b]
def BG.mem(h:BG k l ns bs):∀p ∈ zb bs,∀c ∈ p.2,c ∈ l:=λp hp=>by
 unfold zb at hp;let#[e,he,rfl]:=Bj.mp hp;exact (h.e e he).mb
def uR{w:()}(hA:LsA K H a (ps.map dR))(hN:NeL ps)(hpl:ps.length<=100)(hP:∀p ∈ ps,p.1.length<=60/\p.2.length<=60)(hw:w.length<=60)(h1:∀(i:Nat) (p S:sM) (H':Hp),EndsAt ps w i->Same H H'->H' p=Ba (.tup [.ref S,⇑(wAt ps w i)])->LsA K H' S ((sAt ps w i).map dG)->H S=Bb->Q (.ref p) H')(h2:(∀i,¬ EndsAt ps w i)->∀H',Same H H'->E (.ref CF) Bb H'):xQ K CF [.ref a,⇑w,.int 40] H Q E:=by
 have hP':∀p ∈ ps,p.1.length<=1000/\p.2.length<=1000:=λp hp=>by
  have:=hP p hp;lia
 have len:∀j,j<=40->(wAt ps w j).length<=10000:=λj hj=>by
  have:=jf (l:=w) (m:=60) hN (λp hp=>(hP p hp).2) j;lia
 rcases U4 ps w with ⟨i,hi⟩ | ⟨hL,hf⟩
 ·have hm:=hi.most;exact#[a,w,ps,40,i,rfl,hA,hN,hpl,hP',#[hi.live,λj hj=>len j ⋯,⋯],.inl #[hi.end_,⋯,λp S H' s' hp hL hS=>h1 i p S H' hi s' hp hL hS]]
 ·refine#[a,w,ps,40,40,rfl,hA,hN,hpl,hP',#[hL,λj hj=>len j hj,∅],.inr #[hf,rfl,h2 λi hi=>?_]];have hm:=hi.most;by_cases e:i=40
  ·subst e;exact hf hi.end_
  ·exact hL i ⋯ hi.end_
def UZ(us:List (Nat × Nat)):us.map dG=(stS us).map dSt:=by unfold stS;rw[cf];rfl
def uO(us:List (Nat × Nat)):(stS us).length=us.length:=by unfold stS;rw[aa]
theorem zeB{w:()}(h:kM ps w i):∀u ∈ sAt ps w i,u.1<ps.length:=λu hu=>by
 unfold sAt at hu;let#[j,hj,rfl]:=Bj.mp hu
 cases e:zF (wAt ps w j) ps with
 | none=>exact w4 e (h j (Bn.mp hj))
 | some v =>
  let#[p,h1,_]:=ye e;exact (Bh.mp h1).1
def Va{w:()}(h:kM ps w i):∀u ∈ stS (sAt ps w i),0<=u.1/\u.1<ps.length:=λu hu=>by
 unfold stS at hu;let#[v,hv,rfl]:=Bj.mp hu;have:=zeB h v hv;show 0<=(v.1:Int)/\(v.1:Int)<ps.length;lia
def QD(h:∀u ∈ ss,0<=u.1/\u.1<n):∀u ∈ yN ss,0<=u.1/\u.1<n:=λu hu=>by
 unfold yN at hu;let#[v,hv,rfl]:=Bj.mp hu;exact h v (Bq.mp hv)
def zdD(h:∀e ∈ es,e.2.2.length<=600)(u:Stp):(Wn es u).length<=600:=by
 have hg:(es.getD u.1.toNat ([],[],[])).2.2.length<=600:=by
  rw[ae]
  cases e:es[u.1.toNat]? with
  | none=>exact ar _
  | some r=>exact h r (ac e)
 unfold Wn;rw[YE];split
 ·exact hg
 ·rw[yB];exact hg
theorem zb3(h:∀e ∈ es,e.2.2.length<=600):∀us:List Stp,(byL es us).length<=us.length * 600
 | []=>by simp [byL]
 | u::us=>by
  have e:byL es (u::us)=Wn es u ++ byL es us:=by simp [byL]
  have h1:=zdD h u;have h2:=zb3 h us;rw[e,aj,aG,d8];lia
def Wl(K:sL)(CF:sM):Sp:=λvs H Q E=>∃(a p s:sM) (k:Nat) (l:()) (ns:List Int) (bs:List Ent) (e:Ent),vs=[.ref a,.ref p]/\OG l ns k/\Is K H (.lst (bs.map dE)) (.ref a)/\BG k l ns bs/\SqT K H p [⇑e.1,⇑e.2.1,.ref s]/\LsA K H s (e.2.2.map dSt)/\EB l e /\
 (∀i j H',EndsAt (zb bs) e.1 i->EndsAt (zb bs) e.2.1 j->wAt (zb bs) e.1 i=wAt (zb bs) e.2.1 j->Same H H'->Q .non H') /\
 (∀i j p' s' H',EndsAt (zb bs) e.1 i->EndsAt (zb bs) e.2.1 j->wAt (zb bs) e.1 i≠wAt (zb bs) e.2.1 j->Same H H'->H s'=Bb->H' p'=Ba (.tup [⇑(yO bs e i j).1,⇑(yO bs e i j).2.1,.ref s'])->LsA K H' s' ((yO bs e i j).2.2.map dSt)->Q (.ref p') H') /\
 ((∀i,¬ EndsAt (zb bs) e.1 i)\/(∀j,¬ EndsAt (zb bs) e.2.1 j)->∀H',Same H H'->E (.ref CF) Bb H')
def WA(h1:Is K H (.lst (es.map dE)) (.ref a))(h2:Is K H (.lst (us.map dSt)) (.ref t))(h3:us.length<=100)(h4:∀e ∈ es,e.2.2.length<=600)(h5:∀u ∈ us,0<=u.1/\u.1<es.length)(h:∀(D:sM) (H':Hp),H D=Bb->Same H H'->LsA K H' D ((byL es us).map dSt)->Q (.ref D) H'):Qn K [.ref a,.ref t] H Q E:=#[a,t,es,us,rfl,h1,h2,h3,h4,h5,h]
def il:sQz 2 ["entries","entry","rules","one","other","steps"] xS:=by nofun
def jg(B:Bt mg)(TM:TMo mg)(F:("brought_down"^^^xS))(gY:(1<<<"pairs_of") ["entries"] [] (wy K))(nw:(4>>>"gone") ["rules","word","most"] [] (xQ K CF))(DD_gone:(4>>>"gone") ["rules","word","most"] [.int 4000 ny] (xQ K CF))(iL:(2<<<"by_pacts") ["entries","steps"] [] (Qn K))(mF:(1<<<"back") ["steps"] [] (uY K)):(5|||["entries","entry"]) (Wl K CF):=by
 let#[t9,g9]:=TM.u
 exists Fun.okX F il,0
 ·let#[a,p,s,k,l,ns,bs,e,rfl,hG,hA,hB,hp,hs,hE,q1,q2,q3]:=h
  refine#[_,(zh (zy 2 il.nd (cl0 gY hr .nil rfl (za (pv 0) zg))) (zh (zy 3 il.nd (clP hx nw hr .nil rfl (za (pv 2) (za (!-1) (za (yI (v:=.int 40) rfl g9 #[t9,rfl]) zg))))) (zh (zy 4 il.nd (clP hx nw hr .nil rfl (za (pv 2) (za (!-1) (za (yI (v:=.int 40) rfl g9 #[t9,rfl]) zg))))) (zh (zJ (zv xx (!-3) (!-4) (zx _)) (ze (zl yd))
    zr) (zh (zy 5 il.nd (zD W9 (zD W9 (cl0 iL hr .nil rfl (za (pv 0) (za (cl0 mF hr .nil rfl (za (!-3) zg)) zg))) (!-1)) (cl0 iL hr .nil rfl (za (pv 0) (za (!-4) zg))))) (ze (zl (zW (za (!-3) (za (!-4) (za (pv 5) zg))))))))))),?_]
  have s16:=zX;have hbl:=hB.n;have hN:=hB.ne hG;have hpl:=xB bs;have hst:∀e ∈ bs,e.2.2.length<=600:=λe he=>(hB.e e he).s;have hst3:∀e ∈ bs,e.2.2.length<=600:=λe he=>by have:=hst e he;lia
  change Same H H'/\∃R:sM,LsA K H' R ((zb bs).map dR)/\σ=%[!!a,!!p,!!R|3]
  ·ac_rfl;exact wj hA ⋯ λD H' Z s' hL=>#[s',D,hL,rfl]
  rintro σ H1 ⟨s1,R,hR,rfl⟩:0;change Same H1 H'/\∃(i:Nat),EndsAt (zb bs) e.1 i/\∃p1:sM,(∃S1:sM,H' p1=Ba (.tup [.ref S1,⇑(wAt (zb bs) e.1 i)])/\LsA K H' S1 ((sAt (zb bs) e.1 i).map dG))/\σ=%[!!a,!!p,!!R,!!p1|2]
  ·ac_rfl;refine#[_,zp s1 hp,_,rfl,uR hR hN ⋯ hB.le hE.a (λi p1 S1 H' hi s' hp1 hL Z=>#[s',i,hi,p1,#[S1,hp1,hL],rfl]) λhno H' s'=>q3 (.inl hno) H' (s1.trans s')]
  rintro σ H2 ⟨s2,i,hi,p1,⟨S1,hp1,hS1⟩,rfl⟩:_;have s12:=s1.trans s2;right;change Same H2 H'/\∃(j:Nat),EndsAt (zb bs) e.2.1 j/\∃p2:sM,(∃S2:sM,H' p2=Ba (.tup [.ref S2,⇑(wAt (zb bs) e.2.1 j)])/\LsA K H' S2 ((sAt (zb bs) e.2.1 j).map dG))/\σ=[!!a,!!p,!!R,!!p1,!!p2,Bb]
  ·ac_rfl;refine#[_,zp s12 hp,_,rfl,uR (hR.same s2) hN ⋯ hB.le hE.b (λj p2 S2 H' hj s' hp2 hL Z=>#[s',j,hj,p2,#[S2,hp2,hL],rfl]) λhno H' s'=>q3 (.inr hno) H' (s12.trans s')]
  rintro σ H3 ⟨s3,j,hj,p2,⟨S2,hp2,hS2⟩,rfl⟩:_;have s13:=s12.trans s3;have hp1':=s3 _ _ hp1;have hS1':=hS1.same s3;right;change H'=H3/\wAt (zb bs) e.1 i≠wAt (zb bs) e.2.1 j/\σ=[!!a,!!p,!!R,!!p1,!!p2,Bb]
  ·ac_rfl;refine#[_,x6 hp1',_,rfl,_,x6 hp2,_,rfl,rfl,yb (λh=>?_) λh=>?_]
   ·exact q1 i j H3 hi hj (wI (by injection h)) s13
   ·exact λz=>h (by rw[z])
  rintro σ H4 ⟨rfl,hne,rfl⟩:_;have him:=hi.most;have hjm:=hj.most;have hl1:(stS (sAt (zb bs) e.1 i)).length=i:=by rw[uO,vY]
  have hl2:(stS (sAt (zb bs) e.2.1 j)).length=j:=by rw[uO,vY]
  rw[UZ]at hS1' hS2;have hA4:=Is.same s13 _ _ hA;have hb1:=zb3 hst (yN (stS (sAt (zb bs) e.1 i)));have hb2:=zb3 hst (stS (sAt (zb bs) e.2.1 j));rw[yB,hl1]at hb1;rw[hl2]at hb2;have hes:=hE.s;right;change Same H4 H'/\∃S:sM,H4 S=Bb/\LsA K H' S ((yO bs e i j).2.2.map dSt)/\σ=[!!a,!!p,!!R,!!p1,!!p2,!!S]
  ·ac_rfl;refine#[_,x6 hp1',_,rfl,qK hS1'.is ⋯ λB1 G1 Z t1 hB1=>WA (Is.same t1 _ _ hA4) hB1.is (by rw[yB];lia) hst3 (by rw[<- hpl];exact QD (Va hi.live)) λC1 G2 hC1n t2 hC1=>?_];have t12:=t1.trans t2;let#[c1,hc1,ic1]:=id hC1;let#[es0,hs0,is0]:=hs.same (s13.trans t12);have lc1:=ic1.len;have ls0:=is0.len;rw[aa]at lc1 ls0;refine#[_,zp (s13.trans t12) hp,_,rfl,C1,rfl,s,rfl,c1,hc1,es0,hs0,⋯,λM hM=>?_];have t3:=zf (o:=.lst (c1 ++ es0)) hM;have t13:=t12.trans t3;refine#[_,x6 (t13 _ _ hp2),_,rfl,WA (Is.same t13 _ _ hA4) (hS2.same t13).is ⋯ hst3 (by rw[<- hpl];exact Va hj.live) λC2 G3 hC2n t4 hC2=>?_];let#[c2,hc2,ic2]:=id hC2;have lc2:=ic2.len;rw[aa]at lc2;refine#[C2,rfl,c1 ++ es0,t4 _ _ zc,c2,hc2,by rw[aj];lia,λS hS=>?_];have t5:=zf (o:=.lst (c1 ++ es0 ++ c2)) hS;refine#[t13.trans (t4.trans t5),S,(t13.trans t4).free hS,#[_,zc,?_],rfl];show Iss K _ ((byL bs (yN (stS (sAt (zb bs) e.1 i))) ++ e.2.2 ++ byL bs (stS (sAt (zb bs) e.2.1 j))).map dSt) _;rw[am,am];exact jc0 (jc0 (ja0 (t3.trans (t4.trans t5)) _ _ ic1) (ja0 (t3.trans (t4.trans t5)) _ _ is0)) (ja0 t5 _ _ ic2)
  rintro σ H5 ⟨s5,S,hSn,hS,rfl⟩:0;ac_rfl;refine#[_,x6 (s5 _ _ hp1'),_,rfl,_,x6 (s5 _ _ hp2),_,rfl,⋯,λt ht=>?_];have st:=zf (o:=.tup [⇑(wAt (zb bs) e.1 i),⇑(wAt (zb bs) e.2.1 j),.ref S]) ht;exact q2 i j t S _ hi hj hne (s13.trans (s5.trans st)) (s13.free hSn) zc (hS.same st)
def j0(K:sL)(CF:sM):Sp:=λvs H Q E=>∃(p s:sM) (e:Ent),vs=[.ref p]/\SqT K H p [⇑e.1,⇑e.2.1,.ref s]/\Is K H (.lst (e.2.2.map dSt)) (.ref s)/\e.1.length<=10000/\e.2.1.length<=10000/\(¬ qY e->Q .non H)/\(qY e->E (.ref CF) Bb H)
def V2(h1:SqT K H p [⇑e.1,⇑e.2.1,.ref s])(h2:Is K H (.lst (e.2.2.map dSt)) (.ref s))(h3:e.1.length<=10000)(h4:e.2.1.length<=10000)(h5:¬ qY e->Q .non H)(h6:qY e->E (.ref CF) Bb H):j0 K CF [.ref p] H Q E:=#[p,s,e,rfl,h1,h2,h3,h4,h5,h6]
def qG:sQz 1 ["entry"] xy:=by nofun
def qH(B:Bt mg)(T:zbM K mg CF)(TM:TMo mg)(F:("refuse_beyond"^^^xy)):(1|||["entry"]) (j0 K CF):=by
 let#[#[t9,g9],#[t8,g8]]:=And.intro TM.s TM.d
 exists Fun.okX F qG,0
 ·let#[p,s,e,rfl,hp,hs,ha,hb,q1,q2]:=h
  refine#[_,(zh (zJ (zv XO (zA B.len (!-0)) (yI (v:=.int 240) rfl g9 #[t9,rfl]) (zx _)) (ze (ym hx rfl T.xi.toXC T.ini rfl T.g (za z6 zg)))
    zr) (ze (zJ (zv XO (yW (JB rfl) rfl B.max qL (za (zA B.len (!-0)) (za (zA B.len (!-0)) zg))) (yI (v:=.int 60) rfl g8 #[t8,rfl]) (zx _)) (ze (ym hx rfl T.xi.toXC T.ini rfl T.g (za z6 zg)))
    zr))),?_]
  have s16:=zX
  erw[Is]at hs
  let#[_,zs,e0,hZ,hI]:=hs;cases e0;have hzl:=hI.len;rw[aa]at hzl;change H'=H/\e.2.2.length<=240/\σ=[!!p]
  ·ac_rfl;refine#[_,hp,_,rfl,_,.inl #[_,hZ,rfl],yb (λh=>#[⋯,q2 (.inl ⋯)]) λh=>by lia]
  rintro σ H1 ⟨rfl,h1,rfl⟩:0;ac_rfl;refine#[_,hp,_,rfl,_,#[by rw[zI];lia,rfl],_,hp,_,rfl,_,#[by rw[zI];lia,rfl],?_];rw[zI,zI];refine yb (λh=>#[⋯,q2 ?_]) λh=>q1 ?_
  ·unfold qY;split at h <;> lia
  ·unfold qY;split at h <;> lia
def zap(hB:BG k l ns bs)(hE:EB l e)(hF:¬ qY (yO bs e i j)):EB l (yO bs e i j):=by unfold qY at hF;exact#[⋯,⋯,⋯,uT hE.ma hB.mem i,uT hE.mb hB.mem j]
def BG.snoc(h:BG k l ns bs)(hn:bs.length+1<64)(hd:EB l d)(hne:d.1≠d.2.1):BG k l ns (bs ++ [z8 k l ns d]):=by
 refine#[by rw[aj];exact hn,λe he=>?_,λe he=>?_]
 ·rcases Bl.mp he with he | he
  ·exact h.e e he
  ·rw[Bm.mp he];exact hd.rule
 ·rcases Bl.mp he with he | he
  ·exact h.lt e he
  ·rw[Bm.mp he];exact jX hd hne
def K9(h1:OG l ns k)(h2:Is K H (.lst (bs.map dE)) (.ref a))(h3:BG k l ns bs)(h4:SqT K H p [⇑e.1,⇑e.2.1,.ref s])(h5:LsA K H s (e.2.2.map dSt))(h6:EB l e)(q1:∀i j H',EndsAt (zb bs) e.1 i->EndsAt (zb bs) e.2.1 j->wAt (zb bs) e.1 i=wAt (zb bs) e.2.1 j->Same H H'->Q .non H')(q2:∀i j p' s' H',EndsAt (zb bs) e.1 i->EndsAt (zb bs) e.2.1 j->wAt (zb bs) e.1 i≠wAt (zb bs) e.2.1 j->Same H H'->H s'=Bb->H' p'=Ba (.tup [⇑(yO bs e i j).1,⇑(yO bs e i j).2.1,.ref s'])->LsA K H' s' ((yO bs e i j).2.2.map dSt)->Q (.ref p') H')(q3:(∀i,¬ EndsAt (zb bs) e.1 i)\/(∀j,¬ EndsAt (zb bs) e.2.1 j)->∀H',Same H H'->E (.ref CF) Bb H'):Wl K CF [.ref a,.ref p] H Q E:=#[a,p,s,k,l,ns,bs,e,rfl,h1,h2,h3,h4,h5,h6,q1,q2,q3]
def KA(hB:BG k l ns bs)(hG:OG l ns k)(hE:EB l e)(hi:i<=40)(hj:j<=40):(yO bs e i j).1.length<=10000/\(yO bs e i j).2.1.length<=10000:=by have h1:=jf (l:=e.1) (m:=60) (hB.ne hG) (λp hp=>(hB.le p hp).2) i;have h2:=jf (l:=e.2.1) (m:=60) (hB.ne hG) (λp hp=>(hB.le p hp).2) j;have h3:=hE.a;have h4:=hE.b;show (wAt (zb bs) e.1 i).length<=10000/\(wAt (zb bs) e.2.1 j).length<=10000;lia
def Z4(K:sL)(CO CR CW CF:sM):Sp:=λvs H Q E=>∃(o a:sM) (k:Nat) (l:()) (ns:List Int) (zs:List Ent),vs=[.ref o,.ref a]/\OrdAt CO CR CW H o k l ns/\OG l ns k/\EnsL K H a zs/\zs.length<64/\(∀e ∈ zs,EB l e) /\
 (∀(bs:List Ent) (D:sM) (H':Hp),xn k l ns [] zs (Ba bs)->BG k l ns bs->Same H H'->H D=Bb->EnsM K H' D bs->Q (.ref D) H')/\(xn k l ns [] zs Bb->∀H',Same H H'->E (.ref CF) Bb H')
def JW{CO CR CW CF o a:sM}(h1:OrdAt CO CR CW H o k l ns)(h2:OG l ns k)(h3:EnsL K H a zs)(h4:zs.length<64)(h5:∀e ∈ zs,EB l e)(q1:∀(bs:List Ent) (D:sM) (H':Hp),xn k l ns [] zs (Ba bs)->BG k l ns bs->Same H H'->H D=Bb->EnsM K H' D bs->Q (.ref D) H')(q2:xn k l ns [] zs Bb->∀H',Same H H'->E (.ref CF) Bb H'):Z4 K CO CR CW CF [.ref o,.ref a] H Q E:=#[o,a,k,l,ns,zs,rfl,h1,h2,h3,h4,h5,q1,q2]
def zfV(K:sL)(H1 H':Hp)(bs:List Ent)(e:Ent)(v:V):Prop:=∃i j,EndsAt (zb bs) e.1 i/\EndsAt (zb bs) e.2.1 j/\((wAt (zb bs) e.1 i=wAt (zb bs) e.2.1 j/\v=.non) \/
 (wAt (zb bs) e.1 i≠wAt (zb bs) e.2.1 j/\∃p s:sM,v=.ref p/\H1 s=Bb/\H' p=Ba (.tup [⇑(yO bs e i j).1,⇑(yO bs e i j).2.1,.ref s])/\LsA K H' s ((yO bs e i j).2.2.map dSt)))
def zgf(K:sL)(H:Hp)(D:sM)(k:Nat)(l:())(ns:List Int)(zs:List Ent)(i:Nat)(H':Hp):Prop:=∃(bs:List Ent) (Bg:List V),Same H H'/\H' D=Ba (.lst Bg)/\EnsA K (ko D H') bs Bg/\BG k l ns bs/\bs.length<=i/\∀r,xn k l ns bs (zs.drop i) r->xn k l ns [] zs r
def iV:sQz 2 ["order","entries","built","entry","lower"] vd:=by nofun
def ZY{f CO CR CW CF:sM}(B:Bt mg)(F:("built_anew"^^^vd))(pG:(5>>>"brought_down") ["entries","entry"] [] (Wl K CF))(oZ:(1>>>"refuse_beyond") ["entry"] [] (j0 K CF))(nX:(4<<<"as_rule") ["order","entry"] [] (vg K CO CR CW)):(6|||["order","entries"]) (Z4 K CO CR CW CF):=by
 exists Fun.okX F iV,0
 ·let#[o,a,k,l,ns,zs,rfl,ho,hG,hA,hz,hE,q1,q2]:=h
  refine#[_,(zh (zy 2 iV.nd (xg zg)) (zh (zR PassesOwn.leaving rfl (zY (pv 1)) (zq (i:=3) iV.nd rfl (.inl rfl)) (zh (zy 4 iV.nd (clP hx pG hr .nil rfl (za (pv 2) (za (pv 3) zg)))) (ze (zJ (zv op_notN' (pv 4) yd (zx _)) (zh (yS (clP hx oZ hr .nil rfl (za (pv 4) zg))) (ze (yS (wf aX bh bn yx (pv 2) (za (cl0 nX hr .nil rfl (za (pv 0) (za (pv 4) zg))) zg)))))
     zr)))) (ze (zl (pv 2))))),?_]
  have s16:=zX;let#[xs,hX,hI]:=id hA;have hxl:=hI.len;change Same H H'/\∃D:sM,H D=Bb/\H' D=Ba (.lst [])/\σ=%[!!o,!!a,!!D|2]
  ·ac_rfl;exact#[⋯,λp hp=>#[zf hp,p,hp,zc,rfl]]
  rintro σ H0 ⟨s0,D,hD,hD0,rfl⟩:0;change zgf K H D k l ns zs zs.length H'/\∃(v3 v4:Option V),σ=[!!o,!!a,!!D,v3,v4]
  ·ac_rfl;refine#[#[_,s0.seq hX],jb0 (xs:=xs) (λi σ H'=>zgf K H D k l ns zs i H'/\∃(v3 v4:Option V),σ=[!!o,!!a,!!D,v3,v4]) #[#[[],[],s0,hD0,by erw[EnsA],#[∅,λe he=>(nomatch he),λe he=>(nomatch he)],al _,λr h=>h],Bb,Bb,rfl] (λi σ H' _ ⟨⟨_,_,h,_⟩,_⟩=>h.seq hX) ?_ ?_]
   ·refine nm4 ?_;rintro i x σ H1 hx ⟨⟨bs,Bg,s1,hH1,hI1,hB,hbi,hr⟩,v3,v4,rfl⟩:_;have hix:=(Bh.mp hx).1;let#[e,pe,se,hei,rfl,hqe,hse]:=hI.get hx;have hEe:=hE e (ac hei)
    have hdrop:zs.drop i=e::zs.drop (i+1):=by
     let#[h1,h2]:=Bh.mp hei;rw[aY h1,h2]
    rw[hdrop]at hr;have hal:=hI1.len;have hbn:=hB.n
    have hIs:Is K H1 (.lst (bs.map dE)) (.ref D):=by
     erw[Is]
     exact#[D,Bg,rfl,x4 hH1,(hI1.same vm).iss]
    right
    erw[yv,aN,aM]
    change Same H1 H'/\∃v:V,zfV K H1 H' bs e v/\σ=[!!o,!!a,!!D,!!pe,Ba (v)]
    ·ac_rfl;exact K9 hG hIs hB (zp s1 hqe) (hse.same s1) hEe (λi' j' H' a1 a2 a3 s'=>#[s',i',j',a1,a2,.inl #[a3,rfl]]) (λi' j' p' s' H' a1 a2 a3 t' a4 a5 a6=>#[t',i',j',a1,a2,.inr #[a3,p',s',rfl,a4,a5,a6]]) λh H' s'=>q2 (hr _ (.stuck h)) H' (s1.trans s')
    rintro σ H2 ⟨s2,v,⟨i',j',hi',hj',hc⟩,rfl⟩:0;rcases hc with ⟨hw,rfl⟩ | ⟨hw,p',s',rfl,hsn,hp',hL'⟩
    ·ac_rfl;exact#[bs,Bg,s1.trans s2,s2 _ _ hH1,hI1.same (vb s2),hB,⋯,λr h=>hr r (.same hi' hj' hw h)]
    ·ac_rfl
     try rw[w6 not_false]
     have hdl:=KA hB hG hEe hi'.most hj'.most;change H'=H2/\¬ qY (yO bs e i' j')/\σ=[!!o,!!a,!!D,!!pe,!!p']
     ·ac_rfl;exact V2 (x6 hp') hL'.is hdl.1 hdl.2 (λh=>#[rfl,h]) λh=>q2 (hr _ (.far hi' hj' hw h)) H2 (s1.trans s2)
     rintro σ H3 ⟨rfl,hF,rfl⟩:_;have hEd:=zap hB hEe hF;have hH3:=s2 _ _ hH1
     have fin:∀(v:V) (H4:Hp),Same H3 H4->EnA K (ko D H4) (z8 k l ns (yO bs e i' j')) v->zgf K H D k l ns zs (i+1) (upd H4 D (.lst (Bg ++ [v]))):=λv H4 s4 hv=>by
      refine#[bs ++ [z8 k l ns (yO bs e i' j')],Bg ++ [v],zu (s1.trans (s2.trans s4)) hD,zc,?_,hB.snoc ⋯ hEd hw,by rw[aj];show bs.length+1<=i+1;lia,λr h=>hr r (.new hi' hj' hw hF h)];exact (hI1.same ((vb (s2.trans s4)).trans xH)).snoc (hv.same xH)
     right;ac_rfl;refine#[.inl #[_,x4 hH3],k9 (ho.same (s1.trans s2)) hG (x6 hp') hL'.is hEd (λer H4 s4=>#[Bg,s4 _ _ hH3,⋯,fin _ _ s4 ?_]) λp2 t2 H4 s4 htn hp2 hL2=>#[Bg,s4 _ _ hH3,⋯,fin _ _ s4 ?_]]
     ·rw[er];exact EnA.new (s4 _ _ hH3) (s4 _ _ hp') (hL'.same s4) (λz=>by rw[z,hH1]at hsn;cases hsn)
     ·exact EnA.new (s4 _ _ hH3) hp2 hL2 (λz=>by rw[z,hH3]at htn;cases htn)
   ·refine nmB ?_;rintro σ H' ⟨h,v3,v4,rfl⟩:_;rw[hxl]at h;right;exact#[h,_,_,rfl]
  rintro σ H2 ⟨⟨bs,Bg,s2,hH2,hI2,hB,hbi,hr⟩,v3,v4,rfl⟩:_;rw[d4]at hr;right;ac_rfl;exact q1 bs D H2 (hr _ (.nil bs)) hB s2 hD #[Bg,hH2,hI2.same vm]
theorem zau(rs ss:List zH):uH (rs.map dR) (ss.map dR)=decide (rs=ss):=by
 induction rs generalizing ss with
 | nil=>cases ss with
  | nil=>simp [uH]
  | cons s ss=>simp [uH]
 | cons r rs ih=>cases ss with
  | nil=>simp [uH]
  | cons s ss =>
   rw[ao,ao,uH,ih]
   have h:eqD (dR r) (dR s)=decide (r=s):=by
    let#[a,b]:=r;let#[c,d]:=s
    have e1:∀x y:(),eqD (dS x) (dS y)=decide (x=y):=λx y=>by
     have:eqD (dS x) (dS y)=decide (tx x=tx y):=by erw[dS,eqD];rfl
     rw[this];exact decide_eq_decide.mpr #[wI,λh=>by rw[h]]
    erw[dR,eqD,uH,e1]
    by_cases h1:a=c <;> by_cases h2:b=d <;> simp [h1,h2]
   rw[h];by_cases h1:r=s <;> by_cases h2:rs=ss <;> simp [h1,h2]
def Lined.eb(h:Lined k l ns es zs)(hE:∀e ∈ es,EB l e):∀e ∈ zs,EB l e:=λe he=>by
 have hm:=h.perm.mem_iff.mp he;unfold ja at hm;let#[y,hy,rfl]:=Bj.mp hm;exact (hE y (Bp.mp hy).1).rule
def Lined.len(h:Lined k l ns es zs):zs.length<=es.length:=by rw[h.perm.length_eq];exact Xu k l ns es
def Q2(K:sL)(CO CR CW T CF:sM):Sp:=λvs H Q E=>∃(o a:sM) (k:Nat) (l:()) (ns:List Int) (es:List Ent),vs=[.ref o,.ref a]/\OrdAt CO CR CW H o k l ns/\OG l ns k/\EnsL K H a es/\es.length<64/\(∀e ∈ es,EB l e)/\TabOk H T lp lq /\
 (∀(bs:List Ent) (D:sM) (H':Hp),uL k l ns 20 es (Ba bs)->BG k l ns bs->SamT T H H'->TabOk H' T lp lq->EnsM K H' D bs->Q (.ref D) H')/\(uL k l ns 20 es Bb->∀H',SamT T H H'->TabOk H' T lp lq->E (.ref CF) Bb H')
def zgI(K:sL)(T:sM)(H:Hp)(k:Nat)(l:())(ns:List Int)(es:List Ent)(n:Nat)(H':Hp)(b:sM):Prop:=∃fs:List Ent,SamT T H H'/\TabOk H' T lp lq/\(∀r,uL k l ns n fs r->uL k l ns 20 es r)/\EnsL K H' b fs/\fs.length<64/\∀e ∈ fs,EB l e
def mD:sQz 2 ["order","entries","turn","lined_up"] ji:=by nofun
def V4{f CO CR CW TB CF:sM}(B:Bt mg)(T:zbM K mg CF)(TM:TMo mg)(F:("thinned"^^^ji))(rJ:(6<<<"in_order") ["order","entries"] [] (Zd K CO CR CW TB))(rf:(6>>>"built_anew") ["order","entries"] [] (Z4 K CO CR CW CF))(gY:(1<<<"pairs_of") ["entries"] [] (wy K)):(7|||["order","entries"]) (Q2 K CO CR CW TB CF):=by
 let#[t9,g9]:=TM.p
 exists Fun.okX F mD,0
 ·let#[o,a,k,l,ns,es,rfl,ho,hG,hA,hz,hE,hTab,q1,q2]:=h
  refine#[_,(zh (zR PassesOwn.leaving rfl (zV rfl B.range (za (yI (v:=.int 20) rfl g9 #[t9,rfl]) zg)) (zq (i:=2) mD.nd rfl (.inl rfl)) (zh (zy 3 mD.nd (cl0 rJ hr .nil rfl (za (pv 0) (za (pv 1) zg)))) (zh (zy 1 mD.nd (clP hx rf hr .nil rfl (za (pv 0) (za (pv 3) zg)))) (ze (zJ (zv (WE (wz hr)) (cl0 gY hr .nil rfl (za (pv 1) zg)) (cl0 gY hr .nil rfl (za (pv 3) zg)) (zx _)) (ze (zl (pv 1)))
     zr))))) (ze (ym hx rfl T.xi.toXC T.ini rfl T.g (za z6 zg)))),?_]
  have s16:=zX;let#[ps0,hps0,_]:=id hTab;change ∃b:sM,zgI K TB H k l ns es 0 H' b
  ·ac_rfl;refine#[⋯,⋯,ja2 (λi σ H'=>∃(b:sM) (v2 v3:Option V),zgI K TB H k l ns es (20 - i) H' b/\σ=[!!o,!!b,v2,v3]) #[a,Bb,Bb,#[es,x9 (ja1 _),hTab,λr h=>h,hA,hz,hE],rfl] ?_ ?_]
   ·refine nm3 ?_;rintro i σ H1 hi ⟨b,v2,v3,⟨fs,s1,hT1,hr,hF,hfl,hFE⟩,rfl⟩:_;have ho1:=ho.samT s1 hps0;have hi20:i<20:=hi;obtain⟨n,hn⟩:∃n,20 - i=n+1:=#[20 - i - 1,⋯];rw[hn]at hr;right
    erw[yv,aN,aM]
    change SamT TB H1 H'/\TabOk H' TB lp lq/\∃(z:sM),(∃zs:List Ent,Lined k l ns fs zs/\EnsM K H' z zs)/\∃v2,σ=[!!o,!!b,v2,!!z]
    ·ac_rfl;exact U3 ho1 hG hF hfl hFE hT1 λD zs H' s' hT' Z hLn hM=>#[s',hT',D,#[zs,hLn,hM],rfl]
    rintro σ H2 ⟨s2,hT2,z,⟨zs,hLn,hZ⟩,v2,rfl⟩:_;have s12:=s1.trans s2;have ho2:=ho.samT s12 hps0;have hzE:=hLn.eb hFE;have hzl:=hLn.len;right;change Same H2 H'/\∃(c:sM),(∃bs:List Ent,xn k l ns [] zs (Ba bs)/\BG k l ns bs/\EnsM K H' c bs)/\σ=[!!o,!!c,v2,!!z]
    ·ac_rfl;exact JW ho2 hG hZ.l ⋯ hzE (λbs D H' hb hB s' Z hM=>#[s',D,#[bs,hb,hB,hM],rfl]) λhb H' s'=>q2 (hr _ (.bad hLn hb)) H' (s12.trans (x9 s')) (hT2.same s')
    rintro σ H3 ⟨s3,c,⟨bs,hb,hB,hM⟩,rfl⟩:_;have hbn:=hB.n;right;ac_rfl;refine wj hM.l.is ⋯ λP1 H4 Z s4 hP1=>wj ((hZ.same s3).same s4).l.is ⋯ λP2 H5 Z s5 hP2=>ZH (.inl #[(hP1.same s5).is,hP2.is]) (bC (zbi _) ∅) ?_;rw[zau];have s45:=s4.trans s5;have s15:=s12.trans (x9 (s3.trans s45));have hT5:=hT2.same (s3.trans s45);refine#[_,rfl,yb (λh=>?_) λh=>?_]
    ·exact q1 bs c H5 (hr _ (.done hLn hb (u5 h))) hB s15 hT5 (hM.same s45)
    ·have e:20 - (i+1)=n:=⋯;rw[e];exact#[bs,s15,hT5,λr h'=>hr r (.more hLn hb (λz=>h (u6 z)) h'),(hM.same s45).l,hbn,hB.e]
   ·refine nmB ?_;rintro σ H' ⟨b,v2,v3,h,rfl⟩:0;exact#[b,h]
  rintro σ H2 ⟨b,fs,s2,hT2,hr,_⟩:0;ac_rfl;exact#[⋯,q2 (hr _ (.out fs)) H2 s2 hT2]
def jm(K:sL):Sp:=λvs H Q Z=>∃(a:sM) (ns:List Int) (k:Int),vs=[.ref a,.int k]/\SqL K H a (ns.map V.int)/\(∀z ∈ ns,uU z)/\0<=k/\∀c:Int,uU c->Q (.int c) H
def vx{ns:List Int}(hS:SqL K H a (ns.map V.int))(hB:∀z ∈ ns,uU z)(hk:0<=k)(h:∀c:Int,uU c->Q (.int c) H):jm K [.ref a,.int k] H Q E:=#[a,ns,k,rfl,hS,hB,hk,h]
def zco:sQz 2 ["_law_script","_law_k"] Jf:=by nofun
def zbP(B:Bt mg)(F:("_law_cell"^^^Jf)):(1&&&["_law_script","_law_k"]) (jm K):=by
 exists F.ok zco
 ·let#[a,ns,k,rfl,hS,hB,hk,q]:=h
  refine#[_,(zG (zJ (zv Uh (pv 1) (zA B.len (pv 0)) (zx _)) (ze (zl (zk zaB (pv 0) (pv 1))))
    zr) (ze (zl zd))),?_]
  have s16:=zX
  rfl'
  refine#[_,.inl #[_,hS,rfl],yb (λc=>?_) (λc=>q 0 (by unfold uU;decide))];let#[v,h1,h2]:=vN hk c;rw[au]at h2;let#[z,hz,rfl]:=Bo.mp h2;exact .inl #[_,hS,_,h1,q z (hB z (ac hz))]
def xG:Sp:=λvs H Q Z=>∃(c t:Int),vs=[.int c,.int t]/\uU c/\0<=t/\t<=100/\∀z:Int,0<=z->Q (.int z) H
def xD(hc:uU c)(h0:0<=t)(h1:t<=100)(q:∀z:Int,0<=z->Q (.int z) H):xG [.int c,.int t] H Q E:=#[c,t,rfl,hc,h0,h1,q]
def nB:sQz 2 ["_law_cell_here","_law_turn","_law_step","_law_number"] Wb:=by nofun
def Kq(B:Bt mg)(F:("_law_mixed"^^^Wb)):(1&&&["_law_cell_here","_law_turn"]) xG:=by
 exists F.ok nB
 ·let#[c,t,rfl,hc,h0,h1,q]:=h
  refine#[_,(zh (zJ (zv op_ge' (pv 0) (zD UG zd zd) (zx _)) (zh (zR p8 rfl (zV rfl B.range (za (zD z7 zd (zD yU (pv 1) zd)) zg)) (zq (i:=2) nB.nd rfl (.inl rfl)) (ze (zy 0 nB.nd (zD y8 (pv 0) (zD UG zd zd))))) (ze (zl (zD yU (pv 0) (zD UG zd zd)))))
    zr) (zh (zy 3 nB.nd (zD z7 (zD qw (zD KZ (pv 0) (pv 0)) zd) (zD qw (zD qw (pv 0) zd) (zD z7 (pv 1) zd)))) (ze (zl (zD y8 (zD yU (zD qw (zD yU (zD z7 (pv 3) (zD qw (pv 1) zd)) zd) zd) zd) zd))))),?_]
  have s16:=zX;have c6:zfW 10 6:=#[∅,∅,∅];have c12:zfW 10 12:=#[∅,∅,∅];have p6:(0:Int)<10 ^ Int.toNat 6/\(10:Int) ^ Int.toNat 6<1073741824:=∅;change H'=H/\σ=%[~~~!c,~~~!t|2]
  ·rfl'
   refine#[c12,yb (λZ=>?_) (λZ=>trivial)];change H'=H/\∃(z:Int) (v:Option V),σ=[~~~!z,~~~!t,v,Bb]
   ·rfl'
    have e1:=br t (b:=9) ∅;have e2:=bp t (b:=9) ∅;refine#[∅,⋯,⋯,ja2 (λi σ H'=>H'=H/\∃(z:Int) (v:Option V),σ=[~~~!z,~~~!t,v,Bb]) #[rfl,_,_,rfl] ?_ λσ H' h=>h];refine nm3 ?_;rintro i σ H' hi ⟨rfl,z,v,rfl⟩:0
    rfl'
    exact#[c6,p6.1,p6.2]
   rintro σ H1 ⟨rfl,z,v,rfl⟩:0
   rfl'
   exact#[c6,p6.1,q _ (br _ (by have:=p6.1;lia))]
  rintro σ H1 ⟨rfl,rfl⟩:0;change H'=H1/\∃z:Int,σ=[~~~!c,~~~!t,Bb,~~~!z]
  ·rfl'
   exact#[hc,hc,.inr #[∅,∅],.inr #[∅,∅],.inr #[⋯,⋯]]
  rintro σ H2 ⟨rfl,z,rfl⟩:0
  rfl'
  exact#[.inr #[∅,∅],∅,.inr #[∅,∅],∅,#[∅,∅],q _ (Int.ediv_nonneg (br _ ∅) ∅)]
def qg:Sp:=λvs H Q Z=>∃c m:Int,vs=[.int c,.int m]/\uU c/\0<=m/\m<=26/\∀l:(),(l.length:Int)=m->l.Nodup->small l->Q ⇑l H
def Wm(h:uU c)(h0:0<=m)(h1:m<=26)(q:∀l:(),(l.length:Int)=m->l.Nodup->small l->Q ⇑l H):qg [.int c,.int m] H Q E:=#[c,m,rfl,h,h0,h1,q]
def zgQ(c m:Int)(i:Nat)(σ:L2.St):Prop:=∃(left found:()) (number:Int) (v5 v6:Option V),found.length=i/\(found ++ left).Perm alpha/\σ=[~~~!c,~~~!m,~~~left,~~~!number,~~~found,v5,v6]
def ie:sQz 2 ["_law_cell_here","_law_many","_law_left","_law_number","_law_letters_here","_law_k","_law_at"] ka:=by nofun
def VL(B:Bt mg)(F:("_law_letters"^^^ka))(ip:(1<<<"_law_mixed") ["_law_cell_here","_law_turn"] [] xG):(2&&&["_law_cell_here","_law_many"]) qg:=by
 exists F.ok ie
 ·let#[c,m,rfl,hc,h0,h1,q]:=h
  refine#[_,(zh (zy 2 ie.nd z6) (zh (zy 3 ie.nd (cl0 ip hr .nil rfl (za (pv 0) (za zd zg)))) (zh (zy 4 ie.nd z6) (zh (zR p8 rfl (zV rfl B.range (za (pv 1) zg)) (zq (i:=5) ie.nd rfl (.inl rfl)) (zh (zy 6 ie.nd (zD yU (pv 3) (zA B.len (pv 2)))) (zh (zy 3 ie.nd (zD y8 (pv 3) (zA B.len (pv 2)))) (zh (zy 4 ie.nd (zD zS (pv 4) (zk Y0 (pv 2) (pv 6)))) (ze (zy 2 ie.nd (zD zS (zQ yJ (pv 2) yo (zO (pv 6))) (zQ yJ (pv 2) (zO (zD z7 (pv 6) zd)) yo)))))))) (ze (zl (pv 4))))))),?_]
  have s16:=zX;have ha:alpha.length=26:=rfl;change H'=H/\σ=%[~~~!c,~~~!m,~~~alpha|4]
  ·rfl'
   exact J3
  rintro σ H1 ⟨rfl,rfl⟩:0;change H'=H1/\∃z:Int,σ=%[~~~!c,~~~!m,~~~alpha,~~~!z|3]
  ·rfl'
   exact xD hc ∅ ∅ λz Z=>#[rfl,z,rfl]
  rintro σ H2 ⟨rfl,z,rfl⟩:0;change H'=H2/\σ=%[~~~!c,~~~!m,~~~alpha,~~~!z,Ba ⇑[]|2]
  ·rfl'
   rfl
  rintro σ H3 ⟨rfl,rfl⟩:0;change H'=H3/\zgQ c m m.toNat σ
  ·rfl'
   refine#[⋯,⋯,ja2 (λi σ H'=>H'=H3/\zgQ c m i σ) #[rfl,alpha,[],z,Bb,Bb,rfl,.refl _,rfl] ?_ λσ H' h=>h];refine nm3 ?_;rintro i σ H' hi ⟨rfl,left,found,number,v5,v6,hf,hp,rfl⟩:_;have hpl:=hp.length_eq;rw[aj]at hpl;have hl:left.length+i=26:=⋯;have hm0:=br number (b:=(left.length:Int)) ⋯;have hm1:=bp number (b:=(left.length:Int)) ⋯;right;generalize hz:number % (left.length:Int)=at_ at hm0 hm1;let#[v,e1,e2]:=vN hm0 hm1
   erw[yv,aN,aM]
   refine zj (λσ H''=>H''=H'/\∃v5,σ=[~~~!c,~~~!m,~~~left,~~~!number,~~~found,v5,~~~!at_]) ?_ ?_
   ·rfl'
    exact#[⋯,⋯,hz]
   rintro σ G1 ⟨rfl,v5',rfl⟩:0;refine zj (λσ H''=>H''=G1/\∃n v5,σ=[~~~!c,~~~!m,~~~left,~~~!n,~~~found,v5,~~~!at_]) ?_ ?_
   ·rfl'
    exact#[⋯,#[⋯,⋯]]
   rintro σ G2 ⟨rfl,n,v5',rfl⟩:0;refine zj (λσ H''=>H''=G2/\∃v5,σ=[~~~!c,~~~!m,~~~left,~~~!n,Ba ⇑(found ++ [v]),v5,~~~!at_]) ?_ ?_
   ·rfl'
    exact#[⋯,v,e1,⋯,rfl]
   rintro σ G3 ⟨rfl,v5',rfl⟩:_;have hc1:=wW left Bb (Ba at_);have hc2:=wW left (Ba (at_+1)) Bb;right
   rfl'
   refine#[⋯,⋯,⋯,_,_,_,_,_,by rw[aj,hf];rfl,?_,rfl];rw[uj _ hm0,xq _ ⋯,aQ];have e3:(at_+1).toNat=at_.toNat+1:=⋯;rw[e3];exact ((U9 e2).append_left found).trans hp
  rintro σ H4 ⟨rfl,left,found,number,v5,v6,hf,hp,rfl⟩:0
  rfl'
  have hnd:(found ++ left).Nodup:=hp.nodup_iff.mpr ∅;refine q found ⋯ (BM.mp hnd).1 λc hc=>?_;have h:c ∈ alpha:=hp.mem_iff.mp (bz _ hc);exact (by decide:∀c ∈ alpha,97<=c/\c<=122) c h
def jJ:Sp:=λvs H Q Z=>∃(ls:()) (c m:Int),vs=[.int c,⇑ls,.int m]/\0<=c/\1<=ls.length/\ls.length<=26/\0<=m/\m<=100/\∀l:(),(l.length:Int)<=m->(∀x ∈ l,x ∈ ls)->Q ⇑l H
def W5(h0:0<=c)(h1:1<=ls.length)(h2:ls.length<=26)(h3:0<=m)(h4:m<=100)(h:∀l:(),(l.length:Int)<=m->(∀x ∈ l,x ∈ ls)->Q ⇑l H):jJ [.int c,⇑ls,.int m] H Q E :=
 #[ls,c,m,rfl,h0,h1,h2,h3,h4,h]
def lG:sQz 3 ["_law_number","_law_letters_here","_law_most","_law_size","_law_word_here","_law_k"] Jx:=by nofun
def zbY(B:Bt mg)(F:("_law_word"^^^Jx)):(1&&&["_law_number","_law_letters_here","_law_most"]) jJ:=by
 exists F.ok lG
 ·let#[ls,c,m,rfl,h0,h1,h2,h3,h4,q]:=h
  refine#[_,(zG (zy 3 lG.nd (zD yU (pv 0) (zD z7 (pv 2) zd))) (zG (zy 0 lG.nd (zD y8 (pv 0) (zD z7 (pv 2) zd))) (zG (zy 4 lG.nd z6) (zG (zR p8 rfl (zV rfl B.range (za (pv 3) zg)) (zq (i:=5) lG.nd rfl (.inl rfl)) (zG (zy 4 lG.nd (zD zS (pv 4) (zk Y0 (pv 1) (zD yU (pv 0) (zA B.len (pv 1)))))) (ze (zy 0 lG.nd (zD y8 (pv 0) (zA B.len (pv 1))))))) (ze (zl (pv 4))))))),?_]
  have s16:=zX
  rfl'
  have m0:=br c (b:=m+1) ⋯;have m1:=bp c (b:=m+1) ⋯
  refine#[⋯,#[⋯,⋯],⋯,⋯,ja2 (λi σ H'=>H'=H/\∃(found:()) (number:Int) (v5:Option V),σ=[~~~!number,~~~ls,~~~!m,Ba (.int (c % (m+1))),~~~found,v5]/\found.length=i/\∀x ∈ found,x ∈ ls)
   #[rfl,[],_,Bb,rfl,rfl,λx h=>(nomatch h)] ?_ ?_]
  ·refine nm3 ?_;rintro i σ H' hi ⟨rfl,found,number,v5,rfl,hf,hm⟩:0
   rfl'
   have hm0:=br number (b:=(ls.length:Int)) ⋯;have hm1:=bp number (b:=(ls.length:Int)) ⋯;let#[v,e1,e2]:=vN hm0 hm1
   repeat (refine And.intro (by first | lia | decide | exact#[⋯,⋯] | assumption) ?_)
   refine#[v,e1,?_]
   repeat (refine And.intro (by first | lia | decide | exact#[⋯,⋯] | assumption) ?_)
   refine#[by rw[aj,hf];rfl,λx hx=>?_];rcases Bl.mp hx with h | h
   ·exact hm x h
   ·rw[Bm.mp h];exact ac e2
  ·refine nmB ?_;rintro σ H' ⟨rfl,found,number,v5,rfl,hf,hm⟩:0
   rfl'
   exact q found ⋯ hm
structure zg5(K:sL):Prop where
 ii:aV K (.type "int") (.type "int")=Ba Bc
 ib:aV K (.type "int") (.type "bool")=Ba Bd
def ug:Sp:=λvs H Q Z=>∃i:Int,vs=[.int i]/\Q (.bl Bc) H
def jq(h:Q (.bl Bc) H):ug [.int i] H Q E:=#[i,rfl,h]
def Kb:sQz 1 ["_law_found"] Wr:=by nofun
def KN(B:Bt mg)(T:zg5 K)(F:("_law_whole"^^^Wr)):(1&&&["_law_found"]) ug:=by
 exists F.ok Kb
 ·let#[i,rfl,q]:=h;refine#[_,(ze (zl (jN (yH rfl B.isi (pv 0) rfl B.int PySem.Pv.boot_int) (jZ (zaC (yH rfl B.isi (pv 0) rfl B.bool PySem.Pv.boot_bool)))))),?_]
  rfl'
  exact#[_,.inl (.int _),Bc,T.ii,zf5 #[_,.inl (.int _),Bd,T.ib,q]]
structure TLs(K:sL):Prop where
 ll:aV K (.type "list") (.type "list")=Ba Bc
 tt:aV K (.type "tuple") (.type "tuple")=Ba Bc
 bb:aV K (.type "bool") (.type "bool")=Ba Bc
def ZD(K:sL):Sp:=λvs H Q Z=>∃(t:sM) (ss:List Stp),vs=[.ref t]/\Is K H (.lst (ss.map dSt)) (.ref t)/\Q (.bl Bc) H
def rg:sQz 1 ["_law_found","_law_step"] XH:=by nofun
def K6(B:Bt mg)(T:TLs K)(F:("_law_steps"^^^XH))(ow:(1<<<"_law_whole") ["_law_found"] [] ug):(2&&&["_law_found"]) (ZD K):=by
 exists F.ok rg
 ·let#[t,ss,rfl,hT,q]:=h
  refine#[_,(zh (zJ (yf (yk (yH rfl B.isi (pv 0) rfl B.list jb3) (λZ=>rfl))) (ze (zl yt))
    zr) (zh (zR p8 rfl (zY (pv 0)) (zq (i:=1) rg.nd rfl (.inl rfl)) (zh (zJ (PW.pt (wT (yf (yk (yH rfl B.isi (pv 1) rfl B.tuple jc2) (λZ=>rfl))) (wT (zv uJ (zA B.len (pv 1)) zd (zx _)) (wg (yf (yk (yH rfl B.isi (!-1) rfl B.bool PySem.Pv.boot_bool) (λZ=>rfl))))))) (ze (zl yt))
     zr) (ze (zJ (PW.pt (wT (yf (yk (cl0 ow hr .nil rfl (za (!-1) zg)) (λZ=>rfl))) (wg (yf (yk (cl0 ow hr .nil rfl (za (!-1) zg)) (λZ=>rfl)))))) (ze (zl yt))
     zr)))) (ze (zl yt)))),?_]
  have s16:=zX
  erw[Is]at hT
  let#[_,ts,e,hTs,hJ]:=hT;cases e;change H'=H/\σ=[!!t,Bb]
  ·rfl'
   exact#[_,.inr (.inr (.inl #[_,_,rfl,rfl,hTs])),Bc,T.ll,Yg trivial]
  rintro σ H1 ⟨rfl,rfl⟩:0;change H'=H1/\∃v1,σ=[!!t,v1]
  ·rfl'
   refine#[#[_,hTs],jb0 (xs:=ts) (λi σ H'=>H'=H1/\∃v1,σ=[!!t,v1]) #[rfl,_,rfl] (λi σ H' Z h=>by rw[h.1];exact hTs) ?_ λσ H' h=>h];refine nm4 ?_;rintro i x σ H' hx ⟨rfl,v1,rfl⟩:_;let#[u,pu,hui,rfl,hqu]:=vz hJ hx;right
   erw[yv,aN,aM]
   refine zj (λσ H''=>H''=H'/\σ=[!!t,!!pu]) ?_ ?_
   ·rfl'
    exact#[_,.inr (.inr (.inr #[_,_,rfl,rfl,hqu])),Bc,T.tt,Yg #[_,.inr #[_,hqu,rfl],yb (λh=>w4 rfl h) λZ=>#[_,hqu,_,rfl,_,.inl (.bl _),Bc,T.bb,Yg trivial]]]
   rintro σ G ⟨rfl,rfl⟩:0
   rfl'
   exact#[_,hqu,_,rfl,jq #[Bc,rfl,Yg #[_,hqu,_,rfl,jq #[Bc,rfl,Yg rfl]]]]
  rintro σ H2 ⟨rfl,v1,rfl⟩:0
  rfl'
  exact q
def ur(K:sL):Sp:=λvs H Q Z=>∃(a t:sM) (rs:List zH) (w w':()) (s:Stp),vs=[.ref a,⇑w,.ref t]/\Is K H (.lst (rs.map dR)) (.ref a)/\qJ rs/\w.length<=300000/\SqT K H t [.int s.1,.int s.2.1,.bl s.2.2]/\yn rs w s=Ba w'/\Q ⇑w' H
def jp{w w':()}(h1:Is K H (.lst (rs.map dR)) (.ref a))(h2:qJ rs)(h3:w.length<=300000)(h4:SqT K H t [.int s.1,.int s.2.1,.bl s.2.2])(h5:yn rs w s=Ba w')(q:Q ⇑w' H):ur K [.ref a,⇑w,.ref t] H Q E:=#[a,t,rs,w,w',s,rfl,h1,h2,h3,h4,h5,q]
def nz:sQz 3 ["_law_pacts","_law_word_here","_law_step","_law_old","_law_new"] Ut:=by nofun
def zdd(B:Bt mg)(F:("_law_used"^^^Ut)):(1&&&["_law_pacts","_law_word_here","_law_step"]) (ur K):=by
 refine F.ok nz (λvs H Q E h=>?_) (λcdv A outer s H vs Q E hr h=>?_)
 ·let#[a,t,rs,w,w',s,rfl,_]:=h;rfl
 ·let#[a,t,rs,w,w',s,rfl,hR,ok,hw,ht,ha,q]:=h
  refine#[_,(zh (zy 3 nz.nd (zk t7 (zk ix_list (pv 0) (!-2)) zd)) (zh (zy 4 nz.nd (zk t7 (zk ix_list (pv 0) (!-2)) zd)) (zh (zJ (yf (yk (!-2) (λZ=>rfl))) (zG (zy 3 nz.nd (zk t7 (zk ix_list (pv 0) (!-2)) zd)) (ze (zy 4 nz.nd (zk t7 (zk ix_list (pv 0) (!-2)) zd))))
    zr) (ze (zl (zD zS (zD zS (zQ yJ (pv 1) yo (zO (!-2))) (pv 4)) (zQ yJ (pv 1) (zO (zD z7 (!-2) (zA B.len (pv 3)))) yo))))))),?_]
  have s16:=zX
  erw[Is]at hR
  let#[_,xs,e,hX,hI]:=hR;cases e;have hb:0<=s.1/\s.1<rs.length:=bX λhb=>by rw[y6 hb]at ha;cases ha
  let#[p,a1,_,hp]:=zeW hI hb.1 hb.2;have gl:=XU ok s.1.toNat;rw[yE hb]at ha;generalize rs.getD s.1.toNat ([],[])=r at *;change H'=H/\σ=[!!a,~~~w,!!t,Ba ⇑r.1,Bb]
  ·rfl'
   exact#[_,ht,_,rfl,_,rfl,_,hX,_,a1,_,rfl,_,hp,rfl]
  rintro σ H1 ⟨rfl,rfl⟩:0;change H'=H1/\σ=[!!a,~~~w,!!t,Ba ⇑r.1,Ba ⇑r.2]
  ·rfl'
   exact#[_,ht,_,rfl,_,rfl,_,hX,_,a1,_,rfl,_,hp,rfl]
  rintro σ H2 ⟨rfl,rfl⟩:0;change H'=H2/\σ=[!!a,~~~w,!!t,Ba ⇑(sdl r s.2.2).1,Ba ⇑(sdl r s.2.2).2]
  ·rfl'
   refine#[_,ht,_,rfl,_,rfl,yb (λh=>#[_,ht,_,rfl,_,rfl,_,hX,_,a1,_,rfl,_,hp,_,rfl,_,ht,_,rfl,_,rfl,_,hX,_,a1,_,rfl,_,hp,_,rfl,?_]) λh=>?_]
   ·rw[h];exact#[rfl,rfl]
   ·rw[Bool.not_eq_false]at h;rw[h];exact#[rfl,rfl]
  rintro σ H3 ⟨rfl,rfl⟩:_
  have hol:(sdl r s.2.2).1.length<=100:=by
   cases s.2.2
   ·exact gl.2
   ·exact gl.1
  have hnl:(sdl r s.2.2).2.length<=100:=by
   cases s.2.2
   ·exact gl.1
   ·exact gl.2
  right;generalize sdl r s.2.2=on at *;have hst:zw w s.2.1 on.1=Bc:=bX λhst=>by rw[w9 hst]at ha;cases ha
  rw[w6 hst]at ha;let#[_,_,h0,h1]:=yA hst;have c1:=wW w Bb (Ba s.2.1);have c2:=wW w (Ba (s.2.1 + ↑on.1.length)) Bb
  rfl'
  refine#[_,ht,_,rfl,_,rfl,⋯,⋯,_,ht,_,rfl,⋯,_,rfl,⋯,?_,?_]
  ·rw[aj];lia
  ·rw[zcp h0];cases ha;exact q
def V5{w o:()}{n:Nat}(h:(n:Int)+o.length<=w.length):zw w (n:Int) o=decide (cut w (Ba (n:Int)) (Ba ((n:Int)+(o.length:Int)))=o):=by unfold zw;rw[Yc _ ⋯ ⋯ ⋯];have e:((n:Int)+(o.length:Int) - (n:Int)).toNat=o.length:=⋯;rw[e];exact decide_eq_decide.mpr #[λh=>h.2.2,λh'=>#[⋯,⋯,h']]
def qT(hp:H p=Ba (.lst ys))(h:SqT K H a xs):SqT K (upd H p (.lst zs)) a xs:=by
 rcases h with (h | ⟨o,h⟩) | h
 ·exact .inl (.inl (by rw[zt (λe=>by rw[e,hp]at h;cases h)];exact h))
 ·exact .inl (.inr #[o,by rw[zt (λe=>by rw[e,hp]at h;cases h)];exact h])
 ·exact .inr h
def Wp(K:sL):Sp:=λvs H Q Z=>∃(a:sM) (rs:List zH) (w:()) (m:Int),vs=[.ref a,⇑w,.int m]/\Is K H (.lst (rs.map dR)) (.ref a)/\qJ rs/\w.length<=900/\∀(D:sM) (H':Hp) (us:List Stp),H D=Bb->Same H H'->LsA K H' D (us.map dSt)->us.length<=300000->(∀s ∈ us,Fit rs w m s)->Q (.ref D) H'
def K4{w:()}(h1:Is K H (.lst (rs.map dR)) (.ref a))(h2:qJ rs)(h3:w.length<=900)(h:∀(D:sM) (H':Hp) (us:List Stp),H D=Bb->Same H H'->LsA K H' D (us.map dSt)->us.length<=300000->(∀s ∈ us,Fit rs w m s)->Q (.ref D) H'):Wp K [.ref a,⇑w,.int m] H Q E:=#[a,rs,w,m,rfl,h1,h2,h3,h]
def iM:sQz 3 ["_law_pacts","_law_word_here","_law_most","_law_found","_law_number","_law_pact","_law_forth","_law_old","_law_place","_law_step"] Qp:=by nofun
def zbS(B:Bt mg)(F:("_law_uses"^^^Qp))(nY:(1<<<"_law_used") ["_law_pacts","_law_word_here","_law_step"] [] (ur K)):(2&&&["_law_pacts","_law_word_here","_law_most"]) (Wp K):=by
 exists F.ok iM
 ·let#[a,rs,w,m,rfl,hR,ok,hw,q]:=h
  refine#[_,(zh (zy 3 iM.nd (xg zg)) (zh (zR p8 rfl (y9 rfl B.enum (za (pv 0) zg)) (vQ (n:=2) rfl (zZ (zq (i:=4) iM.nd rfl (.inl rfl)) (zZ (zq (i:=5) iM.nd rfl (.inl rfl)) xW))) (ze (zR p8 rfl (zdP (zW (za yt (za yt zg)))) (zq (i:=6) iM.nd rfl (.inl rfl)) (zh (zy 7 iM.nd (!-5)) (zh (zJ (yf (yk (pv 6) (λZ=>rfl))) (ze (zy 7 iM.nd (!-5)))
      zr) (ze (zR p8 rfl (zV rfl B.range (za (zD z7 (zD wn (zA B.len (pv 1)) (zA B.len (pv 7))) zd) zg)) (zq (i:=8) iM.nd rfl (.inl rfl)) (zh (zy 9 iM.nd (zW (za (pv 4) (za (pv 8) (za (pv 6) zg))))) (ze (zJ (PW.pt (Vk (zv xx (zQ yJ (pv 1) (zO (pv 8)) (zO (zD z7 (pv 8) (zA B.len (pv 7))))) (pv 7) (zx _)) (Z9 (zv ze0 (zA B.len (cl0 nY hr .nil rfl (za (pv 0) (za (pv 1) (za (pv 9) zg))))) (pv 2) (zx _))))) (ze (yS (wf aX bh bn yx (pv 3) (za (pv 9) zg))))
       zr)))))))))) (ze (zl (pv 3))))),?_]
  have s16:=zX;have hR':=hR
  erw[Is]at hR'
  let#[_,xs,e,hX,hI]:=hR';cases e;have hxl:=hI.len;rw[aa]at hxl;have okl:=ok.1;change ∃D:sM,H D=Bb/\Same H H'/\LsA K H' D []/\σ=%[!!a,~~~w,~~~!m,!!D|6]
  ·rfl'
   exact#[⋯,λD hD=>#[D,hD,zf hD,LsA.nil,rfl]]
  rintro σ H1 ⟨D,hD,s1,hL1,rfl⟩:0;change ∃us:List Stp,Same H H'/\LsA K H' D (us.map dSt)/\us.length<=300000/\(∀s ∈ us,Fit rs w m s)/\∃v4 v5 v6 v7 v8 v9,σ=[!!a,~~~w,~~~!m,!!D,v4,v5,v6,v7,v8,v9]
  ·rfl'
   refine#[#[_,s1.seq hX],jb1 (xs:=xs) (λi σ H'=>∃us:List Stp,Same H H'/\LsA K H' D (us.map dSt)/\us.length<=i * 2002/\(∀s ∈ us,Fit rs w m s)/\∃v4 v5 v6 v7 v8 v9,σ=[!!a,~~~w,~~~!m,!!D,v4,v5,v6,v7,v8,v9]) #[[],s1,hL1,ar _,λs h=>(nomatch h),_,_,_,_,_,_,rfl] ?_ ?_ ?_]
   ·rintro i σ H' _ ⟨us,hs,_⟩;exact hs.seq hX
   ·refine nmE ?_;rintro i x σ H' p hx ⟨us,hs,hL,hl,hf,v4,v5,v6,v7,v8,v9,rfl⟩ hp:_;let#[r,pr,hri,rfl,hqr]:=hI.getR hx;have hi:=(Bh.mp hri).1;have b:=ok.2 r (ac hri);have er:rs.getD i ([],[])=r:=by rw[ae,hri];rfl
    right
    rfl'
    refine#[_,x6 zc,rfl,_,_,rfl,_,_,rfl,rfl,?_];refine#[⋯,λp2 hp2=>?_];have hs3:Same H' (upd (upd H' p (.tup [.int (i:Nat),.ref pr])) p2 (.tup [.bl Bc,.bl Bd])):=(zf hp).trans (zf hp2);have hp3:(upd (upd H' p (.tup [.int (i:Nat),.ref pr])) p2 (.tup [.bl Bc,.bl Bd])) p2=Ba (.tup [.bl Bc,.bl Bd]):=zc;generalize upd (upd H' p (.tup [.int (i:Nat),.ref pr])) p2 (.tup [.bl Bc,.bl Bd])=H3 at *
    have hD3:p2≠D:=λe=>by
     let#[ys,hY,_]:=hL.same hs3;rw[e,hY]at hp3;cases hp3
    refine#[#[_,x6 hp3],ForT.by (xs:=[.bl Bc,.bl Bd]) (λj σ H4=>H4 p2=Ba (.tup [.bl Bc,.bl Bd])/\Same H H4/\∃us:List Stp,LsA K H4 D (us.map dSt)/\us.length<=i * 2002+j * 1001/\(∀s ∈ us,Fit rs w m s)/\∃v6 v7 v8 v9,σ=[!!a,~~~w,~~~!m,!!D,-~~~i,!!pr,v6,v7,v8,v9]) #[hp3,hs.trans hs3,us,hL.same hs3,⋯,hf,_,_,_,_,rfl] (λj σ H4 Z h=>x6 h.1) ?_ ?_]
    ·refine nm4 ?_;rintro j y σ H4 hy ⟨hp4,hs4,us,hL4,hl4,hf4,v6,v7,v8,v9,rfl⟩:_
     obtain⟨f,rfl⟩:∃f:Bool,y=.bl f:=by
      match j,hy with
      | 0,hy=>exact#[_,(Option.some.inj hy).symm]
      | 1,hy=>exact#[_,(Option.some.inj hy).symm]
      | j+2,hy=>simp at hy
     right
     rfl'
     change H'=H4/\σ=[!!a,~~~w,~~~!m,!!D,-~~~i,!!pr,Ba (.bl f),Ba ⇑r.1,v8,v9]
     ·rfl'
      exact#[_,zp hs4 hqr,rfl]
     rintro σ H5 ⟨rfl,rfl⟩:0;change H'=H5/\σ=[!!a,~~~w,~~~!m,!!D,-~~~i,!!pr,Ba (.bl f),Ba ⇑(sdl r f).1,v8,v9]
     ·rfl'
      refine yb (λh=>#[_,zp hs4 hqr,?_]) λh=>?_
      ·rw[h];rfl
      ·rw[Bool.not_eq_false]at h;rw[h];rfl
     rintro σ H6 ⟨rfl,rfl⟩:_
     have bo:(sdl r f).1.length<=100/\(sdl r f).2.length<=100:=by
      unfold sdl;split
      ·exact b
      ·exact#[b.2,b.1]
     have aft:∀n:Nat,(n:Int)+(sdl r f).1.length<=w.length->cut w (Ba (n:Int)) (Ba ((n:Int)+((sdl r f).1.length:Int)))=(sdl r f).1->∃w',yn rs w (((i:Nat):Int),((n:Nat):Int),f)=Ba w'/\w'.length<=1000:=λn hn hc=>by
      have hst:zw w (n:Int) (sdl r f).1=Bc:=by
       rw[V5 hn];exact u6 hc
      refine#[yX w (n:Int) (sdl r f).1 (sdl r f).2,?_,?_]
      ·rw[yE (by show (0:Int)<=(i:Int)/\(i:Int)<rs.length;lia)];simp only;rw[show ((i:Nat):Int).toNat=i from rfl,er,w6 hst]
      ·have:=WD (n:=(sdl r f).2) hst;lia
     right;generalize sdl r f=o at *
     rfl'
     refine#[⋯,⋯,⋯,⋯,ja2 (λn σ H4=>H4 p2=Ba (.tup [.bl Bc,.bl Bd])/\Same H H4/\∃us:List Stp,LsA K H4 D (us.map dSt)/\us.length<=i * 2002+j * 1001+n/\(∀s ∈ us,Fit rs w m s)/\∃v8 v9,σ=[!!a,~~~w,~~~!m,!!D,-~~~i,!!pr,Ba (.bl f),Ba ⇑o.1,v8,v9]) #[hp4,hs4,us,hL4,hl4,hf4,_,_,rfl] ?_ ?_]
     ·refine nm3 ?_;rintro n σ H7 hn ⟨hp7,hs7,us,hL7,hl7,hf7,v8,v9,rfl⟩:0;dsimp only;rw[show (0:Int)+(n:Int)=(n:Int) by lia];let#[ys,hY,hJ]:=hL7;have hyl:=hJ.len;rw[aa]at hyl;have hj2:j<2:=(Bh.mp hy).1
      erw[yv,aN,aM]
      refine zj (λσ H''=>∃t:sM,Same H7 H''/\H'' t=Ba (.tup [.int (i:Nat),.int (n:Nat),.bl f])/\σ=[!!a,~~~w,~~~!m,!!D,-~~~i,!!pr,Ba (.bl f),Ba ⇑o.1,-~~~n,!!t]) ?_ ?_
      ·rfl'
       exact#[⋯,λt ht=>#[zf ht,zc]]
      rintro σ H8 ⟨t,s8,ht8,rfl⟩:_;have hY8:=s8 _ _ hY;have hJ8:=ja0 s8 _ _ hJ;right
      rfl'
      refine#[⋯,⋯,yb (λhc=>?_) λZ=>#[s8 _ _ hp7,hs7.trans s8,us,#[ys,hY8,hJ8],⋯,hf7]];let#[w',ha,hwl]:=aft n ⋯ hc;refine jp (s:=(((i:Nat):Int),((n:Nat):Int),f)) (Is.same (hs7.trans s8) _ _ hR) ok ⋯ (x6 ht8) ha ?_
      rfl'
      refine#[⋯,yb (λhm=>#[.inl #[_,x4 hY8],ys,hY8,⋯,?_,zu (hs7.trans s8) hD,us ++ [(((i:Nat):Int),((n:Nat):Int),f)],?_,by rw[aj];erw[aG,bI];lia,λs hs'=>?_]) λZ=>#[s8 _ _ hp7,hs7.trans s8,us,#[ys,hY8,hJ8],⋯,hf7]]
      ·rw[zt hD3];exact s8 _ _ hp7
      ·rw[am];exact jb2 hY8 hJ8 (wm _) (by erw[dSt,xp,z9,and_self]) (kN (x6 ht8))
      ·rcases Bl.mp hs' with h | h
       ·exact hf7 s h
       ·rw[Bm.mp h];exact#[w',ha,hm]
     ·refine nmB ?_;rintro σ H7 ⟨hp7,hs7,us,hL7,hl7,hf7,v8,v9,rfl⟩:0;exact#[hp7,hs7,us,hL7,⋯,hf7,_,_,_,_,rfl]
    ·refine nmB ?_;rintro σ H4 ⟨_,hs4,us,hL4,hl4,hf4,v6,v7,v8,v9,rfl⟩:0;exact#[hs4,us,hL4,by erw[aG,bI]at hl4;lia,hf4,_,_,_,_,_,_,rfl]
   ·refine nmB ?_;rintro σ H' ⟨us,hs,hL,hl,hf,v4,v5,v6,v7,v8,v9,rfl⟩:0;exact#[hs,us,hL,⋯,hf,_,_,_,_,_,_,rfl]
  rintro σ H2 ⟨us,s2,hL,hl,hf,v4,v5,v6,v7,v8,v9,rfl⟩:0
  rfl'
  exact q D H2 us hD s2 hL hl hf
def Zz(K:sL):Sp:=λvs H Q Z=>∃(a c:sM) (rs:List zH) (w:()) (ns:List Int) (m:Int),vs=[.ref a,⇑w,.ref c,.int m]/\Is K H (.lst (rs.map dR)) (.ref a)/\qJ rs/\w.length<=8/\m<=8/\SqL K H c (ns.map V.int)/\(∀z ∈ ns,uU z)/\ns.length<=63 /\
 ∀(D:sM) (H':Hp) (ss:List Stp) (w':()),H D=Bb->Same H H'->LsA K H' D (ss.map dSt)->yh rs w ss=Ba w'->w'.length<=8->ss.length<=ns.length->(∀s ∈ ss,0<=s.1/\s.1<rs.length)->Q (.ref D) H'
def QO{w:()}{ns:List Int}(h1:Is K H (.lst (rs.map dR)) (.ref a))(h2:qJ rs)(h3:w.length<=8)(h4:m<=8)(h5:SqL K H c (ns.map V.int))(h5':∀z ∈ ns,uU z)(h6:ns.length<=63)(h:∀(D:sM) (H':Hp) (ss:List Stp) (w':()),H D=Bb->Same H H'->LsA K H' D (ss.map dSt)->yh rs w ss=Ba w'->w'.length<=8->ss.length<=ns.length->(∀s ∈ ss,0<=s.1/\s.1<rs.length)->Q (.ref D) H'):Zz K [.ref a,⇑w,.ref c,.int m] H Q E:=#[a,c,rs,w,ns,m,rfl,h1,h2,h3,h4,h5,h5',h6,h]
def Yn{w w':()}(h:yn rs w s=Ba w'):0<=s.1/\s.1<rs.length:=bX λhb=>by rw[y6 hb]at h;cases h
def lH:sQz 4 ["_law_pacts","_law_word_here","_law_cells","_law_most","_law_steps_here","_law_cell_here","_law_some","_law_step"] X3:=by nofun
def KP(B:Bt mg)(F:("_law_chain"^^^X3))(sy:(2<<<"_law_uses") ["_law_pacts","_law_word_here","_law_most"] [] (Wp K))(nY:(1<<<"_law_used") ["_law_pacts","_law_word_here","_law_step"] [] (ur K))(ip:(1<<<"_law_mixed") ["_law_cell_here","_law_turn"] [] xG):(3&&&["_law_pacts","_law_word_here","_law_cells","_law_most"]) (Zz K):=by
 exists F.ok lH
 ·let#[a,c,rs,w,ns,m,rfl,hR,ok,hw,hm,hS,hB,hn,q]:=h
  refine#[_,(zh (zy 4 lH.nd (xg zg)) (zh (zR p8 rfl (zY (pv 2)) (zq (i:=5) lH.nd rfl (.inl rfl)) (zh (zy 6 lH.nd (cl0 sy hr .nil rfl (za (pv 0) (za (pv 1) (za (pv 3) zg))))) (ze (zJ (zv Xb (zA B.len (pv 6)) zd (zx _)) (zh (zy 7 lH.nd (zk ix_list (pv 6) (zD yU (cl0 ip hr .nil rfl (za (pv 5) (za zd zg))) (zA B.len (pv 6))))) (zh (yS (wf aX bh bn yx (pv 4) (za (pv 7) zg))) (ze (zy 1 lH.nd (cl0 nY hr .nil rfl (za (pv 0) (za (pv 1) (za (pv 7) zg))))))))
     zr)))) (ze (zl (pv 4))))),?_]
  have s16:=zX;change ∃D:sM,H D=Bb/\Same H H'/\LsA K H' D []/\σ=%[!!a,~~~w,!!c,~~~!m,!!D|3]
  ·rfl'
   exact#[⋯,λD hD=>#[D,hD,zf hD,LsA.nil,rfl]]
  rintro σ H1 ⟨D,hD,s1,hL1,rfl⟩:0;change ∃(ss:List Stp) (w2:()),Same H H'/\LsA K H' D (ss.map dSt)/\yh rs w ss=Ba w2/\w2.length<=8/\ss.length<=ns.length/\(∀s ∈ ss,0<=s.1/\s.1<rs.length)/\∃v5 v6 v7,σ=[!!a,~~~w2,!!c,~~~!m,!!D,v5,v6,v7]
  ·rfl'
   refine#[#[_,s1.seq hS],jb0 (xs:=ns.map V.int) (λi σ H'=>∃(ss:List Stp) (w2:()),Same H H'/\LsA K H' D (ss.map dSt)/\yh rs w ss=Ba w2/\w2.length<=8/\ss.length<=i/\(∀s ∈ ss,0<=s.1/\s.1<rs.length)/\∃v5 v6 v7,σ=[!!a,~~~w2,!!c,~~~!m,!!D,v5,v6,v7]) #[[],w,s1,hL1,rfl,hw,al _,λs h=>(nomatch h),_,_,_,rfl] (λi σ H' Z h=>by let#[ss,w2,hs,_]:=h;exact hs.seq hS) ?_ ?_]
   ·refine nm4 ?_;rintro i x σ H3 hx ⟨ss,w2,s3,hL3,hwk,hw2,hsl,hnum,v5,v6,v7,rfl⟩:_;have hi:=(Bh.mp hx).1;rw[aa]at hi;rw[au]at hx;let#[z,hz,rfl]:=Bo.mp hx;have hzB:=hB z (ac hz);right
    erw[yv,aN,aM]
    change ∃(U:sM) (us:List Stp),Same H3 H'/\LsA K H' U (us.map dSt)/\us.length<=300000/\(∀s ∈ us,Fit rs w2 m s)/\σ=[!!a,~~~w2,!!c,~~~!m,!!D,~~~!z,!!U,v7]
    ·rfl'
     exact K4 (Is.same s3 _ _ hR) ok ⋯ λU H' us Z s' hU hul hf=>#[s',U,us,hU,hul,hf,rfl]
    rintro σ H4 ⟨U,us,s4,hU,hul,hf,rfl⟩:_;let#[ys,hY,hJ]:=hU;right
    rfl'
    refine#[_,.inl #[_,x4 hY,rfl],yb (λhpos=>?_) λZ=>?_]
    ·change ∃(st:Stp) (pst:sM) (w3:()),H'=H4/\SqT K H4 pst [.int st.1,.int st.2.1,.bl st.2.2]/\yn rs w2 st=Ba w3/\w3.length<=8/\σ=[!!a,~~~w2,!!c,~~~!m,!!D,~~~!z,!!U,!!pst]
     ·rfl'
      refine xD hzB ∅ ∅ λy hy=>#[_,.inl #[_,x4 hY,rfl],?_];have m0:=br y (b:=(ys.length:Int)) ⋯;have m1:=bp y (b:=(ys.length:Int)) ⋯;let#[v,a1,b1]:=vN (xs:=ys) m0 m1;let#[st,pst,hst,rfl,hqs]:=vz hJ b1;let#[w3,haf,hw3]:=hf st (ac hst);exact#[_,rfl,⋯,_,x4 hY,_,a1,rfl,st,pst,hqs,w3,haf,⋯,rfl]
     rintro σ H5 ⟨st,pst,w3,rfl,hqs,haf,hw3,rfl⟩:_;let#[xs3,hX3,hI3]:=hL3.same s4;have hil:=hI3.len;rw[aa]at hil;right;change Same H H'/\LsA K H' D ((ss ++ [st]).map dSt)/\SqT K H' pst [.int st.1,.int st.2.1,.bl st.2.2]/\σ=[!!a,~~~w2,!!c,~~~!m,!!D,~~~!z,!!U,!!pst]
     ·rfl'
      refine#[.inl #[_,x4 hX3],xs3,hX3,⋯,zu (s3.trans s4) hD,?_,qT hX3 hqs];rw[am];exact jb2 hX3 hI3 (wm _) (by erw[dSt,xp,z9,and_self]) (kN hqs)
     rintro σ H6 ⟨s6,hL6,hq6,rfl⟩:0
     rfl'
     refine jp (Is.same s6 _ _ hR) ok ⋯ hq6 haf ?_;refine#[s6,ss ++ [st],hL6,w3,jd hwk haf,hw3,by rw[aj];exact cj hsl,λs hs=>?_,rfl];rcases Bl.mp hs with h | h
     ·exact hnum s h
     ·rw[Bm.mp h];exact Yn haf
    ·exact#[s3.trans s4,ss,hL3.same s4,w2,hwk,hw2,⋯,hnum,rfl]
   ·refine nmB ?_;rintro σ H' ⟨ss,w2,hs,hL,hwk,hw2,hsl,hnum,v5,v6,v7,rfl⟩:_;rw[aa]at hsl;right;exact#[hs,ss,hL,w2,hwk,hw2,hsl,hnum,_,_,_,rfl]
  rintro σ H2 ⟨ss,w2,hs,hL,hwk,hw2,hsl,hnum,v5,v6,v7,rfl⟩:0
  rfl'
  exact q D H2 ss w2 hD hs hL hwk hw2 hsl hnum
def Xm(K:sL):Sp:=λvs H Q Z=>∃(a t:sM) (rs:List zH) (w w':()) (ss:List Stp),vs=[.ref a,⇑w,.ref t]/\Is K H (.lst (rs.map dR)) (.ref a)/\qJ rs/\w.length<=60/\Is K H (.lst (ss.map dSt)) (.ref t)/\ss.length<=2000/\yh rs w ss=Ba w'/\Q ⇑w' H
def Wh{w w':()}(h1:Is K H (.lst (rs.map dR)) (.ref a))(h2:qJ rs)(h3:w.length<=60)(h4:Is K H (.lst (ss.map dSt)) (.ref t))(h5:ss.length<=2000)(h6:yh rs w ss=Ba w')(q:Q ⇑w' H):Xm K [.ref a,⇑w,.ref t] H Q E:=#[a,t,rs,w,w',ss,rfl,h1,h2,h3,h4,h5,h6,q]
def QG{w w':()}(h:yh rs w ss=Ba w')(hs:ss[i]? = Ba s)(h1:yh rs w (ss.take i)=Ba w1):∃w2,yn rs w1 s=Ba w2/\yh rs w (ss.take (i+1))=Ba w2:=by
 have e:ss=ss.take (i+1) ++ ss.drop (i+1):=(bY _ _).symm;rw[e,xK]at h;let#[w2,h2,_]:=BB.mp h;refine#[w2,?_,h2];rw[zP hs,xK,h1]at h2
 erw[yh,cq]at h2
 let#[w3,h3,h4]:=BB.mp h2;cases h4;exact h3
def pb:sQz 3 ["_law_pacts","_law_word_here","_law_steps_here","_law_step","_law_old"] zcM:=by nofun
def zee(B:Bt mg)(F:("_law_end"^^^zcM))(nY:(1<<<"_law_used") ["_law_pacts","_law_word_here","_law_step"] [] (ur K)):(2&&&["_law_pacts","_law_word_here","_law_steps_here"]) (Xm K):=by
 refine F.ok pb (λvs H Q E h=>?_) (λcdv A outer s H vs Q E hr h=>?_)
 ·let#[a,t,rs,w,w',ss,rfl,_]:=h;rfl
 ·let#[a,t,rs,w,w',ss,rfl,hR,ok,hw,hT,hsl,hwk,q]:=h
  refine#[_,(zh (zR p8 rfl (zY (pv 2)) (zq (i:=3) pb.nd rfl (.inl rfl)) (zh (zJ (PW.pt (wT (zv Uh (!-3) zd (zx _)) (wT (zv op_ge' (!-3) (zA B.len (pv 0)) (zx _)) (wg (zv Uh (!-3) zd (zx _)))))) (ze (zl yd))
     zr) (zh (zy 4 pb.nd (zk t7 (zk ix_list (pv 0) (!-3)) (zD wn zd (vn QV rfl B.int PySem.Pv.boot_int (za (!-3) zg))))) (zh (zJ (PW.pt (wT (zv XO (zD z7 (!-3) (zA B.len (pv 4))) (zA B.len (pv 1)) (zx _)) (wg (zv uJ (zQ yJ (pv 1) (zO (!-3)) (zO (zD z7 (!-3) (zA B.len (pv 4))))) (pv 4) (zx _))))) (ze (zl yd))
     zr) (ze (zy 1 pb.nd (cl0 nY hr .nil rfl (za (pv 0) (za (pv 1) (za (pv 3) zg)))))))))) (ze (zl (pv 1)))),?_]
  have s16:=zX;have hR':=hR;have hT':=hT
  erw[Is]at hR' hT'
  let#[_,xs,e,hX,hI]:=hR';cases e;let#[_,ts,e,hTs,hJ]:=hT';cases e;have htl:=hJ.len;rw[aa]at htl;change H'=H/\∃v3 v4,σ=[!!a,~~~w',!!t,v3,v4]
  ·rfl'
   refine#[#[_,hTs],jb0 (xs:=ts) (λi σ H'=>H'=H/\∃w1 v3 v4,yh rs w (ss.take i)=Ba w1/\w1.length<=60+i * 100/\σ=[!!a,~~~w1,!!t,v3,v4]) #[rfl,w,_,_,rfl,⋯,rfl] (λi σ H' Z h=>by rw[h.1];exact hTs) ?_ ?_]
   ·refine nm4 ?_;rintro i x σ H' hx ⟨rfl,w1,v3,v4,hw1,hl1,rfl⟩:_;let#[s,ps,hsi,rfl,hqs]:=vz hJ hx;have hil:=(Bh.mp hsi).1;let#[w2,haf,hw2]:=QG hwk hsi hw1;have hl2:=UB ok haf;have hb:=Yn haf;let#[p,a1,_,hp]:=zeW hI hb.1 hb.2;have gl:=XU ok s.1.toNat;have ha:=haf;rw[yE hb]at ha;right;generalize rs.getD s.1.toNat ([],[])=r at *;have hst:zw w1 s.2.1 (sdl r s.2.2).1=Bc:=bX λhst=>by rw[w9 hst]at ha;cases ha
    let#[_,_,h0,h1]:=yA hst
    erw[yv,aN,aM]
    refine zj (λσ H''=>H''=H'/\σ=[!!a,~~~w1,!!t,!!ps,v4]) ?_ ?_
    ·rfl'
     exact#[_,hqs,_,rfl,_,rfl,yb (λh=>w4 hb.1 ⋯) λZ=>#[_,hqs,_,rfl,_,.inl #[_,hX,rfl],_,rfl,yb (λh=>w4 hb.2 (by have:=hI.len;rw[aa]at this;lia)) λZ=>#[_,hqs,_,rfl,_,rfl,yb (λh=>w4 h0 ⋯) λZ=>trivial]]]
    rintro σ G ⟨rfl,rfl⟩:0;refine zj (λσ H''=>H''=G/\σ=[!!a,~~~w1,!!t,!!ps,Ba ⇑(sdl r s.2.2).1]) ?_ ?_
    ·rfl'
     refine#[_,hqs,_,rfl,_,rfl,_,hX,_,a1,_,hqs,_,rfl,.inr #[_,rfl,_,rfl,_,hp,?_]];cases s.2.2 <;> rfl
    rintro σ G1 ⟨rfl,rfl⟩:0;refine zj (λσ H''=>H''=G1/\σ=[!!a,~~~w1,!!t,!!ps,Ba ⇑(sdl r s.2.2).1]) ?_ ?_
    ·rfl'
     have hol:(sdl r s.2.2).1.length<=100:=by
      cases s.2.2
      ·exact gl.2
      ·exact gl.1
     refine#[_,hqs,_,rfl,⋯,_,rfl,⋯,yb (λh=>w4 h1 ⋯) λZ=>#[_,hqs,_,rfl,_,rfl,_,hqs,_,rfl,⋯,_,rfl,⋯,yb (λh=>w4 ?_ h) λZ=>trivial]];have hst':=hst;unfold zw at hst';rw[decide_eq_true_eq]at hst';rw[Yc _ h0 ⋯ ⋯];have e:(s.2.1+((sdl r s.2.2).1.length:Int) - s.2.1).toNat=(sdl r s.2.2).1.length:=⋯;rw[e];exact hst'.2.2
    rintro σ G2 ⟨rfl,rfl⟩:0
    rfl'
    refine jp hR ok ⋯ hqs haf #[rfl,w2,hw2,⋯,rfl]
   ·refine nmB ?_;rintro σ H' ⟨rfl,w1,v3,v4,hw1,hl1,rfl⟩:_;rw[htl,aJ,hwk]at hw1;right;cases hw1;exact#[rfl,_,_,rfl]
  rintro σ H2 ⟨rfl,v3,v4,rfl⟩:0
  rfl'
  exact q
def zgU(hx:XE X E)(D:DMk X.prog X.w X.K X.mg X.base (CXx X.prog X.w) k C ps sp)(hr:Room j X.A)(hg:Gl X x)(hm:X.mg x=Ba (.ref C))(ha:PA X (e::es) t)(hdb:‹(x ==("__debug__" : sS))=Bd›)(he:‹sJ (e::es) X.env=(Bd,eval e X.env)::sJ es X.env›)(hpl:‹(tw pos (sJ es X.env)).any (·.1)=Bd›)(hj:‹k+1<=j›):PE X (.Call (.Name x p) (e::es) [] pos) (Q8 C sp [] E t):=by let#[f,fd,M,F,hb]:=D.ex;exact UY M F (hr.mono hj) hg hm hb .nil (VB hx) ha hdb he hpl
abbrev zhj(mg:sS->Option sN):Prop:=mg "any" = Bb
structure TNT(K:sL)(mg:sS->Option sN)(C:sM):Prop where
 xi:XI K C
 g:mg "NotTurned" = Ba (.ref C)
 na:NoAttr K C "number"
def qf:sQz 2 ["self","number"] yc:=by nofun
def uP(T:TNT K mg C)(F:Fun K "__init__" "NotTurned.__init__" yc f fd):(1&&&["self","number"]) (um C "number"):=by
 exists F.ok qf
 ·let#[x,v,rfl,hx,q]:=h;refine#[_,(ze (JN (pv 0) (pv 1) rfl)),?_]
  erw[zbw]
  rfl'
  exact#[C,hx,T.xi.toXC,T.na,q]
structure DNT(P:sU)(w:sZ)(K:sL)(mg:sS->Option sN)(base:tB)(C:sM):Prop extends TNT K mg C where
 ini:∃f fd,ah K (.ref C) "__init__" = Ba (Ba (.ref f))/\bc K (.ref f)=Bc/\(1&&&["self","number"]) (um C "number")/\Binds K fd ["self","number"] []
structure zdU(K:sL)(mg:sS->Option sN)(CH:sM):Prop where
 cl:Cls K CH
 g:mg "System" = Ba (.ref CH)
 no:NoAttr K CH "order"
 nr:NoAttr K CH "rules"
def vp(k:Nat)(l:())(ns:List Int):List zH->Nat->Option Nat
 | [],_=>Bb
 | r::rs,i=>if zU k l ns r.2 r.1=Bc then vp k l ns rs (i+1)else Ba i
theorem Wt : ∀{ps:List zH} {j i:Nat} {r:zH},(∀(m:Nat) (p:zH),m<i->ps[m]? = Ba p->zU k l ns p.2 p.1=Bc)->ps[i]? = Ba r->zU k l ns r.2 r.1=Bd->vp k l ns ps j=Ba (j+i)
 | [],_,_,_,_,h,_=>by simp at h
 | p::ps,j,0,r,_,h,hl=>by
  cases h;rw[vp,hl,w9 aD];rfl
 | p::ps,j,i+1,r,hb,h,hl=>by
  rw[vp,w6 (hb 0 p (db _) rfl),Wt (i:=i) (λm q hm e=>hb (m+1) q ⋯ e) h hl];congr 1;lia
theorem uQ : ∀{ps:List zH} {j:Nat},(∀(m:Nat) (p:zH),ps[m]? = Ba p->zU k l ns p.2 p.1=Bc)->vp k l ns ps j=Bb
 | [],_,_=>rfl
 | p::ps,j,hb=>by
  rw[vp,w6 (hb 0 p rfl)];exact uQ λm q e=>hb (m+1) q e
def InL(l:())(ps:List zH):Prop:=∀p ∈ ps,p.1.length<=1000/\p.2.length<=1000/\(∀c ∈ p.1,c ∈ l)/\∀c ∈ p.2,c ∈ l
def qN(K:sL)(CO CR CW CT CH:sM):Sp:=λvs H Q E=>∃(x dx o a:sM) (k:Nat) (l:()) (ns:List Int) (ps:List zH) (xs:List V),vs=[.ref x,.ref o,.ref a]/\H x=Ba (.ins CH dx [])/\OrdAt CO CR CW H o k l ns/\OG l ns k/\H a=Ba (.lst xs)/\Iss K H (ps.map dR) xs/\InL l ps /\
 (∀i,vp k l ns ps 0=Ba i->∀H1,Same H H1->∀d H',zgc H1 d "number" (.int (i:Nat)) H'->E (.ref CT) (Ba d) H') /\
 (vp k l ns ps 0=Bb->∀(q:sM) (H':Hp),(∀b o',b≠x->H b=Ba o'->H' b=Ba o')->H' x=Ba (.ins CH dx [("order",.ref o),("rules",.ref q)])->H' q=Ba (.lst xs)->H q=Bb->Q .non H')
def lJ:sQz 3 ["self","order","rules","number","rule"] wu:=by nofun
def kn{f CO CR CW CT CH:sM}(B:Bt mg)(T:DNT P w K mg base CT)(TS:zdU K mg CH)(DBk:DB P w K mg base CO CR CW)(F:Fun K "__init__" "System.__init__" wu f fd):(5|||["self","order","rules"]) (qN K CO CR CW CT CH):=by
 let#[fi,fdi,hi,hfn,Fi,Bi]:=T.ini
 exists Fun.okX F lJ,0
 ·let#[x,dx,o,a,k,l,ns,ps,xs,rfl,hx0,ho,hG,hA,hI,hP,q1,q2]:=h
  refine#[_,(zh (zR PassesOwn.leaving rfl (y9 rfl B.enum (za (pv 2) zg)) (vQ (n:=2) rfl (zZ (zq (i:=3) lJ.nd rfl (.inl rfl)) (zZ (zq (i:=4) lJ.nd rfl (.inl rfl)) xW))) (ze (zJ (yf (yk (zdi DBk hr (pv 1) (za (!-4) (za (!-4) zg))) (λZ=>rfl))) (ze (Yq hx rfl T.xi.toXC hi hfn Fi (hr.mono ∅) Bi rfl T.g (za (pv 3) zg)))
     zr))) (zh (YK (pv 0) (pv 1) rfl) (ze (YK (pv 0) (vn xF rfl B.list jb3 (za (pv 2) zg)) rfl)))),?_]
  have s16:=zX;change Same H H'/\vp k l ns ps 0=Bb/\∃v3 v4,σ=[!!x,!!o,!!a,v3,v4]
  ·ac_rfl;refine#[#[_,x4 hA],jb1 (xs:=xs) (λi σ H'=>Same H H'/\(∀(j:Nat) (p:zH),j<i->ps[j]? = Ba p->zU k l ns p.2 p.1=Bc)/\∃v3 v4,σ=[!!x,!!o,!!a,v3,v4]) #[ja1 _,λj p h=>w4 h (bq j),_,_,rfl] ?_ ?_ ?_]
   ·rintro i σ H' _ ⟨hs,_⟩;exact x4 (hs _ _ hA)
   ·refine nmE ?_;rintro i y σ H' p hy ⟨hs,hb,v3,v4,rfl⟩ hpn:_;let#[r,pr,hri,rfl,hqr]:=hI.getR hy;have hm:=hP r (ac hri);have s2:=hs.trans (zf (o:=.tup [.int (i:Nat),.ref pr]) hpn);have ho2:=ho.same s2;have hq2:=zp s2 hqr;let#[C,dy,fs,hf,hoC,hn,_]:=ho2.fam;have hn1:fs.lookup ("before" : sS)=Bb:=hn _ ∅ ∅;right;ac_rfl;refine#[_,x6 zc,rfl,_,_,rfl,_,_,rfl,rfl,C,hf,dy,fs,hoC,hn1,_,rfl,_,hq2,_,rfl,_,rfl,_,hq2,_,rfl,o,k,l,ns,r.2,r.1,rfl,ho2,hG,hm.2.1,hm.1,hm.2.2.2,hm.2.2.1,λH3 s3=>?_];have s16:=zX;refine#[_,rfl,yb (λe=>#[⋯,UA (q1 i (by have:=Wt (j:=0) hb hri e;simpa using this) H3 (s2.trans s3))]) λe=>#[s2.trans s3,λj p' hj hp'=>?_]];by_cases hj':j<i
    ·exact hb j p' hj' hp'
    ·have:j=i:=⋯;rw[this,hri]at hp';cases hp';simpa using e
   ·refine nmB ?_;rintro σ H' ⟨hs,hb,v3,v4,rfl⟩:_;have hxl:=hI.len;rw[aa]at hxl;right;exact#[hs,uQ λm p e=>hb m p (by have:=(Bh.mp e).1;lia) e,v3,v4,rfl]
  rintro σ H1 ⟨s1,hf,v3,v4,rfl⟩:0;change H'=upd H1 x (.ins CH dx [("order",.ref o)])/\σ=[!!x,!!o,!!a,v3,v4]
  ·ac_rfl;exact#[_,_,_,s1 _ _ hx0,TS.cl,TS.no,∅,rfl]
  rintro σ H2 ⟨rfl,rfl⟩:0;ac_rfl;have hax:a≠x:=λe=>by rw[e,hx0]at hA;cases hA
  refine#[xs,.inl (x4 (by rw[zt hax];exact s1 _ _ hA)),λq hq=>?_];have hqx:q≠x:=λe=>by rw[e,zc]at hq;cases hq
  rw[zt hqx]at hq
  have hqH:H q=Bb:=by
   cases e:H q with
   | none=>rfl
   | some o'=>rw[s1 _ _ e]at hq;cases hq
  refine#[CH,dx,_,by rw[zt hqx.symm,zc],TS.cl,TS.nr,by show 1<1000;decide,q2 hf q _ (λb o' hb e=>?_) zc (by rw[zt hqx,zc]) hqH];rw[zt hb,zt (λz=>by rw[z,hqH]at e;cases e),zt hb];exact s1 _ _ e
def zaw(K:sL)(CH:sM)(H:Hp)(y o q:sM)(ps:List zH):Prop:=∃dx xs,H y=Ba (.ins CH dx [("order",.ref o),("rules",.ref q)])/\H q=Ba (.lst xs)/\Iss K H (ps.map dR) xs
def xz(l m:())(k:Nat):Bool:=decide ((l.drop k).take m.length=m.take (l.length - k))
def lf(rs:List zH)(i:Nat):():=(rs.getD i ([],[])).1
def xE(h:rs[i]? = Ba r):lf rs i=r.1:=by unfold lf;rw[ae,h];rfl
def Xe(rs:List zH)(i j n:Nat):List N3:=((aK n).filter λk=>(decide (i≠j) || decide (k≠0)) && xz (lf rs i) (lf rs j) k).map λk=>(i,j,k)
def ovI(rs:List zH)(i m:Nat):List N3:=(aK m).flatMap λj=>Xe rs i j (lf rs i).length
def ovA(rs:List zH)(m:Nat):List N3:=(aK m).flatMap λi=>ovI rs i rs.length
def w8(rs:List zH)(i j n:Nat):Xe rs i j (n+1)=Xe rs i j n ++ (if ((decide (i≠j) || decide (n≠0)) && xz (lf rs i) (lf rs j) n)=Bc then [(i,j,n)]else []):=by
 unfold Xe;rw[cT,di,am];congr 1
 erw[fz,dF]
 split <;> rfl
def uz(rs:List zH)(i m:Nat):ovI rs i (m+1)=ovI rs i m ++ Xe rs i m (lf rs i).length:=by unfold ovI;rw[cT,dB];simp
def qO(rs:List zH)(m:Nat):ovA rs (m+1)=ovA rs m ++ ovI rs m rs.length:=by unfold ovA;rw[cT,dB];simp
def qW(rs:List zH)(i j n:Nat):(Xe rs i j n).length<=n:=by unfold Xe;rw[aa];have:=dn (λk=>(decide (i≠j) || decide (k≠0)) && xz (lf rs i) (lf rs j) k) (aK n);rw[bM]at this;exact this
theorem zeV(h:qJ rs)(i:Nat):(lf rs i).length<=100:=by
 cases e:rs[i]? with
 | none=>unfold lf;rw[ae,e];exact ar _
 | some r=>rw[xE e];exact (h.2 r (ac e)).1
theorem X7(h:qJ rs)(i m:Nat):(ovI rs i m).length<=m * 100:=by
 induction m with
 | zero=>exact ar _
 | succ m ih =>
  rw[uz,aj];have h1:=qW rs i m (lf rs i).length;have h2:=zeV h i;lia
theorem QH(h:qJ rs)(m:Nat):(ovA rs m).length<=m * 3000:=by
 induction m with
 | zero=>exact ar _
 | succ m ih =>
  rw[qO,aj];have h1:=X7 h m rs.length;have h2:=h.1;lia
def Zw:Sp:=λvs H Q Z=>∃(l m:()) (k:Nat),vs=[⇑l,⇑m,.int (k:Nat)]/\l.length<=1000/\m.length<=1000/\k<=l.length/\Q (.bl (xz l m k)) H
def YT(h1:l.length<=1000)(h2:m.length<=1000)(h3:k<=l.length)(h:Q (.bl (xz l m k)) H):Zw [⇑l,⇑m,.int (k:Nat)] H Q E:=#[l,m,k,rfl,h1,h2,h3,h]
def Kg:sQz 3 ["one","other","place"] X6:=by nofun
def Kk(B:Bt mg)(F:("agree"^^^X6)):(1&&&["one","other","place"]) Zw:=by
 exists F.ok Kg
 ·let#[l,m,k,rfl,hl,hm,hk,q]:=h;refine#[_,(ze (zl (yi xx (zQ yJ (pv 0) (zO (pv 2)) (zO (zD z7 (pv 2) (zA B.len (pv 1))))) (zQ yJ (pv 1) yo (zO (zD wn (zA B.len (pv 0)) (pv 2)))) (zx _)))),?_];have s16:=zX
  rfl'
  refine#[⋯,⋯,⋯,⋯,?_];rw[Ux _ ⋯ ⋯,uj _ ⋯];have e1:((k:Int)+(m.length:Int) - (k:Int)).toNat=m.length:=⋯;have e2:((l.length:Int) - (k:Int)).toNat=l.length - k:=⋯;rw[e1,e2];exact q
def vW(K:sL):Sp:=λvs H Q Z=>∃(a:sM) (rs:List zH),vs=[.ref a]/\Is K H (.lst (rs.map dR)) (.ref a)/\qJ rs/\∀D H',H D=Bb->Same H H'->LsA K H' D ((ovA rs rs.length).map d3)->Q (.ref D) H'
def Xl(h1:Is K H (.lst (rs.map dR)) (.ref a))(h2:qJ rs)(h:∀D H',H D=Bb->Same H H'->LsA K H' D ((ovA rs rs.length).map d3)->Q (.ref D) H'):vW K [.ref a] H Q E:=#[a,rs,rfl,h1,h2,h]
def io:sQz 1 ["rules","found","i","one","j","other","place"] qj:=by nofun
def Wa(B:Bt mg)(F:("overlaps"^^^qj))(rZ:(1<<<"agree") ["one","other","place"] [] Zw):(2&&&["rules"]) (vW K):=by
 exists F.ok io
 ·let#[a,rs,rfl,hR,ok,q]:=h
  refine#[_,(zG (zy 1 io.nd (xg zg)) (zG (zR p8 rfl (y9 rfl B.enum (za (pv 0) zg)) (vQ (n:=2) rfl (zZ (zq (i:=2) io.nd rfl (.inl rfl)) (zZ (zq (i:=3) io.nd rfl (.inl rfl)) xW))) (ze (zR p8 rfl (y9 rfl B.enum (za (pv 0) zg)) (vQ (n:=2) rfl (zZ (zq (i:=4) io.nd rfl (.inl rfl)) (zZ (zq (i:=5) io.nd rfl (.inl rfl)) xW))) (ze (zR p8 rfl (Y9 rfl B.range (za (wG (zv xx (pv 2) (pv 4) (zx _)) zd zd) (za (zA B.len (!-3)) zg))) (zq (i:=6) io.nd rfl (.inl rfl)) (ze (zJ (yk (cl0 rZ hr .nil rfl (za (!-3) (za (!-5) (za (pv 6) zg)))) (λZ=>rfl)) (ze (yS (wf aX bh bn yx (pv 1) (za (zW (za (pv 2) (za (pv 4) (za (pv 6) zg)))) zg))))
       zr))))))) (ze (zl (pv 1))))),?_]
  have s16:=zX
  rfl'
  erw[Is]at hR
  let#[_,xs,e,hX,hI]:=hR;cases e;refine#[⋯,λD hD=>#[#[_,(zf hD).seq hX],jb1 (xs:=xs) (λi σ H'=>∃v2 v3 v4 v5 v6,σ=[!!a,!!D,v2,v3,v4,v5,v6]/\Same H H'/\LsA K H' D ((ovA rs i).map d3)) #[Bb,Bb,Bb,Bb,Bb,rfl,zf hD,LsA.nil] ?_ ?_ ?_]]
  ·refine nm3 ?_;rintro i σ H' hi ⟨v2,v3,v4,v5,v6,rfl,hs,_⟩:0;exact hs.seq hX
  ·refine nmE ?_;rintro i x σ H' p hx ⟨v2,v3,v4,v5,v6,rfl,hs,hL⟩ hp:_;let#[r,pr,hri,rfl,hqr]:=hI.getR hx;have er:=xE hri;have hr1:=(ok.2 r (ac hri)).1;right
   rfl'
   refine#[_,x6 zc,rfl,_,_,rfl,_,_,rfl,rfl,#[_,((hs.trans (zf hp)).seq hX)],jb1 (xs:=xs) (λj σ H''=>∃v4 v5 v6,σ=[!!a,!!D,-~~~i,!!pr,v4,v5,v6]/\Same H H''/\LsA K H'' D ((ovA rs i ++ ovI rs i j).map d3)) #[v4,v5,v6,rfl,hs.trans (zf hp),by rw[show ovI rs i 0=[]from rfl,aT];exact hL.same (zf hp)] ?_ ?_ ?_]
   ·refine nm3 ?_;rintro j σ H2 hj ⟨v4,v5,v6,rfl,hs2,_⟩:0;exact hs2.seq hX
   ·refine nmE ?_;rintro j y σ H2 p2 hy ⟨v4,v5,v6,rfl,hs2,hL2⟩ hp2:_;let#[r2,pr2,hri2,rfl,hqr2]:=hI.getR hy;have er2:=xE hri2;have hr2:=(ok.2 r2 (ac hri2)).1;have hs3:=hs2.trans (zf (o:=.tup [.int (j:Nat),.ref pr2]) hp2);have hq1:=zp hs3 hqr;have el:(tx r.1).length=r.1.length:=zI _;right
    rfl'
    refine#[_,x6 zc,rfl,_,_,rfl,_,_,rfl,rfl,rfl,yb (λh=>?_) λh=>?_]
    ·have hij:i=j:=by injection h with h;lia
     have z0:Xe rs i j (1+0)=[]:=by
      subst hij;rw[show 1+0=0+1 from rfl,w8];simp [Xe]
     have zn:Xe rs i j (1+((r.1.length:Int) - 1).toNat)=Xe rs i j r.1.length:=by
      by_cases h0:r.1.length=0
      ·rw[h0];exact z0
      ·rw[show 1+((r.1.length:Int) - 1).toNat=r.1.length by lia]
     refine#[_,hq1,_,rfl,_,#[⋯,rfl],∅,∅,⋯,⋯,ja2 (λt σ H3=>∃v6,σ=[!!a,!!D,-~~~i,!!pr,-~~~j,!!pr2,v6]/\Same H H3/\LsA K H3 D ((ovA rs i ++ ovI rs i j ++ Xe rs i j (1+t)).map d3)) #[v6,rfl,hs3,(by rw[z0,aT];exact hL2.same (zf hp2))] ?_ ?_]
     ·refine nm3 ?_;rintro n σ H3 hn ⟨v6,rfl,hs4,hL4⟩:_;have hn':1+n<r.1.length:=⋯;have en:((1:Int)+(n:Int))=((1+n:Nat):Int):=⋯;right;dsimp only;rw[en];let#[ys,hY,hJ]:=hL4;have hlen:=hJ.len;have l1:=QH ok i;have l2:=X7 ok i j;have l3:=qW rs i j (1+n);have i1:=(Bh.mp hri).1;have i2:=(Bh.mp hri2).1;have i3:=ok.1
      erw[aa,aj]at hlen
      have es:=w8 rs i j (1+n);have etest:(decide (i≠j) || decide (1+n≠0))=Bc:=by rw[show decide (1+n≠0)=Bc from u6 ⋯,ee]
      rw[etest,gr,er,er2]at es
      rfl'
      refine#[_,zp hs4 hqr,_,rfl,_,zp hs4 hqr2,_,rfl,YT ⋯ ⋯ ⋯ #[_,rfl,yb (λhb=>#[.inl #[_,x4 hY],⋯,λt ht=>#[_,zf ht _ _ hY,⋯,zu (hs4.trans (zf ht)) hD,?_]]) λhb=>#[hs4,ys,hY,?_]]]
      ·rw[hb,w6 rfl]at es;rw[show 1+(n+1)=1+n+1 by lia,es,<- aQ,am];exact LsA.pushT hY hJ ht zdY (Vr _) (by erw[z9,xp,and_self])
      ·have hb':xz r.1 r2.1 (1+n)=Bd:=by simpa using hb
       rw[hb',w9 aD,aT]at es;rw[show 1+(n+1)=1+n+1 by lia,es];exact hJ
     ·refine nmB ?_;rintro σ H3 ⟨v6,rfl,hs4,hL4⟩:0;refine#[#[_,_,_,rfl],hs4,?_];rw[uz,er,<- aQ];rw[el,zn]at hL4;exact hL4
    ·have hij:i≠j:=λz=>h (by rw[z]);refine#[_,hq1,_,rfl,_,#[⋯,rfl],∅,∅,⋯,⋯,ja2 (λt σ H3=>∃v6,σ=[!!a,!!D,-~~~i,!!pr,-~~~j,!!pr2,v6]/\Same H H3/\LsA K H3 D ((ovA rs i ++ ovI rs i j ++ Xe rs i j (0+t)).map d3)) #[v6,rfl,hs3,(by rw[show Xe rs i j (0+0)=[]from rfl,aT];exact hL2.same (zf hp2))] ?_ ?_]
     ·refine nm3 ?_;rintro n σ H3 hn ⟨v6,rfl,hs4,hL4⟩:_;have hn':0+n<r.1.length:=⋯;have en:((0:Int)+(n:Int))=((0+n:Nat):Int):=⋯;right;dsimp only;rw[en];let#[ys,hY,hJ]:=hL4;have hlen:=hJ.len;have l1:=QH ok i;have l2:=X7 ok i j;have l3:=qW rs i j (0+n);have i1:=(Bh.mp hri).1;have i2:=(Bh.mp hri2).1;have i3:=ok.1
      erw[aa,aj]at hlen
      have es:=w8 rs i j (0+n);have etest:(decide (i≠j) || decide (0+n≠0))=Bc:=by rw[show decide (i≠j)=Bc from u6 hij,Bool.true_or]
      rw[etest,gr,er,er2]at es
      rfl'
      refine#[_,zp hs4 hqr,_,rfl,_,zp hs4 hqr2,_,rfl,YT ⋯ ⋯ ⋯ #[_,rfl,yb (λhb=>#[.inl #[_,x4 hY],⋯,λt ht=>#[_,zf ht _ _ hY,⋯,zu (hs4.trans (zf ht)) hD,?_]]) λhb=>#[hs4,ys,hY,?_]]]
      ·rw[hb,w6 rfl]at es;rw[show 0+(n+1)=0+n+1 by lia,es,<- aQ,am];exact LsA.pushT hY hJ ht zdY (Vr _) (by erw[z9,xp,and_self])
      ·have hb':xz r.1 r2.1 (0+n)=Bd:=by simpa using hb
       rw[hb',w9 aD,aT]at es;rw[show 0+(n+1)=0+n+1 by lia,es];exact hJ
     ·refine nmB ?_;rintro σ H3 ⟨v6,rfl,hs4,hL4⟩:0;refine#[#[_,_,_,rfl],hs4,?_];rw[uz,er,<- aQ];rw[el,show 0+((r.1.length:Int) - 0).toNat=r.1.length by lia]at hL4;exact hL4
   ·refine nmB ?_;rintro σ H2 ⟨v4,v5,v6,rfl,hs2,hL2⟩:_;have e:=hI.len;rw[aa]at e;rw[e,<- qO]at hL2;right;exact#[#[_,_,_,_,_,rfl],hs2,hL2]
  ·refine nmB ?_;rintro σ H' ⟨v2,v3,v4,v5,v6,rfl,hs,hL⟩:_;have e:=hI.len;rw[aa]at e;rw[e]at hL;right
   rfl'
   exact q D H' hD hs hL
def yu(l m:())(k:Nat):():=l ++ m.drop (l.length - k)
def uk(l m:())(k:Nat)(hk:k<=l.length):(yu l m k).length=max l.length (k+m.length):=by unfold yu;rw[aj,aS];lia
def kR(l m:())(k:Nat):zw (yu l m k) 0 l=Bc:=by unfold zw yu;refine u6 #[∅,by rw[aj];lia,?_];rw[show (0:Int).toNat=0 from rfl,dL,bx (al _),aJ]
def jP(hk:k<=l.length)(h:xz l m k=Bc):zw (yu l m k) (k:Nat) m=Bc:=by
 unfold xz at h;rw[decide_eq_true_eq]at h;have hl:=uk l m k hk;unfold zw;refine u6 #[⋯,⋯,?_];rw[show ((k:Nat):Int).toNat=k from rfl];unfold yu;rw[cK hk];by_cases hm:m.length<=l.length - k
 ·rw[bx (by rw[aS];lia),h,aW hm]
 ·rw[aW (by rw[aS];lia)]at h;rw[h,bY,aJ]
def zax(h:t ∈ Xe rs i j n):t.1=i/\t.2.1=j/\t.2.2<n/\xz (lf rs i) (lf rs j) t.2.2=Bc:=by unfold Xe at h;let#[k,hk,rfl]:=Bj.mp h;rw[List.mem_filter,fZ,ba]at hk;exact#[rfl,rfl,hk.1,hk.2.2]
def j6(h:t ∈ ovA rs rs.length):t.1<rs.length/\t.2.1<rs.length/\t.2.2<(lf rs t.1).length/\xz (lf rs t.1) (lf rs t.2.1) t.2.2=Bc:=by unfold ovA ovI at h;let#[i,hi,h]:=Bx.mp h;let#[j,hj,h]:=Bx.mp h;let#[e1,e2,e3,e4]:=zax h;rw[e1,e2];exact#[Bn.mp hi,Bn.mp hj,e3,e4]
def ZZ(K:sL):Sp:=λvs H Q Z=>∃(a t:sM) (rs:List zH) (i j k:Nat) (r r2:zH),vs=[.ref a,.ref t]/\Is K H (.lst (rs.map dR)) (.ref a)/\SqT K H t [.int (i:Nat),.int (j:Nat),.int (k:Nat)]/\qJ rs/\rs[i]? = Ba r/\rs[j]? = Ba r2/\k<=r.1.length/\xz r.1 r2.1 k=Bc /\
 ∀p H',H p=Bb->Same H H'->H' p=Ba (.tup [⇑(yu r.1 r2.1 k),⇑(yX (yu r.1 r2.1 k) 0 r.1 r.2),⇑(yX (yu r.1 r2.1 k) (k:Nat) r2.1 r2.2)])->Q (.ref p) H'
def WN(h1:Is K H (.lst (rs.map dR)) (.ref a))(h2:SqT K H t [.int (i:Nat),.int (j:Nat),.int (k:Nat)])(h3:qJ rs)(h4:rs[i]? = Ba r)(h5:rs[j]? = Ba r2)(h6:k<=r.1.length)(h7:xz r.1 r2.1 k=Bc)(h:∀p H',H p=Bb->Same H H'->H' p=Ba (.tup [⇑(yu r.1 r2.1 k),⇑(yX (yu r.1 r2.1 k) 0 r.1 r.2),⇑(yX (yu r.1 r2.1 k) (k:Nat) r2.1 r2.2)])->Q (.ref p) H'):ZZ K [.ref a,.ref t] H Q E:=#[a,t,rs,i,j,k,r,r2,rfl,h1,h2,h3,h4,h5,h6,h7,h]
def UJ(h1:l.length<=10000)(h2:o.length<=10000)(h3:n.length<=10000)(hs:zw l k o=Bc)(q:Q ⇑(yX l k o n) H):Vp CU [⇑l,.int k,⇑o,⇑n] H Q E:=#[l,o,n,k,rfl,h1,h2,h3,λZ=>q,λh=>by rw[hs]at h;cases h]
def nA:sQz 2 ["rules","overlap","one","other","place","word"] JF:=by nofun
def zcU(B:Bt mg)(F:("peak"^^^JF))(rd:(3>>>"put") ["word","place","old","new"] [] (Vp CU)):(4&&&["rules","overlap"]) (ZZ K):=by
 exists F.ok nA
 ·let#[a,t,rs,i,j,k,r,r2,rfl,hR,ht,ok,hr1,hr2,hk,hag,q]:=h
  refine#[_,(zh (zy 2 nA.nd (zk ix_list (pv 0) (!-1))) (zh (zy 3 nA.nd (zk ix_list (pv 0) (!-1))) (zh (zy 4 nA.nd (!-1)) (zh (zy 5 nA.nd (zD zS (!-2) (zQ zbd (!-3) (zO (zD wn (zA B.len (!-2)) (pv 4))) yo))) (ze (zl (zW (za (pv 5) (za (clP xe0 rd hr .nil rfl (za (pv 5) (za zd (za (!-2) (za (!-2) zg))))) (za (clP xe0 rd hr .nil rfl (za (pv 5) (za (pv 4) (za (!-3) (za (!-3) zg))))) zg)))))))))),?_]
  have s16:=zX
  erw[Is]at hR
  let#[_,xs,e,hX,hI]:=hR;cases e;let#[p1,a1,q1]:=zfB hI hr1;let#[p2,a2,q2]:=zfB hI hr2;have b1:=ok.2 r (ac hr1);have b2:=ok.2 r2 (ac hr2);change H'=H/\σ=%[!!a,!!t,!!p1|3]
  ·rfl'
   exact#[_,ht,_,rfl,_,rfl,_,hX,a1]
  rintro σ H1 ⟨rfl,rfl⟩:0;change H'=H1/\σ=%[!!a,!!t,!!p1,!!p2|2]
  ·rfl'
   exact#[_,ht,_,rfl,_,rfl,_,hX,a2]
  rintro σ H2 ⟨rfl,rfl⟩:0;change H'=H2/\σ=[!!a,!!t,!!p1,!!p2,-~~~k,Bb]
  ·rfl'
   exact#[_,ht,rfl]
  rintro σ H3 ⟨rfl,rfl⟩:0;change H'=H3/\σ=[!!a,!!t,!!p1,!!p2,-~~~k,Ba ⇑(yu r.1 r2.1 k)]
  ·rfl'
   refine#[_,q1,_,rfl,_,q2,_,rfl,_,q1,_,rfl,_,#[by rw[zI];lia,rfl],#[by rw[zI];lia,_,rfl,_,rfl,?_,rfl,?_]]
   ·erw[zI,j2]
    have:=wW r2.1 (Ba ((r.1.length:Int) - (k:Int))) Bb;lia
   ·rw[zI,j2,yV,xq _ ⋯,show ((r.1.length:Int) - (k:Int)).toNat=r.1.length - k by lia];rfl
  rintro σ H4 ⟨rfl,rfl⟩:_;have hw:=uk r.1 r2.1 k hk;right
  rfl'
  exact#[_,q1,_,rfl,_,q1,_,rfl,UJ ⋯ ⋯ ⋯ (kR _ _ _) #[_,q2,_,rfl,_,q2,_,rfl,UJ ⋯ ⋯ ⋯ (jP hk hag) #[⋯,λp hp=>q p _ hp (zf hp) zc]]]
def FmOk(ps:List zH)(most:Int)(m:sS->Option V):Prop:=∀k v,m k=Ba v->∃(w:()) (J:Nat),k=tx w/\v=⇑(wAt ps w J)/\kM ps w J/\zF (wAt ps w J) ps=Bb/\(J:Int)<=most
def FmOk.get(h:FmOk ps most m){w:()}(e:m (tx w)=Ba v)(hl:kM ps w J)(hf:zF (wAt ps w J) ps=Bb):v=⇑(wAt ps w J):=by let#[w',J',e1,e2,e3,e4,_]:=h _ _ e;have e5:=wI e1;subst e5;rw[e2,uf e3 e4 hl hf]
def FmOk.put(h:FmOk ps most m){w:()}(hl:kM ps w J)(hf:zF (wAt ps w J) ps=Bb)(hJ:(J:Int)<=most):FmOk ps most (λx=>if x=tx w then Ba ⇑(wAt ps w J)else m x):=λk v e=>by
 by_cases hk:k=tx w
 ·erw[hk,if_true]at e
  cases e;exact#[w,J,hk,rfl,hl,hf,hJ]
 ·erw[hk,if_false]at e
  exact h k v e
def XB(P:sU)(w:sZ)(K:sL)(CF:sM):Sp:=λvs H Q E=>∃(a F:sM) (l:()) (ps:List zH) (m:Int) (J n:Nat) (mp:sS->Option V),vs=[.ref a,⇑l,.int m,.ref F]/\LsA K H a (ps.map dR)/\NeL ps/\ps.length<=100/\(∀p ∈ ps,p.1.length<=1000/\p.2.length<=1000)/\Rd ps l J/\H F=Ba (kd P w F mp n)/\FmOk ps m mp/\n<=10000 /\
 ((zF (wAt ps l J) ps=Bb/\(J:Int)<=m/\∀(mp':sS->Option V) (n':Nat) (H':Hp),SamT F H H'->H' F=Ba (kd P w F mp' n')->FmOk ps m mp'->n'<=n+1->Q ⇑(wAt ps l J) H') \/
  (zF (wAt ps l J) ps≠Bb/\(J:Int)=m/\∀H',Same H H'->E (.ref CF) Bb H'))
def Um:sQz 4 ["rules","word","most","forms"] jQ:=by nofun
def VV(B:Bt mg)(F:("form_of"^^^jQ))(nw:(4>>>"gone") ["rules","word","most"] [] (xQ K CF))(DD_gone:(4>>>"gone") ["rules","word","most"] [.int 4000 ny] (xQ K CF)):(5|||["rules","word","most","forms"]) (XB P w K CF):=by
 exists Fun.okX F Um,0
 ·let#[a,F0,l,ps,m,J,n,mp,rfl,hA,hN,hpl,hP,hR,hF,hM,hn,hq]:=h
  refine#[_,(zh (zJ (zv KC (pv 1) (pv 3) (by with_unfolding_all rfl)) (ze (Qw (zk t7 (clP hx nw hr .nil rfl (za (pv 0) (za (pv 1) (za (pv 2) zg)))) zd) (JV (pv 3) (pv 1) Ku (by intro _;rfl))))
    zr) (ze (zl (zk zc0 (pv 3) (pv 1))))),?_]
  have s16:=zX;change SamT F0 H H'/\zF (wAt ps l J) ps=Bb/\(J:Int)<=m/\(∃(mp':sS->Option V) (n':Nat),H' F0=Ba (kd P w F0 mp' n')/\FmOk ps m mp'/\n'<=n+1/\mp' (tx l)=Ba ⇑(wAt ps l J))/\σ=[!!a,~~~l,~~~!m,!!F0]
  ·rfl'
   refine#[F0,mp,n,tx l,rfl,rfl,hF,_,rfl,yb (λhnone=>#[a,l,ps,m,J,rfl,hA,hN,hpl,hP,hR,?_]) λhsome=>?_]
   ·rcases hq with ⟨hf,hJ,_⟩ | h
    ·refine .inl #[hf,hJ,λp S H' s' hp Z Z=>#[p,rfl,_,x6 hp,_,rfl,?_]]
     erw[zfh]
     rfl'
     exact#[F0,mp,n,tx l,rfl,rfl,s' _ _ hF,⋯,λb o hb e=>by rw[zt hb];exact s' _ _ e,hf,hJ,_,_,zc,hM.put hR.live hf hJ,al _,w6 rfl]
    ·exact .inr h
   ·cases hv:mp (tx l)with
    | none=>rw[hv]at hsome;exact w4 rfl hsome
    | some v =>
     let#[w',J',e1,e2,e3,e4,e5]:=hM _ _ hv;have e6:=wI e1;subst e6;rcases hq with ⟨hf,hJ,_⟩ | ⟨hf,hJ,_⟩
     ·exact#[λb o Z e=>e,hf,hJ,mp,n,hF,hM,⋯,by rw[hM.get hv hR.live hf]at hv;exact hv]
     ·exfalso;rcases ef J' J with h | h
      ·exact hR.live J' h e4
      ·have:J'=J:=⋯;subst this;exact hf e4
  rintro σ H1 ⟨s1,hf,hJ,⟨mp',n',h1,h2,h3,h4⟩,rfl⟩:0
  rfl'
  refine#[F0,mp',n',tx l,_,rfl,rfl,h1,h4,?_];rcases hq with ⟨_,_,q⟩ | ⟨h,_⟩
  ·exact q mp' n' H1 s1 h1 h2 h3
  ·exact w4 hf h
def pkA(ps:List zH)(t:N3):():=yX (yu (lf ps t.1) (lf ps t.2.1) t.2.2) 0 (lf ps t.1) (ps.getD t.1 ([],[])).2
def pkB(ps:List zH)(t:N3):():=yX (yu (lf ps t.1) (lf ps t.2.1) t.2.2) (t.2.2:Nat) (lf ps t.2.1) (ps.getD t.2.1 ([],[])).2
inductive zdo(ps:List zH)(m:Int)(l:()):Option Nat->Prop where
 | yes {J:Nat} (h:Rd ps l J) (h1:zF (wAt ps l J) ps=Bb) (h2:(J:Int)<=m):zdo ps m l (Ba J)
 | no {J:Nat} (h:Rd ps l J) (h1:zF (wAt ps l J) ps≠Bb) (h2:(J:Int)=m):zdo ps m l Bb
def Z3(P:sU)(w:sZ)(K:sL)(CF:sM):Sp:=λvs H Q E=>∃(a t F:sM) (ps:List zH) (tr:N3) (m:Int) (n:Nat) (mp:sS->Option V) (g1 g2:Option Nat),vs=[.ref a,.ref t,.int m,.ref F]/\LsA K H a (ps.map dR)/\NeL ps/\qJ ps/\SqT K H t [.int (tr.1:Nat),.int (tr.2.1:Nat),.int (tr.2.2:Nat)]/\tr ∈ ovA ps ps.length/\H F=Ba (kd P w F mp n)/\FmOk ps m mp/\n<=9000/\zdo ps m (pkA ps tr) g1/\zdo ps m (pkB ps tr) g2 /\
 (∀(J1 J2:Nat) (mp':sS->Option V) (n':Nat) (H':Hp),g1=Ba J1->g2=Ba J2->SamT F H H'->H' F=Ba (kd P w F mp' n')->FmOk ps m mp'->n'<=n+2->Q (.bl (decide (wAt ps (pkA ps tr) J1=wAt ps (pkB ps tr) J2))) H') /\
 ((g1=Bb\/g2=Bb)->∀H',SamT F H H'->E (.ref CF) Bb H')
theorem W7(hA:LsA K H a (ps.map dR))(hN:NeL ps)(hok:qJ ps)(hF:H F=Ba (kd P w F mp n))(hM:FmOk ps m mp)(hn:n<=10000)(hg:zdo ps m l g)(h1:∀(J:Nat) (mp':sS->Option V) (n':Nat) (H':Hp),g=Ba J->SamT F H H'->H' F=Ba (kd P w F mp' n')->FmOk ps m mp'->n'<=n+1->Q ⇑(wAt ps l J) H')(h2:g=Bb->∀H',Same H H'->E (.ref CF) Bb H'):XB P w K CF [.ref a,⇑l,.int m,.ref F] H Q E:=by
 have hP:∀p ∈ ps,p.1.length<=1000/\p.2.length<=1000:=λp hp=>by have:=hok.2 p hp;lia
 have hl:ps.length<=100:=by have:=hok.1;lia
 cases hg with
 | yes h e1 e2=>exact#[a,F,l,ps,m,_,n,mp,rfl,hA,hN,hl,hP,h,hF,hM,hn,.inl #[e1,e2,λmp' n' H' a1 a2 a3 a4=>h1 _ mp' n' H' rfl a1 a2 a3 a4]]
 | no h e1 e2=>exact#[a,F,l,ps,m,_,n,mp,rfl,hA,hN,hl,hP,h,hF,hM,hn,.inr #[e1,e2,h2 rfl]]
def jA(s:SamT F H H')(hF:H F=Ba (kd P w F mp n))(h:SqT K H t xs):SqT K H' t xs:=by
 rcases h with (h | ⟨o,h⟩) | h
 ·exact .inl (.inl (s _ _ (λz=>by rw[z,hF]at h;cases h) h))
 ·exact .inl (.inr #[o,s _ _ (λz=>by rw[z,hF]at h;cases h) h])
 ·exact .inr h
def Vh{ps:List zH}(s:SamT F H H')(hF:H F=Ba (kd P w F mp n))(h:LsA K H a (ps.map dR)):LsA K H' a (ps.map dR):=by
 let#[xs,h1,h2]:=h;refine#[xs,s _ _ (λz=>by rw[z,hF]at h1;cases h1) h1,?_]
 have key:∀(qs:List zH) (vs:List V),Iss K H (qs.map dR) vs->Iss K H' (qs.map dR) vs:=by
  intro qs
  induction qs with
  | nil=>intro vs h;erw[aI,Iss]at h ⊢;exact h
  | cons q qs ih =>
   intro vs h
   erw[ao,Iss]at h ⊢
   let#[v,r,e,h3,h4]:=h;let#[p,rfl,h5]:=zdy h3;exact#[_,r,e,Ub (jA s hF h5),ih r h4]
 exact key ps xs h2
def mZ:sQz 4 ["rules","overlap","most","forms","sides","one","other"] Z0:=by nofun
def Qj(B:Bt mg)(F:("is_met"^^^Z0))(rh:(4<<<"peak") ["rules","overlap"] [] (ZZ K))(pP:(5>>>"form_of") ["rules","word","most","forms"] [] (XB P w K CF)):(6|||["rules","overlap","most","forms"]) (Z3 P w K CF):=by
 exists Fun.okX F mZ,0
 ·let#[a,t,F0,ps,tr,m,n,mp,g1,g2,rfl,hA,hN,hok,ht,htr,hF,hM,hn,hg1,hg2,q1,q2]:=h
  refine#[_,(zh (zy 4 mZ.nd (cl0 rh hr .nil rfl (za (pv 0) (za (pv 1) zg)))) (zh (zy 5 mZ.nd (clP hx pP hr .nil rfl (za (pv 0) (za (!-4) (za (pv 2) (za (pv 3) zg)))))) (zh (zy 6 mZ.nd (clP hx pP hr .nil rfl (za (pv 0) (za (!-4) (za (pv 2) (za (pv 3) zg)))))) (ze (zl (yi xx (pv 5) (pv 6) (zx _))))))),?_]
  have s16:=zX;let#[i1,i2,i3,i4]:=j6 htr;obtain⟨r,hr⟩:∃r,ps[tr.1]? = Ba r:=#[_,af i1];obtain⟨r2,hr2⟩:∃r,ps[tr.2.1]? = Ba r:=#[_,af i2];have l1:=xE hr;have l2:=xE hr2;have d1:ps.getD tr.1 ([],[])=r:=by rw[ae,hr];rfl
  have d2:ps.getD tr.2.1 ([],[])=r2:=by rw[ae,hr2];rfl
  have eA:pkA ps tr=yX (yu r.1 r2.1 tr.2.2) 0 r.1 r.2:=by unfold pkA;rw[l1,l2,d1]
  have eB:pkB ps tr=yX (yu r.1 r2.1 tr.2.2) (tr.2.2:Nat) r2.1 r2.2:=by unfold pkB;rw[l1,l2,d2]
  rw[l1]at i3;rw[l1,l2]at i4;change Same H H'/\∃p:sM,(∃x,H' p=Ba (.tup [x,⇑(pkA ps tr),⇑(pkB ps tr)]))/\σ=%[!!a,!!t,~~~!m,!!F0,!!p|2]
  ·rfl'
   exact WN hA.is ht hok hr hr2 ⋯ i4 λp H' Z s' hp=>#[s',p,#[_,by rw[eA,eB];exact hp],rfl]
  rintro σ H1 ⟨s1,p,⟨x,hp⟩,rfl⟩:_;have hF1:=s1 _ _ hF;right;change SamT F0 H1 H'/\∃(J1:Nat),g1=Ba J1/\(∃mp' n',H' F0=Ba (kd P w F0 mp' n')/\FmOk ps m mp'/\n'<=n+1)/\σ=[!!a,!!t,~~~!m,!!F0,!!p,Ba ⇑(wAt ps (pkA ps tr) J1),Bb]
  ·rfl'
   refine#[_,x6 hp,_,rfl,W7 (hA.same s1) hN hok hF1 hM ⋯ hg1 (λJ mp' n' H' e a1 a2 a3 a4=>?_) λe H' s'=>q2 (.inl e) H' (x9 (s1.trans s'))];exact#[a1,J,e,#[mp',n',a2,a3,a4],rfl]
  rintro σ H2 ⟨s2,J1,e1,⟨mp1,n1,hF2,hM2,hn2⟩,rfl⟩:_;have s12:SamT F0 H H2:=(x9 s1).trans s2;have hpF:p≠F0:=λz=>by rw[z,hF1]at hp;cases hp
  right;change SamT F0 H2 H'/\∃(J2:Nat),g2=Ba J2/\(∃mp' n',H' F0=Ba (kd P w F0 mp' n')/\FmOk ps m mp'/\n'<=n+2)/\σ=[!!a,!!t,~~~!m,!!F0,!!p,Ba ⇑(wAt ps (pkA ps tr) J1),Ba ⇑(wAt ps (pkB ps tr) J2)]
  ·rfl'
   exact#[_,x6 (s2 _ _ hpF hp),_,rfl,W7 (Vh s2 hF1 (hA.same s1)) hN hok hF2 hM2 ⋯ hg2 (λJ mp' n' H' e a1 a2 a3 a4=>#[a1,J,e,#[mp',n',a2,a3,⋯],rfl]) λe H' s'=>q2 (.inr e) H' (s12.trans (x9 s'))]
  rintro σ H3 ⟨s3,J2,e2,⟨mp2,n2,hF3,hM3,hn3⟩,rfl⟩:0
  rfl'
  exact q1 J1 J2 mp2 n2 H3 e1 e2 (s12.trans s3) hF3 hM3 hn3
def Zy(K:sL)(CH:sM):Sp:=λvs H Q Z=>∃(y o q:sM) (ps:List zH),vs=[.ref y]/\zaw K CH H y o q ps/\∀(r:sM) (H':Hp),Same H H'->LsA K H' r (ps.map dR)->H r=Bb->Q (.ref r) H'
def vH:sQz 1 ["self"] yG:=by nofun
def vI(B:Bt mg)(TS:zdU K mg CH)(F:Fun K "rules_told" "System.rules_told" yG f fd):(1&&&["self"]) (Zy K CH):=by
 exists F.ok vH
 ·let#[y,o,q,ps,rfl,hy,k]:=h;refine#[_,(ze (zl (vn xF rfl B.list jb3 (za (ju (pv 0) rfl) zg)))),?_];have s16:=zX
  rfl'
  let#[dx,xs,h1,h2,h3]:=hy;exact#[_,_,_,h1,TS.cl,TS.nr,_,rfl,_,rfl,_,.inl (x4 h2),λr hr'=>k r _ (zf hr') #[xs,zc,ja0 (zf hr') _ _ h3] hr']
def goJ(ps:List zH)(m:Nat)(v:()):Option Nat:=(aK (m+1)).find? λj=>(zF (wAt ps v j) ps).isNone
def WY(e:goJ ps m v=Ba i):i<=m/\kM ps v i/\zF (wAt ps v i) ps=Bb:=by
 unfold goJ at e;have h1:=eC e;have h2:zF (wAt ps v i) ps=Bb:=BC.mp h1;have hm:=Bn.mp (fj e);refine#[⋯,λn hn hno=>?_,h2];let#[_,as,bs,e2,h3]:=List.find?_eq_some_iff_append.mp e
 have hlen:as.length=i:=by
  have:=congrArg (λl=>l[as.length]?) e2
  erw[bG (al _),eD,dc]at this
  let#[h7,h8]:=Bh.mp this;rw[eV]at h8;exact h8
 have h9:(aK (m+1))[n]? = as[n]?:=by rw[e2,bW ⋯]
 have h10:n<(aK (m+1)).length:=by rw[bM];lia
 rw[af h10,eV]at h9;have:=h3 n (ac h9.symm);rw[hno]at this;cases this
def Vm(e:goJ ps m v=Bb):∀j,j<=m->zF (wAt ps v j) ps≠Bb:=λj hj hno=>by
 unfold goJ at e;have:=BJ.mp e j (Bn.mpr ⋯);rw[hno]at this;exact this rfl
theorem QJ(hl:∀j,j<=m->(wAt ps v j).length<=10000)(hm:m<=10000):zdo ps (m:Int) v (goJ ps m v):=by
 cases e:goJ ps m v with
 | some i =>
  let#[h1,h2,h3]:=WY e;exact .yes #[h2,λj hj=>hl j ⋯,⋯] h3 ⋯
 | none =>
  have h:=Vm e;exact .no (J:=m) #[λi hi=>h i ⋯,λj hj=>hl j hj,hm] (h m (al _)) rfl
def zfi(ps:List zH)(m:Nat)(v:()):():=wAt ps v ((goJ ps m v).getD 0)
def Wf(ps:List zH)(m:Nat)(t:N3):Bool:=decide (zfi ps m (pkA ps t)=zfi ps m (pkB ps t))
def OkG(ps:List zH)(m:Nat)(t:N3):Prop:=(goJ ps m (pkA ps t)).isSome=Bc/\(goJ ps m (pkB ps t)).isSome=Bc
def zgJ(ps:List zH)(m:Nat):Prop:=m<=10000/\∀t ∈ ovA ps ps.length,(∀j,j<=m->(wAt ps (pkA ps t) j).length<=10000)/\∀j,j<=m->(wAt ps (pkB ps t) j).length<=10000
def zcn(e1:goJ ps m (pkA ps t)=Ba J1)(e2:goJ ps m (pkB ps t)=Ba J2):decide (wAt ps (pkA ps t) J1=wAt ps (pkB ps t) J2)=Wf ps m t:=by unfold Wf zfi;rw[e1,e2];rfl
def zdG(h:goJ ps m (pkA ps t)=Bb\/goJ ps m (pkB ps t)=Bb):¬ OkG ps m t:=λho=>by
 let#[h1,h2]:=ho;rcases h with h | h
 ·rw[h]at h1;cases h1
 ·rw[h]at h2;cases h2
def FmOk.nil : FmOk ps m λZ=>Bb:=λk v e=>by cases e
theorem Xn(s:SamT F H H')(hF:H F=Ba (kd P w F mp n)):∀{ts:List N3} {vs:List V},Iss K H (ts.map d3) vs->Iss K H' (ts.map d3) vs
 | [],vs,h=>by erw[aI,Iss]at h ⊢;exact h
 | t::ts,vs,h=>by
  erw[ao,Iss]at h ⊢
  let#[v,r,e,h3,h4]:=h;refine#[v,r,e,?_,Xn s hF h4]
  erw[d3,Is]at h3 ⊢
  let#[a,xs,e1,e2,e3]:=h3;refine#[a,xs,e1,jA s hF e2,?_]
  erw[Iss,Is]at e3 ⊢
  exact e3
def unG(ps:List zH)(m:Nat):List N3:=(ovA ps ps.length).filter λt=>!Wf ps m t
def ui(K:sL)(CH CF:sM):Sp:=λvs H Q E=>∃(y o q:sM) (ps:List zH) (m:Nat),vs=[.ref y,.int (m:Nat)]/\zaw K CH H y o q ps/\NeL ps/\qJ ps/\(ovA ps ps.length).length<=4000/\zgJ ps m /\
 ((∀t ∈ ovA ps ps.length,OkG ps m t)->∀D H',Same H H'->H D=Bb->LsA K H' D ((unG ps m).map d3)->Q (.ref D) H')/\(∀t ∈ ovA ps ps.length,¬ OkG ps m t->∀H',Same H H'->E (.ref CF) Bb H')
def oK:sQz 2 ["system","most","rules","forms"] xT:=by nofun
def zad(B:Bt mg)(TS:zdU K mg CH)(F:FunD K "unmet" "unmet" xT dV f fd)(rK:(2<<<"overlaps") ["rules"] [] (vW K))(rS:(6>>>"is_met") ["rules","overlap","most","forms"] [] (Z3 P w K CF))(M_system_rules_told:DM P w K mg base CX0 1 CH "rules_told" ["self"] (Zy K CH)):(7|||["system","most"]) (ui K CH CF):=by
 exists FunD.okX F oK,0
 ·let#[y,o,q,ps,m,rfl,hy,hN,hok,hlen,hE,k1,k2]:=h
  refine#[_,(zh (xM (i:=2) oK.nd rfl (Or.inr rfl) (me0 M_system_rules_told TS.cl hr (pv 0))) (zh (xM (i:=3) oK.nd rfl (Or.inr rfl) zcS) (ze (zl (YF (EX:=E) (own:=["overlap"]) (caps:=["rules","most","forms"]) (ix:=[2,1,3]) (tt:=(zdh (tBl (ud (Z3 P w K CF) [] E (zM (ya 1) (zM (ya 0) (zM (ya 2) (zM (ya 3) xw)))))))) (te:=(ya 0)) rfl (zK (sc:=zi xT) rfl (!0) (!0) (!0) rfl (!0) (!0) rfl) #[rfl,rfl] hx (zY (cl0 rK hr .nil rfl (za (pv 2) zg))) (λZ Z Z Z Z Z=>zq (i:=0) (show List.Nodup [_,_,_,_] by decide) rfl (.inl rfl)) (λZ Z Z Z Z Z Z hx'=>(US (yf (yk (clP hx' rS hr .nil rfl (za (pv 1) (za (pv 0) (za (pv 2) (za (pv 3) zg))))) (λZ=>rfl))))) (λZ Z Z Z Z Z Z Z=>(pv 0))))))),?_]
  have s16:=zX;let#[dx,xs0,h1,h2,h3]:=id hy;change Same H H'/\∃r:sM,LsA K H' r (ps.map dR)/\σ=[!!y,-~~~m,!!r,Bb]
  ·rfl'
   exact#[_,_,h1,rfl,y,o,q,ps,rfl,hy,λr H1 s1 hA hr'=>#[s1,r,hA,rfl]]
  rintro σ H1 ⟨s1,r,hA,rfl⟩:0;change Same H H'/\LsA K H' r (ps.map dR)/\∃F:sM,H F=Bb/\H' F=Ba (kd P w F (λZ=>Bb) 0)/\σ=[!!y,-~~~m,!!r,!!F]
  ·rfl'
   erw[zdT]
   intro F hF;have s2:=zf (o:=kd P w F (λZ=>Bb) 0) hF
   rfl'
   exact#[s1.trans s2,hA.same s2,F,s1.free hF,zc,rfl]
  rintro σ H2 ⟨s2,hA2,F,hF0,hF,rfl⟩:0
  rfl'
  refine Xl hA2.is hok λO H3 hO s3 hL=>#[O,rfl,?_,λD hD=>?_]
  ·let#[xs,hX,_]:=hL;exact#[_,x4 hX]
  let#[xs,hX,hI]:=hL;have hxl:=hI.len;rw[aa]at hxl;have hF3:=s3 _ _ hF;have s03:=s2.trans s3;have hDF:D≠F:=λz=>by rw[z,hF3]at hD;cases hD
  have hOF:O≠F:=λz=>by rw[z,hF3]at hX;cases hX
  have back:∀{G:Hp},SamT F H3 G->Same H G:=λ{G} sT b o' e=>sT b o' (λz=>by rw[z,hF0]at e;cases e) (s03 b o' e);refine ja3 (xs:=xs) (λi Bg H'=>SamT F H3 H'/\H' D=Ba (.lst Bg)/\(∃(mp:sS->Option V) (n:Nat),H' F=Ba (kd P w F mp n)/\FmOk ps (m:Nat) mp/\n<=2 * i)/\Iss K H3 ((((ovA ps ps.length).take i).filter λt=>!Wf ps m t).map d3) Bg/\∀t ∈ (ovA ps ps.length).take i,OkG ps m t) #[x9 (zf hD),zc,#[_,0,by rw[zt (λz=>hDF z.symm)];exact hF3,FmOk.nil,⋯],by erw[bv,dF,aI,Iss],λt ht=>by simp at ht] (λi Bg H' Z h=>x4 (h.1 _ _ hOF hX)) ?_ ?_
  ·refine nm4 ?_;rintro i x Bg H' hx ⟨sT,hH,⟨mp,n,hFm,hM,hn⟩,hI',hle⟩:_;have hil:=(Bh.mp hx).1;let#[t,p,ht,rfl,hp]:=hI.get3 hx;have htm:=ac ht;have hE':=hE.2 t htm
   have hal:Bg.length<=i:=by
    have:=hI'.len;rw[aa]at this;have h5:=dn (λt=>!Wf ps m t) ((ovA ps ps.length).take i);rw[aC]at h5;lia
   right
   erw[zdh,tBl]
   rfl'
   refine#[yz,r,p,F,ps,t,(m:Nat),n,mp,_,_,rfl,Vh sT hF3 (hA2.same s3),hN,hok,jA sT hF3 hp,htm,hFm,hM,⋯,QJ hE'.1 hE.1,QJ hE'.2 hE.1,λJ1 J2 mp' n' H5 e1 e2 s5 hF5 hM5 hn5=>?_,λh H5 s5=>k2 t htm (zdG h) H5 (back (sT.trans s5))]
   have hle':∀t' ∈ (ovA ps ps.length).take (i+1),OkG ps m t':=λt' ht'=>by
    rw[zP ht]at ht';rcases Bl.mp ht' with h | h
    ·exact hle t' h
    ·rw[Bm.mp h];exact#[by rw[e1];rfl,by rw[e2];rfl]
   rw[zcn e1 e2]
   have hcase:∀b,Wf ps m t=b->(!b)=Bc->Iss K H3 ((((ovA ps ps.length).take (i+1)).filter λt=>!Wf ps m t).map d3) (Bg ++ [.ref p]):=λb hb hb'=>by
    rw[zP ht,di,am];refine jc0 hI' ?_;rw[fz,hb,w6 hb']
    erw[dF,ao,aI,Iss]
    refine#[_,[],rfl,?_,rfl]
    erw[d3,Is,Iss]
    exact#[p,_,rfl,hp,_,_,rfl,rfl,_,_,rfl,rfl,_,_,rfl,rfl,rfl]
   refine#[_,rfl,?_]
   cases hb:Wf ps m t with
   | false =>
    rw[w6 rfl];refine#[s5 _ _ hDF hH,⋯,x8 hil #[λb o' hbF e=>?_,zc,#[mp',n',by rw[zt (λz=>hDF z.symm)];exact hF5,hM5,⋯],hcase _ hb rfl,hle']];rw[zt (λz=>by rw[z,hD]at e;cases e)];exact s5 b o' hbF (sT b o' hbF e)
   | true =>
    rw[w9 ∅];refine x8 hil #[sT.trans s5,s5 _ _ hDF hH,#[mp',n',hF5,hM5,⋯],?_,hle'];rw[zP ht,di,fz,hb]
    erw[gq,be,if_false,dF,aT]
    exact hI'
  ·refine nmB ?_;rintro Bg H' ⟨sT,hH,_,hI',hle⟩:_;rw[hxl,aJ]at hI' hle;right;exact k1 hle D H' (back sT) (s03.free hD) #[Bg,hH,Xn sT hF3 hI']
theorem zbv(h:SqT K H p [a,b])(k:R ((σ.set i (Ba a)).set j (Ba b)) H):zdn K 2 (Yy (yv i) (Yy (yv j) zdg)) (.ref p) σ H R:=by
 erw[zdn,Yy,yv,zdg]
 first
 | exact⟨_,_,rfl,h,rfl,_,_,rfl,_,_,rfl,rfl,k⟩
 | exact⟨_,_,rfl,.inr h,rfl,_,_,rfl,_,_,rfl,rfl,k⟩
theorem EnsA.app(hf:EnsA K H fs us):∀{es:List Ent} {vs:List V},EnsA K H es vs->EnsA K H (es ++ fs) (vs ++ us)
 | [],vs,h=>by
  erw[EnsA]at h
  subst h;exact hf
 | e::es,vs,h=>by
  erw[EnsA]at h
  let#[x,r,rfl,hx,hr]:=h
  erw[bE,EnsA]
  exact#[x,r ++ us,rfl,hx,hf.app hr]
abbrev MkS(P:sU)(w:sZ)(K:sL)(mg:sS->Option sN)(base:tB)(CO CR CW CT CH:sM):Prop:=DMk P w K mg base (CXx P w) 5 CH ["self","order","rules"] (qN K CO CR CW CT CH)
def zbO{Q:sM->Hp->Prop}{CO CR CW CT CH o a:sM}(ho:OrdAt CO CR CW H o k l ns)(hG:OG l ns k)(hA:LsA K H a (ps.map dR))(hin:InL l ps)(hf:vp k l ns ps 0=Bb)(q:∀(y qa:sM) (H':Hp),Same H H'->zaw K CH H' y o qa ps->Q y H'):∀x dx,H x=Bb->H dx=Bb->dx≠x->qN K CO CR CW CT CH [.ref x,.ref o,.ref a] (upd (upd H dx (.own x)) x (.ins CH dx [])) (λv H'=>v=.non/\Q x H') E0:=by
 intro x dx hx hdx hne;let#[xs,hX,hI]:=hA;have sd:=zf (o:=.own x) hdx
 have k1:Same H (upd (upd H dx (.own x)) x (.ins CH dx [])):=λb' o' e=>by
  rw[zt (zN e hx)];exact sd _ _ e
 refine#[x,dx,o,a,k,l,ns,ps,xs,rfl,zc,ho.same k1,hG,k1 _ _ hX,ja0 k1 _ _ hI,hin,(λi e=>by rw[hf]at e;cases e),λZ q1 H'' kp hx' hq' hqn=>#[rfl,?_]];have k3:Same H H'':=λb' o' e=>kp b' o' (λz=>by rw[z,hx]at e;cases e) (k1 _ _ e);exact q x q1 H'' k3 #[dx,xs,hx',hq',ja0 k3 _ _ hI]
def BG.inL(h:BG k l ns bs):InL l (zb bs):=λp hp=>by
 let#[e,he,rfl]:=Bj.mp hp;have b:=h.e e he;exact#[aH b.a ∅,aH b.b ∅,b.ma,b.mb]
def BG.fault(h:BG k l ns bs):vp k l ns (zb bs) 0=Bb:=uQ λm p e=>by
 let#[e',he,rfl]:=Bj.mp (ac e);exact h.lt e' he
def WJ(K:sL)(CO CR CW CH:sM):Sp:=λvs H Q Z=>∃(o a:sM) (k:Nat) (l:()) (ns:List Int) (bs:List Ent),vs=[.ref o,.ref a]/\OrdAt CO CR CW H o k l ns/\OG l ns k/\EnsL K H a bs/\BG k l ns bs/\∀(y qa:sM) (H':Hp),Same H H'->zaw K CH H' y o qa (zb bs)->Q (.ref y) H'
def Xd:sQz 2 ["order","entries"] vX:=by nofun
def YN{f CO CR CW CT CH:sM}(B:Bt mg)(TS:zdU K mg CH)(MS:MkS P w K mg base CO CR CW CT CH)(F:("system_by"^^^vX))(gY:(1<<<"pairs_of") ["entries"] [] (wy K)):(7&&&["order","entries"]) (WJ K CO CR CW CH):=by
 exists F.ok Xd
 ·let#[o,a,k,l,ns,bs,rfl,ho,hG,hA,hB,q]:=h;refine#[_,(ze (zl (zgU xe0 MS hr rfl TS.g (za (pv 0) (za (cl0 gY hr .nil rfl (za (pv 1) zg)) zg))))),?_];have s16:=zX;ac_rfl;refine wj hA.is (by have:=hB.n;lia) λD H' Z s' hL=>?_;exact zbO (ho.same s') hG hL hB.inL hB.fault λy qa H'' s'' hy=>q y qa H'' (s'.trans s'') hy
def fE(i:Nat)(p:zH):Ent:=(p.1,p.2,[((i:Int),(0:Int),Bc)])
def fEs(rs:List zH):Nat->List Ent
 | 0=>[]
 | n+1=>fEs rs n ++ ((rs[n]?).map (fE n)).toList
def zaa(h:rs[n]? = Ba p):fEs rs (n+1)=fEs rs n ++ [fE n p]:=by show fEs rs n ++ ((rs[n]?).map (fE n)).toList=_;rw[h];rfl
theorem Jy(rs:List zH):∀n,(fEs rs n).length<=n
 | 0=>al _
 | n+1=>by
  have:=Jy rs n;show (fEs rs n ++ ((rs[n]?).map (fE n)).toList).length<=_;rw[aj]
  cases rs[n]? with
  | none=>simp;lia
  | some p=>simp;lia
theorem jk : ∀{n:Nat} {e:Ent},e ∈ fEs rs n->∃i p,i<n/\rs[i]? = Ba p/\e=fE i p
 | 0,e,h=>(nomatch h)
 | n+1,e,h=>by
  have h':e ∈ fEs rs n ++ ((rs[n]?).map (fE n)).toList:=h;rcases Bl.mp h' with h | h
  ·let#[i,p,hi,hp,he]:=jk h;exact#[i,p,⋯,hp,he]
  ·cases hn:rs[n]? with
   | none=>rw[hn]at h;simp at h
   | some p =>
    rw[hn]at h;exact#[n,p,⋯,hn,by simpa using h]
def WF(K:sL):Sp:=λvs H Q Z=>∃(a:sM) (rs:List zH),vs=[.ref a]/\LsA K H a (rs.map dR)/\rs.length<=20/\∀(D:sM) (H':Hp),Same H H'->H D=Bb->EnsM K H' D (fEs rs rs.length)->Q (.ref D) H'
def qE:sQz 1 ["pacts"] yR:=by nofun
def qA(B:Bt mg)(F:("first_entries"^^^yR)):(1&&&["pacts"]) (WF K):=by
 exists F.ok qE
 ·let#[a,rs,rfl,hA,hrl,q]:=h;refine#[_,(ze (zl (yM (g:=zdn K 2 (Yy (yv 0) (Yy (yv 1) zdg))) (own:=["number","pact"]) (caps:=[]) (ix:=[]) (tt:=xo) (te:=(Uq (zM (tOp (uI K) (ya 1) (tC (.int 0))) (zM (tOp (uI K) (ya 1) (tC (.int 1))) (zM (zef (zM (Uq (zM (ya 0) (zM (tC (.int 0)) (zM (tC (.bl Bc)) xw)))) xw)) xw))))) rfl (zK (sc:=zi yR) rfl (!0) (!0) (!0) rfl (!0) (!0) rfl) (y9 rfl B.enum (za (pv 0) zg)) (λZ Z Z Z Z Z=>vQ (n:=2) rfl (zZ (zq (i:=0) (show List.Nodup [_,_] by decide) rfl (.inl rfl)) (zZ (zq (i:=1) (show List.Nodup [_,_] by decide) rfl (.inl rfl)) xW))) (λZ Z Z Z Z Z=>yg) (λZ Z Z Z Z Z=>(zW (za (!-1) (za (!-1) (za (xg (za (zW (za (pv 0) (za zd (za yt zg)))) zg)) zg)))))))),?_];have s16:=zX;let#[xs,hX,hI]:=id hA;have hxl:=hI.len;rw[aa]at hxl;ac_rfl;rw[zeE];ac_rfl;refine#[#[_,x4 hX],λD hD=>CompEL.by (xs:=xs) (λi Bg H'=>Same H H'/\H' D=Ba (.lst Bg)/\Bg.length<=i/\EnsA K (ko D H') (fEs rs i) Bg) #[zf hD,zc,al _,rfl] (λi Bg H' Z h=>x4 (h.1 _ _ hX)) ?_ ?_]
  ·refine nmE ?_;rintro i x Bg H' p hx ⟨hs,hH,hal,hEn⟩ hp:_;have hil:=(Bh.mp hx).1;let#[r,pr,hri,rfl,hqr]:=hI.getR hx;have u1:=zf (o:=HO.tup [.int (i:Nat),.ref pr]) hp;have hq:=zp (hs.trans u1) hqr;right;dsimp only;refine zbv (x6 zc) ?_
   erw[xo]
   rfl'
   refine#[zdK,_,hq,_,rfl,_,hq,_,rfl,⋯,λp1 hp1=>#[⋯,λp2 hp2=>#[⋯,λp3 hp3=>?_]]];have u2:=zf (o:=HO.tup [.int (i:Nat),.int 0,.bl Bc]) hp1;have u3:=zf (o:=HO.lst [.ref p1]) hp2;have u4:=zf (o:=HO.tup [⇑r.1,⇑r.2,.ref p2]) hp3;have u:=u1.trans (u2.trans (u3.trans u4));have hD4:=u _ _ hH;have hp2D:p2≠D:=λz=>by rw[z,u2 _ _ (u1 _ _ hH)]at hp2;cases hp2
   refine#[hD4,⋯,x8 hil #[zu (hs.trans u) hD,zc,by rw[aj];erw[aG,bI];lia,?_]];rw[zaa hri];refine (hEn.same ((vb u).trans xH)).snoc (EnA.same ?_ xH);refine EnA.new (e:=fE i r) hD4 zc #[_,u4 _ _ zc,?_] hp2D;show Iss K _ [dSt ((i:Int),(0:Int),Bc)] _;exact zcq (kN (x6 (u4 _ _ (u3 _ _ zc))))
  ·refine nmB ?_;rintro Bg H' ⟨hs,hH,hal,hEn⟩:_;rw[hxl]at hEn;right;exact q D H' hs hD #[Bg,hH,hEn.same vm]
def jl(es:List Ent):Bool:=decide (12<es.length) || es.any λe=>decide (10<max e.1.length e.2.1.length)
structure TMc(mg:sS->Option sN):Prop where
 u:∃t,mg "MOST_USES_completing" = Ba (.int 40 t)
 e:∃t,mg "MOST_ENTRIES" = Ba (.int 12 t)
 d:∃t,mg "MOST_SIDE_completing" = Ba (.int 10 t)
 p:∃t,mg "MOST_PEAKS" = Ba (.int 8 t)
def Y3(K:sL):Sp:=λvs H Q Z=>∃(a:sM) (es:List Ent),vs=[.ref a]/\EnsL K H a es/\es.length<64/\(∀e ∈ es,e.1.length<=10000/\e.2.1.length<=10000)/\∀H',Same H H'->Q (.bl (jl es)) H'
def Y5:sQz 1 ["entries"] wx:=by nofun
def Yz(B:Bt mg)(hany:zhj mg)(TM:TMc mg)(F:("is_beyond"^^^wx)):(1&&&["entries"]) (Y3 K):=by
 let#[#[t9,g9],#[t8,g8]]:=And.intro TM.e TM.d
 exists F.ok Y5
 ·let#[a,es,rfl,hA,hl,hE,q]:=h
  refine#[_,(zh (zJ (zv Xb (zA B.len (pv 0)) (yI (v:=.int 12) rfl g9 #[t9,rfl]) (zx _)) (ze (zl yt))
    zr) (ze (zl (yW (zgn rfl) rfl hany PyProof.Rows.boot_any (za (yM (own:=["entry"]) (caps:=[]) (ix:=[]) (tt:=xo) (te:=(tOp zdR (tCB K7 (zM (tCB (WR K) (zM (tOp (uI K) (ya 0) (tC (.int 0))) xw)) (zM (tCB (WR K) (zM (tOp (uI K) (ya 0) (tC (.int 1))) xw)) xw))) (tC (.int 10)))) rfl (zK (sc:=zi wx) rfl (!0) (!0) (!0) rfl (!0) (!0) rfl) (zY (pv 0)) (λZ Z Z Z Z Z=>zq (i:=0) (show List.Nodup [_] by decide) rfl (.inl rfl)) (λZ Z Z Z Z Z=>yg) (λZ Z Z Z Z Z=>(yi Xb (yW (JB rfl) rfl B.max qL (za (zA B.len (!-0)) (za (zA B.len (!-0)) zg))) (yI (v:=.int 10) rfl g8 #[t8,rfl]) (zx _)))) zg))))),?_]
  have s16:=zX;let#[xs,hX,hEn]:=id hA;have hxl:=hEn.len;change H'=H/\¬ 12<es.length/\σ=[!!a]
  ·ac_rfl;refine#[_,.inl #[_,hX,rfl],yb (λh=>?_) λh=>by lia]
   have e:jl es=Bc:=by
    unfold jl;rw[u6 ⋯,Bool.true_or]
   rw[<- e];exact q H (ja1 _)
  rintro σ H1 ⟨rfl,h12,rfl⟩:0;ac_rfl;refine#[#[_,hX],λD hD=>ja3 (xs:=xs) (λi Bg H'=>Same H1 H'/\H' D=Ba (.lst Bg)/\Bg=((es.take i).map λe=>decide (10<max e.1.length e.2.1.length)).map V.bl) #[zf hD,zc,rfl] (λi Bg H' Z h=>h.1.seq hX) ?_ ?_]
  ·refine nm4 ?_;rintro i x Bg H' hx ⟨hs,hH,rfl⟩:_;have hil:=(Bh.mp hx).1;let#[e,p,s,he,rfl,hp,_]:=hEn.get hx;have hq:=zp hs hp;have hb:=hE e (ac he);right
   erw[xo]
   rfl'
   refine#[yz,_,hq,_,rfl,_,#[by rw[zI];lia,rfl],_,hq,_,rfl,_,#[by rw[zI];lia,rfl],hH,by rw[aa,aa,aC];lia,x8 hil #[zu hs hD,zc,?_]];rw[zP he,am,am,zI,zI];congr 1;show [V.bl _]=[V.bl _];congr 2;refine decide_eq_decide.mpr ?_;split <;> lia
  ·refine nmB ?_;rintro Bg H' ⟨hs,hH,rfl⟩:_;rw[hxl,aJ]at hH;right;refine#[D,_,rfl,x4 hH,?_]
   have e:(es.map λe=>decide (10<max e.1.length e.2.1.length)).any id=jl es:=by
    unfold jl;rw[u9 h12,Bool.false_or,List.any_map];rfl
   rw[e];exact q H' hs
def XQ(h:jl es=Bd):es.length<=12/\∀e ∈ es,e.1.length<=10/\e.2.1.length<=10:=by unfold jl at h;rw[Bool.or_eq_false_iff]at h;refine#[by have:=of_decide_eq_false h.1;lia,λe he=>?_];have:=List.any_eq_false.mp h.2 e he;have h2:¬ 10<max e.1.length e.2.1.length:=λz=>this (u6 z);lia
def zbk(K:sL)(CO CR CW T:sM):Sp:=λvs H Q Z=>∃(o a:sM) (k:Nat) (l:()) (ns:List Int) (es:List Ent),vs=[.ref o,.ref a]/\OrdAt CO CR CW H o k l ns/\OG l ns k/\EnsL K H a es/\es.length<64/\(∀e ∈ es,EB l e)/\TabOk H T lp lq /\
 (∀(bs:List Ent) (D:sM) (H':Hp),uL k l ns 20 es (Ba bs)->BG k l ns bs->jl bs=Bd->SamT T H H'->TabOk H' T lp lq->EnsM K H' D bs->Q (.ref D) H')/\((uL k l ns 20 es Bb\/∃bs,uL k l ns 20 es (Ba bs)/\jl bs=Bc)->∀H',SamT T H H'->TabOk H' T lp lq->Q .non H')
structure zfS(K:sL)(CF:sM):Prop where
 s:dz K (.ref CF) (.ref CF)=Ba Bc
def mC:sQz 2 ["order","entries","slim"] xj:=by nofun
def uZ{f CO CR CW TB CF:sM}(B:Bt mg)(TFx:zbM K mg CF)(TSb:zfS K CF)(F:("thinned_within"^^^xj))(rP:(7>>>"thinned") ["order","entries"] [] (Q2 K CO CR CW TB CF))(rF:(1<<<"is_beyond") ["entries"] [] (Y3 K)):(8&&&["order","entries"]) (zbk K CO CR CW TB):=by
 exists F.ok mC
 ·let#[o,a,k,l,ns,es,rfl,ho,hG,hA,hz,hE,hTab,q1,q2]:=h
  refine#[_,(zh (KU (i:=2) (th:=(zbm (tC .non))) mC.nd rfl (.inl rfl) (.inl rfl) #[rfl,rfl] (clX rP hr .nil rfl (za (pv 0) (za (pv 1) zg))) rfl TFx.g TFx.xi.ok (λe=>(ze (zl yd)))) (ze (zl (wG (yk (cl0 rF hr .nil rfl (za (pv 2) zg)) (λZ=>rfl)) yd (pv 2))))),?_]
  have s16:=zX;change SamT TB H H'/\TabOk H' TB lp lq/\∃(bs:List Ent) (D:sM),uL k l ns 20 es (Ba bs)/\BG k l ns bs/\EnsM K H' D bs/\σ=[!!o,!!a,!!D]
  ·erw[zbo]
   ac_rfl;exact#[o,a,k,l,ns,es,rfl,ho,hG,hA,hz,hE,hTab,λbs D H' h1 h2 h3 h4 h5=>#[h3,h4,bs,h1,h2,D,h5,rfl],λh H' h3 h4=>#[CF,rfl,TSb.s,λx hx=>q2 (.inl h) _ (h3.trans (x9 (zf hx))) (h4.same (zf hx))]]
  rintro σ H1 ⟨s1,hT1,bs,D,hTh,hB,hM,rfl⟩:0;ac_rfl;exact#[D,bs,rfl,hM.l,hB.n,λe he=>#[aH (hB.e e he).a ∅,aH (hB.e e he).b ∅],λH' s'=>#[_,rfl,yb (λh=>q2 (.inr #[bs,hTh,h]) H' (s1.trans (x9 s')) (hT1.same s')) λh=>q1 bs D H' hTh hB ↥h (s1.trans (x9 s')) (hT1.same s') (hM.same s')]]
def qS(w:())(k:Int)(o n:()):(yX w k o n).length<=w.length+n.length:=by unfold yX;rw[aj,aj,aC,aS,dh];exact Nat.add_le_add_right (zgB _ _ _) _
def BG.ok(h:BG k l ns bs)(hl:bs.length<=30):qJ (zb bs):=by refine#[by unfold zb;rw[aa];exact hl,λr hr=>?_];let#[e,he,rfl]:=Bj.mp hr;exact#[aH (h.e e he).a ∅,aH (h.e e he).b ∅]
def zeZ(hok:∀r ∈ ps,r.1.length<=60/\r.2.length<=60)(ht:t ∈ ovA ps ps.length):(pkA ps t).length<=180/\(pkB ps t).length<=180:=by
 let#[i1,i2,i3,i4]:=j6 ht;obtain⟨r,hr⟩:∃r,ps[t.1]? = Ba r:=#[_,af i1];obtain⟨r2,hr2⟩:∃r,ps[t.2.1]? = Ba r:=#[_,af i2];have l1:=xE hr;have l2:=xE hr2;have d1:ps.getD t.1 ([],[])=r:=by rw[ae,hr];rfl
 have d2:ps.getD t.2.1 ([],[])=r2:=by rw[ae,hr2];rfl
 rw[l1]at i3;have b1:=hok r (ac hr);have b2:=hok r2 (ac hr2);have hp:=uk r.1 r2.1 t.2.2 ⋯;have p1:=qS (yu r.1 r2.1 t.2.2) 0 r.1 r.2;have p2:=qS (yu r.1 r2.1 t.2.2) (t.2.2:Nat) r2.1 r2.2;unfold pkA pkB;rw[l1,l2,d1,d2];lia
def zdp(hN:NeL ps)(hok:∀r ∈ ps,r.1.length<=60/\r.2.length<=60):zgJ ps 40:=by
 refine#[∅,λt ht=>?_];let#[h1,h2]:=zeZ hok ht
 have key:∀(v:()),v.length<=180->∀j,j<=40->(wAt ps v j).length<=10000:=λv hv j hj=>by
  have:=jf (l:=v) hN (λp hp=>(hok p hp).2) j;have h3:j * 60<=40 * 60:=fX hj (al _);lia
 exact#[key _ h1,key _ h2]
def zaU(K:sL)(CO CR CW:sM):Sp:=λvs H Q Z=>∃(o a:sM) (k:Nat) (l:()) (ns:List Int) (bs:List Ent),vs=[.ref o,.ref a]/\OrdAt CO CR CW H o k l ns/\OG l ns k/\EnsL K H a bs/\BG k l ns bs/\bs.length<=30/\(ovA (zb bs) (zb bs).length).length<=4000 /\
 ((∀t ∈ ovA (zb bs) (zb bs).length,OkG (zb bs) 40 t)->∀D H',Same H H'->LsA K H' D ((unG (zb bs) 40).map d3)->Q (.ref D) H')/\(∀t ∈ ovA (zb bs) (zb bs).length,¬ OkG (zb bs) 40 t->∀H',Same H H'->Q .non H')
def jF:sQz 2 ["order","entries"] xR:=by nofun
def jx{f CO CR CW CF CH:sM}(B:Bt mg)(TFx:zbM K mg CF)(TSb:zfS K CF)(TM:TMc mg)(F:("unmet_within"^^^xR))(sf:(7>>>"unmet") ["system","most"] [] (ui K CH CF))(DD_unmet:(7>>>"unmet") ["system","most"] [.int 4000 oM] (ui K CH CF))(rG:(7<<<"system_by") ["order","entries"] [] (WJ K CO CR CW CH)):(9&&&["order","entries"]) (zaU K CO CR CW):=by
 let#[t9,g9]:=TM.u
 exists F.ok jF
 ·let#[o,a,k,l,ns,bs,rfl,ho,hG,hA,hB,hbl,hol,q1,q2]:=h;refine#[_,(ze (WQ (th:=(zbm (tC .non))) #[rfl,rfl] (clX sf hr .nil rfl (za (cl0 rG hr .nil rfl (za (pv 0) (za (pv 1) zg))) (za (yI (v:=.int 40) rfl g9 #[t9,rfl]) zg))) rfl TFx.g TFx.xi.ok (λe=>(ze (zl yd))))),?_];have s16:=zX;have s16:=zX
  erw[Jm]
  ac_rfl
  have hsd:∀r ∈ zb bs,r.1.length<=60/\r.2.length<=60:=λr hr=>by
   let#[e,he,rfl]:=Bj.mp hr;exact#[(hB.e e he).a,(hB.e e he).b]
  exact#[o,a,k,l,ns,bs,rfl,ho,hG,hA,hB,λy qa H' s' hy=>#[y,o,qa,zb bs,40,rfl,hy,hB.ne hG,hB.ok hbl,hol,zdp (hB.ne hG) hsd,λh D H'' s'' Z hL=>q1 h D H'' (s'.trans s'') hL,λt ht h H'' s''=>#[CF,rfl,TSb.s,λx hx=>q2 t ht h _ (s'.trans (s''.trans (zf hx)))]]]
def ku(es:List Ent)(t:N3):Ent:=(pkA (zb es) t,pkB (zb es) t,byL es [((t.1:Int),(0:Int),Bd),((t.2.1:Int),(t.2.2:Int),Bc)])
def ZQ(K:sL):Sp:=λvs H Q Z=>∃(a t:sM) (es:List Ent) (tr:N3),vs=[.ref a,.ref t]/\EnsL K H a es/\SqT K H t [.int (tr.1:Nat),.int (tr.2.1:Nat),.int (tr.2.2:Nat)]/\tr ∈ ovA (zb es) (zb es).length/\qJ (zb es)/\(∀e ∈ es,e.2.2.length<=600)/\∀(p s:sM) (H':Hp),Same H H'->H' p=Ba (.tup [⇑(ku es tr).1,⇑(ku es tr).2.1,.ref s])->LsA K H' s ((ku es tr).2.2.map dSt)->H s=Bb->Q (.ref p) H'
def nq:sQz 2 ["entries","overlap","sides","steps"] u7:=by nofun
def Xz(B:Bt mg)(F:("entry_of"^^^u7))(rh:(4<<<"peak") ["rules","overlap"] [] (ZZ K))(iL:(2<<<"by_pacts") ["entries","steps"] [] (Qn K))(gY:(1<<<"pairs_of") ["entries"] [] (wy K)):(5&&&["entries","overlap"]) (ZQ K):=by
 exists F.ok nq
 ·let#[a,t,es,tr,rfl,hA,ht,htr,hok,hst,q]:=h
  refine#[_,(zh (zy 2 nq.nd (cl0 rh hr .nil rfl (za (cl0 gY hr .nil rfl (za (pv 0) zg)) (za (pv 1) zg)))) (zh (zy 3 nq.nd (cl0 iL hr .nil rfl (za (pv 0) (za (xg (za (zW (za (!-1) (za zd (za yt zg)))) (za (zW (za (!-1) (za (!-1) (za yt zg)))) zg))) zg)))) (ze (zl (zW (za (!-2) (za (!-2) (za (pv 3) zg)))))))),?_]
  have s16:=zX;have hlp:(zb es).length=es.length:=by unfold zb;rw[aa]
  let#[i1,i2,i3,i4]:=j6 htr;obtain⟨r,hr1⟩:∃r,(zb es)[tr.1]? = Ba r:=#[_,af i1];obtain⟨r2,hr2⟩:∃r,(zb es)[tr.2.1]? = Ba r:=#[_,af i2];have l1:=xE hr1;have l2:=xE hr2;have d1:(zb es).getD tr.1 ([],[])=r:=by rw[ae,hr1];rfl
  have d2:(zb es).getD tr.2.1 ([],[])=r2:=by rw[ae,hr2];rfl
  have eA:pkA (zb es) tr=yX (yu r.1 r2.1 tr.2.2) 0 r.1 r.2:=by unfold pkA;rw[l1,l2,d1]
  have eB:pkB (zb es) tr=yX (yu r.1 r2.1 tr.2.2) (tr.2.2:Nat) r2.1 r2.2:=by unfold pkB;rw[l1,l2,d2]
  rw[l1]at i3;rw[l1,l2]at i4;change Same H H'/\∃p:sM,(∃x,H' p=Ba (.tup [x,⇑(pkA (zb es) tr),⇑(pkB (zb es) tr)]))/\σ=[!!a,!!t,!!p,Bb]
  ·rfl'
   refine wj hA.is (by have:=hok.1;lia) λD H1 Z s1 hL=>?_;exact WN hL.is (zp s1 ht) hok hr1 hr2 ⋯ i4 λp H' Z s' hp=>#[s1.trans s',p,#[_,by rw[eA,eB];exact hp],rfl]
  rintro σ H1 ⟨s1,p,⟨x,hp⟩,rfl⟩:0;change Same H1 H'/\∃S:sM,H S=Bb/\LsA K H' S ((ku es tr).2.2.map dSt)/\σ=[!!a,!!t,!!p,!!S]
  ·have ht1:=zp s1 ht
   rfl'
   refine#[_,ht1,_,rfl,⋯,λp1 hp1=>?_];have u1:=zf (o:=HO.tup [.int (tr.1:Nat),.int 0,.bl Bd]) hp1;refine#[_,zp u1 ht1,_,rfl,_,zp u1 ht1,_,rfl,⋯,λp2 hp2=>#[⋯,λp3 hp3=>?_]];have u2:=zf (o:=HO.tup [.int (tr.2.1:Nat),.int (tr.2.2:Nat),.bl Bc]) hp2;have u3:=zf (o:=HO.lst [.ref p1,.ref p2]) hp3;have u:=u1.trans (u2.trans u3);refine WA (us:=[((tr.1:Int),(0:Int),Bd),((tr.2.1:Int),(tr.2.2:Int),Bc)]) (hA.same (s1.trans u)).is (LsA.is #[_,zc,?_]) (by simp) hst (λv hv=>?_) λD H' hDn s' hL=>#[u.trans s',D,(s1.trans u).free hDn,hL,rfl]
   ·erw[ao,aI,Iss]
    exact#[_,_,rfl,kN (x6 (u3 _ _ (u2 _ _ zc))),_,_,rfl,kN (x6 (u3 _ _ zc)),rfl]
   ·erw[List.mem_cons,List.not_mem_nil,or_false]at hv
    rcases hv with rfl | rfl
    ·exact#[by simp,by show (tr.1:Int)<_;lia]
    ·exact#[by simp,by show (tr.2.1:Int)<_;lia]
  rintro σ H2 ⟨s2,S,hSn,hS,rfl⟩:0
  rfl'
  exact#[_,x6 (s2 _ _ hp),_,rfl,_,x6 (s2 _ _ hp),_,rfl,⋯,λp' hp'=>q p' S _ (s1.trans (s2.trans (zf hp'))) zc (hS.same (zf hp')) hSn]
def KM(h:¬ qY e):¬ qY (z8 k l ns e):=by
 unfold z8;split
 ·exact h
 ·unfold qY at h ⊢;rw[yB];show ¬ (240<e.2.2.length\/60<e.2.1.length\/60<e.1.length);lia
theorem VX(h:xn k l ns bs es r):(∀e ∈ bs,¬ qY e)->∀fs,r=Ba fs->∀e ∈ fs,¬ qY e:=by
 induction h with
 | nil bs=>exact λh fs e=>by cases e;exact h
 | same _ _ _ _ ih=>exact ih
 | new _ _ _ h4 _ ih =>
  intro h;refine ih λe he=>?_;rcases Bl.mp he with he | he
  ·exact h e he
  ·rw[Bm.mp he];exact KM h4
 | far _ _ _ _=>exact λZ fs e=>by cases e
 | stuck _=>exact λZ fs e=>by cases e
theorem j7(h:uL k l ns n es r):∀fs,r=Ba fs->∀e ∈ fs,¬ qY e:=by
 induction h with
 | out es=>exact λfs e=>by cases e
 | bad _ _=>exact λfs e=>by cases e
 | done _ h2 _=>exact λfs e=>by cases e;exact VX h2 (λe he=>(nomatch he)) _ rfl
 | more _ _ _ _ ih=>exact ih
def QU(h:∀e ∈ es,e.2.2.length<=M)(u:Stp):(Wn es u).length<=M:=by
 have hg:(es.getD u.1.toNat ([],[],[])).2.2.length<=M:=by
  rw[ae]
  cases e:es[u.1.toNat]? with
  | none=>exact ar _
  | some x=>exact h x (ac e)
 unfold Wn;rw[YE];split
 ·exact hg
 ·rw[yB];exact hg
inductive Cpl(k:Nat)(l:())(ns:List Int):Nat->List Ent->List Ent->Bool->List Ent->Prop where
 | out (kept fresh:List Ent):Cpl k l ns 0 kept fresh Bd kept
 | slim {n:Nat} {kept fresh:List Ent} (h:uL k l ns 20 fresh Bb\/∃bs,uL k l ns 20 fresh (Ba bs)/\jl bs=Bc):Cpl k l ns (n+1) kept fresh Bd kept
 | far {n:Nat} {kept fresh bs:List Ent} {t:N3} (h:uL k l ns 20 fresh (Ba bs)) (hb:jl bs=Bd) (ht:t ∈ ovA (zb bs) (zb bs).length) (ho:¬ OkG (zb bs) 40 t):Cpl k l ns (n+1) kept fresh Bd bs
 | whole {n:Nat} {kept fresh bs:List Ent} (h:uL k l ns 20 fresh (Ba bs)) (hb:jl bs=Bd) (ho:∀t ∈ ovA (zb bs) (zb bs).length,OkG (zb bs) 40 t) (hu:unG (zb bs) 40=[]):Cpl k l ns (n+1) kept fresh Bc bs
 | more {n:Nat} {kept fresh bs es:List Ent} {w:Bool} (h:uL k l ns 20 fresh (Ba bs)) (hb:jl bs=Bd) (ho:∀t ∈ ovA (zb bs) (zb bs).length,OkG (zb bs) 40 t) (hu:unG (zb bs) 40≠[]) (r:Cpl k l ns n bs (bs ++ ((unG (zb bs) 40).take 8).map (ku bs)) w es):Cpl k l ns (n+1) kept fresh w es
def zdA(hl:ps.length<=12)(h:∀r ∈ ps,r.1.length<=10):(ovA ps ps.length).length<=4000:=by
 have lfl:∀i,(lf ps i).length<=10:=λi=>by
  cases e:ps[i]? with
  | none=>unfold lf;rw[ae,e];exact ar _
  | some r=>rw[xE e];exact h r (ac e)
 have oI:∀i m,(ovI ps i m).length<=m * 10:=λi m=>by
  induction m with
  | zero=>exact ar _
  | succ m ih =>
   rw[uz,aj];have h1:=qW ps i m (lf ps i).length;have h2:=lfl i;lia
 have oA:∀m,(ovA ps m).length<=m * 120:=λm=>by
  induction m with
  | zero=>exact ar _
  | succ m ih =>
   rw[qO,aj];have h1:=oI m ps.length;lia
 have:=oA ps.length;lia
def zd9{l:()}(hin:∀r ∈ ps,(∀c ∈ r.1,c ∈ l)/\∀c ∈ r.2,c ∈ l)(h10:∀r ∈ ps,r.1.length<=10/\r.2.length<=10)(ht:t ∈ ovA ps ps.length):((pkA ps t).length<=40/\∀c ∈ pkA ps t,c ∈ l)/\(pkB ps t).length<=40/\∀c ∈ pkB ps t,c ∈ l:=by
 let#[i1,i2,i3,i4]:=j6 ht;obtain⟨r,hr⟩:∃r,ps[t.1]? = Ba r:=#[_,af i1];obtain⟨r2,hr2⟩:∃r,ps[t.2.1]? = Ba r:=#[_,af i2];have l1:=xE hr;have l2:=xE hr2;have d1:ps.getD t.1 ([],[])=r:=by rw[ae,hr];rfl
 have d2:ps.getD t.2.1 ([],[])=r2:=by rw[ae,hr2];rfl
 rw[l1]at i3;have b1:=h10 r (ac hr);have b2:=h10 r2 (ac hr2);have n1:=hin r (ac hr);have n2:=hin r2 (ac hr2);have hp:=uk r.1 r2.1 t.2.2 ⋯;have p1:=qS (yu r.1 r2.1 t.2.2) 0 r.1 r.2;have p2:=qS (yu r.1 r2.1 t.2.2) (t.2.2:Nat) r2.1 r2.2
 have hw:∀c ∈ yu r.1 r2.1 t.2.2,c ∈ l:=λc hc=>by
  unfold yu at hc;rcases Bl.mp hc with h | h
  ·exact n1.1 c h
  ·exact n2.1 c (cY h)
 have put:∀(k:Int) (o n:()),(∀c ∈ n,c ∈ l)->∀c ∈ yX (yu r.1 r2.1 t.2.2) k o n,c ∈ l:=λk o n hn c hc=>by
  unfold yX at hc;rcases Bl.mp hc with hc | hc
  ·rcases Bl.mp hc with hc | hc
   ·exact hw c (bA hc)
   ·exact hn c hc
  ·exact hw c (cY hc)
 unfold pkA pkB;rw[l1,l2,d1,d2];exact#[#[⋯,put _ _ _ n1.2],⋯,put _ _ _ n2.2]
def UT(hB:BG k l ns bs)(hb:jl bs=Bd)(hs:∀e ∈ bs,e.2.2.length<=240)(ht:t ∈ ovA (zb bs) (zb bs).length):EB l (ku bs t):=by
 let#[b1,b2]:=XQ hb
 let#[h1,h2]:=zd9 (l:=l) (ps:=zb bs) (λr hr=>by
  let#[e,he,rfl]:=Bj.mp hr
  exact#[(hB.e e he).ma,(hB.e e he).mb]) (λr hr=>by
  let#[e,he,rfl]:=Bj.mp hr
  exact b2 e he) ht
 refine#[aH h1.1 ∅,aH h2.1 ∅,?_,h1.2,h2.2];show (byL bs [((t.1:Int),(0:Int),Bd),((t.2.1:Int),(t.2.2:Int),Bc)]).length<=600;unfold byL;rw[e8,e8,List.flatMap_nil,aT,aj];have o1:=QU hs ((t.1:Int),(0:Int),Bd);have o2:=QU hs ((t.2.1:Int),(t.2.2:Int),Bc);lia
def EnsM.samT(h:EnsM K H a es)(s:SamT T H H')(hT:H T=Ba (.tbl ps)):EnsM K H' a es:=by let#[xs,h1,h2]:=h;exact#[xs,s.at hT h1 (λZ z=>by cases z),EnsA.samT s hT h2]
def zfy(K:sL)(T:sM)(H:Hp)(k:Nat)(l:())(ns:List Int)(rs:List zH)(m n:Nat)(H':Hp)(Dk Df:sM):Prop:=∃kept fresh:List Ent,SamT T H H'/\TabOk H' T lp lq/\EnsM K H' Dk kept/\EnsL K H' Df fresh/\fresh.length<64/\(∀e ∈ fresh,EB l e)/\BG k l ns kept/\∀w es,Cpl k l ns n kept fresh w es->Cpl k l ns m [] (fEs rs rs.length) w es
def zbs(K:sL)(CO CR CW T:sM):Sp:=λvs H Q Z=>∃(o a:sM) (k:Nat) (l:()) (ns:List Int) (rs:List zH) (m:Nat),vs=[.ref o,.ref a,.int (m:Nat)]/\OrdAt CO CR CW H o k l ns/\OG l ns k/\LsA K H a (rs.map dR)/\rs.length<=20/\InL l rs/\(∀r ∈ rs,r.1.length<=60/\r.2.length<=60)/\m<=1000/\TabOk H T lp lq/\∀(w:Bool) (es:List Ent) (p D:sM) (H':Hp),Cpl k l ns (m+1) [] (fEs rs rs.length) w es->BG k l ns es->SamT T H H'->TabOk H' T lp lq->H' p=Ba (.tup [.bl w,.ref D])->EnsM K H' D es->Q (.ref p) H'
def gZ:sQz 3 ["order","pacts","rounds","kept","fresh","turn","slim","lacking"] wE:=by nofun
def YI{f CO CR CW TB:sM}(B:Bt mg)(TM:TMc mg)(F:("completed"^^^wE))(pc:(1<<<"first_entries") ["pacts"] [] (WF K))(oN:(8<<<"thinned_within") ["order","entries"] [] (zbk K CO CR CW TB))(pH:(9<<<"unmet_within") ["order","entries"] [] (zaU K CO CR CW))(rL:(5<<<"entry_of") ["entries","overlap"] [] (ZQ K)):(10&&&["order","pacts","rounds"]) (zbs K CO CR CW TB):=by
 let#[t9,g9]:=TM.p
 exists F.ok gZ
 ·let#[o,a,k,l,ns,rs,m,rfl,ho,hG,hA,hrl,hin,h60,hm,hTab,q]:=h
  refine#[_,(zh (xM (i:=3) gZ.nd rfl (Or.inr rfl) (xg zg)) (zh (zy 4 gZ.nd (cl0 pc hr .nil rfl (za (pv 1) zg))) (zh (zR p8 rfl (zV rfl B.range (za (zD z7 (pv 2) zd) zg)) (zq (i:=5) gZ.nd rfl (.inl rfl)) (zh (zy 6 gZ.nd (cl0 oN hr .nil rfl (za (pv 0) (za (pv 4) zg)))) (zh (zJ (zv op_isN' (pv 6) yd (zx _)) (ze (zl (zW (za yt (za (pv 3) zg)))))
     zr) (zh (xM (i:=3) gZ.nd rfl (Or.inr rfl) (pv 6)) (zh (zy 7 gZ.nd (cl0 pH hr .nil rfl (za (pv 0) (za (pv 3) zg)))) (zh (zJ (zv op_isN' (pv 7) yd (zx _)) (ze (zl (zW (za yt (za (pv 3) zg)))))
     zr) (zh (zJ (zv xx (zA B.len (pv 7)) zd (zx _)) (ze (zl (zW (za yt (za (pv 3) zg)))))
     zr) (ze (zy 4 gZ.nd (zD jV (pv 3) (yM (own:=["overlap"]) (caps:=["kept"]) (ix:=[3]) (tt:=xo) (te:=(ud (ZQ K) [] E0 (zM (ya 1) (zM (ya 0) xw)))) rfl (zK (sc:=zi wE) rfl (!0) (!0) (!0) rfl (!0) (!0) rfl) (zY (zQ jB (pv 7) yo (zO (yI (v:=.int 8) rfl g9 #[t9,rfl])))) (λZ Z Z Z Z Z=>zq (i:=0) (show List.Nodup [_,_] by decide) rfl (.inl rfl)) (λZ Z Z Z Z Z=>yg) (λZ Z Z Z Z Z=>(cl0 rL hr .nil rfl (za (pv 1) (za (pv 0) zg))))))))))))))) (ze (zl (zW (za yt (za (pv 3) zg)))))))),?_]
  have s16:=zX;have hTt:=hTab;let#[tp,htp,_]:=hTt;change Same H H'/\∃Dk:sM,H' Dk=Ba (.lst [])/\σ=%[!!o,!!a,-~~~m,!!Dk|4]
  ·ac_rfl;exact#[⋯,λp hp=>#[zf hp,zc]]
  rintro σ H1 ⟨s1,Dk0,hDk0,rfl⟩:_
  have hE0:∀e ∈ fEs rs rs.length,EB l e:=λe he=>by
   let#[i,p,hi,hp,rfl]:=jk he;have h1:=h60 p (ac hp);have h2:=hin p (ac hp);exact#[h1.1,h1.2,by show ([((i:Int),(0:Int),Bc)]:List Stp).length<=600;simp,h2.2.2.1,h2.2.2.2]
  right;change ∃Df:sM,zfy K TB H k l ns rs (m+1) (m+1) H' Dk0 Df/\σ=%[!!o,!!a,-~~~m,!!Dk0,!!Df|3]
  ·ac_rfl;exact#[a,rs,rfl,hA.same s1,hrl,λDf H' s' Z hM=>#[Df,#[[],fEs rs rs.length,x9 (s1.trans s'),hTab.same (s1.trans s'),#[[],s' _ _ hDk0,rfl],hM.l,by have:=Jy rs rs.length;lia,hE0,#[by simp,λe he=>(nomatch he),λe he=>(nomatch he)],λw es h=>h],rfl]]
  rintro σ H2 ⟨Df0,hC0,rfl⟩:0;change ∃(Dk Df:sM) (v5 v6 v7:Option V),zfy K TB H k l ns rs (m+1) 0 H' Dk Df/\σ=[!!o,!!a,-~~~m,!!Dk,!!Df,v5,v6,v7]
  ·ac_rfl;refine#[⋯,⋯,ja2 (λi σ H'=>∃(Dk Df:sM) (v5 v6 v7:Option V),zfy K TB H k l ns rs (m+1) (m+1 - i) H' Dk Df/\σ=[!!o,!!a,-~~~m,!!Dk,!!Df,v5,v6,v7]) #[Dk0,Df0,Bb,Bb,Bb,hC0,rfl] ?_ ?_]
   ·refine nm3 ?_;rintro i σ H' hi ⟨Dk,Df,v5,v6,v7,⟨kept,fresh,sT,hT,hK,hF,hfl,hfE,hB,hcp⟩,rfl⟩:_;have hi':i<m+1:=⋯;have en:m+1 - i=(m+1 - (i+1))+1:=⋯;rw[en]at hcp;have hTt:=hT;let#[tq,htq,_]:=hTt;have ho':=ho.samT sT htp;right
    erw[yv,aN,aM]
    refine zj (λσ' G=>SamT TB H' G/\TabOk G TB lp lq/\(((uL k l ns 20 fresh Bb\/∃bs,uL k l ns 20 fresh (Ba bs)/\jl bs=Bc)/\σ'=[!!o,!!a,-~~~m,!!Dk,!!Df,Ba (.int (0+(i:Int))),Ba (.non),v7])\/∃(bs:List Ent) (D:sM),uL k l ns 20 fresh (Ba bs)/\BG k l ns bs/\jl bs=Bd/\EnsM K G D bs/\σ'=[!!o,!!a,-~~~m,!!Dk,!!Df,Ba (.int (0+(i:Int))),!!D,v7])) ?_ ?_
    ·ac_rfl;exact#[o,Df,k,l,ns,fresh,rfl,ho',hG,hF,hfl,hfE,hT,λbs D G h1 h2 h3 h4 h5 h6=>#[h4,h5,.inr #[bs,h1,h2,h3,D,h6,rfl]],λh G h4 h5=>#[h4,h5,.inl #[h,rfl]]]
    rintro σ' G1 ⟨g1,hT1,hcase⟩:_;have hK1:=hK.samT g1 htq;right;refine zj (λσ' G=>Same G1 G/\∃(bs:List Ent) (D:sM),uL k l ns 20 fresh (Ba bs)/\BG k l ns bs/\jl bs=Bd/\EnsM K G D bs/\σ'=[!!o,!!a,-~~~m,!!Dk,!!Df,Ba (.int (0+(i:Int))),!!D,v7]) ?_ ?_
    ·rcases hcase with ⟨hno,rfl⟩ | ⟨bs,D,h1,h2,h3,h4,rfl⟩
     ·ac_rfl;exact#[⋯,λp hp=>q Bd kept p Dk _ (hcp _ _ (.slim hno)) hB (sT.trans (g1.trans (x9 (zf hp)))) (hT1.same (zf hp)) zc (hK1.same (zf hp))]
     ·ac_rfl;exact#[ja1 _,bs,h1,h2,h3,h4]
    rintro σ' G2 ⟨s2,bs,D,hTh,hBb,hbey,hD,rfl⟩:_;clear hcase;right;refine zj (λσ' G=>G=G2/\σ'=[!!o,!!a,-~~~m,!!D,!!Df,Ba (.int (0+(i:Int))),!!D,v7]) ?_ ?_
    ·ac_rfl
    rintro σ' G3 ⟨rfl,rfl⟩:_;have sT3:SamT TB H G3:=sT.trans (g1.trans (x9 s2));have hT3:=hT1.same s2;have ho3:=ho.samT sT3 htp;let#[b12,b10]:=XQ hbey;have hpl:(zb bs).length=bs.length:=by unfold zb;rw[aa]
    have hol:=zdA (ps:=zb bs) ⋯ λr hr=>by
     let#[e,he,rfl]:=Bj.mp hr;exact (b10 e he).1
    have hnear:∀e ∈ bs,e.2.2.length<=240:=λe he=>by
     have:=j7 hTh bs rfl e he;unfold qY at this;lia
    right;refine zj (λσ' G=>Same G3 G/\(((∃t ∈ ovA (zb bs) (zb bs).length,¬ OkG (zb bs) 40 t)/\σ'=[!!o,!!a,-~~~m,!!D,!!Df,Ba (.int (0+(i:Int))),!!D,Ba (.non)])\/∃L:sM,(∀t ∈ ovA (zb bs) (zb bs).length,OkG (zb bs) 40 t)/\LsA K G L ((unG (zb bs) 40).map d3)/\σ'=[!!o,!!a,-~~~m,!!D,!!Df,Ba (.int (0+(i:Int))),!!D,!!L])) ?_ ?_
    ·ac_rfl;exact#[o,D,k,l,ns,bs,rfl,ho3,hG,hD.l,hBb,⋯,hol,λh L G s' hL=>#[s',.inr #[h,L,hL,rfl]],λt ht h G s'=>#[s',.inl #[#[t,ht,h],rfl]]]
    rintro σ' G4 ⟨s4,hcase⟩:0;refine zj (λσ' G=>Same G3 G/\∃L:sM,(∀t ∈ ovA (zb bs) (zb bs).length,OkG (zb bs) 40 t)/\LsA K G L ((unG (zb bs) 40).map d3)/\σ'=[!!o,!!a,-~~~m,!!D,!!Df,Ba (.int (0+(i:Int))),!!D,!!L]) ?_ ?_
    ·rcases hcase with ⟨⟨t,ht,hno⟩,rfl⟩ | ⟨L,h1,h2,rfl⟩
     ·ac_rfl;exact#[⋯,λp hp=>q Bd bs p D _ (hcp _ _ (.far hTh hbey ht hno)) hBb (sT3.trans (x9 (s4.trans (zf hp)))) (hT3.same (s4.trans (zf hp))) zc (hD.same (s4.trans (zf hp)))]
     ·ac_rfl;exact#[s4,h1,h2]
    rintro σ' G5 ⟨s5,L,hok,hL,rfl⟩:_;clear hcase;right;refine zj (λσ' G=>G=G5/\unG (zb bs) 40≠[]/\σ'=[!!o,!!a,-~~~m,!!D,!!Df,Ba (.int (0+(i:Int))),!!D,!!L]) ?_ ?_
    ·ac_rfl;let#[xs,hX,hI]:=id hL;have hxl:=hI.len;rw[aa]at hxl;refine#[_,.inl #[_,x4 hX,rfl],yb (λh=>#[⋯,λp hp=>q Bc bs p D _ (hcp _ _ (.whole hTh hbey hok (By.mp ⋯))) hBb (sT3.trans (x9 (s5.trans (zf hp)))) (hT3.same (s5.trans (zf hp))) zc (hD.same (s5.trans (zf hp)))]) λh z=>h ?_];rw[z]at hxl;show ((xs.length:Nat):Int)=0;rw[hxl];rfl
    rintro σ' G6 ⟨rfl,hne,rfl⟩:0;ac_rfl;let#[xs,hX,hI]:=id hL;have hxl:=hI.len;rw[aa]at hxl;have hct:Ur xs Bb (Ba 8)=xs.take 8:=uj xs (k:=8) ∅;refine#[_,x4 hX,λp hp=>?_];rw[hct];have u1:=zf (o:=HO.lst (xs.take 8)) hp;have hS7:(upd G6 p (.lst (xs.take 8))) p=Ba (.lst (xs.take 8)):=zc;have hX7:=ja0 u1 _ _ hI;have hD7:=hD.same (s5.trans u1);refine#[#[_,x4 hS7],λE1 hE1=>?_];generalize upd G6 p (.lst (xs.take 8))=G7 at *;refine ja3 (xs:=xs.take 8) (λj Bg H'=>Same G7 H'/\H' E1=Ba (.lst Bg)/\Bg.length<=j/\EnsA K (ko E1 H') (((unG (zb bs) 40).take j).map (ku bs)) Bg) #[zf hE1,zc,al _,rfl] (λj Bg H' Z h=>x4 (h.1 _ _ hS7)) ?_ ?_
    ·refine nm4 ?_;rintro j x Bg H' hx ⟨hs,hH,hal,hEn⟩:_;have hjl:=(Bh.mp hx).1;have hj8:j<8:=by rw[aC]at hjl;lia
     rw[cZ hj8]at hx;let#[t,pt,ht,rfl,hpt]:=hX7.get3 hx;have htm:=(Bp.mp (ac ht)).1;right
     erw[xo]
     rfl'
     refine#[yz,D,pt,bs,t,rfl,(hD7.same hs).l,zp hs hpt,htm,hBb.ok ⋯,λe he=>(hBb.e e he).s,λp' s' H5 h1 h2 h3 h4=>?_];have hH5:=h1 _ _ hH;have hsE:s'≠E1:=λz=>by rw[z,hH]at h4;cases h4
     refine#[hH5,⋯,x8 hjl #[zu (hs.trans h1) hE1,zc,by rw[aj];erw[aG,bI];lia,?_]];rw[zP ht,am];exact (hEn.same ((vb h1).trans xH)).snoc ((EnA.new (e:=ku bs t) hH5 h2 h3 hsE).same xH)
    ·refine nmB ?_;rintro Bg H' ⟨hs,hH,hal,hEn⟩:_
     have hEn':EnsA K H' (((unG (zb bs) 40).take 8).map (ku bs)) Bg:=by
      have h1:=hEn.same vm;rw[aC,hxl]at h1
      have e:(unG (zb bs) 40).take (min 8 (unG (zb bs) 40).length)=(unG (zb bs) 40).take 8:=by
       rw[<- gb,aJ]
      rw[e]at h1;exact h1
     have hal8:Bg.length<=8:=by rw[aC]at hal;lia
     let#[xk,hxk,hek]:=hD7.same hs;have hkl:=hek.len;right;refine#[E1,rfl,xk,hxk,Bg,hH,⋯,λp2 hp2=>#[D,p2,#[bs,_,sT3.trans (x9 (s5.trans (u1.trans (hs.trans (zf hp2))))),hT3.same (s5.trans (u1.trans (hs.trans (zf hp2)))),#[xk,zf hp2 _ _ hxk,hek.same (zf hp2)],#[xk ++ Bg,x4 zc,(hEn'.same (zf hp2)).app (hek.same (zf hp2))],?_,λe he=>?_,hBb,λw es h=>hcp w es (.more hTh hbey hok hne h)],rfl,rfl]]
     ·rw[aj,aa,aC];lia
     ·rcases Bl.mp he with he | he
      ·exact hBb.e e he
      ·let#[t,ht,rfl]:=Bj.mp he;exact UT hBb hbey hnear (Bp.mp (bA ht)).1
   ·refine nmB ?_;rintro σ H' ⟨Dk,Df,v5,v6,v7,hC,rfl⟩:_;rw[show ((m:Int)+1).toNat=m+1 by lia,eD]at hC;right;exact#[Dk,Df,hC,_,_,_,rfl]
  rintro σ H3 ⟨Dk,Df,v5,v6,v7,⟨kept,fresh,sT,hT,hK,hF,hfl,hfE,hB,hcp⟩,rfl⟩:0;ac_rfl;exact#[⋯,λp hp=>q Bd kept p Dk _ (hcp _ _ (.out kept fresh)) hB (sT.trans (x9 (zf hp))) (hT.same (zf hp)) zc (hK.same (zf hp))]
def ThinL.pairs(h:ThinL k l ns zs)(hp:zb bs=zb zs)(hE:∀e ∈ bs,EB l e):ThinL k l ns bs:=by
 have key:∀(i:Nat) (a:Ent),bs[i]? = Ba a->∃z,zs[i]? = Ba z/\z.1=a.1/\z.2.1=a.2.1:=λi a ha=>by
  have h1:(zb bs)[i]? = Ba (a.1,a.2.1):=by unfold zb;rw[au,ha];rfl
  rw[hp]at h1;unfold zb at h1;rw[au]at h1;let#[z,hz,e]:=Bo.mp h1;exact#[z,hz,(Prod.ext_iff.mp e).1,(Prod.ext_iff.mp e).2]
 refine#[#[hE,λe he=>?_],λi j a b ha hb hij=>?_,λi j a b ha hb hij=>?_,λi j a b ha hb=>?_]
 ·let#[i,hi]:=Bw.mp he;let#[z,hz,e1,e2]:=key i e hi;rw[<- e1,<- e2];exact h.rl.lt z (ac hz)
 all_goals
  let#[x,hx,e1,e2]:=key i a ha;let#[y,hy,f1,f2]:=key j b hb;rw[<- f1]
 ·rw[<- e1];exact h.up i j x y hx hy hij
 ·rw[<- e1];exact h.no1 i j x y hx hy hij
 ·rw[<- e2];exact h.no2 i j x y hx hy
def Z5{w:()}{i:Nat}(hr:ps[i]? = Ba r)(h:zw w q (sdl r f).1=Bc):yn ps w ((i:Int),q,f)=Ba (yX w q (sdl r f).1 (sdl r f).2):=by
 have hi:=(Bh.mp hr).1
 have e:ps.getD ((i:Int),q,f).1.toNat ([],[])=r:=by
  show ps.getD ((i:Int)).toNat ([],[])=r;rw[aA,ae,hr];rfl
 rw[yE (show 0<=((i:Int),q,f).1/\((i:Int),q,f).1<ps.length by constructor <;> simp <;> lia),e,w6 h]
def zah(h:e ∈ fEs rs n):EOk rs e:=by
 let#[i,p,hi,hp,rfl]:=jk h;show yh rs p.1 [((i:Int),(0:Int),Bc)]=Ba p.2
 have hs:zw p.1 0 (sdl p Bc).1=Bc:=by
  show zw p.1 0 p.1=Bc;refine u6 #[⋯,⋯,?_];show (p.1.drop 0).take p.1.length=p.1;rw[dL,aJ]
 erw[yh,Z5 hp hs,cq]
 show Ba (yX p.1 0 p.1 p.2)=Ba p.2;congr 1;unfold yX;show p.1.take 0 ++ p.2 ++ p.1.drop (0+p.1.length)=p.2;rw[bv,bg,bf ⋯,aT]
def zcu(hb:∀e ∈ bs,EOk rs e)(ht:t ∈ ovA (zb bs) (zb bs).length):EOk rs (ku bs t):=by
 let#[i1,i2,i3,i4]:=j6 ht;obtain⟨r,hr⟩:∃r,(zb bs)[t.1]? = Ba r:=#[_,af i1];obtain⟨r2,hr2⟩:∃r,(zb bs)[t.2.1]? = Ba r:=#[_,af i2];have l1:=xE hr;have l2:=xE hr2;have d1:(zb bs).getD t.1 ([],[])=r:=by rw[ae,hr];rfl
 have d2:(zb bs).getD t.2.1 ([],[])=r2:=by rw[ae,hr2];rfl
 rw[l1]at i3;rw[l1,l2]at i4;have eA:pkA (zb bs) t=yX (yu r.1 r2.1 t.2.2) 0 r.1 r.2:=by unfold pkA;rw[l1,l2,d1]
 have eB:pkB (zb bs) t=yX (yu r.1 r2.1 t.2.2) (t.2.2:Nat) r2.1 r2.2:=by unfold pkB;rw[l1,l2,d2]
 refine jH hb ?_;show yh (zb bs) (pkA (zb bs) t) [((t.1:Int),(0:Int),Bd),((t.2.1:Int),(t.2.2:Int),Bc)]=Ba (pkB (zb bs) t);let#[b1,b2]:=WV r.2 (kR r.1 r2.1 t.2.2);rw[eA,eB];have h1:=Z5 (f:=Bd) (q:=0) hr (w:=yX (yu r.1 r2.1 t.2.2) 0 r.1 r.2) b1;have h2:=Z5 (f:=Bc) (q:=(t.2.2:Int)) hr2 (w:=yu r.1 r2.1 t.2.2) (jP ⋯ i4)
 have h1':yn (zb bs) (yX (yu r.1 r2.1 t.2.2) 0 r.1 r.2) ((t.1:Int),(0:Int),Bd)=Ba (yu r.1 r2.1 t.2.2):=by
  rw[h1];congr 1
 have h2':yn (zb bs) (yu r.1 r2.1 t.2.2) ((t.2.1:Int),(t.2.2:Int),Bc)=Ba (yX (yu r.1 r2.1 t.2.2) (t.2.2:Nat) r2.1 r2.2):=h2
 erw[yh,h1',h2',cq]
def JC(h:uL k l ns 20 es (Ba bs))(hb:jl bs=Bd)(hz:ThinL k l ns zs)(hp:zb bs=zb zs):BG k l ns bs:=by
 let#[b1,_]:=XQ hb
 have key:∀e ∈ bs,∃z ∈ zs,z.1=e.1/\z.2.1=e.2.1:=λe he=>by
  have:(e.1,e.2.1) ∈ zb zs:=by rw[<- hp];exact Bj.mpr #[e,he,rfl]
  let#[z,hz,e2]:=Bj.mp this;injection e2 with h1 h2;exact#[z,hz,h1,h2]
 refine#[⋯,λe he=>?_,λe he=>?_]
 ·let#[z,hzm,h1,h2]:=key e he;have hE:=hz.rl.e z hzm;have hn:=j7 h bs rfl e he;unfold qY at hn;exact#[⋯,⋯,⋯,by rw[<- h1];exact hE.ma,by rw[<- h2];exact hE.mb]
 ·let#[z,hzm,h1,h2]:=key e he;rw[<- h1,<- h2];exact hz.rl.lt z hzm
def Gd(rs:List zH)(k:Nat)(l:())(ns:List Int)(es:List Ent):Prop:=(∀e ∈ es,EOk rs e)/\(es=[]\/(ThinL k l ns es/\jl es=Bd/\BG k l ns es))
def X8(G:OG l ns k)(h:uL k l ns 20 es (Ba bs))(hb:jl bs=Bd)(he:∀e ∈ es,EB l e)(ho:∀e ∈ es,EOk rs e):Gd rs k l ns bs:=by let#[h1,zs,hz,hp]:=WL (rs:=rs) G h bs rfl he ho;have hB:=JC h hb hz hp;exact#[h1,.inr #[hz.pairs hp hB.e,hb,hB]]
theorem zeI(G:OG l ns k){kept fresh es:List Ent}{w:Bool}(h:Cpl k l ns n kept fresh w es):(∀e ∈ fresh,EB l e)->(∀e ∈ fresh,EOk rs e)->Gd rs k l ns kept->Gd rs k l ns es:=by
 induction h with
 | out kept fresh=>exact λZ Z h=>h
 | slim _=>exact λZ Z h=>h
 | far h hb _ _=>exact λhe ho Z=>X8 G h hb he ho
 | whole h hb _ _=>exact λhe ho Z=>X8 G h hb he ho
 | @more n kept fresh bs es w h hb ho' hu r ih =>
  intro he ho _;have hg:=X8 (rs:=rs) G h hb he ho
  have hB:BG k l ns bs:=by
   let#[h1,zs,hz,hp]:=WL (rs:=rs) G h bs rfl he ho;exact JC h hb hz hp
  have hnear:∀e ∈ bs,e.2.2.length<=240:=λe hm=>by
   have:=j7 h bs rfl e hm;unfold qY at this;lia
  refine ih (λe hm=>?_) (λe hm=>?_) hg
  ·rcases Bl.mp hm with hm | hm
   ·exact hB.e e hm
   ·let#[t,ht,rfl]:=Bj.mp hm;exact UT hB hb hnear (Bp.mp (bA ht)).1
  ·rcases Bl.mp hm with hm | hm
   ·exact hg.1 e hm
   ·let#[t,ht,rfl]:=Bj.mp hm;exact zcu hg.1 (Bp.mp (bA ht)).1
def KG{w o:()}{q:Nat}(h:zw w (q:Int) o=Bc):w.take q ++ o ++ w.drop (q+o.length)=w:=by
 unfold zw at h;let#[_,_,e]:=u5 h;rw[aA]at e
 calc w.take q ++ o ++ w.drop (q+o.length)=w.take q ++ ((w.drop q).take o.length ++ (w.drop q).drop o.length):=by rw[e,eS,aQ]
  _=w.take q ++ w.drop q:=by rw[bY]
  _=w:=bY q w
def Rw(ps:List zH)(u v:()):Prop:=∃p,p ∈ ps/\∃a b,u=a ++ p.1 ++ b/\v=a ++ p.2 ++ b
inductive Rws(ps:List zH):()->()->Prop where
 | nil {u:()}:Rws ps u u
 | cons {u v w:()} (h:Rw ps u v) (h2:Rws ps v w):Rws ps u w
def Rw.ctx(h:Rw ps u v)(c d:()):Rw ps (c ++ u ++ d) (c ++ v ++ d):=by let#[p,hp,a,b,rfl,rfl]:=h;exact#[p,hp,c ++ a,b ++ d,by erw[aQ],by erw[aQ]]
theorem Rws.ctx(h:Rws ps u v)(c d:()):Rws ps (c ++ u ++ d) (c ++ v ++ d):=by
 induction h with
 | nil=>exact .nil
 | cons s _ ih=>exact .cons (s.ctx c d) ih
def UC{w:()}{p:zH}{q:Nat}(h:zw w (q:Int) p.1=Bc):w=w.take q ++ p.1 ++ w.drop (q+p.1.length)/\yX w (q:Int) p.1 p.2=w.take q ++ p.2 ++ w.drop (q+p.1.length):=by refine#[(KG h).symm,?_];unfold yX;rw[aA]
end
section
variable{k:Nat}{l:()}{ws:List Int}{ps:List zH}
end in def mu(k:Nat)(l:())(ws:List Int)(Ws:List (()))(v:()):Nat:=Ws.countP λy=>zU k l ws y v
end
def zcO(hR:zcw R)(hp:∀p ∈ rs,R p.1 p.2)(h:yn rs u s=Ba v):R u v:=by
 by_cases hb:0<=s.1/\s.1<rs.length
 ·rw[yE hb]at h
  have hm:rs.getD s.1.toNat ([],[]) ∈ rs:=by
   rw[ae,af ⋯];exact d5 _
  generalize rs.getD s.1.toNat ([],[])=r at *;by_cases hs:zw u s.2.1 (sdl r s.2.2).1=Bc
  ·rw[w6 hs]at h;have h0:0<=s.2.1:=(u5 hs).1;obtain⟨q,hq⟩:∃q:Nat,s.2.1=(q:Int):=#[s.2.1.toNat,⋯];rw[hq]at h hs;let#[e1,e2]:=UC (p:=sdl r s.2.2) hs;rw[e2]at h;cases h
   conv=>arg 1;rw[e1]
   refine hR.ctx _ _ ?_;unfold sdl;split
   ·exact hp r hm
   ·exact hR.symm (hp r hm)
  ·rw[w9 hs]at h;cases h
 ·rw[y6 hb]at h;cases h
theorem zbj(hR:zcw R)(hp:∀p ∈ rs,R p.1 p.2):∀{ss:List Stp} {u v:()},yh rs u ss=Ba v->R u v
 | [],u,v,h=>by cases h;exact hR.refl _
 | s::ss,u,v,h=>by
  let#[w1,h1,h2]:=uB h;exact hR.trans (zcO hR hp h1) (zbj hR hp h2)
section
variable{k:Nat}{l:()}{ws:List Int}{ps:List zH}
end
section
variable{k:Nat}{l:()}{ws:List Int}{es fs:List Ent}
end
mutual section
def WH(K:sL):List V->Hp->VK->Prop:=λxs H Q=>∃p ys,xs=[.ref p]/\(SqL K H p ys\/SqT K H p ys)/\∀l,H l=Bb->Q (.ref l) (upd H l (.lst ys))
structure TabAt(H:Hp)(t:sM)(rs:List sM)(tab:List (List Int)):Prop where
 top:H t=Ba (.lst (rs.map V.ref))
 len:rs.length=tab.length
 row:∀(i:Nat) (r:sM) (x:List Int),rs[i]? = Ba r->tab[i]? = Ba x->H r=Ba (.lst (x.map V.int))
def TabAt.same{H H':Hp}{t:sM}{rs:List sM}{tab:List (List Int)}(h:TabAt H t rs tab)(e:Same H H'):TabAt H' t rs tab:=#[e _ _ h.top,h.len,λi r x h1 h2=>e _ _ (h.row i r x h1 h2)]
abbrev zea(x:List Int):L3.D:=.lst (x.map L3.D.int)
theorem U2 : ∀{rs:List sM} {tab:List (List Int)},rs.length=tab.length->(∀(i:Nat) (r:sM) (x:List Int),rs[i]? = Ba r->tab[i]? = Ba x->H r=Ba (.lst (x.map V.int)))->Iss K H (tab.map zea) (rs.map V.ref)
 | [],[],_,_=>by erw[aI,Iss]
 | r::rs,x::tab,hl,h=>by
  erw[ao,Iss]
  refine#[_,_,rfl,?_,U2 ↥hl λi r' x' h1 h2=>h (i+1) r' x' h1 h2]
  erw[zea,Is]
  exact#[r,_,rfl,x4 (h 0 r x rfl rfl),Iss.ints x]
def TabAt.is(h:TabAt H t rs tab):Is K H (.lst (tab.map zea)) (.ref t):=by
 erw[Is]
 exact#[t,_,rfl,x4 h.top,U2 h.len h.row]
def zcJ(tab:List (List Int)):vG (tab.map zea)<=1:=XF λd h=>by
 let#[r,_,rfl]:=Bj.mp h
 erw[zea,dpD,uN]
 lia
structure xC(l:())(tab:List (List Int)):Prop where
 lo:1<=tab.length
 hi:tab.length<=8
 wd:∀x ∈ tab,x.length=l.length
 rm:∀x ∈ tab,∀n ∈ x,0<=n/\n<(tab.length:Int)
def TabAt.get(h:TabAt H t rs tab)(h0:0<=i)(h1:i<(tab.length:Int)):∃r x,atI (rs.map V.ref) i=Ba (.ref r)/\tab[i.toNat]? = Ba x/\H r=Ba (.lst (x.map V.int)):=by have hl:=h.len;let#[v,e1,e2]:=vN (xs:=rs.map V.ref) h0 (by rw[aa];lia);rw[au]at e2;let#[r,hr,rfl]:=Bo.mp e2;have hx:tab[i.toNat]? = Ba (tab[i.toNat]'⋯):=af ⋯;exact#[r,_,e1,hx,h.row _ _ _ hr hx]
def VF{D:sM}(hg:g=yv 0)(h:TabAt H t rs tab)(hb:tab.length<=1000)(hD:H D=Bb)(q:∀(rs':List sM) (H':Hp),Same H H'->TabAt H' D rs' tab->(∀r ∈ D::rs',H r=Bb)->D ∉ rs'->Q (.ref D) H') :
  CompL K t g xo (tCB (WH K) (zM (ya 0) xw)) 1 [] σ H Q D:=by
 have s16:=zX;have hl:=h.len;subst hg;refine ja3 (xs:=rs.map V.ref) (λi Bg H'=>∃rs':List sM,Bg=rs'.map V.ref/\rs'.length=i/\Same H H'/\H' D=Ba (.lst Bg)/\(∀r ∈ rs',H r=Bb/\r≠D)/\∀(j:Nat) (r:sM) (x:List Int),rs'[j]? = Ba r->tab[j]? = Ba x->H' r=Ba (.lst (x.map V.int))) #[[],rfl,rfl,zf hD,zc,λr h=>(nomatch h),λj r x h=>by simp at h] (λi Bg H' Z h'=>by let#[_,_,_,hs,_]:=h';exact x4 (hs _ _ h.top)) ?_ ?_
 ·refine nm4 ?_;rintro i v Bg H' hv ⟨rs',rfl,hi,hs,hH,hf,hr⟩:_;rw[au]at hv;let#[r,hr0,rfl]:=Bo.mp hv;have hil:=(Bh.mp hr0).1;have hx:tab[i]? = Ba (tab[i]'⋯):=af ⋯;right;generalize tab[i]'⋯=x at hx;have hrow:=hs _ _ (h.row i r x hr0 hx)
  erw[xo]
  rfl'
  erw[WH]
  rfl'
  refine#[yz,_,.inl (x4 hrow),λp hp=>#[zf hp _ _ hH,by rw[aa];lia,x8 (by rw[aa];lia) #[rs' ++ [p],by rw[am];rfl,by rw[aj,hi];rfl,zu (hs.trans (zf hp)) hD,zc,?_,?_]]]
  ·intro r' hr';rcases Bl.mp hr' with h' | h'
   ·exact hf r' h'
   ·rw[Bm.mp h'];refine#[?_,λe=>by rw[e]at hp;rw[hp]at hH;cases hH]
    cases e:H p with
    | none=>rfl
    | some o=>have:=hs _ _ e;rw[hp]at this;cases this
  ·intro j r' x' h1 h2;by_cases hj:j<i
   ·rw[bW ⋯]at h1;have hm:=hf r' (ac h1);rw[zt hm.2];exact zf hp _ _ (hr j r' x' h1 h2)
   ·rw[bG ⋯]at h1
    have hj0:j=i:=by
     have:=(Bh.mp h1).1;simp at this;lia
    subst hj0;rw[hi,eD]at h1;cases h1;rw[hx]at h2;cases h2;rw[zt (λe=>by rw[e]at hp;rw[hp]at hH;cases hH)];exact zc
 ·refine nmB ?_;rintro Bg H' ⟨rs',rfl,hi,hs,hH,hf,hr⟩:_;rw[aa]at hi;right
  exact q rs' H' hs #[hH,⋯,hr] (λr hr'=>by
   rcases Bk.mp hr' with rfl | h'
   ·exact hD
   ·exact (hf r h').1) λh'=>(hf D h').2 rfl
def U1{D:sM}(hg:g=yv 0)(h:TabAt H t rs tab)(hb:tab.length<=1000)(hD:H D=Bb)(q:∀(rs':List sM) (H':Hp),Same H H'->TabAt H' D rs' tab->(∀r ∈ D::rs',H r=Bb)->Q (.ref D) H') :
  CompL K t g xo (tCB (WH K) (zM (ya 0) xw)) 1 [] σ H Q D :=
 VF hg h hb hD λrs' H' s' t' f' Z=>q rs' H' s' t' f'
structure ze2(K:sL)(mg:sS->Option sN)(C:sM):Prop where
 xi:XI K C
 ini:ah K (.ref C) "__init__" = Ba (Ba (.builtin "ValueError.__init__"))
 g:mg "NoWorld" = Ba (.ref C)
 most:∃t,mg "MOST_ROOMS" = Ba (.int 8 t)
def jz:Sp:=λvs H Q Z=>∃(l:()) (a:sM) (rs:List sM) (tab:List (List Int)),vs=[⇑l,.ref a]/\l.length<=6/\TabAt H a rs tab/\xC l tab/\∀(t:sM) (rs':List sM) (H':Hp),Same H H'->TabAt H' t rs' tab->(∀r ∈ t::rs',H r=Bb)->Q (.ref t) H'
def nv:sQz 2 ["letters","table","row","room"] vF:=by nofun
def XR(B:Bt mg)(TNw:ze2 K mg CQ)(F:("table_of"^^^vF)):(1|||["letters","table"]) jz:=by
 let#[t6,g6]:=TNw.most
 exists Fun.okX F nv,0
 ·let#[l,a,rs,tab,rfl,hl6,hT,hG,q]:=h
  refine#[_,(zh (zJ (yf (qM wJ wJ zd (zA B.len (pv 1)) (yI (v:=.int 8) rfl g6 #[t6,rfl]))) (ze (ym hx rfl TNw.xi.toXC TNw.ini rfl TNw.g (za z6 zg)))
    zr) (zh (zR PassesOwn.leaving rfl (zY (pv 1)) (zq (i:=2) nv.nd rfl (.inl rfl)) (zG (zJ (zv uJ (zA B.len (pv 2)) (zA B.len (pv 0)) (zx _)) (ze (ym hx rfl TNw.xi.toXC TNw.ini rfl TNw.g (za z6 zg)))
     zr) (ze (zR PassesOwn.leaving rfl (zY (pv 2)) (zq (i:=3) nv.nd rfl (.inl rfl)) (ze (zJ (yf (qM wJ U7 zd (pv 3) (zA B.len (pv 1)))) (ze (ym hx rfl TNw.xi.toXC TNw.ini rfl TNw.g (za z6 zg)))
      zr)))))) (ze (zl (yM (own:=["row"]) (caps:=[]) (ix:=[]) (tt:=xo) (te:=(tCB (WH K) (zM (ya 0) xw))) rfl (zK (sc:=zi vF) rfl (!0) (!0) (!0) rfl (!0) (!0) rfl) (zY (pv 1)) (λZ Z Z Z Z Z=>zq (i:=0) (show List.Nodup [_] by decide) rfl (.inl rfl)) (λZ Z Z Z Z Z=>yg) (λZ Z Z Z Z Z=>(vn xF rfl B.list jb3 (za (pv 0) zg)))))))),?_]
  have s16:=zX;have hlen:=hT.len;have hlo:=hG.lo;have hhi:=hG.hi;change H'=H/\σ=%[~~~l,!!a|2]
  ·ac_rfl;exact#[_,.inl #[_,x4 hT.top,rfl],yb (λZ=>yb (λh=>w4 (by rw[aa];lia) h) λZ=>trivial) λh=>w4 (by rw[aa];lia) h]
  rintro σ H1 ⟨rfl,rfl⟩:0;change H'=H1/\∃v2 v3,σ=[~~~l,!!a,v2,v3]
  ·ac_rfl;refine#[#[_,x4 hT.top],jb0 (xs:=rs.map V.ref) (λi σ H'=>H'=H1/\∃v2 v3,σ=[~~~l,!!a,v2,v3]) #[rfl,Bb,Bb,rfl] (λi σ H' Z h=>by rw[h.1];exact x4 hT.top) ?_ λσ H' h=>h];refine nm4 ?_;rintro i y σ H' hy ⟨rfl,v2,v3,rfl⟩:_;rw[au]at hy;let#[r,hr,rfl]:=Bo.mp hy;have hil:=(Bh.mp hr).1;have hx:tab[i]? = Ba (tab[i]'⋯):=af ⋯;right;generalize tab[i]'⋯=x at hx;have hrow:=hT.row i r x hr hx;have hmx:=ac hx;have hw:=hG.wd x hmx;ac_rfl;refine#[_,.inl #[_,x4 hrow,rfl],⋯,yb (λh=>w4 (by rw[aa];lia) h) λZ=>#[#[_,x4 hrow],jb0 (xs:=x.map V.int) (λi σ H''=>H''=H'/\∃v2 v3,σ=[~~~l,!!a,v2,v3]) #[rfl,_,_,rfl] (λi σ H'' Z h=>by rw[h.1];exact x4 hrow) ?_ λσ H' h=>h]];refine nm4 ?_;rintro j y σ H'' hy ⟨rfl,v2,v3,rfl⟩:_;rw[au]at hy;let#[n,hn,rfl]:=Bo.mp hy;let#[n1,n2]:=hG.rm x hmx n (ac hn);right;ac_rfl;exact yb (λZ=>#[_,.inl #[_,x4 hT.top,rfl],yb (λh=>w4 (by rw[aa];lia) h) λZ=>trivial]) λh=>w4 n1 h
  rintro σ H2 ⟨rfl,v2,v3,rfl⟩:0;ac_rfl;exact#[#[_,x4 hT.top],λD hD=>U1 rfl hT ⋯ hD λrs' H' s' t' f'=>q D rs' H' s' t' f']
structure zaJ(K:sL)(mg:sS->Option sN)(CV:sM):Prop where
 cl:Cls K CV
 g:mg "World" = Ba (.ref CV)
 nl:NoAttr K CV "letters"
 nt:NoAttr K CV "table"
def WorAt(CV:sM)(H:Hp)(o:sM)(l:())(t:sM)(rs:List sM)(tab:List (List Int)):Prop:=∃dx,H o=Ba (.ins CV dx [("letters",⇑l),("table",.ref t)])/\TabAt H t rs tab
def WorAt.same{CV:sM}{H H':Hp}{o t:sM}{l:()}{rs:List sM}{tab:List (List Int)}(h:WorAt CV H o l t rs tab)(e:Same H H'):WorAt CV H' o l t rs tab:=by let#[dx,h1,h2]:=h;exact#[dx,e _ _ h1,h2.same e]
def TabAt.updI(hp:H p=Ba (.ins C dx fs))(h:TabAt H t rs tab):TabAt (upd H p (.ins C dx gs)) t rs tab:=by
 refine#[?_,h.len,λi r x h1 h2=>?_]
 ·rw[zt (λe=>by have:=h.top;rw[e,hp]at this;cases this)];exact h.top
 ·have h3:=h.row i r x h1 h2;rw[zt (λe=>by rw[e,hp]at h3;cases h3)];exact h3
def ux(CV:sM):Sp:=λvs H Q Z=>∃(x dx a:sM) (l:()) (rs:List sM) (tab:List (List Int)),vs=[.ref x,⇑l,.ref a]/\kj l=Bc/\TabAt H a rs tab/\xC l tab/\H x=Ba (.ins CV dx []) /\
 ∀(t:sM) (rs':List sM) (H':Hp),(∀b o,b≠x->H b=Ba o->H' b=Ba o)->(∀r ∈ t::rs',H r=Bb)->WorAt CV H' x l t rs' tab->Q .non H'
def Zh:sQz 3 ["self","letters","table"] vf:=by nofun
def Ze(B:Bt mg)(CLw:zaJ K mg CV)(F:Fun K "__init__" "World.__init__" vf f fd)(mE:(2>>>"letters_of") ["text"] [] (wB C))(rM:(1>>>"table_of") ["letters","table"] [] jz):(4|||["self","letters","table"]) (ux CV):=by
 exists Fun.okX F Zh,0
 ·let#[x,dx,a,l,rs,tab,rfl,hg,hT,hG,hX,q]:=h
  refine#[_,(zh (YK (pv 0) (clP hx mE hr .nil rfl (za (pv 1) zg)) rfl) (ze (YK (pv 0) (clP hx rM hr .nil rfl (za (pv 1) (za (pv 2) zg))) rfl))),?_]
  have s16:=zX;have hg':=u5 hg;change H'=upd H x (.ins CV dx [("letters",⇑l)])/\σ=[!!x,~~~l,!!a]
  ·ac_rfl;exact#[l,rfl,⋯,λZ=>#[_,_,_,hX,CLw.cl,CLw.nl,∅,rfl],λe=>by rw[hg]at e;cases e]
  rintro σ H1 ⟨rfl,rfl⟩:0;ac_rfl;refine#[l,a,rs,tab,rfl,⋯,hT.updI hX,hG,λt rs' H' s' t' f'=>?_];have hX2:=s' _ _ (zc (H:=H) (a:=x) (o:=.ins CV dx [("letters",⇑l)]))
  have fr:∀r ∈ t::rs',H r=Bb/\r≠x:=λr hr'=>by
   have h1:=f' r hr';have h2:r≠x:=λe=>by rw[e,zc]at h1;cases h1
   rw[zt h2]at h1;exact#[h1,h2]
  exact#[_,_,_,hX2,CLw.cl,CLw.nt,by show 1<1000;decide,q t rs' _ (λb o hb e=>by rw[zt hb];exact s' _ _ (by rw[zt hb];exact e)) (λr hr'=>(fr r hr').1) #[dx,zc,t'.updI hX2]]
theorem JU{R:sM->Hp->Prop}(hg:kj l=Bc)(hT:TabAt H a rs tab)(hG:xC l tab)(q:∀(x t:sM) (rs':List sM) (H':Hp),Same H H'->H x=Bb->(∀r ∈ t::rs',H r=Bb)->WorAt CV H' x l t rs' tab->R x H') :
  ∀x dx,H x=Bb->H dx=Bb->dx≠x->ux CV [.ref x,⇑l,.ref a] (upd (upd H dx (.own x)) x (.ins CV dx [])) (λv H2=>v=.non/\R x H2) E:=by
 intro x dx hx hdx hne;have sd:=zf (o:=.own x) hdx;have hx1:(upd H dx (.own x)) x=Bb:=by rw[zt hne.symm];exact hx
 have sx:=sd.trans (zf (o:=.ins CV dx []) hx1);refine#[x,dx,a,l,rs,tab,rfl,hg,hT.same sx,hG,zc,λt rs' H' k f hc=>#[rfl,q x t rs' H' (λb o e=>k b o (zN e hx) (sx b o e)) hx (λr hr=>?_) hc]]
 cases e:H r with
 | none=>rfl
 | some o=>have:=sx _ _ e;rw[f r hr]at this;cases this
def qV(CV:sM):Sp:=λvs H Q Z=>∃(o t:sM) (l:()) (rs:List sM) (tab:List (List Int)),vs=[.ref o]/\WorAt CV H o l t rs tab/\Q (.int (tab.length:Nat)) H
def ke:sQz 1 ["self"] wv:=by nofun
def kq(B:Bt mg)(CLw:zaJ K mg CV)(F:Fun K "rooms" "World.rooms" wv f fd):(1&&&["self"]) (qV CV):=by
 exists F.ok ke
 ·let#[o,t,l,rs,tab,rfl,hW,q]:=h;refine#[_,(ze (zl (zA B.len (ju (pv 0) rfl)))),?_];have s16:=zX
  rfl'
  let#[dx,ho,hT]:=hW;exact#[_,_,_,ho,CLw.cl,CLw.nt,_,rfl,_,.inl #[_,x4 hT.top,rfl],by rw[aa,hT.len];exact q]
def UX(h:WorAt CV H o l t rs tab)(q:Q (.int (tab.length:Nat)) H):qV CV [.ref o] H Q E:=#[o,t,l,rs,tab,rfl,h,q]
def Xs(l:())(tab:List (List Int))(r:Int)(c:Nat):Int:=(tab.getD r.toNat []).getD (l.idxOf c) 0
def ue(l:())(tab:List (List Int))(r:Int)(w:()):Int:=w.foldl (Xs l tab) r
def K2(hG:xC l tab)(h0:0<=r)(h1:r<(tab.length:Int))(hc:c ∈ l):0<=Xs l tab r c/\Xs l tab r c<(tab.length:Int):=by have hx:tab[r.toNat]? = Ba (tab[r.toNat]'⋯):=af ⋯;generalize tab[r.toNat]'⋯=x at hx;have hm:=ac hx;have hi:=bP hc;rw[<- hG.wd x hm]at hi;have hn:x[l.idxOf c]? = Ba x[l.idxOf c]:=af hi;unfold Xs;rw[ae (l:=tab),hx,fA,ae,hn,fA];exact hG.rm x hm _ (ac hn)
theorem ZT(hG:xC l tab):∀{w:()} {r:Int},0<=r->r<(tab.length:Int)->(∀c ∈ w,c ∈ l)->0<=ue l tab r w/\ue l tab r w<(tab.length:Int)
 | [],r,h0,h1,_=>#[h0,h1]
 | c::w,r,h0,h1,hw=>by
  let#[a,b]:=K2 hG h0 h1 (hw c (by simp));exact ZT hG (w:=w) a b λx hx=>hw x (by simp [hx])
def YS{w:()}(h:w[i]? = Ba c):ue l tab r (w.take (i+1))=Xs l tab (ue l tab r (w.take i)) c:=by unfold ue;rw[zP h,List.foldl_append];rfl
def zbq(hG:xC l tab){x:List Int}(hx:tab[r.toNat]? = Ba x){c:Nat}(hc:c ∈ l):atI (x.map V.int) ((l.idxOf c:Nat):Int)=Ba (.int (Xs l tab r c)):=by have hm:=ac hx;have hi:=bP hc;rw[<- hG.wd x hm]at hi;have hn:x[l.idxOf c]? = Ba x[l.idxOf c]:=af hi;refine wU ?_;unfold Xs;rw[au,hn,ae (l:=tab),hx,fA,ae,hn];rfl
def jc(CV:sM):Sp:=λvs H Q Z=>∃(o t:sM) (l:()) (rs:List sM) (tab:List (List Int)) (r:Int) (w:()),vs=[.ref o,.int r,⇑w]/\WorAt CV H o l t rs tab/\xC l tab/\0<=r/\r<(tab.length:Int)/\(∀c ∈ w,c ∈ l)/\Q (.int (ue l tab r w)) H
def mG:sQz 3 ["self","room","word","letter"] vV:=by nofun
def Yu(B:Bt mg)(CLw:zaJ K mg CV)(F:Fun K "led" "World.led" vV f fd):(1&&&["self","room","word"]) (jc CV):=by
 exists F.ok mG
 ·let#[o,t,l,rs,tab,r,w,rfl,hW,hG,h0,h1,hw,q]:=h
  refine#[_,(zG (zR p8 rfl (Yx (pv 2)) (zq (i:=3) mG.nd rfl (.inl rfl)) (ze (zy 1 mG.nd (zk ix_list (zk ix_list (ju (pv 0) rfl) (pv 1)) (wf bK fR fS JO (ju (pv 0) rfl) (za (pv 3) zg)))))) (ze (zl (pv 1)))),?_]
  have s16:=zX
  rfl'
  let#[dx,ho,hT]:=hW;refine ForS.by (λi σ H'=>H'=H/\∃v3,σ=[!!o,Ba (.int (ue l tab r (w.take i))),~~~w,v3]) #[rfl,Bb,rfl] ?_ ?_
  ·refine nm4 ?_;rintro i c σ H' hc ⟨rfl,v3,rfl⟩:_;have hcl:=hw c (ac hc);let#[a,b]:=ZT hG (w:=w.take i) h0 h1 λx hx=>hw x (bA hx);let#[r',x,e1,e2,e3]:=hT.get a b;right;ac_rfl;exact#[_,_,_,ho,CLw.cl,CLw.nt,_,rfl,_,rfl,_,x4 hT.top,_,e1,_,_,_,ho,CLw.cl,CLw.nl,_,rfl,trivial,_,rfl,_,Vo hcl,_,rfl,_,x4 e3,by rw[YS hc];exact zbq hG e2 hcl]
  ·refine nmB ?_;rintro σ H' ⟨rfl,v3,rfl⟩:0
   rfl'
   rw[aJ];exact q
def qZ{w:()}(h:WorAt CV H o l t rs tab)(hG:xC l tab)(h0:0<=r)(h1:r<(tab.length:Int))(hw:∀c ∈ w,c ∈ l)(q:Q (.int (ue l tab r w)) H):jc CV [.ref o,.int r,⇑w] H Q E:=#[o,t,l,rs,tab,r,w,rfl,h,hG,h0,h1,hw,q]
def ve(l:())(tab:List (List Int))(u v:()):Option Nat:=(aK tab.length).find? λr=>decide (ue l tab (r:Int) u≠ue l tab (r:Int) v)
def vO:Option Nat->V
 | none=>.non
 | some r=>.int (r:Nat)
def Yv{r:Nat}(h1:r<tab.length)(h2:ue l tab (r:Int) u≠ue l tab (r:Int) v)(h3:∀j:Nat,j<r->ue l tab (j:Int) u=ue l tab (j:Int) v):ve l tab u v=Ba r:=by unfold ve;rw[List.find?_eq_some_iff_getElem];refine#[by simpa using h2,r,by simpa using h1,by simp,λj hj=>?_];simpa using h3 j hj
def Y4(h:∀j:Nat,j<tab.length->ue l tab (j:Int) u=ue l tab (j:Int) v):ve l tab u v=Bb:=by unfold ve;rw[dI];intro j hj;simpa using h j ↥hj
def vD(CV:sM):Sp:=λvs H Q Z=>∃(o t:sM) (l:()) (rs:List sM) (tab:List (List Int)) (u v:()),vs=[.ref o,⇑u,⇑v]/\WorAt CV H o l t rs tab/\xC l tab/\(∀c ∈ u,c ∈ l)/\(∀c ∈ v,c ∈ l)/\Q (vO (ve l tab u v)) H
def Wc(h:WorAt CV H o l t rs tab)(hG:xC l tab)(hu:∀c ∈ u,c ∈ l)(hv:∀c ∈ v,c ∈ l)(q:Q (vO (ve l tab u v)) H):vD CV [.ref o,⇑u,⇑v] H Q E:=#[o,t,l,rs,tab,u,v,rfl,h,hG,hu,hv,q]
def nc:sQz 3 ["self","one","other","room"] xY:=by nofun
def jW(B:Bt mg)(CL:zaJ K mg CV)(F:Fun K "parted" "World.parted" xY f fd)(M_world_rooms:DM P w K mg base CX0 1 CV "rooms" ["self"] (qV CV))(M_world_led:DM P w K mg base CX0 1 CV "led" ["self","room","word"] (jc CV)):(2&&&["self","one","other"]) (vD CV):=by
 exists F.ok nc
 ·let#[o,t,l,rs,tab,u,v,rfl,hW,hG,hu,hv,q]:=h
  refine#[_,(zG (zR p8 rfl (zV rfl B.range (za (me0 M_world_rooms CL.cl hr (pv 0)) zg)) (zq (i:=3) nc.nd rfl (.inl rfl)) (ze (zJ (zv uJ (me1 M_world_led CL.cl hr (pv 0) (za (pv 3) (za (pv 1) zg))) (me1 M_world_led CL.cl hr (pv 0) (za (pv 3) (za (pv 2) zg))) (zx _)) (ze (zl (pv 3)))
     zr))) (ze (zl yd))),?_]
  have s16:=zX
  rfl'
  let#[dx,ho,hT]:=id hW;have hhi:=hG.hi;refine#[_,_,ho,rfl,UX hW ?_];refine#[_,rfl,⋯,⋯,ja2 (λi σ H'=>H'=H/\(∀j:Nat,j<i->ue l tab (j:Int) u=ue l tab (j:Int) v)/\∃v3,σ=[!!o,~~~u,~~~v,v3]) #[rfl,λj h=>w4 h (bq j),Bb,rfl] ?_ ?_]
  ·refine nm3 ?_;rintro i σ H' hi ⟨rfl,hb,v3,rfl⟩:_;have hi':i<tab.length:=⋯;have e0:(0:Int)+(i:Int)=(i:Int):=⋯;right;ac_rfl;refine#[_,_,ho,rfl,qZ hW hG ⋯ ⋯ hu #[_,_,ho,rfl,qZ hW hG ⋯ ⋯ hv ?_]];rw[e0];ac_rfl;refine yb (λh=>?_) λh j hj=>?_
   ·rw[Yv hi' h hb]at q;exact q
   ·by_cases hj':j<i
    ·exact hb j hj'
    ·have:j=i:=⋯;rw[this];exact Decidable.not_not.mp h
  ·refine nmB ?_;rintro σ H' ⟨rfl,hb,v3,rfl⟩:0;ac_rfl;rw[Y4 λj hj=>hb j ⋯]at q;exact q
def wH(l:())(tab:List (List Int)):List zH->Nat->Option (Nat × Nat)
 | [],_=>Bb
 | p::ps,i=>match ve l tab p.1 p.2 with
  | some r=>Ba (i,r)
  | none=>wH l tab ps (i+1)
theorem kX : ∀{ps:List zH} {i k:Nat} {p:zH},ps[i]? = Ba p->(∀(j:Nat) (q:zH),j<i->ps[j]? = Ba q->ve l tab q.1 q.2=Bb)->∀r,ve l tab p.1 p.2=Ba r->wH l tab ps k=Ba (k+i,r)
 | q::ps,0,k,p,h,_,r,hr=>by
  cases h
  erw[wH,hr,Nat.add_zero]
 | q::ps,i+1,k,p,h,hb,r,hr=>by
  have h0:=hb 0 q ⋯ rfl
  erw[wH,h0]
  rw[kX (ps:=ps) (i:=i) (k:=k+1) h (λj q' hj e=>hb (j+1) q' ⋯ e) r hr];congr 2;lia
theorem kQ : ∀{ps:List zH} {k:Nat},(∀(j:Nat) (q:zH),ps[j]? = Ba q->ve l tab q.1 q.2=Bb)->wH l tab ps k=Bb
 | [],_,_=>rfl
 | q::ps,k,hb=>by
  erw[wH,hb 0 q rfl]
  exact kQ λj q' e=>hb (j+1) q' e
def qe(K:sL)(CV:sM):Sp:=λvs H Q Z=>∃(o t a:sM) (l:()) (rs:List sM) (tab:List (List Int)) (ps:List zH),vs=[.ref o,.ref a]/\LsA K H a (ps.map dR)/\WorAt CV H o l t rs tab/\xC l tab/\(∀p ∈ ps,(∀c ∈ p.1,c ∈ l)/\∀c ∈ p.2,c ∈ l) /\
 (wH l tab ps 0=Bb->∀H',Same H H'->Q .non H')/\∀i r,wH l tab ps 0=Ba (i,r)->∀p H',Same H H'->H' p=Ba (.tup [.int (i:Nat),.int (r:Nat)])->Q (.ref p) H'
def iE:sQz 2 ["self","pacts","number","pact","room"] xV:=by nofun
def jL(B:Bt mg)(CL:zaJ K mg CV)(F:Fun K "broken" "World.broken" xV f fd)(M_world_parted:DM P w K mg base CX0 2 CV "parted" ["self","one","other"] (vD CV)):(3&&&["self","pacts"]) (qe K CV):=by
 exists F.ok iE
 ·let#[o,t,a,l,rs,tab,ps,rfl,hA,hW,hG,hp,q1,q2]:=h
  refine#[_,(zG (zR p8 rfl (y9 rfl B.enum (za (pv 1) zg)) (vQ (n:=2) rfl (zZ (zq (i:=2) iE.nd rfl (.inl rfl)) (zZ (zq (i:=3) iE.nd rfl (.inl rfl)) xW))) (zG (zy 4 iE.nd (me1 M_world_parted CL.cl hr (pv 0) (za (!-3) (za (!-3) zg)))) (ze (zJ (zv op_notN' (pv 4) yd (zx _)) (ze (zl (zW (za (pv 2) (za (pv 4) zg)))))
     zr)))) (ze (zl yd))),?_]
  have s16:=zX
  rfl'
  let#[xs,hX,hI]:=id hA;have hXL:=hI.len;rw[aa]at hXL;refine#[#[_,x4 hX],jb1 (xs:=xs) (λi σ H'=>Same H H'/\(∀(j:Nat) (p:zH),j<i->ps[j]? = Ba p->ve l tab p.1 p.2=Bb)/\∃v2 v3 v4,σ=[!!o,!!a,v2,v3,v4]) #[ja1 _,λj p h=>w4 h (bq j),_,_,_,rfl] ?_ ?_ ?_]
  ·rintro i σ H' _ ⟨hs,_⟩;exact x4 (hs _ _ hX)
  ·refine nmE ?_;rintro i x σ H' p hx ⟨hs,hb,v2,v3,v4,rfl⟩ hpn:_;let#[r,pr,hri,rfl,hqr]:=hI.getR hx;have hm:=hp r (ac hri);have s2:=hs.trans (zf (o:=.tup [.int (i:Nat),.ref pr]) hpn);have hW2:=hW.same s2;let#[dx,ho,_]:=id hW2;have hq2:=zp s2 hqr;right;ac_rfl;refine#[_,x6 zc,rfl,_,_,rfl,_,_,rfl,rfl,_,_,ho,rfl,_,rfl,_,hq2,_,rfl,_,rfl,_,hq2,_,rfl,Wc hW2 hG hm.1 hm.2 ?_]
   cases e:ve l tab r.1 r.2 with
   | none =>
    erw[vO]
    ac_rfl;refine#[s2,λj p' hj hp'=>?_];by_cases hj':j<i
    ·exact hb j p' hj' hp'
    ·have:j=i:=⋯;rw[this,hri]at hp';cases hp';exact e
   | some z =>
    erw[vO]
    ac_rfl;have hbr:=kX (k:=0) hri hb z e;rw[eh]at hbr;exact#[⋯,λp3 hp3=>q2 i z hbr p3 _ (s2.trans (zf hp3)) zc]
  ·refine nmB ?_;rintro σ H' ⟨hs,hb,v2,v3,v4,rfl⟩:0;ac_rfl;exact q1 (kQ λj p' e=>hb j p' (by have:=(Bh.mp e).1;lia) e) H' hs
structure KF(K:sL)(mg:sS->Option sN)(CM:sM):Prop where
 xi:XI K CM
 ini:ah K (.ref CM) "__init__" = Ba (Ba (.builtin "ValueError.__init__"))
 g:mg "TooMany" = Ba (.ref CM)
 most:∃t,mg "MOST_TABLES" = Ba (.int 1000 t)
def zf8(h1:n<=8)(h2:k<=6):n * k<=48:=fX h1 h2
def jb:Sp:=λvs H Q Z=>∃(l:()) (n:Nat),vs=[⇑l,.int (n:Nat)]/\l.length<=6/\n<=8/\Q (.int ((n ^ (n * l.length):Nat):Int)) H
def YA(h1:l.length<=6)(h2:n<=8)(q:Q (.int ((n ^ (n * l.length):Nat):Int)) H):jb [⇑l,.int (n:Nat)] H Q E:=#[l,n,rfl,h1,h2,q]
def Kw(n i:Nat):((n ^ i:Nat):Int) * (n:Int)=((n ^ (i+1):Nat):Int):=by rw[Nat.pow_succ,eE]
def iN:sQz 2 ["letters","rooms","count","cell"] wA:=by nofun
def kg(B:Bt mg)(F:("table_count"^^^wA)):(1&&&["letters","rooms"]) jb:=by
 exists F.ok iN
 ·let#[l,n,rfl,h1,h2,q]:=h
  refine#[_,(zG (zy 2 iN.nd zd) (zG (zR p8 rfl (zV rfl B.range (za (zD XJ (pv 1) (zA B.len (pv 0))) zg)) (zq (i:=3) iN.nd rfl (.inl rfl)) (ze (zy 2 iN.nd (zD XJ (pv 2) (pv 1))))) (ze (zl (pv 2))))),?_]
  have s16:=zX
  rfl'
  have hm:=zf8 h2 h1;have em:((n:Int) * (l.length:Int))=((n * l.length:Nat):Int):=by rw[eE]
  refine#[⋯,.inl #[⋯,⋯],?_];rw[em];refine#[⋯,⋯,ja2 (λi σ H'=>H'=H/\∃v3,σ=[~~~l,-~~~n,Ba (.int ((n ^ i:Nat):Int)),v3]) #[rfl,_,rfl] ?_ ?_]
  ·refine nm3 ?_;rintro i σ H' hi ⟨rfl,v3,rfl⟩:0
   rfl'
   exact#[.inr #[⋯,⋯],Kw n i]
  ·refine nmB ?_;rintro σ H' ⟨rfl,v3,rfl⟩:0
   rfl'
   rw[aA];exact q
def uE:Sp:=λvs H Q Z=>∃(l:()) (n:Nat),vs=[⇑l,.int (n:Nat)]/\l.length<=6/\n<=8/\Q (.bl (decide (n ^ (n * l.length)<=1000))) H
def kY(h1:l.length<=6)(h2:n<=8)(q:Q (.bl (decide (n ^ (n * l.length)<=1000))) H):uE [⇑l,.int (n:Nat)] H Q E:=#[l,n,rfl,h1,h2,q]
def KQ(a:Nat):decide ((a:Int)<=1000)=decide (a<=1000):=by
 by_cases h:a<=1000
 ·rw[u6 h,u6 ⋯]
 ·rw[u9 h,u9 ⋯]
def qB:sQz 2 ["letters","rooms"] xA:=by nofun
def qD(B:Bt mg)(TM:KF K mg CM)(F:("tables_within"^^^xA))(mf:(1<<<"table_count") ["letters","rooms"] [] jb):(2&&&["letters","rooms"]) uE:=by
 let#[t9,g9]:=TM.most
 exists F.ok qB
 ·let#[l,n,rfl,h1,h2,q]:=h;refine#[_,(ze (zl (yi wJ (cl0 mf hr .nil rfl (za (pv 0) (za (pv 1) zg))) (yI (v:=.int 1000) rfl g9 #[t9,rfl]) (zx _)))),?_];have s16:=zX
  rfl'
  refine YA h1 h2 ?_
  rfl'
  rw[KQ];exact q
def jh(n N i:Nat):Int:=((N / n ^ i % n:Nat):Int)
def J7(n k N r:Nat):List Int:=(aK k).map λj=>jh n N (n * k - 1 - (r * k+j))
def wb(n k N:Nat):List (List Int):=(aK n).map λr=>J7 n k N r
def zcf(h:1<=n):0<=jh n N i/\jh n N i<(n:Int):=by have:=Nat.mod_lt (N / n ^ i) (show 0<n by lia);unfold jh;lia
def uS(n k N:Nat):(wb n k N).length=n:=by simp [wb]
def qR(N:Nat)(h1:1<=n)(h8:n<=8):xC l (wb n l.length N):=by
 refine#[by rw[uS];exact h1,by rw[uS];exact h8,λx hx=>?_,λx hx z hz=>?_]
 ·let#[r,_,rfl]:=Bj.mp hx;simp [J7]
 ·let#[r,_,rfl]:=Bj.mp hx;let#[j,_,rfl]:=Bj.mp hz;rw[uS];exact zcf h1
def Wd(hr:r<n):((((aK (n * k)).map (jh n N)).reverse).drop (r * k)).take k=J7 n k N r:=by
 have hb:r * k+k<=n * k:=by
  have:=eF k (show r+1<=n by lia);rw[Nat.add_mul,gC]at this;exact this
 apply List.ext_getElem?;intro j;by_cases hj:j<k
 ·rw[cZ hj,List.getElem?_drop,bF (by simp;lia),au,eM (by simp;lia),J7,au,eM hj];simp
 ·rw[cw (by simp [aC];lia),cw (by simp [J7];lia)]
def Ji(n N i:Nat):N / n ^ i / n=N / n ^ (i+1):=by rw[Nat.div_div_eq_div_mul,Nat.pow_succ]
def uc:Sp:=λvs H Q Z=>∃(l:()) (n N:Nat),vs=[⇑l,.int (n:Nat),.int (N:Nat)]/\1<=l.length/\l.length<=6/\1<=n/\n<=8/\∀(t:sM) (rs:List sM) (H':Hp),Same H H'->TabAt H' t rs (wb n l.length N)->(∀r ∈ t::rs,H r=Bb)->Q (.ref t) H'
def YJ(h1:1<=l.length)(h2:l.length<=6)(h3:1<=n)(h4:n<=8)(q:∀(t:sM) (rs:List sM) (H':Hp),Same H H'->TabAt H' t rs (wb n l.length N)->(∀r ∈ t::rs,H r=Bb)->Q (.ref t) H'):uc [⇑l,.int (n:Nat),.int (N:Nat)] H Q E:=#[l,n,N,rfl,h1,h2,h3,h4,q]
def zcQ(h1:1<=n)(h2:1<=k):(p0 0 ((n * k:Nat):Int) (k:Int)).toNat=n:=by
 have hp:0<n * k:=Nat.mul_pos h1 h2;unfold p0;rw[w6 ⋯,w6 ⋯];have e:(((n * k:Nat):Int) - 0 - 1)=((n * k - 1:Nat):Int):=⋯
 have e2:(n * k - 1) / k=n - 1:=by
  obtain⟨m,rfl⟩:∃m,n=m+1:=#[n - 1,⋯];rw[Nat.add_mul,gC,show m * k+k - 1=(k - 1)+m * k by lia,Nat.add_mul_div_right _ _ ⋯,Nat.div_eq_of_lt ⋯];lia
 rw[e,<- Int.natCast_ediv,e2];lia
def UP{D:sM}(hg:g=yv 0)(hte:te=tSl (ze9 K) (ya 1) (Xj (ya 0)) (Xj (tOp Y1 (ya 0) (tCB (WR K) (zM (ya 2) xw)))))(hi:vR σ 1 ix=[Bb,!!c,~~~l])(hc:H c=Ba (.lst ((((aK (n * l.length)).map (jh n N)).reverse).map V.int)))(h1:1<=l.length)(h2:l.length<=6)(h3:1<=n)(h4:n<=8)(hD:H D=Bb)(q:∀(rs:List sM) (H':Hp),Same H H'->TabAt H' D rs (wb n l.length N)->(∀r ∈ D::rs,H r=Bb)->Q (.ref D) H'):CompK 0 (l.length:Nat) n g xo te 1 ix σ H Q D:=by
 have s16:=zX;have hmm:=zf8 h4 h2;subst hg hte;refine CompK.by (λi Bg H'=>∃rs:List sM,Bg=rs.map V.ref/\rs.length=i/\Same H H'/\H' D=Ba (.lst Bg)/\(∀r ∈ rs,H r=Bb/\r≠D)/\∀(j:Nat) (r:sM),rs[j]? = Ba r->H' r=Ba (.lst ((J7 n l.length N j).map V.int))) #[[],rfl,rfl,zf hD,zc,λr h=>(nomatch h),λj r h=>by simp at h] ?_ ?_
 ·refine nm3 ?_;rintro i Bg H' hin ⟨rs,rfl,hrl,hs,hH,hf,hr⟩:_;have hc':=hs _ _ hc;have ei:(0:Int)+(i:Int) * (l.length:Int)=((i * l.length:Nat):Int):=by rw[Int.zero_add,eE]
  right;dsimp only;rw[ei];have hil:i * l.length<=48:=aH (eF _ (by lia:i<=n)) hmm
  erw[xo,yv,hi]
  rfl'
  refine#[yz,⋯,_,x4 hc',λp hp=>?_];rw[YU _ ⋯ ⋯];have e1:(((i * l.length:Nat):Int)).toNat=i * l.length:=aA _;have e2:(((i * l.length:Nat):Int)+(l.length:Int) - ((i * l.length:Nat):Int)).toNat=l.length:=⋯;rw[e1,e2,Wd hin];have hpD:p≠D:=λe=>by rw[e]at hp;rw[hp]at hH;cases hH
  refine#[zf hp _ _ hH,by rw[aa];lia,x8 hin #[rs ++ [p],by rw[am];rfl,by rw[aj,hrl];rfl,zu (hs.trans (zf hp)) hD,zc,λr' hr'=>?_,λj r' h1=>?_]]
  ·rcases Bl.mp hr' with h' | h'
   ·exact hf r' h'
   ·rw[Bm.mp h'];refine#[?_,hpD]
    cases e:H p with
    | none=>rfl
    | some o=>have:=hs _ _ e;rw[hp]at this;cases this
  ·by_cases hj:j<i
   ·rw[bW ⋯]at h1;rw[zt (hf r' (ac h1)).2];exact zf hp _ _ (hr j r' h1)
   ·rw[bG ⋯]at h1
    have hj0:j=i:=by
     have:=(Bh.mp h1).1;simp at this;lia
    subst hj0;rw[hrl,eD]at h1;cases h1;rw[zt hpD];exact zc
 ·refine nmB ?_;rintro Bg H' ⟨rs,rfl,hrl,hs,hH,hf,hr⟩:0
  refine q rs H' hs #[hH,by rw[uS,hrl],λi r x h1 h2=>?_] λr hr'=>by
   rcases Bk.mp hr' with rfl | h'
   ·exact hD
   ·exact (hf r h').1
  rw[hr i r h1];unfold wb at h2;rw[au]at h2;let#[z,hz,rfl]:=Bo.mp h2;have:=(Bh.mp hz).2;simp at this;rw[this]
def md:sQz 3 ["letters","rooms","number","cells","cell"] vC:=by nofun
def XA(B:Bt mg)(F:("table_at"^^^vC)):(1&&&["letters","rooms","number"]) uc:=by
 exists F.ok md
 ·let#[l,n,N,rfl,h1,h2,h3,h4,q]:=h
  refine#[_,(zh (xM (i:=3) md.nd rfl (Or.inr rfl) (xg zg)) (zh (zR p8 rfl (zV rfl B.range (za (zD XJ (pv 1) (zA B.len (pv 0))) zg)) (zq (i:=4) md.nd rfl (.inl rfl)) (zG (yS (wf aX bh bn yx (pv 3) (za (zD yU (pv 2) (pv 1)) zg))) (ze (zy 2 md.nd (zD y8 (pv 2) (pv 1)))))) (zh (yS (zeN aX PySem.F.slot_list_reverse PySem.F.type_list_reverse VN (pv 3))) (ze (zl (yM (own:=["start"]) (caps:=["cells","letters"]) (ix:=[3,0]) (tt:=xo) (te:=(tSl (ze9 K) (ya 1) (Xj (ya 0)) (Xj (tOp Y1 (ya 0) (tCB (WR K) (zM (ya 2) xw)))))) rfl (zK (sc:=zi vC) rfl (!0) (!0) (!0) rfl (!0) (!0) rfl) (Q1 rfl B.range (za zd (za (zA B.len (pv 3)) (za (zA B.len (pv 0)) zg)))) (λZ Z Z Z Z Z=>zq (i:=0) (show List.Nodup [_,_,_] by decide) rfl (.inl rfl)) (λZ Z Z Z Z Z=>yg) (λZ Z Z Z Z Z=>(zQ zbd (pv 1) (zO (pv 0)) (zO (zD jV (pv 0) (zA B.len (pv 2)))))))))))),?_]
  have s16:=zX;have hm:=zf8 h4 h2;have em:((n:Int) * (l.length:Int))=((n * l.length:Nat):Int):=by rw[eE]
  change ∃c,H c=Bb/\Same H H'/\H' c=Ba (.lst [])/\σ=[~~~l,-~~~n,-~~~N,!!c,Bb]
  ·rfl'
   exact#[⋯,λc hc=>#[c,hc,zf hc,zc,rfl]]
  rintro σ H1 ⟨c,hcn,s1,hc,rfl⟩:0;change ∃v2 v4,Same H H'/\H' c=Ba (.lst (((aK (n * l.length)).map (jh n N)).map V.int))/\σ=[~~~l,-~~~n,v2,!!c,v4]
  ·rfl'
   refine#[⋯,.inl #[⋯,⋯],?_];rw[em];refine#[⋯,⋯,ja2 (λi σ H'=>∃v4,Same H H'/\H' c=Ba (.lst (((aK i).map (jh n N)).map V.int))/\σ=[~~~l,-~~~n,Ba (.int ((N / n ^ i:Nat):Int)),!!c,v4]) #[_,s1,hc,by rw[Nat.pow_zero,Nat.div_one]] ?_ ?_]
   ·refine nm3 ?_;rintro i σ H' hi ⟨v4,hs,hc',rfl⟩:_;rw[aA]at hi;right
    rfl'
    refine#[.inl #[_,x4 hc'],⋯,_,hc',by erw[aa,bM];lia,#[⋯,⋯],?_];refine#[zu hs hcn,?_,?_]
    ·rw[zc,cT,am,am,<- Int.natCast_emod];rfl
    ·rw[<- Int.natCast_ediv,Ji]
   ·refine nmB ?_;rintro σ H' ⟨v4,hs,hc',rfl⟩:_;rw[aA]at hc';right;exact#[hs,hc',_,_,rfl]
  rintro σ H2 ⟨v2,v4,s2,hc2,rfl⟩:0;change Same H H'/\H' c=Ba (.lst ((((aK (n * l.length)).map (jh n N)).reverse).map V.int))/\σ=[~~~l,-~~~n,v2,!!c,v4]
  ·rfl'
   erw[Vb]
   rfl'
   refine#[.inl #[_,x4 hc2],_,hc2,zu s2 hcn,?_];rw[zc,fu]
  rintro σ H3 ⟨s3,hc3,rfl⟩:0
  erw[zbm,zeh]
  rfl'
  refine#[_,.inl #[_,x4 hc3,rfl],⋯,∅,∅,⋯,by erw[aa,bL,bM];lia,⋯,⋯,λD hD=>?_]
  have en:(p0 0 (((List.map V.int ((List.map (jh n N) (aK (n * l.length))).reverse)).length:Nat):Int) (l.length:Nat)).toNat=n:=by
   rw[aa,bL,aa,bM];exact zcQ h3 h1
  rw[en]
  exact UP rfl rfl rfl hc3 h1 h2 h3 h4 hD λrs H' s' hT hf=>q D rs H' (s3.trans s') hT λr hr'=>by
   cases e:H r with
   | none=>rfl
   | some o=>have:=s3 _ _ e;rw[hf r hr']at this;cases this
def y3(l:())(tab:List (List Int))(ps:List zH)(u v:()):Bool:=decide (ue l tab 0 u≠ue l tab 0 v) && (wH l tab ps 0).isNone
abbrev zdf(l:())(u:()):Prop:=∀c ∈ u,c ∈ l
abbrev InP(l:())(ps:List zH):Prop:=∀p ∈ ps,(∀c ∈ p.1,c ∈ l)/\∀c ∈ p.2,c ∈ l
def Z7(K:sL)(CV:sM):Sp:=λvs H Q Z=>∃(o t a:sM) (l:()) (rs:List sM) (tab:List (List Int)) (ps:List zH) (u v:()),vs=[.ref o,.ref a,⇑u,⇑v]/\LsA K H a (ps.map dR)/\WorAt CV H o l t rs tab/\xC l tab/\InP l ps/\zdf l u/\zdf l v/\∀H',Same H H'->Q (.bl (y3 l tab ps u v)) H'
def JJ(h1:LsA K H a (ps.map dR))(h2:WorAt CV H o l t rs tab)(h3:xC l tab)(h4:InP l ps)(h5:zdf l u)(h6:zdf l v)(q:∀H',Same H H'->Q (.bl (y3 l tab ps u v)) H'):Z7 K CV [.ref o,.ref a,⇑u,⇑v] H Q E:=#[o,t,a,l,rs,tab,ps,u,v,rfl,h1,h2,h3,h4,h5,h6,q]
def kB:sQz 4 ["world","pacts","one","other"] wC:=by nofun
def ky(B:Bt mg)(CL:zaJ K mg CV)(F:("tells_apart"^^^wC))(M_world_led:DM P w K mg base CX0 1 CV "led" ["self","room","word"] (jc CV))(M_world_broken:DM P w K mg base CX0 3 CV "broken" ["self","pacts"] (qe K CV)):(4&&&["world","pacts","one","other"]) (Z7 K CV):=by
 exists F.ok kB
 ·let#[o,t,a,l,rs,tab,ps,u,v,rfl,hA,hW,hG,hp,hu,hv,q]:=h
  refine#[_,(zG (zJ (zv xx (me1 M_world_led CL.cl hr (pv 0) (za zd (za (pv 2) zg))) (me1 M_world_led CL.cl hr (pv 0) (za zd (za (pv 3) zg))) (zx _)) (ze (zl yt))
    zr) (ze (zl (yi op_isN' (me1 M_world_broken CL.cl hr (pv 0) (za (pv 1) zg)) yd (zx _))))),?_]
  have s16:=zX
  rfl'
  let#[dx,ho,hT]:=id hW;have hlo:=hG.lo;refine#[_,_,ho,rfl,qZ hW hG ⋯ ⋯ hu #[_,_,ho,rfl,qZ hW hG ⋯ ⋯ hv ?_]]
  rfl'
  refine yb (λh=>?_) λh=>?_
  ·have e:y3 l tab ps u v=Bd:=by
    unfold y3;rw[u9 (λg=>g h)];rfl
   rw[e]at q;exact q _ (ja1 _)
  ·have e:y3 l tab ps u v=(wH l tab ps 0).isNone:=by
    unfold y3;rw[u6 h,gr]
   rw[e]at q;refine#[_,_,ho,rfl,o,t,a,l,rs,tab,ps,rfl,hA,hW,hG,hp,λhb H' s'=>?_,λi r hb p H' s' hp'=>?_]
   ·rw[hb]at q;exact q H' s'
   ·rw[hb]at q;exact q H' s'
def Ear(l:())(ps:List zH)(u v:())(n N:Nat):Prop:=∀n' N':Nat,1<=n'->N'<n' ^ (n' * l.length)->(n'<n\/n'=n/\N'<N)->y3 l (wb n' l.length N') ps u v=Bd
def zak : Ear l ps u v 1 0:=λn' N' h1 Z h=>by lia
def zae(h:Ear l ps u v n N)(hf:y3 l (wb n l.length N) ps u v=Bd):Ear l ps u v n (N+1):=λn' N' h1 h2 h3=>by
 rcases h3 with h3 | ⟨rfl,h3⟩
 ·exact h n' N' h1 h2 (.inl h3)
 ·by_cases e:N'=N
  ·rw[e];exact hf
  ·exact h n' N' h1 h2 (.inr #[rfl,⋯])
def zbJ(h:Ear l ps u v n (n ^ (n * l.length))):Ear l ps u v (n+1) 0:=λn' N' h1 h2 h3=>by
 rcases ef n' n with h4 | h4
 ·exact h n' N' h1 h2 (.inl h4)
 ·have e:n'=n:=⋯;subst e;exact h n' N' h1 h2 (.inr #[rfl,h2])
def Kt(h1:1<=n)(h:n<=m):n ^ (n * k)<=m ^ (m * k):=aH (Nat.pow_le_pow_left h _) (Nat.pow_le_pow_right ⋯ (eF k h))
def Vu(K:sL)(CM:sM):Sp:=λvs H Q E=>∃(a:sM) (l:()) (ps:List zH) (u v:()) (m:Nat),vs=[⇑l,.ref a,⇑u,⇑v,.int (m:Nat)]/\kj l=Bc/\LsA K H a (ps.map dR)/\InP l ps/\zdf l u/\zdf l v/\m<=8/\(1000<m ^ (m * l.length)->E (.ref CM) Bb H) /\
 (m ^ (m * l.length)<=1000->Ear l ps u v (m+1) 0->∀H',Same H H'->Q .non H') /\
 (m ^ (m * l.length)<=1000->∀n N:Nat,1<=n->n<=m->N<n ^ (n * l.length)->y3 l (wb n l.length N) ps u v=Bc->Ear l ps u v n N->∀(t:sM) (rs:List sM) (H':Hp),Same H H'->TabAt H' t rs (wb n l.length N)->(∀r ∈ t::rs,H r=Bb)->Q (.ref t) H')
def iO:sQz 5 ["letters","pacts","one","other","most","rooms","number","table"] wD:=by nofun
def kD(B:Bt mg)(TM:KF K mg CM)(CL:zaJ K mg CV)(F:("world_apart"^^^wD))(li:(2<<<"tables_within") ["letters","rooms"] [] uE)(mf:(1<<<"table_count") ["letters","rooms"] [] jb)(rN:(1<<<"table_at") ["letters","rooms","number"] [] uc)(pQ:(4<<<"tells_apart") ["world","pacts","one","other"] [] (Z7 K CV))(M_world_init:DMk P w K mg base (CXx P w) 4 CV ["self","letters","table"] (ux CV)):(6|||["letters","pacts","one","other","most"]) (Vu K CM):=by
 exists Fun.okX F iO,0
 ·let#[a,l,ps,u,v,m,rfl,hg,hA,hp,hu,hv,m8,q1,q2,q3]:=h
  refine#[_,(zh (zJ (yf (yk (cl0 li hr .nil rfl (za (pv 0) (za (pv 4) zg))) (λZ=>rfl))) (ze (ym hx rfl TM.xi.toXC TM.ini rfl TM.g (za z6 zg)))
    zr) (zh (zR PassesOwn.leaving rfl (Y9 rfl B.range (za zd (za (zD jV (pv 4) zd) zg))) (zq (i:=5) iO.nd rfl (.inl rfl)) (ze (zR PassesOwn.leaving rfl (zV rfl B.range (za (cl0 mf hr .nil rfl (za (pv 0) (za (pv 5) zg))) zg)) (zq (i:=6) iO.nd rfl (.inl rfl)) (zh (zy 7 iO.nd (cl0 rN hr .nil rfl (za (pv 0) (za (pv 5) (za (pv 6) zg))))) (ze (zJ (yk (cl0 pQ hr .nil rfl (za (zgU hx M_world_init hr rfl CL.g (za (pv 0) (za (pv 7) zg))) (za (pv 1) (za (pv 2) (za (pv 3) zg))))) (λZ=>rfl)) (ze (zl (pv 7)))
      zr)))))) (ze (zl yd)))),?_]
  have s16:=zX;let#[l1,l6,_,_]:=u5 hg;change H'=H/\m ^ (m * l.length)<=1000/\σ=%[~~~l,!!a,~~~u,~~~v,-~~~m|3]
  ·rfl'
   refine kY ⋯ m8 #[_,rfl,?_];by_cases hw:m ^ (m * l.length)<=1000
   ·rw[u6 hw]
    rfl'
    exact hw
   ·rw[u9 hw]
    rfl'
    exact#[⋯,q1 ⋯]
  rintro σ H1 ⟨rfl,hw,rfl⟩:0;change Same H1 H'/\Ear l ps u v (m+1) 0/\∃v5 v6 v7,σ=[~~~l,!!a,~~~u,~~~v,-~~~m,v5,v6,v7]
  ·rfl'
   refine#[⋯,⋯,⋯,⋯,ja2 (λi σ H'=>Same H1 H'/\Ear l ps u v (i+1) 0/\∃v5 v6 v7,σ=[~~~l,!!a,~~~u,~~~v,-~~~m,v5,v6,v7]) #[ja1 _,zak,_,_,_,rfl] ?_ ?_]
   ·refine nm3 ?_;rintro i σ H' hi ⟨hs,hE,v5,v6,v7,rfl⟩:_;have him:i+1<=m:=⋯;have e0:(1:Int)+(i:Int)=((i+1:Nat):Int):=⋯;have hpw:=Kt (k:=l.length) ⋯ him;right;dsimp only;rw[e0]
    rfl'
    refine YA ⋯ ⋯ ?_;refine#[_,rfl,⋯,⋯,ja2 (λj σ H'=>Same H1 H'/\Ear l ps u v (i+1) j/\∃v6 v7,σ=[~~~l,!!a,~~~u,~~~v,-~~~m,Ba (.int ((i+1:Nat):Int)),v6,v7]) #[hs,hE,_,_,rfl] ?_ ?_]
    ·refine nm3 ?_;rintro j σ H'' hj ⟨hs2,hE2,v6,v7,rfl⟩:_;rw[aA]at hj;have e1:(0:Int)+(j:Int)=(j:Int):=⋯;right;dsimp only;rw[e1]
     erw[yv,aN,aM]
     refine zj (λσ G=>∃(t:sM) (rs:List sM),Same H1 G/\TabAt G t rs (wb (i+1) l.length j)/\(∀r ∈ t::rs,H1 r=Bb)/\σ=[~~~l,!!a,~~~u,~~~v,-~~~m,Ba (.int ((i+1:Nat):Int)),Ba (.int (j:Int)),!!t]) ?_ ?_
     ·rfl'
      exact YJ l1 ⋯ ⋯ ⋯ λt rs G sG hT hf=>#[hs2.trans sG,t,rs,hT,(λr hr=>by
       cases e:H1 r with
       | none=>rfl
       | some o=>have:=hs2 _ _ e;rw[hf r hr]at this;cases this),rfl]
     rintro σ G ⟨t,rs,sG,hT,hf,rfl⟩:_;have hG:=qR (l:=l) j (show 1<=i+1 by lia) ⋯;right
     rfl'
     refine JU hg hT hG λx t' rs' H' s' Z Z hW=>JJ ((hA.same sG).same s') hW hG hp hu hv λH'' s''=>#[_,rfl,?_];have sA:=sG.trans (s'.trans s'')
     cases hfit:y3 l (wb (i+1) l.length j) ps u v with
     | true =>
      rfl'
      exact q3 hw (i+1) j ⋯ him hj hfit hE2 t rs H'' sA (hT.same (s'.trans s'')) hf
     | false =>
      rfl'
      exact#[sA,zae hE2 hfit]
    ·refine nmB ?_;rintro σ H'' ⟨hs2,hE2,v6,v7,rfl⟩:_;rw[aA]at hE2;right;exact#[hs2,zbJ hE2,_,_,_,rfl]
   ·refine nmB ?_;rintro σ H' ⟨hs,hE,v5,v6,v7,rfl⟩:0;exact#[hs,by rw[show (((m:Nat):Int)+1 - 1).toNat=m by lia]at hE;exact hE,_,_,_,rfl]
  rintro σ H2 ⟨s2,hE,v5,v6,v7,rfl⟩:0
  rfl'
  exact q2 hw hE H2 s2
structure TMj(mg:sS->Option sN):Prop where
 u:∃t,mg "MOST_USES_judging" = Ba (.int 40 t)
 s:∃t,mg "MOST_STEPS_judging" = Ba (.int 2000 t)
def zdE(K:sL):Sp:=λvs H Q Z=>∃(a:sM) (k:Nat) (l:()) (ns:List Int) (bs:List Ent) (w:()),vs=[.ref a,⇑w]/\OG l ns k/\EnsL K H a bs/\BG k l ns bs/\w.length<=60 /\
 (∀(i:Nat) (p S:sM) (H':Hp),EndsAt (zb bs) w i->Same H H'->H' p=Ba (.tup [.ref S,⇑(wAt (zb bs) w i)])->LsA K H' S ((stS (sAt (zb bs) w i)).map dSt)->Q (.ref p) H')/\((∀i,¬ EndsAt (zb bs) w i)->∀H',Same H H'->Q .non H')
def kC:sQz 2 ["entries","word"] wF:=by nofun
def kh(B:Bt mg)(TFx:zbM K mg CF)(TSb:zfS K CF)(TM:TMj mg)(F:("gone_within"^^^wF))(nw:(4>>>"gone") ["rules","word","most"] [] (xQ K CF))(DD_gone:(4>>>"gone") ["rules","word","most"] [.int 4000 ny] (xQ K CF))(gY:(1<<<"pairs_of") ["entries"] [] (wy K)):(5&&&["entries","word"]) (zdE K):=by
 let#[t9,g9]:=TM.u
 exists F.ok kC
 ·let#[a,k,l,ns,bs,w,rfl,hG,hA,hB,hw,q1,q2]:=h;refine#[_,(ze (WQ (th:=(zbm (tC .non))) #[rfl,rfl] (clX nw hr .nil rfl (za (cl0 gY hr .nil rfl (za (pv 0) zg)) (za (pv 1) (za (yI (v:=.int 40) rfl g9 #[t9,rfl]) zg)))) rfl TFx.g TFx.xi.ok (λe=>(ze (zl yd))))),?_];have s16:=zX;have hpl:=xB bs;have hbl:=hB.n
  erw[Jm]
  ac_rfl;exact wj hA.is ⋯ λD H1 Z s1 hL=>uR hL (hB.ne hG) ⋯ hB.le hw (λi p S H' hi s' hp hS Z=>q1 i p S H' hi (s1.trans s') hp (by rw[UZ]at hS;exact hS)) λhno H' s'=>#[CF,rfl,TSb.s,λx hx=>q2 hno _ ((s1.trans s').trans (zf hx))]
def GwV(K:sL)(ps:List zH)(w:())(H:Hp)(v:V):Prop:=(v=.non/\∀i,¬ EndsAt ps w i)\/∃(i:Nat) (p S:sM),v=.ref p/\EndsAt ps w i/\H p=Ba (.tup [.ref S,⇑(wAt ps w i)])/\LsA K H S ((stS (sAt ps w i)).map dSt)
def GwV.same{ps:List zH}{w:()}{H H':Hp}{v:V}(h:GwV K ps w H v)(s:Same H H'):GwV K ps w H' v:=by
 rcases h with h | ⟨i,p,S,h1,h2,h3,h4⟩
 ·exact .inl h
 ·exact .inr #[i,p,S,h1,h2,s _ _ h3,h4.same s]
abbrev jy(bs:List Ent)(u v:())(i j:Nat):List Stp:=byL bs (stS (sAt (zb bs) u i) ++ yN (stS (sAt (zb bs) v j)))
def NoR(bs:List Ent)(b:Bool)(u v:()):Prop:=(∀i,¬ EndsAt (zb bs) u i)\/(∀j,¬ EndsAt (zb bs) v j)\/∃i j,EndsAt (zb bs) u i/\EndsAt (zb bs) v j/\((wAt (zb bs) u i≠wAt (zb bs) v j/\b=Bd)\/(wAt (zb bs) u i=wAt (zb bs) v j/\2000<(jy bs u v i j).length))
def zaS(K:sL):Sp:=λvs H Q Z=>∃(a:sM) (k:Nat) (l:()) (ns:List Int) (bs:List Ent) (b:Bool) (u v:()),vs=[.bl b,.ref a,⇑u,⇑v]/\OG l ns k/\EnsL K H a bs/\BG k l ns bs/\u.length<=60/\v.length<=60/\(NoR bs b u v->∀H',Same H H'->Q .non H') /\
 (∀(i j:Nat) (p:sM) (H':Hp),b=Bc->EndsAt (zb bs) u i->EndsAt (zb bs) v j->wAt (zb bs) u i≠wAt (zb bs) v j->Same H H'->H' p=Ba (.tup [.str "forms",.ref a,⇑(wAt (zb bs) u i),⇑(wAt (zb bs) v j)])->Q (.ref p) H') /\
 ∀(i j:Nat) (p S:sM) (H':Hp),EndsAt (zb bs) u i->EndsAt (zb bs) v j->wAt (zb bs) u i=wAt (zb bs) v j->Same H H'->H' p=Ba (.tup [.str "alike",.ref S])->LsA K H' S ((jy bs u v i j).map dSt)->(jy bs u v i j).length<=2000->Q (.ref p) H'
def im:sQz 4 ["whole","kept","one","other","ahead","behind","steps"] yZ:=by nofun
def uh(B:Bt mg)(TM:TMj mg)(F:("judged_by_roads"^^^yZ))(nQ:(5<<<"gone_within") ["entries","word"] [] (zdE K))(iL:(2<<<"by_pacts") ["entries","steps"] [] (Qn K))(mF:(1<<<"back") ["steps"] [] (uY K)):(6&&&["whole","kept","one","other"]) (zaS K):=by
 let#[t9,g9]:=TM.s
 exists F.ok im
 ·let#[a,k,l,ns,bs,b,u,v,rfl,hG,hA,hB,hu,hv,q1,q3,q2]:=h
  refine#[_,(zh (zy 4 im.nd (cl0 nQ hr .nil rfl (za (pv 1) (za (pv 2) zg)))) (zh (zy 5 im.nd (cl0 nQ hr .nil rfl (za (pv 1) (za (pv 3) zg)))) (zh (zJ (PW.pt (wT (zv op_isN' (pv 4) yd (zx _)) (wg (zv op_isN' (pv 5) yd (zx _))))) (ze (zl yd))
    zr) (zh (zJ (zv uJ (!-4) (!-5) (zx _)) (ze (zl (wG (yk (pv 0) (λZ=>rfl)) (zW (za z6 (za (pv 1) (za (!-4) (za (!-5) zg))))) yd)))
    zr) (zh (zy 6 im.nd (cl0 iL hr .nil rfl (za (pv 1) (za (zD W9 (!-4) (cl0 mF hr .nil rfl (za (!-5) zg))) zg)))) (ze (zl (wG (zv wJ (zA B.len (pv 6)) (yI (v:=.int 2000) rfl g9 #[t9,rfl]) (zx _)) (zW (za z6 (za (pv 6) zg))) yd)))))))),?_]
  have s16:=zX;have hbl:=hB.n;have hpl:=xB bs;have hst:∀e ∈ bs,e.2.2.length<=600:=λe he=>(hB.e e he).s;change Same H H'/\∃v4,GwV K (zb bs) u H' v4/\σ=%[Ba (.bl b),!!a,~~~u,~~~v,Ba (v4)|2]
  ·rfl'
   exact#[a,k,l,ns,bs,u,rfl,hG,hA,hB,hu,λi p S H' h1 s' h2 h3=>#[s',.inr #[i,p,S,rfl,h1,h2,h3]],λhno H' s'=>#[s',.inl #[rfl,hno]]]
  rintro σ H1 ⟨s1,v4,hv4,rfl⟩:0;change Same H1 H'/\∃v5,GwV K (zb bs) v H' v5/\σ=[Ba (.bl b),!!a,~~~u,~~~v,Ba (v4),Ba (v5),Bb]
  ·rfl'
   exact#[a,k,l,ns,bs,v,rfl,hG,hA.same s1,hB,hv,λi p S H' h1 s' h2 h3=>#[s',.inr #[i,p,S,rfl,h1,h2,h3]],λhno H' s'=>#[s',.inl #[rfl,hno]]]
  rintro σ H2 ⟨s2,v5,hv5,rfl⟩:_;have s12:=s1.trans s2;have hv4':=hv4.same s2;right;change H'=H2/\v4≠.non/\v5≠.non/\σ=[Ba (.bl b),!!a,~~~u,~~~v,Ba (v4),Ba (v5),Bb]
  ·rfl'
   refine yb (λh=>?_) λh=>yb (λh'=>?_) λh'=>#[h,h']
   ·rcases hv4' with ⟨_,hno⟩ | ⟨i,p,S,e,_⟩
    ·exact q1 (.inl hno) _ s12
    ·rw[e]at h;cases h
   ·rcases hv5 with ⟨_,hno⟩ | ⟨i,p,S,e,_⟩
    ·exact q1 (.inr (.inl hno)) _ s12
    ·rw[e]at h';cases h'
  rintro σ H3 ⟨rfl,n4,n5,rfl⟩:_;let#[i,p1,S1,rfl,hi,hp1,hS1]:=hv4'.resolve_left λz=>n4 z.1;let#[j,p2,S2,rfl,hj,hp2,hS2]:=hv5.resolve_left λz=>n5 z.1;right;change H'=H3/\wAt (zb bs) u i=wAt (zb bs) v j/\σ=[Ba (.bl b),!!a,~~~u,~~~v,!!p1,!!p2,Bb]
  ·rfl'
   refine#[_,x6 hp1,_,rfl,_,x6 hp2,_,rfl,rfl,yb (λh=>yb (λhb'=>#[_,x6 hp1,_,rfl,_,x6 hp2,_,rfl,⋯,λp hp=>q3 i j p _ hb' hi hj (λz=>h (by rw[z])) (s12.trans (zf hp)) zc]) λhb'=>q1 (.inr (.inr #[i,j,hi,hj,.inl #[λz=>h (by rw[z]),by simpa using hb']])) _ s12) λh=>?_];have:=Classical.not_not.mp h;injection this with this;exact wI this
  rintro σ H4 ⟨rfl,he,rfl⟩:_;have him:=hi.most;have hjm:=hj.most;have hl1:(stS (sAt (zb bs) u i)).length=i:=by rw[uO,vY]
  have hl2:(stS (sAt (zb bs) v j)).length=j:=by rw[uO,vY]
  right;change Same H4 H'/\∃S:sM,LsA K H' S ((jy bs u v i j).map dSt)/\σ=[Ba (.bl b),!!a,~~~u,~~~v,!!p1,!!p2,!!S]
  ·rfl'
   refine#[_,x6 hp1,_,rfl,_,x6 hp2,_,rfl,qK hS2.is ⋯ λB1 G1 Z t1 hB1=>?_];let#[c1,hc1,ic1]:=hS1.same t1;let#[c2,hc2,ic2]:=id hB1;have n1:=ic1.len;have n2:=ic2.len;rw[aa]at n1 n2;rw[yB]at n2;refine#[S1,rfl,B1,rfl,c1,hc1,c2,hc2,⋯,λp hp=>?_];have sp:=zf (o:=.lst (c1 ++ c2)) hp;refine WA (Is.same (s12.trans (t1.trans sp)) _ _ hA.is) (LsA.is #[_,zc,by rw[am];exact jc0 (ja0 sp _ _ ic1) (ja0 sp _ _ ic2)]) (by rw[aj,yB];lia) hst (λx hx=>?_) λD H' Z s' hL=>#[t1.trans (sp.trans s'),D,hL,rfl];rw[<- hpl];rcases Bl.mp hx with h | h
   ·exact Va hi.live x h
   ·exact QD (Va hj.live) x h
  rintro σ H5 ⟨s5,S,hS,rfl⟩:_;let#[xs,hX,hI]:=id hS;have hxl:=hI.len;rw[aa]at hxl;right
  rfl'
  exact#[_,.inl #[_,x4 hX,rfl],yb (λhn=>#[⋯,λp hp=>q2 i j p S _ hi hj he ((s12.trans s5).trans (zf hp)) zc (hS.same (zf hp)) ⋯]) λhn=>q1 (.inr (.inr #[i,j,hi,hj,.inr #[he,⋯]])) _ (s12.trans s5)]
def Qq(hE:∀e ∈ bs,EOk rs e)(hi:EndsAt (zb bs) u i)(hj:EndsAt (zb bs) v j)(he:wAt (zb bs) u i=wAt (zb bs) v j):yh rs u (jy bs u v i j)=Ba v:=by refine jH hE ?_;rw[xK,uG hi.live,he];exact wY (uG hj.live)
def zer(h:∀p ∈ rs,p.1.length<=60/\p.2.length<=60/\(∀c ∈ p.1,c ∈ l)/\∀c ∈ p.2,c ∈ l):∀e ∈ fEs rs rs.length,EB l e:=λe he=>by
 let#[i,p,hi,hp,rfl]:=jk he;let#[g1,g2,g3,g4]:=h p (ac hp);exact#[g1,g2,by show ([((i:Int),(0:Int),Bc)]:List Stp).length<=600;simp,g3,g4]
def zbh(K:sL):Sp:=λvs H Q Z=>∃(a:sM) (l:()) (ps:List zH) (u v:()) (m:Nat),vs=[⇑l,.ref a,⇑u,⇑v,.int (m:Nat)]/\kj l=Bc/\LsA K H a (ps.map dR)/\InP l ps/\(∀c ∈ u,c ∈ l)/\(∀c ∈ v,c ∈ l)/\m<=8/\m ^ (m * l.length)<=1000/\(Ear l ps u v (m+1) 0->∀(p:sM) (H':Hp),Same H H'->H' p=Ba (.tup [.str "open"])->Q (.ref p) H') /\
 ∀(n N:Nat) (p t:sM) (rs:List sM) (H':Hp),1<=n->n<=m->N<n ^ (n * l.length)->y3 l (wb n l.length N) ps u v=Bc->Ear l ps u v n N->Same H H'->H' p=Ba (.tup [.str "world",.ref t])->TabAt H' t rs (wb n l.length N)->Q (.ref p) H'
def JwV(l:())(ps:List zH)(u v:())(m:Nat)(H:Hp)(x:V):Prop:=(x=.non/\Ear l ps u v (m+1) 0)\/∃(n N:Nat) (t:sM) (rs:List sM),x=.ref t/\1<=n/\n<=m/\N<n ^ (n * l.length)/\y3 l (wb n l.length N) ps u v=Bc/\Ear l ps u v n N/\TabAt H t rs (wb n l.length N)
def lF:sQz 5 ["letters","pacts","one","other","most","table"] yQ:=by nofun
def vZ(B:Bt mg)(F:("judged_by_worlds"^^^yQ))(pR:(6>>>"world_apart") ["letters","pacts","one","other","most"] [] (Vu K CM)):(7&&&["letters","pacts","one","other","most"]) (zbh K):=by
 exists F.ok lF
 ·let#[a,l,ps,u,v,m,rfl,hg,hA,hp,hu,hv,m8,hm,q1,q2]:=h
  refine#[_,(zh (zy 5 lF.nd (clP xe0 pR hr .nil rfl (za (pv 0) (za (pv 1) (za (pv 2) (za (pv 3) (za (pv 4) zg))))))) (ze (zl (wG (zv op_isN' (pv 5) yd (zx _)) (zW (za z6 zg)) (zW (za z6 (za (pv 5) zg))))))),?_]
  have s16:=zX;change Same H H'/\∃x,JwV l ps u v m H' x/\σ=[~~~l,!!a,~~~u,~~~v,-~~~m,Ba (x)]
  ·rfl'
   exact#[a,l,ps,u,v,m,rfl,hg,hA,hp,hu,hv,m8,λh=>by lia,λZ h H' s'=>#[s',.inl #[rfl,h]],λZ n N h1 h2 h3 h4 h5 t rs H' s' h6 Z=>#[s',.inr #[n,N,t,rs,rfl,h1,h2,h3,h4,h5,h6]]]
  rintro σ H1 ⟨s1,x,hx,rfl⟩:0;rcases hx with ⟨rfl,hE⟩ | ⟨n,N,t,rs,rfl,h1,h2,h3,h4,h5,h6⟩
  ·rfl'
   exact#[⋯,λp hp=>q1 hE p _ (s1.trans (zf hp)) zc]
  ·rfl'
   exact#[⋯,λp hp=>q2 n N p t rs _ h1 h2 h3 h4 h5 (s1.trans (zf hp)) zc (h6.same (zf hp))]
inductive JOut(K:sL)(H:Hp)(k:Nat)(l:())(ns:List Int)(rs:List zH)(u v:())(r m:Nat)(p:sM):Prop where
 | alike (w:Bool) (es:List Ent) (i j:Nat) (S:sM) (hc:Cpl k l ns (r+1) [] (fEs rs rs.length) w es) (hb:BG k l ns es) (hi:EndsAt (zb es) u i) (hj:EndsAt (zb es) v j) (he:wAt (zb es) u i=wAt (zb es) v j) (hl:(jy es u v i j).length<=2000) (hp:H p=Ba (.tup [.str "alike",.ref S])) (hS:LsA K H S ((jy es u v i j).map dSt))
 | forms (es:List Ent) (i j:Nat) (D:sM) (hc:Cpl k l ns (r+1) [] (fEs rs rs.length) Bc es) (hb:BG k l ns es) (hi:EndsAt (zb es) u i) (hj:EndsAt (zb es) v j) (hn:wAt (zb es) u i≠wAt (zb es) v j) (hp:H p=Ba (.tup [.str "forms",.ref D,⇑(wAt (zb es) u i),⇑(wAt (zb es) v j)])) (hD:EnsM K H D es)
 | world (w:Bool) (es:List Ent) (n N:Nat) (t:sM) (ts:List sM) (hc:Cpl k l ns (r+1) [] (fEs rs rs.length) w es) (hb:BG k l ns es) (hno:NoR es w u v) (h1:1<=n) (h2:n<=m) (h3:N<n ^ (n * l.length)) (h4:y3 l (wb n l.length N) rs u v=Bc) (h5:Ear l rs u v n N) (hp:H p=Ba (.tup [.str "world",.ref t])) (ht:TabAt H t ts (wb n l.length N))
 | open_ (w:Bool) (es:List Ent) (hc:Cpl k l ns (r+1) [] (fEs rs rs.length) w es) (hb:BG k l ns es) (hno:NoR es w u v) (h5:Ear l rs u v (m+1) 0) (hp:H p=Ba (.tup [.str "open"]))
def ze1(K:sL)(CO CR CW TB:sM):Sp:=λvs H Q Z=>∃(o a:sM) (k:Nat) (l:()) (ns:List Int) (rs:List zH) (u v:()) (r m:Nat),vs=[.ref o,.ref a,⇑u,⇑v,.int (r:Nat),.int (m:Nat)]/\OrdAt CO CR CW H o k l ns/\OG l ns k/\LsA K H a (rs.map dR)/\rs.length<=20/\(∀p ∈ rs,p.1.length<=60/\p.2.length<=60/\(∀c ∈ p.1,c ∈ l)/\∀c ∈ p.2,c ∈ l)/\u.length<=60/\v.length<=60/\(∀c ∈ u,c ∈ l)/\(∀c ∈ v,c ∈ l)/\r<=1000/\m<=8/\m ^ (m * l.length)<=1000/\TabOk H TB lp lq /\
 ∀(p:sM) (H':Hp),SamT TB H H'->TabOk H' TB lp lq->JOut K H' k l ns rs u v r m p->Q (.ref p) H'
def JrV(K:sL)(H:Hp)(es:List Ent)(w:Bool)(u v:())(D:sM)(x:V):Prop:=(x=.non/\NoR es w u v)\/∃p:sM,x=.ref p/\((∃i j,w=Bc/\EndsAt (zb es) u i/\EndsAt (zb es) v j/\wAt (zb es) u i≠wAt (zb es) v j/\H p=Ba (.tup [.str "forms",.ref D,⇑(wAt (zb es) u i),⇑(wAt (zb es) v j)]))\/∃i j S,EndsAt (zb es) u i/\EndsAt (zb es) v j/\wAt (zb es) u i=wAt (zb es) v j/\(jy es u v i j).length<=2000/\H p=Ba (.tup [.str "alike",.ref S])/\LsA K H S ((jy es u v i j).map dSt))
def nZ:sQz 6 ["order","pacts","one","other","rounds","most","outcome","answer"] ZG:=by nofun
def QI{f CO CR CW TB CM:sM}(B:Bt mg)(TO:TOrd K mg CO CR CW)(TM:KF K mg CM)(F:("judged"^^^ZG))(rH:(10<<<"completed") ["order","pacts","rounds"] [] (zbs K CO CR CW TB))(oB:(6<<<"judged_by_roads") ["whole","kept","one","other"] [] (zaS K))(li:(2<<<"tables_within") ["letters","rooms"] [] uE)(oa:(7<<<"judged_by_worlds") ["letters","pacts","one","other","most"] [] (zbh K)):(11|||["order","pacts","one","other","rounds","most"]) (ze1 K CO CR CW TB):=by
 exists Fun.okX F nZ,0
 ·let#[o,a,k,l,ns,rs,u,v,r,m,rfl,ho,hG,hA,hrl,hrs,hul,hvl,hu,hv,hr',hm8,hm,hTab,q]:=h
  refine#[_,(zh (zJ (yf (yk (cl0 li hr .nil rfl (za (ju (pv 0) rfl) (za (pv 5) zg))) (λZ=>rfl))) (ze (ym hx rfl TM.xi.toXC TM.ini rfl TM.g (za z6 zg)))
    zr) (zh (zy 6 nZ.nd (cl0 rH hr .nil rfl (za (pv 0) (za (pv 1) (za (pv 4) zg))))) (zh (zy 7 nZ.nd (cl0 oB hr .nil rfl (za (!-6) (za (!-6) (za (pv 2) (za (pv 3) zg)))))) (zh (zJ (zv op_isN' (pv 7) yd (zx _)) (ze (zl (cl0 oa hr .nil rfl (za (ju (pv 0) rfl) (za (pv 1) (za (pv 2) (za (pv 3) (za (pv 5) zg))))))))
    zr) (ze (zl (pv 7))))))),?_]
  have s16:=zX;let#[l1,l6,lsm,lnd]:=u5 hG.g;let#[C,dy,fs,hf,ho1,_,hlk]:=ho.fam
  have hC:Cls K C/\NoAttr K C "letters":=by
   rcases hf with rfl | rfl | rfl
   ·exact#[TO.cO,TO.lO]
   ·exact#[TO.cR,TO.lR]
   ·exact#[TO.cW,TO.lW]
  change H'=H/\σ=%[!!o,!!a,~~~u,~~~v,-~~~r,-~~~m|2]
  ·rfl'
   refine#[_,_,_,ho1,hC.1,hC.2,_,hlk,kY l6 hm8 ?_];rw[u6 hm];exact#[Bc,rfl,Yg rfl]
  rintro σ H1 ⟨rfl,rfl⟩:0;change SamT TB H1 H'/\TabOk H' TB lp lq/\∃(w:Bool) (es:List Ent) (p D:sM),Cpl k l ns (r+1) [] (fEs rs rs.length) w es/\BG k l ns es/\H' p=Ba (.tup [.bl w,.ref D])/\EnsM K H' D es/\σ=[!!o,!!a,~~~u,~~~v,-~~~r,-~~~m,!!p,Bb]
  ·rfl'
   exact#[o,a,k,l,ns,rs,r,rfl,ho,hG,hA,hrl,λp hp=>#[by have:=hrs p hp;lia,by have:=hrs p hp;lia,(hrs p hp).2.2],λp hp=>#[(hrs p hp).1,(hrs p hp).2.1],hr',hTab,λw es p D H' h1 h2 h3 h3' h4 h5=>#[h3,h3',w,es,h1,h2,p,D,h4,h5,rfl]]
  rintro σ H2 ⟨s2,hT2,w,es,p,D,hCp,hB,hp,hD,rfl⟩:_;let#[tbl,htb,_]:=id hTab;right;change Same H2 H'/\∃v7,JrV K H' es w u v D v7/\σ=[!!o,!!a,~~~u,~~~v,-~~~r,-~~~m,!!p,Ba (v7)]
  ·rfl'
   exact#[_,x6 hp,_,rfl,_,x6 hp,_,rfl,D,k,l,ns,es,w,u,v,rfl,hG,hD.l,hB,hul,hvl,λhno H' s'=>#[s',.inl #[rfl,hno]],λi j p H' hw hi hj hn s' h1=>#[s',.inr #[p,rfl,.inl #[i,j,hw,hi,hj,hn,h1]]],λi j p S H' hi hj hij s' h1 h2 h3=>#[s',.inr #[p,rfl,.inr #[i,j,S,hi,hj,hij,h3,h1,h2]]]]
  rintro σ H3 ⟨s3,v7,hv7,rfl⟩:_;have sT:=s2.trans (x9 s3);have hT3:=hT2.same s3;have hA3:=hA.samT sT htb;right;rcases hv7 with ⟨rfl,hno⟩ | ⟨p',rfl,hv7⟩
  ·refine qv (λZ Z=>False) ?_ λZ Z h=>h.elim
   rfl'
   exact#[_,_,_,sT.at htb ho1 (λZ z=>by cases z),hC.1,hC.2,_,hlk,a,l,rs,u,v,m,rfl,hG.g,hA3,λp hp=>(hrs p hp).2.2,hu,hv,hm8,hm,λhE p H' s' h=>q p H' (sT.trans (x9 s')) (hT3.same s') (.open_ w es hCp hB hno hE h),λn N p t ts H' h1 h2 h3 h4 h5 s' h6 h7=>q p H' (sT.trans (x9 s')) (hT3.same s') (.world w es n N t ts hCp hB hno h1 h2 h3 h4 h5 h6 h7)]
  ·change H'=H3/\σ=[!!o,!!a,~~~u,~~~v,-~~~r,-~~~m,!!p,!!p']
   ·rfl'
   rintro σ H4 ⟨rfl,rfl⟩:0
   rfl'
   refine q p' _ sT hT3 ?_;rcases hv7 with ⟨i,j,rfl,hi,hj,hn,h1⟩ | ⟨i,j,S,hi,hj,he,hl,h1,h2⟩
   ·exact .forms es i j D hCp hB hi hj hn h1 (hD.same s3)
   ·exact .alike w es i j S hCp hB hi hj he hl h1 h2
structure KXs(K:sL):Prop where
 ss:aV K (.type "str") (.type "str")=Ba Bc
def Uv(K:sL):Sp:=λvs H Q Z=>∃(a:sM) (es:List Ent),vs=[.ref a]/\Is K H (.lst (es.map dE)) (.ref a)/\Q (.bl Bc) H
def pf:sQz 1 ["_law_found","_law_entry"] jK:=by nofun
def Uk(B:Bt mg)(T:TLs K)(TX:KXs K)(F:("_law_entries"^^^jK))(pJ:(2<<<"_law_steps") ["_law_found"] [] (ZD K)):(3&&&["_law_found"]) (Uv K):=by
 exists F.ok pf
 ·let#[a,es,rfl,hA,q]:=h
  refine#[_,(zh (zJ (yf (yk (yH rfl B.isi (pv 0) rfl B.list jb3) (λZ=>rfl))) (ze (zl yt))
    zr) (zh (zR p8 rfl (zY (pv 0)) (zq (i:=1) pf.nd rfl (.inl rfl)) (zh (zJ (PW.pt (wT (yf (yk (yH rfl B.isi (pv 1) rfl B.tuple jc2) (λZ=>rfl))) (wT (zv uJ (zA B.len (pv 1)) zd (zx _)) (wg (yf (yk (cl0 pJ hr .nil rfl (za (!-1) zg)) (λZ=>rfl))))))) (ze (zl yt))
     zr) (ze (zJ (PW.pt (wT (yf (yk (yH rfl B.isi (!-1) rfl B.str jc1) (λZ=>rfl))) (wg (yf (yk (yH rfl B.isi (!-1) rfl B.str jc1) (λZ=>rfl)))))) (ze (zl yt))
     zr)))) (ze (zl yt)))),?_]
  have s16:=zX
  erw[Is]at hA
  let#[_,xs,e,hX,hI]:=hA;cases e;change H'=H/\σ=[!!a,Bb]
  ·rfl'
   exact#[_,.inr (.inr (.inl #[_,_,rfl,rfl,hX])),Bc,T.ll,Yg trivial]
  rintro σ H1 ⟨rfl,rfl⟩:0;change H'=H1/\∃v1,σ=[!!a,v1]
  ·rfl'
   refine#[#[_,hX],jb0 (xs:=xs) (λi σ H'=>H'=H1/\∃v1,σ=[!!a,v1]) #[rfl,_,rfl] (λi σ H' Z h=>by rw[h.1];exact hX) ?_ λσ H' h=>h];refine nm4 ?_;rintro i x σ H' hx ⟨rfl,v1,rfl⟩:_;let#[e,pe,se,hei,rfl,hqe,hse]:=WK hI hx;right
   erw[yv,aN,aM]
   refine zj (λσ H''=>H''=H'/\σ=[!!a,!!pe]) ?_ ?_
   ·rfl'
    exact#[_,.inr (.inr (.inr #[_,_,rfl,rfl,hqe])),Bc,T.tt,Yg #[_,.inr #[_,hqe,rfl],yb (λh=>w4 rfl h) λZ=>#[_,hqe,_,rfl,se,e.2.2,rfl,hse,Bc,rfl,Yg rfl]]]
   rintro σ G ⟨rfl,rfl⟩:0
   rfl'
   exact#[_,hqe,_,rfl,_,.inl (.str _),Bc,TX.ss,Yg #[_,hqe,_,rfl,_,.inl (.str _),Bc,TX.ss,Yg trivial]]
  rintro σ H2 ⟨rfl,v1,rfl⟩:0
  rfl'
  exact q
def U5(K:sL):Sp:=λvs H Q Z=>∃(t:sM) (rs:List sM) (tab:List (List Int)) (l:()),vs=[.ref t,.int (l.length:Nat)]/\TabAt H t rs tab/\xC l tab/\l.length<=6/\∀H',Same H H'->Q (.bl Bc) H'
def zbZ(h1:TabAt H t rs tab)(h2:xC l tab)(h3:l.length<=6)(q:∀H',Same H H'->Q (.bl Bc) H'):U5 K [.ref t,.int (l.length:Nat)] H Q E:=#[t,rs,tab,l,rfl,h1,h2,h3,q]
def oJ:sQz 2 ["_law_table","_law_many","_law_row"] vA:=by nofun
def We(B:Bt mg)(T:TLs K)(F:("_law_table_ok"^^^vA))(ow:(1<<<"_law_whole") ["_law_found"] [] ug):(2&&&["_law_table","_law_many"]) (U5 K):=by
 exists F.ok oJ
 ·let#[t,rs,tab,l,rfl,hT,hG,l6,q]:=h
  refine#[_,(zh (zJ (PW.pt (wT (yf (yk (yH rfl B.isi (pv 0) rfl B.list jb3) (λZ=>rfl))) (wg (zv Uh (zA B.len (pv 0)) zd (zx _))))) (ze (zl yt))
    zr) (zh (zR p8 rfl (zY (pv 0)) (zq (i:=2) oJ.nd rfl (.inl rfl)) (zh (zJ (PW.pt (wT (yf (yk (yH rfl B.isi (pv 2) rfl B.list jb3) (λZ=>rfl))) (wg (zv uJ (zA B.len (pv 2)) (pv 1) (zx _))))) (ze (zl yt))
     zr) (ze (zJ (yf (yk (yW (zdQ rfl) rfl B.all gd (za (yM (own:=["_law_room"]) (caps:=["_law_table"]) (ix:=[0]) (tt:=xo) (te:=(QF (ud ug [] E0 (zM (ya 0) xw)) (kJ zfg zfm (tC (.int 0)) (ya 0) (tCB (WR K) (zM (ya 1) xw))))) rfl (zK (sc:=zi vA) rfl (!0) (!0) (!0) rfl (!0) (!0) rfl) (zY (pv 2)) (λZ Z Z Z Z Z=>zq (i:=0) (show List.Nodup [_,_] by decide) rfl (.inl rfl)) (λZ Z Z Z Z Z=>yg) (λZ Z Z Z Z Z=>(jN (cl0 ow hr .nil rfl (za (pv 0) zg)) (jZ (Vs wJ U7 zd (pv 0) (zA B.len (pv 1))))))) zg)) (λZ=>rfl))) (ze (zl yt))
     zr)))) (ze (zl yt)))),?_]
  have s16:=zX;have hlo:=hG.lo;have hhi:=hG.hi;have hln:=hT.len;change H'=H/\σ=[!!t,Ba (.int (l.length:Nat)),Bb]
  ·rfl'
   exact#[_,.inr (.inr (.inl #[_,_,rfl,rfl,x4 hT.top])),Bc,T.ll,Yg #[_,.inl #[_,x4 hT.top,rfl],yb (λh=>by rw[aa]at h;lia) λZ=>trivial]]
  rintro σ H1 ⟨rfl,rfl⟩:0;change Same H1 H'/\∃v2,σ=[!!t,Ba (.int (l.length:Nat)),v2]
  ·rfl'
   refine#[#[_,x4 hT.top],jb0 (xs:=rs.map V.ref) (λi σ H'=>Same H1 H'/\∃v2,σ=[!!t,Ba (.int (l.length:Nat)),v2]) #[ja1 _,_,rfl] (λi σ H' Z h=>x4 (h.1 _ _ hT.top)) ?_ λσ H' h=>h];refine nm4 ?_;rintro i x σ H' hx ⟨hs,v2,rfl⟩:_;rw[au]at hx;let#[r,hr,rfl]:=Bo.mp hx;have hil:=(Bh.mp hr).1;have hy:tab[i]? = Ba (tab[i]'⋯):=af ⋯;right;generalize tab[i]'⋯=y at hy;have hym:=ac hy;have hR:=hs _ _ (hT.row i r y hr hy)
   erw[yv,aN,aM]
   refine zj (λσ G=>G=H'/\σ=[!!t,Ba (.int (l.length:Nat)),!!r]) ?_ ?_
   ·rfl'
    exact#[_,.inr (.inr (.inl #[_,_,rfl,rfl,x4 hR])),Bc,T.ll,Yg #[_,.inl #[_,x4 hR,rfl],yb (λh=>w4 (by rw[aa,hG.wd y hym]) h) λZ=>trivial]]
   rintro σ H2 ⟨rfl,rfl⟩:0
   rfl'
   refine#[#[_,x4 hR],λD hD=>ja3 (xs:=y.map V.int) (λi Bg G=>Same H2 G/\G D=Ba (.lst Bg)/\Bg=aR i (V.bl Bc)) #[zf hD,zc,rfl] (λi Bg G Z h=>x4 (h.1 _ _ hR)) ?_ ?_]
   ·refine nm4 ?_;rintro n x Bg G hx ⟨hs2,hH,rfl⟩:_;rw[au]at hx;let#[z,hz,rfl]:=Bo.mp hx;have hzl:=(Bh.mp hz).1;have hzb:=hG.rm y hym z (ac hz);have hyl:=hG.wd y hym;right
    erw[xo]
    rfl'
    have ht2:=hs2 _ _ (hs _ _ hT.top);refine#[yz,jq #[Bc,rfl,zf5 (yb (λZ=>#[_,.inl #[_,x4 ht2,rfl],hH,by rw[bN];lia,x8 (by rw[aa];exact hzl) #[zu hs2 hD,zc,?_]]) λh=>w4 hzb.1 h)]];rw[aa,u6 ⋯,eG]
   ·refine nmB ?_;rintro Bg G ⟨hs2,hH,rfl⟩:0;refine#[D,aR y.length Bc,rfl,?_,?_]
    ·rw[List.map_replicate,aa]at *;exact x4 hH
    ·have e:(aR y.length Bc).all id=Bc:=by simp
     rw[e];exact#[Bc,rfl,Yg (hs.trans hs2)]
  rintro σ H2 ⟨s2,v2,rfl⟩:0
  rfl'
  exact q _ s2
structure TAn(K:sL):Prop where
 tt:aV K (.type "tuple") (.type "tuple")=Ba Bc
 ss:aV K (.type "str") (.type "str")=Ba Bc
inductive zgC(K:sL)(H:Hp)(l:())(p:sM):Prop where
 | open_ (h:H p=Ba (.tup [.str "open"]))
 | alike (S:sM) (ss:List Stp) (h:H p=Ba (.tup [.str "alike",.ref S])) (hS:LsA K H S (ss.map dSt))
 | forms (D:sM) (es:List Ent) (f g:()) (h:H p=Ba (.tup [.str "forms",.ref D,⇑f,⇑g])) (hD:EnsM K H D es)
 | world (t:sM) (ts:List sM) (tab:List (List Int)) (h:H p=Ba (.tup [.str "world",.ref t])) (ht:TabAt H t ts tab) (hG:xC l tab)
theorem JOut.ans(h:JOut K H k l ns rs u v r m p)(hm:m<=8):zgC K H l p:=by
 cases h with
 | alike w es i j S hc hb hi hj he hl hp hS=>exact .alike S _ hp hS
 | forms es i j D hc hb hi hj hn hp hD=>exact .forms D es _ _ hp hD
 | world w es n N t ts hc hb hno h1 h2 h3 h4 h5 hp ht=>exact .world t ts _ hp ht (qR N h1 ⋯)
 | open_ w es hc hb hno h5 hp=>exact .open_ hp
def UN(K:sL):Sp:=λvs H Q Z=>∃(p:sM) (l:()),vs=[.ref p,.int (l.length:Nat)]/\l.length<=6/\zgC K H l p/\∀H',Same H H'->Q (.bl Bc) H'
def UV:sQz 2 ["_law_found","_law_many"] ZB:=by nofun
def Jt(B:Bt mg)(T:TAn K)(F:("_law_answer"^^^ZB))(pJ:(2<<<"_law_steps") ["_law_found"] [] (ZD K))(rO:(2<<<"_law_table_ok") ["_law_table","_law_many"] [] (U5 K))(rQ:(3<<<"_law_entries") ["_law_found"] [] (Uv K)):(4&&&["_law_found","_law_many"]) (UN K):=by
 exists F.ok UV
 ·let#[p,l,rfl,l6,hA,q]:=h
  refine#[_,(zh (zJ (PW.pt (wT (yf (yk (yH rfl B.isi (pv 0) rfl B.tuple jc2) (λZ=>rfl))) (wT (zv U7 (zA B.len (pv 0)) zd (zx _)) (wg (yf (yk (yH rfl B.isi (!-0) rfl B.str jc1) (λZ=>rfl))))))) (ze (zl yt))
    zr) (zh (zJ (zv xx (!-0) z6 (zx _)) (ze (zl (jN (yi xx (zA B.len (pv 0)) zd (zx _)) (jZ (cl0 pJ hr .nil rfl (za (!-0) zg))))))
    zr) (zh (zJ (zv xx (!-0) z6 (zx _)) (zh (zJ (PW.pt (wT (zv uJ (zA B.len (pv 0)) zd (zx _)) (wg (yf (yk (cl0 rQ hr .nil rfl (za (!-0) zg)) (λZ=>rfl)))))) (ze (zl yt))
     zr) (ze (zl (jN (yH rfl B.isi (!-0) rfl B.str jc1) (jZ (yH rfl B.isi (!-0) rfl B.str jc1))))))
    zr) (zh (zJ (zv xx (!-0) z6 (zx _)) (ze (zl (jN (yi xx (zA B.len (pv 0)) zd (zx _)) (jZ (cl0 rO hr .nil rfl (za (!-0) (za (pv 1) zg)))))))
    zr) (ze (zl (yi (WE (wz hr)) (pv 0) (zW (za z6 zg)) (zx _)))))))),?_]
  have s16:=zX;change H'=H/\σ=[!!p,Ba (.int (l.length:Nat))]
  ·rfl'
   have key:∀(a:sS) (xs:List V),H p=Ba (.tup (.str a::xs))->∃x,TyX K H (.ref p) x/\∃x_1,aV K x (.type "tuple")=Ba x_1/\if x_1=Bd then Q (.bl Bd) H else ∃x,((∃xs,SqL K H p xs/\x=xs.length)\/∃xs,SqT K H p xs/\x=xs.length)/\if (x:Int)<1 then Q (.bl Bd) H else ∃xs,SqT K H p xs/\∃v,atI xs 0=Ba v/\∃x,TyX K H v x/\∃x_2,aV K x (.type "str")=Ba x_2/\if x_2=Bd then Q (.bl Bd) H else True:=λa xs h =>
    #[_,.inr (.inr (.inr #[_,_,rfl,rfl,x6 h])),Bc,T.tt,Yg #[_,.inr #[_,x6 h,rfl],yb (λz=>by rw[aG]at z;lia) λZ=>#[_,x6 h,.str a,wU (j:=0) rfl,_,.inl (.str _),Bc,T.ss,Yg trivial]]]
   cases hA with
   | open_ h=>exact key _ _ h
   | alike S ss h hS=>exact key _ _ h
   | forms D es f g h hD=>exact key _ _ h
   | world t ts tab h ht hG=>exact key _ _ h
  rintro σ H1 ⟨rfl,rfl⟩:_;have skip:∀{a b:sS} {xs:List V} {A:Prop} {B:Prop},H1 p=Ba (.tup (.str a::xs))->a≠b->B->∃xs,SqT K H1 p xs/\∃v,atI xs 0=Ba v/\J5 v (.str b)=Bc/\if v=.str b then A else B:=λ{a b xs A B} h hne hB=>#[_,x6 h,.str a,wU (j:=0) rfl,rfl,yb (λz=>w4 (V.str.inj z) hne) λZ=>hB];right
  cases hA with
  | alike S ss h hS =>
   refine qv (λZ Z=>False) ?_ λZ Z h=>h.elim
   rfl'
   exact#[_,x6 h,_,rfl,rfl,yb (λZ=>#[_,.inr #[_,x6 h,rfl],yb (λZ=>#[_,x6 h,_,rfl,S,ss,rfl,hS.is,q _ (ja1 _)]) λz=>w4 rfl z]) λz=>w4 rfl z]
  | forms D es f g h hD =>
   change H'=H1/\σ=[!!p,Ba (.int (l.length:Nat))]
   ·rfl'
    exact skip h ∅ trivial
   rintro σ H2 ⟨rfl,rfl⟩:0;refine qv (λZ Z=>False) ?_ λZ Z h=>h.elim
   rfl'
   refine#[_,x6 h,_,rfl,rfl,yb (λZ=>?_) λz=>w4 rfl z];change H'=H2/\σ=[!!p,Ba (.int (l.length:Nat))]
   ·rfl'
    exact#[_,.inr #[_,x6 h,rfl],yb (λz=>w4 rfl z) λZ=>#[_,x6 h,_,rfl,D,es,rfl,hD.l.is,Bc,rfl,Yg rfl]]
   rintro σ H3 ⟨rfl,rfl⟩:0
   rfl'
   exact#[_,x6 h,_,rfl,_,.inl (.str _),Bc,T.ss,zf5 #[_,x6 h,_,rfl,_,.inl (.str _),Bc,T.ss,q _ (ja1 _)]]
  | world t ts tab h ht hG =>
   change H'=H1/\σ=[!!p,Ba (.int (l.length:Nat))]
   ·rfl'
    exact skip h ∅ trivial
   rintro σ H2 ⟨rfl,rfl⟩:0;change H'=H2/\σ=[!!p,Ba (.int (l.length:Nat))]
   ·rfl'
    exact skip h ∅ trivial
   rintro σ H3 ⟨rfl,rfl⟩:0;refine qv (λZ Z=>False) ?_ λZ Z h=>h.elim
   rfl'
   exact#[_,x6 h,_,rfl,rfl,yb (λZ=>#[_,.inr #[_,x6 h,rfl],yb (λZ=>#[_,x6 h,_,rfl,zbZ ht hG l6 q]) λz=>w4 rfl z]) λz=>w4 rfl z]
  | open_ h =>
   change H'=H1/\σ=[!!p,Ba (.int (l.length:Nat))]
   ·rfl'
    exact skip h ∅ trivial
   rintro σ H2 ⟨rfl,rfl⟩:0;change H'=H2/\σ=[!!p,Ba (.int (l.length:Nat))]
   ·rfl'
    exact skip h ∅ trivial
   rintro σ H3 ⟨rfl,rfl⟩:0;change H'=H3/\σ=[!!p,Ba (.int (l.length:Nat))]
   ·rfl'
    exact skip h ∅ trivial
   rintro σ H4 ⟨rfl,rfl⟩:0
   rfl'
   refine#[⋯,λp1 hp1=>ZH (l:=[.str "open"]) (m:=[.str "open"]) (.inr #[?_,?_]) ∅ ?_]
   ·erw[Is,Iss]
    exact#[_,_,rfl,x6 (zf hp1 _ _ h),_,_,rfl,rfl,rfl]
   ·erw[Is,Iss]
    exact#[_,_,rfl,x6 zc,_,_,rfl,rfl,rfl]
   ·rw[xh];exact q _ (zf hp1)
theorem none_of{w:()}(h:∀p ∈ ps,¬ Within p.1 w):zF w ps=Bb:=by
 cases e:zF w ps with
 | none=>rfl
 | some u =>
  let#[p,h1,h2]:=ye e;exact w4 (Qi h2) (h p (ac h1))
def YW{w:()}(h:zF w ps=Bb):EndsAt ps w 0:=#[λi hi=>w4 hi (bq i),h,ar _]
def Xc(bs:List Ent)(e:Ent):yO bs e 0 0=e:=by show (e.1,e.2.1,[] ++ e.2.2 ++ [])=e;rw[bg,aT]
def Uc{p w:()}(h:Within p w):p.length<=w.length/\(p.length=w.length->p=w):=by
 let#[a,b,rfl]:=h
 erw[aj]
 refine#[⋯,λe=>?_];have ha:a=[]:=By.mp ⋯;have hb:b=[]:=By.mp ⋯;rw[ha,hb,bg,aT]
structure TLe(k:Nat)(l:())(ns:List Int)(s:Nat)(e:Ent):Prop where
 a:e.1.length=s
 b:e.2.1.length<s
 lt:zU k l ns e.2.1 e.1=Bc
 far:¬ qY e
theorem zao(h:xn k l ns bs es r):(∀e ∈ bs ++ es,TLe k l ns s e)->(bs ++ es).Pairwise (λa b=>a.1≠b.1)->r=Ba (bs ++ es):=by
 have key:∀{bs es:List Ent} {e:Ent},(∀x ∈ bs ++ e::es,TLe k l ns s x)->(bs ++ e::es).Pairwise (λa b=>a.1≠b.1)->EndsAt (zb bs) e.1 0/\EndsAt (zb bs) e.2.1 0/\TLe k l ns s e:=λ{bs es e} h1 h2=>by
  have he:=h1 e (by simp);refine#[YW (none_of λp hp hw=>?_),YW (none_of λp hp hw=>?_),he]
  all_goals
   let#[x,hx,rfl]:=Bj.mp hp;have hx':=h1 x (bz _ hx);have hl:=Uc hw;have:=hx'.a;have:=he.a;have:=he.b
  ·exact (BA.mp h2).2.2 x hx e aB (hl.2 (by show x.1.length=_;lia))
  ·have:=hl.1
   replace this:x.1.length<=_:=this
   lia
 induction h with
 | nil bs=>intro _ _;rw[aT]
 | @same bs es e i j r h1 h2 h3 h4 ih =>
  intro g1 g2;let#[a1,a2,he]:=key g1 g2;rw[h1.uniq a1,h2.uniq a2]at h3;have h3':e.1.length=e.2.1.length:=congrArg cQ h3;have:=he.a;have:=he.b;lia
 | @new bs es e i j r h1 h2 h3 h4 h5 ih =>
  intro g1 g2;let#[a1,a2,he]:=key g1 g2
  have e0:z8 k l ns (yO bs e i j)=e:=by
   rw[h1.uniq a1,h2.uniq a2,Xc];unfold z8;rw[w6 he.lt]
  rw[e0,aQ]at ih;exact ih g1 g2
 | @far bs es e i j h1 h2 h3 h4 =>
  intro g1 g2;let#[a1,a2,he]:=key g1 g2;rw[h1.uniq a1,h2.uniq a2,Xc]at h4;exact w4 h4 he.far
 | @stuck bs es e h =>
  intro g1 g2;let#[a1,a2,he]:=key g1 g2;rcases h with h | h
  ·exact w4 a1 (h 0)
  ·exact w4 a2 (h 0)
theorem zcR(h:uL k l ns (n+1) es r)(hz:∀zs,Lined k l ns es zs->(∀e ∈ zs,TLe k l ns s e)/\zs.Pairwise λa b=>a.1≠b.1):∃zs,Lined k l ns es zs/\r=Ba zs:=by
 have key:∀{zs r},Lined k l ns es zs->xn k l ns [] zs r->r=Ba zs:=λ{zs r} h1 h2=>by
  have:=zao h2 (by rw[bg];exact (hz zs h1).1) (by rw[bg];exact (hz zs h1).2);rw[bg]at this;exact this
 cases h with
 | bad h1 h2=>cases key h1 h2
 | done h1 h2 h3=>exact#[_,h1,key h1 h2]
 | more h1 h2 h3 h4 =>
  cases key h1 h2;exact w4 rfl h3
def lgR(p:zH):zH:=if p.1.length<p.2.length then (p.2,p.1)else p
theorem Xa(rs:List zH):∀n,n<=rs.length->zb (fEs rs n)=rs.take n
 | 0,_=>by simp [fEs,zb]
 | n+1,h=>by
  have ih:=Xa rs n ⋯;have e:rs[n]? = Ba (rs[n]'⋯):=af ⋯;rw[zP e,<- ih]
  erw[fEs,zb,am]
  congr 1;rw[e];rfl
structure TLr(l:())(s:Nat)(p:zH):Prop where
 a:p.1.length=s
 b:p.2.length<s
 ma:∀c ∈ p.1,c ∈ l
 mb:∀c ∈ p.2,c ∈ l
def K3(hk:k≠2)(hs:∀p ∈ rs,TLr l s p)(h60:s<=60)(hA:(rs'.map lgR).Perm rs)(hn:(rs.map Prod.fst).Nodup)(hz:Lined k l ns (fEs rs' rs'.length) zs):((∀e ∈ zs,TLe k l ns s e)/\zs.Pairwise λa b=>a.1≠b.1)/\(zb zs).Perm rs/\∀e ∈ zs,e.2.2.length=1:=by
 have less:∀{u v:()},u.length<v.length->zU k l ns u v=Bc/\zU k l ns v u=Bd:=λ{u v} h=>by
  unfold zU zE;rw[w9 hk,w9 hk,w9 ⋯,w9 ⋯];exact#[u6 ⋯,u9 ⋯]
 have mem:∀p ∈ rs',TLr l s (lgR p):=λp hp=>hs _ (hA.mem_iff.mp (Bj.mpr #[p,hp,rfl]))
 have ne:∀p ∈ rs',p.1.length≠p.2.length:=λp hp e=>by
  have h:=mem p hp;unfold lgR at h;rw[w9 ⋯]at h;have:=h.a;have:=h.b;lia
 have rul:∀e:Ent,e.1.length≠e.2.1.length->((z8 k l ns e).1,(z8 k l ns e).2.1)=lgR (e.1,e.2.1)/\zU k l ns (z8 k l ns e).2.1 (z8 k l ns e).1=Bc/\(z8 k l ns e).2.2.length=e.2.2.length:=λe h=>by
  unfold z8 lgR;by_cases g:e.1.length<e.2.1.length
  ·rw[w9 (by rw[(less g).2];decide),w6 g];exact#[rfl,(less g).1,yB _]
  ·have g':=(less (show e.2.1.length<e.1.length by lia)).1;rw[w6 g',w9 g];exact#[rfl,g',rfl]
 have ents:∀e ∈ fEs rs' rs'.length,e.1.length≠e.2.1.length/\e.2.2.length=1/\TLr l s (lgR (e.1,e.2.1)):=λe he=>by
  let#[i,p,hi,hp,rfl]:=jk he;have hm:=ac hp;exact#[ne p hm,rfl,mem p hm]
 have raw:ja k l ns (fEs rs' rs'.length)=(fEs rs' rs'.length).map (z8 k l ns):=by
  unfold ja
  rw[List.filter_eq_self.mpr λe he=>by
   have:=(ents e he).1
   erw[dP,decide_eq_false_iff_not]
   exact λh=>this (by rw[h])]
 have hp0:=hz.perm;rw[raw]at hp0
 have pz:(zb zs).Perm rs:=by
  refine ((hp0.map λe:Ent=>(e.1,e.2.1)).trans ?_).trans hA
  have e1:((fEs rs' rs'.length).map (z8 k l ns)).map (λe:Ent=>(e.1,e.2.1))=(zb (fEs rs' rs'.length)).map lgR:=by
   unfold zb;rw[cf,cf];exact bV λe he=>(rul e (ents e he).1).1
  rw[e1,Xa _ _ (al _),aJ]
 have zm:∀e ∈ zs,∃y ∈ fEs rs' rs'.length,e=z8 k l ns y:=λe he=>by
  let#[y,hy,rfl]:=Bj.mp (hp0.mem_iff.mp he);exact#[y,hy,rfl]
 have z1:∀e ∈ zs,e.2.2.length=1:=λe he=>by
  let#[y,hy,rfl]:=zm e he;rw[(rul y (ents y hy).1).2.2];exact (ents y hy).2.1
 refine#[#[λe he=>?_,?_],pz,z1]
 ·have hr:TLr l s (e.1,e.2.1):=hs _ (pz.mem_iff.mp (Bj.mpr #[e,he,rfl]));have h1:=z1 e he;let#[y,hy,rfl]:=zm e he;have ha:=hr.a;have hb:=hr.b;refine#[ha,hb,(rul y (ents y hy).1).2.1,λh=>?_];unfold qY at h;simp only at ha hb;lia
 ·have hn':(zs.map λe:Ent=>e.1).Nodup:=by
   have:(zb zs).map Prod.fst=zs.map λe:Ent=>e.1:=by unfold zb;rw[cf];rfl
   rw[<- this];exact ((pz.map Prod.fst).nodup_iff).mpr hn
  exact BD.mp hn'
theorem vE(hs:∀p ∈ ps,p.2.length<p.1.length){w:()}:∀{i:Nat},kM ps w i->(wAt ps w i).length+i<=w.length
 | 0,_=>al _
 | i+1,h=>by
  have ih:=vE hs (i:=i) λj hj=>h j ⋯
  cases e:zF (wAt ps w i) ps with
  | none=>exact w4 e (h i ⋯)
  | some u =>
   let#[p,h1,h2]:=ye e;let#[e1,_]:=yA h2;rw[xJ e];unfold ZA yX;rw[yT h1];have e2:=congrArg cQ e1;have:=hs p (ac h1)
   erw[aj]at e2 ⊢
   lia
def vv(hs:∀p ∈ ps,p.2.length<p.1.length){w:()}(hw:w.length<=40):∃i,EndsAt ps w i/\i<=w.length:=by
 rcases U4 ps w with ⟨i,h⟩ | ⟨h1,h2⟩
 ·have:=vE hs h.live;exact#[i,h,⋯]
 ·have:=vE hs (w:=w) (i:=41) λi hi=>by
   by_cases e:i=40
   ·rw[e];exact h2
   ·exact h1 i ⋯
  lia
theorem qI{w:()}(h:EndsAt ps w i):goJ ps 40 w=Ba i:=by
 cases e:goJ ps 40 w with
 | none=>exact w4 h.end_ (Vm e i h.most)
 | some j =>
  let#[_,h2,h3]:=WY e;rw[uf h2 h3 h.live h.end_]
def AtF(v:())(ps:List zH)(i:Nat)(x y:Int):Prop:=∃r,FirstN v ps 0 v.length i r/\((r=Bb/\x=(v.length:Int)+1)\/∃j n:Nat,r=Ba (j,n)/\j<i/\n<v.length/\x=(n:Int)/\y=(j:Int))
def st_of{q:Nat}:zw v (q:Int) o=Bc ↔ q+o.length<=v.length/\(v.drop q).take o.length=o:=by unfold zw;rw[decide_eq_true_eq,aA];exact#[λh=>#[⋯,h.2.2],λh=>#[⋯,⋯,h.2]]
end
set_option tactic.hygienic true in
mutual section
def AtF.next(h:AtF v ps i x y)(hr:ps[i]? = Ba r)(hne:r.1≠[])(hz:zfT v r.1 z):(z<0->AtF v ps (i+1) x y)/\(0<=z->if z<x\/(z=x/\(i:Int)<y)then AtF v ps (i+1) z (i:Int)else AtF v ps (i+1) x y):=by
 let#[r0,hF,hx]:=h
 have lift:FirstN v ps 0 v.length (i+1) r0->AtF v ps (i+1) x y:=λhF'=>by
  refine#[r0,hF',?_];rcases hx with hx | ⟨j,n,h1,h2,h3⟩
  ·exact .inl hx
  ·exact .inr #[j,n,h1,⋯,h3]
 have hpos:0<r.1.length:=Bu.mpr hne;rcases hz with ⟨rfl,hz⟩ | ⟨q,rfl,h1,h2⟩
 ·refine#[λZ=>lift (hF.keep hr λq Z Z=>?_),λh=>by lia];rw[e9];exact λh=>hz q (st_of.mp h)
 ·refine#[λh=>by lia,λZ=>?_]
  have fst:∀q':Nat,0<=q'->q'<q->zw v (q':Int) r.1=Bd:=λq' Z hq=>by
   rw[e9];exact λh=>h2 q' hq (st_of.mp h)
  split
  ·rename_i hlt
   have hqx:(q:Int)<x:=by
    rcases hlt with h | ⟨h,hy⟩
    ·exact h
    ·rcases hx with ⟨_,rfl⟩ | ⟨j,n,_,hj,_,_,rfl⟩
     ·lia
     ·lia
   refine#[Ba (i,q),hF.take hr (ar _) ?_ (st_of.mpr h1) fst,.inr #[i,q,rfl,⋯,⋯,rfl,rfl]];rcases hx with ⟨rfl,rfl⟩ | ⟨j,n,rfl,_,_,rfl,_⟩
   ·show q<v.length;lia
   ·show q<n;lia
  ·rename_i hlt;refine lift (hF.keep hr λq' Z hq=>fst q' (ar _) ?_);rcases hx with ⟨rfl,rfl⟩ | ⟨j,n,rfl,_,_,rfl,_⟩
   ·exact w4 (.inl ⋯) hlt
   ·have:q'<n:=hq;have:¬ (q:Int)<(n:Int):=λh=>hlt (.inl h);lia
structure ShP(ps:List zH):Prop where
 ne:NeL ps
 sh:∀p ∈ ps,p.2.length<p.1.length
 s:∀p ∈ ps,p.1.length<=60
 n:ps.length<=1000
def vo(K:sL):Sp:=λvs H Q Z=>∃(a:sM) (ps:List zH) (w:()),vs=[.ref a,⇑w]/\LsA K H a (ps.map dR)/\ShP ps/\w.length<=100/\∀(i:Nat) (H':Hp),Same H H'->kM ps w i->zF (wAt ps w i) ps=Bb->Q ⇑(wAt ps w i) H'
def kZ{w:()}(h1:LsA K H a (ps.map dR))(h2:ShP ps)(h3:w.length<=100)(h:∀(i:Nat) (H':Hp),Same H H'->kM ps w i->zF (wAt ps w i) ps=Bb->Q ⇑(wAt ps w i) H'):vo K [.ref a,⇑w] H Q E:=#[a,ps,w,rfl,h1,h2,h3,h]
structure HMn(mg:sS->Option sN):Prop where
 m:mg "min" = Bb
def iP:sQz 2 ["_law_rules","_law_word_here","_law_first","_law_number","_law_rule","_law_at","_law_behind"] UE:=by nofun
def zbN(B:Bt mg)(HM:HMn mg)(F:("_law_form"^^^UE)):(1&&&["_law_rules","_law_word_here"]) (vo K):=by
 exists F.ok iP
 ·let#[a,ps,w,rfl,hA,hP,hwl,q]:=h
  refine#[_,(ze (vq p8 (yk yt (λZ=>rfl)) (zh (zy 2 iP.nd (zW (za (zD z7 (zA B.len (pv 1)) zd) (za zd zg)))) (zh (zR p8 rfl (y9 rfl B.enum (za (pv 0) zg)) (vQ (n:=2) rfl (zZ (zq (i:=3) iP.nd rfl (.inl rfl)) (zZ (zq (i:=4) iP.nd rfl (.inl rfl)) xW))) (zh (zy 5 iP.nd (wf bK dq du zch (pv 1) (za (!-4) zg))) (ze (zJ (zv op_ge' (pv 5) zd (zx _)) (ze (zy 2 iP.nd (yW (zek rfl (wz hr)) rfl HM.m ge (za (pv 2) (za (zW (za (pv 5) (za (pv 3) zg))) zg)))))
      zr)))) (zh (zJ (zv XO (!-2) (zA B.len (pv 1)) (zx _)) (ze (zl (pv 1)))
     zr) (zh (zy 4 iP.nd (zk ix_list (pv 0) (!-2))) (zh (zy 6 iP.nd (zQ yJ (pv 1) (zO (zD z7 (!-2) (zA B.len (!-4)))) yo)) (ze (zy 1 iP.nd (zD zS (zD zS (zQ yJ (pv 1) yo (zO (!-2))) (!-4)) (pv 6))))))))))),?_]
  have s16:=zX;let#[xs,hX,hI]:=id hA;have hxl:=hI.len;rw[aa]at hxl;have hpn:=hP.n;unfold kH;refine#[λm σ H'=>Same H H'/\∃(k:Nat) (v2 v3 v4 v5 v6:Option V),(m=(wAt ps w k).length/\kM ps w k)/\σ=[!!a,Ba ⇑(wAt ps w k),v2,v3,v4,v5,v6],#[_,ja1 _,0,Bb,Bb,Bb,Bb,Bb,#[rfl,λi hi=>w4 hi (bq i)],rfl],?_];refine nmC ?_;rintro m σ H1 ⟨s1,k,v2,v3,v4,v5,v6,⟨rfl,hk⟩,rfl⟩:_;have hvl:=vE hP.sh hk;right
  rfl'
  refine#[λσ' H''=>Same H H''/\∃(u:Nat × Nat) (v2 v3 v4 v5 v6:Option V),zF (wAt ps w k) ps=Ba u/\σ'=[!!a,Ba ⇑(ZA (wAt ps w k) ps u),v2,v3,v4,v5,v6],?_,?_]
  ·refine nmB ?_;rintro σ' H'' ⟨s2,u,v2,v3,v4,v5,v6,h,rfl⟩:_
   have hk1:kM ps w (k+1):=λi hi=>by
    by_cases e:i=k
    ·rw[e,h];intro z;cases z
    ·exact hk i ⋯
   have e:=xJ h
   have m1:(wAt ps w (k+1)).length<(wAt ps w k).length:=by
    let#[p,h1,h2]:=ye h;let#[e1,_]:=yA h2;have e2:=congrArg cQ e1;have:=hP.sh p (ac h1);rw[e];unfold ZA yX;rw[yT h1]
    erw[aj]at e2 ⊢
    lia
   right;exact#[_,m1,s2,k+1,rfl,hk1,v2,v3,v4,v5,v6,by rw[e]]
  generalize hv:wAt ps w k=v at hvl;change Same H H'/\∃q:sM,H' q=Ba (.tup [.int ((v.length:Int)+1),.int 0])/\σ=[!!a,~~~v,!!q,v3,v4,v5,v6]
  ·rfl'
   exact#[⋯,⋯,λp hp=>#[s1.trans (zf hp),zc]]
  rintro σ H2 ⟨s2,q0,hq0,rfl⟩:0;change Same H H'/\∃(q0:sM) (x y:Int),H' q0=Ba (.tup [.int x,.int y])/\AtF v ps ps.length x y/\∃v3 v4 v5:Option V,σ=[!!a,~~~v,!!q0,v3,v4,v5,v6]
  ·rfl'
   refine#[#[_,x4 (s2 _ _ hX)],jb1 (xs:=xs) (λi σ H'=>Same H H'/\∃(q0:sM) (x y:Int),H' q0=Ba (.tup [.int x,.int y])/\AtF v ps i x y/\∃v3 v4 v5:Option V,σ=[!!a,~~~v,!!q0,v3,v4,v5,v6]) #[s2,q0,_,_,hq0,#[Bb,.inl #[rfl,λj q h=>w4 h (bq _)],.inl #[rfl,rfl]],v3,v4,v5,rfl] (λi σ H' Z h=>x4 (h.1 _ _ hX)) ?_ ?_]
   ·refine nmE ?_;rintro i x σ H3 p3 hx ⟨s3,q0,x0,y0,hq0,hat,v3,v4,v5,rfl⟩ hp3:_;have hi:=(Bh.mp hx).1;let#[r,p,hr,rfl,hsq]:=hI.getR hx;have sp3:=zf (o:=.tup [.int (i:Nat),.ref p]) hp3;have s4:=s3.trans sp3;have hq4:=sp3 _ _ hq0;have hsq4:=zp s4 hsq;right
    rfl'
    refine#[_,x6 zc,rfl,_,_,rfl,_,_,rfl,rfl,?_];generalize upd H3 p3 (.tup [.int (i:Nat),.ref p])=H4 at s4 hq4 hsq4;change H'=H4/\∃z:Int,zfT v r.1 z/\σ=[!!a,~~~v,!!q0,-~~~i,!!p,~~~!z,v6]
    ·rfl'
     exact#[_,hsq4,_,rfl,v,r.1,rfl,rfl,λz hz=>#[rfl,z,hz,rfl]]
    rintro σ H5 ⟨rfl,z,hz,rfl⟩:_;have hnx:=hat.next hr (hP.ne r (ac hr)) hz;right
    rfl'
    refine yb (λh0=>#[⋯,λp5 hp5=>?_]) λh0=>#[s4,q0,x0,y0,hq4,hnx.1 ⋯,rfl];have sp5:=zf (o:=.tup [.int z,.int (i:Nat)]) hp5;refine#[q0,p5,x0,y0,z,(i:Nat),rfl,x6 (sp5 _ _ hq4),x6 zc,s4.trans sp5,?_];have hy:=hnx.2 h0;by_cases g:z<x0\/(z=x0/\(i:Int)<y0)
    ·rw[w6 g]at hy ⊢;exact#[p5,_,_,zc,hy,rfl]
    ·rw[w9 g]at hy ⊢;exact#[q0,_,_,sp5 _ _ hq4,hy,rfl]
   ·refine nmB ?_;rintro σ H' ⟨s',q0,x,y,h1,h2,v3,v4,v5,rfl⟩:0;exact#[s',q0,x,y,h1,by rw[<- hxl];exact h2,v3,v4,v5,rfl]
  rintro σ H3 ⟨s3,q0,x,y,hq0,⟨r0,hF,hat⟩,v3,v4,v5,rfl⟩:_;have hfu:=ZF hF;right;change H'=H3/\(∃(n j:Nat) (p:zH),x=(n:Int)/\y=(j:Int)/\ps[j]? = Ba p/\zw v (n:Int) p.1=Bc/\zF v ps=Ba (j,n))/\σ=[!!a,~~~v,!!q0,v3,v4,v5,v6]
  ·rfl'
   refine#[_,x6 hq0,_,rfl,⋯,_,rfl,yb (λhg=>?_) λhg=>?_]
   ·rcases hat with ⟨rfl,_⟩ | ⟨j,n,_,_,hn,rfl,_⟩
    ·rw[<- hv]at hfu ⊢;exact q k H3 s3 hk hfu.symm
    ·lia
   ·let#[j,n,rfl,_,_,h1,h2]:=hat.resolve_left λh=>hg (by have:=h.2;lia);let#[p,g1,g2]:=ye hfu.symm;exact#[n,h1,j,h2,p,g1,g2,hfu.symm]
  rintro σ H4 ⟨rfl,⟨n,j,r,rfl,rfl,hr,hst,hfu⟩,rfl⟩:_;let#[hn1,hn2]:=st_of.mp hst;have hrm:=ac hr;have hrl:=hP.s r hrm;have hrs:=hP.sh r hrm
  obtain⟨x3,hx3,hsq3⟩:∃p3:sM,xs[j]? = Ba (.ref p3)/\SqT K H4 p3 [⇑r.1,⇑r.2]:=by
   have hj:=(Bh.mp hr).1;have hx:xs[j]? = Ba (xs[j]'⋯):=af ⋯;let#[r',p,hr',e,hsq]:=hI.getR hx;rw[hr]at hr';cases hr';exact#[p,by rw[hx,e],zp s3 hsq]
  right;change H'=H4/\σ=[!!a,~~~v,!!q0,v3,!!x3,v5,v6]
  ·rfl'
   exact#[_,x6 hq0,_,rfl,_,rfl,_,x4 (s3 _ _ hX),wU hx3]
  rintro σ H5 ⟨rfl,rfl⟩:0;change H'=H5/\σ=[!!a,~~~v,!!q0,v3,!!x3,v5,Ba ⇑(v.drop (n+r.1.length))]
  ·rfl'
   refine#[_,x6 hq0,_,rfl,_,hsq3,_,rfl,_,#[by rw[zI];lia,rfl],_,rfl,⋯,?_];rw[zI,<- Int.natCast_add,xq v (bJ _),aA]
  rintro σ H6 ⟨rfl,rfl⟩:0
  rfl'
  have e:v.take n ++ r.2 ++ v.drop (n+r.1.length)=ZA v ps (j,n):=by
   unfold ZA yX;rw[yT hr];rfl
  refine#[_,x6 hq0,_,rfl,_,rfl,⋯,_,hsq3,_,rfl,_,rfl,?_,?_,s3,_,hfu,?_]
  all_goals erw[zI,yV,uj v (bJ _),aA,aj,aC,aS]
  ·lia
  ·lia
  ·rw[e]
def zgv:List V->Hp->VK->Prop:=λxs H Q=>∃i j,xs=[.int i,.int j]/\Q (.int (if j<i then j else i)) H
def zex(hc:X.calm=Bc):wX X (.builtin "min") zgv:=Us hc
def zcE{A B C X Y:Prop}[Decidable A][Decidable B][Decidable C](h1:A->(B\/C)->X)(h2:¬ (A/\(B\/C))->Y):if A then (if B then X else if C then X else Y)else Y:=by by_cases a:A <;> by_cases b:B <;> by_cases c:C <;> simp_all
def kG(ps:List zH):Bool:=(ovA ps ps.length).all (Wf ps 40)
def metA_un : kG ps=Bc ↔ unG ps 40=[]:=by unfold kG unG;rw[List.all_eq_true,List.filter_eq_nil_iff];exact#[λh t ht=>by rw[h t ht];decide,λh t ht=>by simpa using h t ht]
def zb7(hr:ps[i]? = Ba r)(ho:ps[j]? = Ba o)(hn:n<r.1.length)(hsz:sz=min (r.1.length - n) o.1.length):xz (lf ps i) (lf ps j) n=decide ((r.1.drop n).take sz=o.1.take sz)/\pkA ps (i,j,n)=r.2 ++ o.1.drop sz/\pkB ps (i,j,n)=(r.1 ++ o.1.drop sz).take n ++ o.2 ++ (r.1 ++ o.1.drop sz).drop (n+o.1.length):=by
 have d1:ps.getD i ([],[])=r:=by rw[ae,hr];rfl
 have d2:ps.getD j ([],[])=o:=by rw[ae,ho];rfl
 have ed:o.1.drop (r.1.length - n)=o.1.drop sz:=by
  rcases gz (r.1.length - n) o.1.length with h | h
  ·rw[hsz,cD h]
  ·rw[hsz,cN h,bf h,d4]
 refine#[?_,?_,?_]
 ·rw[xE hr,xE ho];unfold xz
  have e1:(r.1.drop n).take o.1.length=(r.1.drop n).take sz:=by
   rw[hsz];rcases gz (r.1.length - n) o.1.length with h | h
   ·rw[cD h,aW (by rw[aS];exact h),aW (by rw[aS];exact al _)]
   ·rw[cN h]
  have e2:o.1.take (r.1.length - n)=o.1.take sz:=by
   rw[hsz];rcases gz (r.1.length - n) o.1.length with h | h
   ·rw[cD h]
   ·rw[cN h,aW h,aJ]
  rw[e1,e2]
 ·unfold pkA yX yu;rw[xE hr,xE ho,d1];show (r.1 ++ o.1.drop (r.1.length - n)).take 0 ++ r.2 ++ (r.1 ++ o.1.drop (r.1.length - n)).drop (0+r.1.length)=_;rw[bv,bg,eh,gc,ed]
 ·unfold pkB yX yu;rw[xE hr,xE ho,d2];show (r.1 ++ o.1.drop (r.1.length - n)).take n ++ o.2 ++ (r.1 ++ o.1.drop (r.1.length - n)).drop (n+o.1.length)=_;rw[ed]
def YY(hP:ShP ps)(h1:(pkA ps t).length<=40)(h2:(pkB ps t).length<=40)(a1:kM ps (pkA ps t) i)(a2:zF (wAt ps (pkA ps t) i) ps=Bb)(b1:kM ps (pkB ps t) j)(b2:zF (wAt ps (pkB ps t) j) ps=Bb):Wf ps 40 t=decide (wAt ps (pkA ps t) i=wAt ps (pkB ps t) j):=by have l1:=vE hP.sh a1;have l2:=vE hP.sh b1;unfold Wf zfi;rw[qI #[a1,a2,⋯],qI #[b1,b2,⋯]];rfl
def Yi(K:sL):Sp:=λvs H Q Z=>∃(a:sM) (ps:List zH),vs=[.ref a]/\LsA K H a (ps.map dR)/\ShP ps/\(∀p ∈ ps,p.1.length<=10/\p.2.length<=10)/\∀H':Hp,Same H H'->Q (.bl (kG ps)) H'
def ik:sQz 1 ["_law_rules","_law_k","_law_rule","_law_n","_law_other","_law_place","_law_size","_law_agree","_law_word_here","_law_left","_law_behind","_law_right_here"] Qr:=by nofun
def zci(B:Bt mg)(HM:HMn mg)(F:("_law_meet"^^^Qr))(ph:(1<<<"_law_form") ["_law_rules","_law_word_here"] [] (vo K)):(2&&&["_law_rules"]) (Yi K):=by
 exists F.ok ik
 ·let#[a,ps,rfl,hA,hP,hsd,q]:=h
  refine#[_,(zh (zR p8 rfl (y9 rfl B.enum (za (pv 0) zg)) (vQ (n:=2) rfl (zZ (zq (i:=1) ik.nd rfl (.inl rfl)) (zZ (zq (i:=2) ik.nd rfl (.inl rfl)) xW))) (ze (zR p8 rfl (y9 rfl B.enum (za (pv 0) zg)) (vQ (n:=2) rfl (zZ (zq (i:=3) ik.nd rfl (.inl rfl)) (zZ (zq (i:=4) ik.nd rfl (.inl rfl)) xW))) (ze (zR p8 rfl (zV rfl B.range (za (zA B.len (!-2)) zg)) (zq (i:=5) ik.nd rfl (.inl rfl)) (zh (zy 6 ik.nd (yW (zex rfl) rfl HM.m ge (za (zD wn (zA B.len (!-2)) (pv 5)) (za (zA B.len (!-4)) zg)))) (zh (zy 7 ik.nd (yi xx (zQ yJ (!-2) (zO (pv 5)) (zO (zD z7 (pv 5) (pv 6)))) (zQ yJ (!-4) yo (zO (pv 6))) (zx _))) (ze (zJ (PW.pt (Vk (yk (pv 7) (λZ=>rfl)) (Z9 (PW.pt (wT (zv uJ (pv 1) (pv 3) (zx _)) (wg (zv XO (pv 5) zd (zx _)))))))) (zh (zy 8 ik.nd (zD zS (!-2) (zQ yJ (!-4) (zO (pv 6)) yo))) (zh (zy 9 ik.nd (zD zS (!-2) (zQ yJ (!-4) (zO (pv 6)) yo))) (zh (zy 10 ik.nd (zQ yJ (pv 8) (zO (zD z7 (pv 5) (zA B.len (!-4)))) yo)) (zh (zy 11 ik.nd (zD zS (zD zS (zQ yJ (pv 8) yo (zO (pv 5))) (!-4)) (pv 10))) (ze (zJ (zv uJ (cl0 ph hr .nil rfl (za (pv 0) (za (pv 9) zg))) (cl0 ph hr .nil rfl (za (pv 0) (za (pv 11) zg))) (zx _)) (ze (zl yt))
        zr))))))
       zr))))))))) (ze (zl yt))),?_]
  have s16:=zX;have hpl:=hP.n;let#[xs,hX,hI]:=id hA;have hxl:=hI.len;rw[aa]at hxl
  refine qv (λσ H'=>Same H H'/\∀t ∈ ovA ps ps.length,Wf ps 40 t=Bc) ?_ λσ H' s'=>by
   rfl'
   have e:kG ps=Bc:=Br.mpr s'.2;have:=q H' s'.1;rw[e]at this;exact this
  rfl'
  refine#[#[_,x4 hX],jb1 (xs:=xs) (λi σ H'=>Same H H'/\(∀t ∈ ovA ps i,Wf ps 40 t=Bc)/\∃v1 v2 v3 v4 v5 v6 v7 v8 v9 v10 v11:Option V,σ=[!!a,v1,v2,v3,v4,v5,v6,v7,v8,v9,v10,v11]) #[ja1 _,λt h=>(nomatch h),Bb,Bb,Bb,Bb,Bb,Bb,Bb,Bb,Bb,Bb,Bb,rfl] (λi σ H' Z h=>x4 (h.1 _ _ hX)) ?_ λσ H' h=>#[h.1,by rw[<- hxl];exact h.2.1]];refine nmE ?_;rintro i x σ H1 p1 hx ⟨s1,m1,v1,v2,v3,v4,v5,v6,v7,v8,v9,v10,v11,rfl⟩ hp1:_;let#[r,p,hr,rfl,hsq]:=hI.getR hx;have hrm:=ac hr;let#[r1,r2]:=hsd r hrm;have s2:=s1.trans (zf (o:=.tup [.int (i:Nat),.ref p]) hp1);right;dsimp only;refine zbv (x6 zc) ?_;generalize upd H1 p1 (.tup [.int (i:Nat),.ref p])=H2 at s2
  rfl'
  refine#[#[_,x4 (s2 _ _ hX)],jb1 (xs:=xs) (λj σ H'=>Same H H'/\(∀t ∈ ovI ps i j,Wf ps 40 t=Bc)/\∃v3 v4 v5 v6 v7 v8 v9 v10 v11:Option V,σ=[!!a,-~~~i,!!p,v3,v4,v5,v6,v7,v8,v9,v10,v11]) #[s2,λt h=>(nomatch h),v3,v4,v5,v6,v7,v8,v9,v10,v11,rfl] (λi σ H' Z h=>x4 (h.1 _ _ hX)) ?_ ?_]
  rotate_left
  ·refine nmB ?_;rintro σ H' ⟨s',m',v3,v4,v5,v6,v7,v8,v9,v10,v11,rfl⟩:0;refine#[s',λt ht=>?_,_,_,_,_,_,_,_,_,_,_,_,rfl];rw[qO,<- hxl]at ht;exact (Bl.mp ht).elim (m1 t) (m' t)
  refine nmE ?_;rintro j x σ H3 p3 hx3 ⟨s3,m3,v3,v4,v5,v6,v7,v8,v9,v10,v11,rfl⟩ hp3:_;let#[o,po,ho,rfl,hso]:=hI.getR hx3;have hom:=ac ho;let#[o1,o2]:=hsd o hom;have s4:=s3.trans (zf (o:=.tup [.int (j:Nat),.ref po]) hp3);right;dsimp only;refine zbv (x6 zc) ?_;generalize upd H3 p3 (.tup [.int (j:Nat),.ref po])=H4 at s4
  rfl'
  refine#[_,zp s4 hsq,_,rfl,_,#[by rw[zI];lia,rfl],⋯,by rw[zI];lia,?_];rw[zI];refine ja2 (λn σ H'=>Same H H'/\(∀t ∈ Xe ps i j n,Wf ps 40 t=Bc)/\∃v5 v6 v7 v8 v9 v10 v11:Option V,σ=[!!a,-~~~i,!!p,-~~~j,!!po,v5,v6,v7,v8,v9,v10,v11]) #[s4,λt h=>(nomatch h),v5,v6,v7,v8,v9,v10,v11,rfl] ?_ ?_
  rotate_left
  ·refine nmB ?_;rintro σ H' ⟨s',m',v5,v6,v7,v8,v9,v10,v11,rfl⟩:0;refine#[s',λt ht=>?_,_,_,_,_,_,_,_,_,_,rfl];rw[uz,xE hr]at ht;exact (Bl.mp ht).elim (m3 t) (m' t)
  refine nm3 ?_;rintro n σ H5 hn ⟨s5,m5,v5,v6,v7,v8,v9,v10,v11,rfl⟩:_;have hn':n<r.1.length:=⋯;right;dsimp only
  erw[yv,aN,aM]
  rw[show (0:Int)+(n:Int)=(n:Int) by lia];have hsq5:=zp s5 hsq;have hso5:=zp s5 hso;change H'=H5/\∃sz:Nat,sz=min (r.1.length - n) o.1.length/\σ=[!!a,-~~~i,!!p,-~~~j,!!po,-~~~n,-~~~sz,v7,v8,v9,v10,v11]
  ·rfl'
   refine#[_,hsq5,_,rfl,_,#[by rw[zI];lia,rfl],_,hso5,_,rfl,_,#[by rw[zI];lia,rfl],_,_,rfl,rfl,?_];rw[zI,zI];refine congrArg V.int ?_;split <;> lia
  rintro σ H6 ⟨rfl,sz,hsz,rfl⟩:0;change H'=H6/\σ=[!!a,-~~~i,!!p,-~~~j,!!po,-~~~n,-~~~sz,Ba (.bl (decide ((r.1.drop n).take sz=o.1.take sz))),v8,v9,v10,v11]
  ·rfl'
   refine#[_,hsq5,_,rfl,_,rfl,by rw[zI];lia,_,hso5,_,rfl,_,rfl,by rw[zI];lia,?_];rw[j2,j2,uj _ (bJ _),Ux _ (bJ _) ⋯,aA,aA,show ((n:Int)+(sz:Int) - (n:Int)).toNat=sz by lia]
  rintro σ H7 ⟨rfl,rfl⟩:_;let#[eg,eA,eB]:=zb7 hr ho hn' hsz;right
  rfl'
  refine zcE (λhag hne=>?_) λhno=>#[s5,λt ht=>?_]
  rotate_left
  ·rw[w8,eg]at ht;refine (Bl.mp ht).elim (m5 t) λht=>?_;rw[w9]at ht
   ·cases ht
   ·intro hb
    erw[ba,d9,decide_eq_true_eq]at hb
    exact hno #[hb.2,hb.1.imp (λh z=>h ⋯) λh=>by lia]
  have hsl:(o.1.drop sz).length<=10:=by rw[aS];lia
  change H'=H7/\σ=[!!a,-~~~i,!!p,-~~~j,!!po,-~~~n,-~~~sz,Ba (.bl (decide ((r.1.drop n).take sz=o.1.take sz))),Ba ⇑(r.1 ++ o.1.drop sz),v9,v10,v11]
  ·rfl'
   refine#[_,hsq5,_,rfl,_,hso5,_,rfl,_,rfl,by rw[zI];lia,_,rfl,?_,?_]
   all_goals rw[j2,xq _ (bJ _),aA]
   ·rw[zI];lia
   ·rw[yV]
  rintro σ H8 ⟨rfl,rfl⟩:0;change H'=H8/\σ=[!!a,-~~~i,!!p,-~~~j,!!po,-~~~n,-~~~sz,Ba (.bl (decide ((r.1.drop n).take sz=o.1.take sz))),Ba ⇑(r.1 ++ o.1.drop sz),Ba ⇑(r.2 ++ o.1.drop sz),v10,v11]
  ·rfl'
   refine#[_,hsq5,_,rfl,_,hso5,_,rfl,_,rfl,by rw[zI];lia,_,rfl,?_,?_]
   all_goals rw[j2,xq _ (bJ _),aA]
   ·rw[zI];lia
   ·rw[yV]
  rintro σ H9 ⟨rfl,rfl⟩:_;have hwl:(r.1 ++ o.1.drop sz).length<=20:=by rw[aj];lia
  right;generalize hwd:r.1 ++ o.1.drop sz=wd at eB hwl;change H'=H9/\σ=[!!a,-~~~i,!!p,-~~~j,!!po,-~~~n,-~~~sz,Ba (.bl (decide ((r.1.drop n).take sz=o.1.take sz))),~~~wd,Ba ⇑(r.2 ++ o.1.drop sz),Ba ⇑(wd.drop (n+o.1.length)),v11]
  ·rfl'
   refine#[_,hso5,_,rfl,_,#[by rw[zI];lia,rfl],⋯,?_];rw[zI,<- Int.natCast_add,xq wd (bJ _),aA]
  rintro σ H10 ⟨rfl,rfl⟩:0;change H'=H10/\σ=[!!a,-~~~i,!!p,-~~~j,!!po,-~~~n,-~~~sz,Ba (.bl (decide ((r.1.drop n).take sz=o.1.take sz))),~~~wd,Ba ⇑(r.2 ++ o.1.drop sz),Ba ⇑(wd.drop (n+o.1.length)),Ba ⇑(wd.take n ++ o.2 ++ wd.drop (n+o.1.length))]
  ·rfl'
   refine#[⋯,_,hso5,_,rfl,_,rfl,?_,?_,?_]
   all_goals erw[zI,yV,uj wd (bJ _),aA,aj,aC,aS]
   ·lia
   ·lia
  rintro σ H11 ⟨rfl,rfl⟩:0
  rfl'
  rw[<- eA,<- eB];have hlA:(pkA ps (i,j,n)).length<=40:=by rw[eA,aj];lia
  have hlB:(pkB ps (i,j,n)).length<=40:=by rw[eB];erw[aj,aC,aS];lia
  have hR:=hA.same s5;refine kZ hR hP ⋯ λi1 H12 s12 a1 a2=>kZ (hR.same s12) hP ⋯ λi2 H13 s13 b1 b2=>#[rfl,yb (λhd=>?_) λhd=>#[(s5.trans s12).trans s13,λt ht=>?_]]
  ·have hmf:=YY hP hlA hlB a1 a2 b1 b2;rw[u9 λe=>hd (by rw[e])]at hmf
   have e:kG ps=Bd:=by
    unfold kG;rw[List.all_eq_false];refine#[(i,j,n),Bx.mpr #[i,Bn.mpr (Bh.mp hr).1,Bx.mpr #[j,Bn.mpr (Bh.mp ho).1,Bj.mpr #[n,Bp.mpr #[Bn.mpr (by rw[xE hr];exact hn'),?_],rfl]]],by rw[hmf];decide];rw[eg,ba,d9,decide_eq_true_eq,decide_eq_true_eq,decide_eq_true_eq];exact#[hne.imp (λh z=>h (by rw[z])) λh=>by lia,hag]
   have:=q H13 ((s5.trans s12).trans s13);rw[e]at this;exact this
  ·rw[w8]at ht;refine (Bl.mp ht).elim (m5 t) λht=>?_;split at ht
   ·rw[Bm.mp ht,YY hP hlA hlB a1 a2 b1 b2];exact u6 (wI (V.str.inj (Classical.not_not.mp hd)))
   ·cases ht
def Alk(rs rs':List zH):Prop:=rs'.length=rs.length/\∀g:zH->zH,(∀p ∈ rs,g (p.2,p.1)=g p)->(rs'.map g).Perm (rs.map g)
def Alk.snoc(h:Alk rs rs')(e:r'=r\/r'=(r.2,r.1)):Alk (rs ++ [r]) (rs' ++ [r']):=by
 refine#[by rw[aj,aj,h.1];rfl,λg hg=>?_];rw[am,am]
 have e':g r'=g r:=by
  rcases e with rfl | rfl
  ·rfl
  ·exact hg r (aF _ aB)
 rw[ao,ao,e'];exact (h.2 g λp hp=>hg p (bz _ hp)).append_right _
def Alk.perm(h:Alk rs rs1)(e:rs2.Perm rs1):Alk rs rs2:=#[e.length_eq.trans h.1,λg hg=>(e.map g).trans (h.2 g hg)]
theorem Iss.erase : ∀{ds:List L3.D} {vs:List V} {j:Nat},Iss K H ds vs->Iss K H (ds.eraseIdx j) (vs.eraseIdx j)
 | [],vs,j,h=>by
  erw[Iss]at h
  subst h
  erw[fg,Iss]
 | d::ds,vs,j,h=>by
  erw[Iss]at h
  let#[v,r,rfl,h1,h2]:=h
  cases j with
  | zero=>exact h2
  | succ j =>
   erw[cL,Iss]
   exact#[v,_,rfl,h1,Iss.erase h2]
theorem Zc{α:Type}:∀{xs:List α} {j:Nat} {x:α},xs[j]? = Ba x->(x::xs.eraseIdx j).Perm xs
 | [],j,x,h=>by simp at h
 | y::xs,0,x,h=>by simp at h;rw[h];exact .refl _
 | y::xs,j+1,x,h=>by
  rw[cL];exact (List.Perm.swap _ _ _).trans ((Zc ↥h).cons y)
theorem YC(s:Same H H')(h:H' p=Bb):H p=Bb:=by
 cases e:H p with
 | none=>rfl
 | some o =>
  rw[s _ _ e]at h;cases h
theorem YH{α β:Type}{g:α->β}:∀{xs:List α} {j:Nat},(xs.map g).eraseIdx j=(xs.eraseIdx j).map g
 | [],j=>by rw[aI,fg,fg];rfl
 | x::xs,0=>rfl
 | x::xs,j+1=>by rw[ao,cL,cL,ao,YH]
def YM(K:sL):Sp:=λvs H Q Z=>∃(a:sM) (c:Int) (rs:List zH),vs=[.ref a,.int c]/\uU c/\LsA K H a (rs.map dR)/\rs.length<=20/\∀(D:sM) (H':Hp) (rs':List zH),H D=Bb->Same H H'->LsA K H' D (rs'.map dR)->Alk rs rs'->Q (.ref D) H'
def iq:sQz 2 ["_law_pacts","_law_cell_here","_law_number","_law_left","_law_pact","_law_told"] Zi:=by nofun
def JA(B:Bt mg)(F:("_law_turned"^^^Zi))(ip:(1<<<"_law_mixed") ["_law_cell_here","_law_turn"] [] xG):(2&&&["_law_pacts","_law_cell_here"]) (YM K):=by
 exists F.ok iq
 ·let#[a,c,rs,rfl,hc,hA,hrl,q]:=h
  refine#[_,(zh (zy 2 iq.nd (cl0 ip hr .nil rfl (za (pv 1) (za zd zg)))) (zh (zy 3 iq.nd (xg zg)) (zh (zR p8 rfl (zY (pv 0)) (zq (i:=4) iq.nd rfl (.inl rfl)) (zh (yS (wf aX bh bn yx (pv 3) (za (zk ix_list (xg (za (pv 4) (za (zW (za (!-4) (za (!-4) zg))) zg))) (zD yU (pv 2) zd)) zg))) (ze (zy 2 iq.nd (zD y8 (pv 2) zd))))) (zh (zy 2 iq.nd (cl0 ip hr .nil rfl (za (pv 1) (za zd zg)))) (zh (zy 5 iq.nd (xg zg)) (zh (vq p8 (zv XO (zA B.len (pv 3)) zd (zx _)) (zh (yS (wf aX bh bn yx (pv 5) (za (wf aX PySem.F.slot_list_pop PySem.F.type_list_pop zal (pv 3) (za (zD yU (pv 2) (zA B.len (pv 3))) zg)) zg))) (ze (zy 2 iq.nd (zD y8 (pv 2) (zD z7 (zA B.len (pv 3)) zd)))))) (ze (zl (pv 5))))))))),?_]
  have s16:=zX;let#[xs,hX,hI]:=id hA;have hxl:=hI.len;rw[aa]at hxl;change H'=H/\∃z:Int,σ=%[!!a,~~~!c,~~~!z|3]
  ·rfl'
   exact xD hc ∅ ∅ λz Z=>#[rfl,z,rfl]
  rintro σ H1 ⟨rfl,z,rfl⟩:0;change ∃D:sM,H1 D=Bb/\H'=upd H1 D (.lst [])/\σ=%[!!a,~~~!c,~~~!z,!!D|2]
  ·rfl'
   exact#[⋯,λp hp=>#[p,hp,rfl,rfl]]
  rintro σ H2 ⟨D,hD,rfl,rfl⟩:0;change Same H1 H'/\(∃rs1:List zH,LsA K H' D (rs1.map dR)/\Alk rs rs1)/\∃(z:Int) (v:Option V),σ=[!!a,~~~!c,~~~!z,!!D,v,Bb]
  ·rfl'
   refine#[#[_,x4 (zf hD _ _ hX)],jb0 (xs:=xs) (λi σ H'=>Same H1 H'/\(∃rs1:List zH,LsA K H' D (rs1.map dR)/\Alk (rs.take i) rs1)/\∃(z:Int) (v:Option V),σ=[!!a,~~~!c,~~~!z,!!D,v,Bb]) #[zf hD,#[[],LsA.nil,rfl,λZ Z=>.refl _],_,_,rfl] (λi σ H' Z h=>x4 (h.1 _ _ hX)) ?_ ?_]
   ·refine nm4 ?_;rintro i x σ H3 hx ⟨s3,⟨rs1,hL1,hAk⟩,z,v,rfl⟩:_;have hi:=(Bh.mp hx).1;let#[r,p,hr,rfl,hsq]:=hI.getR hx;have hsq3:=zp s3 hsq;let#[ys,hY,hJ]:=hL1;have hyl:=hJ.len;rw[aa,hAk.1,aC]at hyl;have m0:=br z (b:=2) ∅;have m1:=bp z (b:=2) ∅;right
    erw[yv,aN,aM]
    change Same H1 H'/\(∃rs1:List zH,LsA K H' D (rs1.map dR)/\Alk (rs.take (i+1)) rs1)/\σ=[!!a,~~~!c,~~~!z,!!D,!!p,Bb]
    ·rfl'
     have et:rs.take (i+1)=rs.take i ++ [r]:=by
      rw[List.take_add_one,hr];rfl
     rw[et];refine#[.inl #[_,x4 hY],_,hsq3,_,rfl,_,hsq3,_,rfl,⋯,λp1 hp1=>#[⋯,λp2 hp2=>#[∅,_,x4 zc,?_]]];have s5:=(zf (o:=.tup [⇑r.2,⇑r.1]) hp1).trans (zf (o:=.lst [V.ref p,V.ref p1]) hp2);have hr5:SqT K _ p1 [⇑r.2,⇑r.1]:=x6 (zf (o:=.lst [V.ref p,V.ref p1]) hp2 _ _ zc);rcases (show z % 2=0\/z % 2=1 by lia)with e | e <;> rw[e]
     ·refine#[_,rfl,ys,s5 _ _ hY,⋯,zu (s3.trans s5) hD,rs1 ++ [r],?_,hAk.snoc (.inl rfl)];rw[am];exact jb2 (s5 _ _ hY) (ja0 s5 _ _ hJ) (xf rs1) (qh r) (Ub (zp s5 hsq3))
     ·refine#[_,rfl,ys,s5 _ _ hY,⋯,zu (s3.trans s5) hD,rs1 ++ [(r.2,r.1)],?_,hAk.snoc (.inr rfl)];rw[am];exact jb2 (s5 _ _ hY) (ja0 s5 _ _ hJ) (xf rs1) (qh (r.2,r.1)) (Ub hr5)
    rintro σ H4 ⟨s4,⟨rs4,hL4,hA4⟩,rfl⟩:0
    rfl'
    exact#[#[∅,∅],s4,rs4,hL4,hA4]
   ·refine nmB ?_;rintro σ H' ⟨s',⟨rs1,h1,h2⟩,z,v,rfl⟩:_;rw[aW ⋯]at h2;right;exact#[s',#[rs1,h1,h2],z,v,rfl]
  rintro σ H3 ⟨s3,⟨rs1,hL1,hAk⟩,z,v,rfl⟩:0;change H'=H3/\∃(z:Int) (v:Option V),σ=[!!a,~~~!c,~~~!z,!!D,v,Bb]
  ·rfl'
   exact xD hc ∅ ∅ λz Z=>#[rfl,z,rfl]
  rintro σ H4 ⟨rfl,z,v,rfl⟩:0;change ∃J:sM,H4 J=Bb/\H'=upd H4 J (.lst [])/\∃v:Option V,σ=[!!a,~~~!c,~~~!z,!!D,v,!!J]
  ·rfl'
   exact#[⋯,λp hp=>#[p,hp,rfl,rfl]]
  rintro σ H5 ⟨J,hJ,rfl,v,rfl⟩:_
  have hJD:J≠D:=λe=>by
   let#[_,h,_]:=hL1;rw[<- e,hJ]at h;cases h
  have hJ1:H1 J=Bb:=YC s3 hJ;right;change Same H1 H'/\∃rs2:List zH,rs2.Perm rs1/\LsA K H' J (rs2.map dR)/\∃(z:Int) (v:Option V),σ=[!!a,~~~!c,~~~!z,!!D,v,!!J]
  ·unfold kH;refine#[λm σ H'=>Same H1 H'/\∃la lb:List zH,la.length=m/\(lb ++ la).Perm rs1/\LsA K H' D (la.map dR)/\LsA K H' J (lb.map dR)/\∃(z:Int) (v:Option V),σ=[!!a,~~~!c,~~~!z,!!D,v,!!J],#[_,s3.trans (zf hJ),rs1,[],rfl,.refl _,hL1.same (zf hJ),LsA.nil,_,_,rfl],?_];refine nmC ?_;rintro m σ H' ⟨s',la,lb,rfl,hpm,hLa,hLb,z,v,rfl⟩:_;have hpl:=hpm.length_eq;have ha1:=hAk.1;rw[aj]at hpl;let#[xa,hXa,hIa]:=id hLa;let#[xb,hXb,hIb]:=id hLb;have hal:=hIa.len;have hbl:=hIb.len;rw[aa]at hal hbl;right
   rfl'
   refine#[_,.inl #[_,x4 hXa,rfl],yb (λhpos=>?_) λhn=>?_]
   ·refine#[λσ' H''=>Same H1 H''/\∃la' lb':List zH,la'.length+1=la.length/\(lb' ++ la').Perm rs1/\LsA K H'' D (la'.map dR)/\LsA K H'' J (lb'.map dR)/\∃(z:Int) (v:Option V),σ'=[!!a,~~~!c,~~~!z,!!D,v,!!J],?_,?_]
    ·refine nmB ?_;rintro σ' H'' ⟨t1,la',lb',t2,t3,t4,t5,z,v,rfl⟩:0;exact#[la'.length,⋯,t1,la',rfl,lb',t3,t4,t5,z,v,rfl]
    refine zj (λσ H''=>Same H1 H''/\∃la' lb':List zH,la'.length+1=la.length/\(lb' ++ la').Perm rs1/\LsA K H'' D (la'.map dR)/\LsA K H'' J (lb'.map dR)/\σ=[!!a,~~~!c,~~~!z,!!D,v,!!J]) ?_ ?_
    ·rfl'
     have m0:=br z (b:=(xa.length:Int)) ⋯;have m1:=bp z (b:=(xa.length:Int)) ⋯;let#[y,e1,_]:=vN (xs:=xa) m0 m1;let#[j,hj,hy,_]:=ZP e1;let#[r,pr,hr,rfl,hsq]:=hIa.getR hy;have ep:=Zc hr;have epl:=ep.length_eq;rw[aG]at epl;refine#[.inl #[_,x4 hXb],.inl #[_,x4 hXa],_,.inl #[_,x4 hXa,rfl],⋯,D,xa,_,j,_,rfl,rfl,hXa,⋯,⋯,hj,hy,?_]
     have hXb8:upd H' D (.lst (xa.eraseIdx j)) J=Ba (.lst xb):=by
      rw[zt hJD];exact hXb
     have hIa8:Iss K (upd H' D (.lst (xa.eraseIdx j))) ((la.eraseIdx j).map dR) (xa.eraseIdx j):=by
      have h:=Iss.erase (j:=j) (Iss.updL (zs:=xa.eraseIdx j) hXa _ _ (xf la) hIa);rw[YH]at h;exact h
     have hIb8:=Iss.updL (zs:=xa.eraseIdx j) hXa _ _ (xf lb) hIb;refine#[xb,hXb8,⋯,zu (zu s' hD) hJ1,la.eraseIdx j,epl,lb ++ [r],?_,#[xa.eraseIdx j,?_,Iss.updL hXb8 _ _ (xf _) hIa8],?_]
     ·rw[aQ];exact (ep.append_left lb).trans hpm
     ·rw[zt (Ne.symm hJD)];exact zc
     ·rw[am];exact jb2 hXb8 hIb8 (xf lb) (qh r) (Ub (qT hXa hsq))
    rintro σ H7 ⟨t1,la',lb',t2,t3,t4,t5,rfl⟩:_;let#[xc,hXc,hIc]:=id t4;have hcl:=hIc.len;rw[aa]at hcl;right
    rfl'
    exact#[_,.inl #[_,x4 hXc,rfl],#[⋯,⋯],t1,la',t2,lb',t3,t4,t5]
   ·have hla:la=[]:=By.mp ⋯;subst hla;rw[aT]at hpm;exact#[s',lb,hpm,xb,hXb,hIb]
  rintro σ H6 ⟨s6,rs2,hp,hL2,z,v,rfl⟩:0
  rfl'
  exact q _ _ rs2 hJ1 s6 hL2 (hAk.perm hp)
def ZK:Sp:=λvs H Q Z=>∃(ls:()) (c:Int) (m:Nat),vs=[.int c,⇑ls,.int (m:Nat)]/\1<=ls.length/\ls.length<=26/\m<=100/\∀l:(),l.length=m->(∀x ∈ l,x ∈ ls)->Q ⇑l H
def Jn(h1:1<=ls.length)(h2:ls.length<=26)(h4:m<=100)(h:∀l:(),l.length=m->(∀x ∈ l,x ∈ ls)->Q ⇑l H):ZK [.int c,⇑ls,.int (m:Nat)] H Q E :=
 #[ls,c,m,rfl,h1,h2,h4,h]
def mH:sQz 3 ["_law_number","_law_letters_here","_law_size","_law_word_here","_law_k"] Wo:=by nofun
def K5(B:Bt mg)(F:("_law_exact"^^^Wo)):(1&&&["_law_number","_law_letters_here","_law_size"]) ZK:=by
 exists F.ok mH
 ·let#[ls,c,m,rfl,h1,h2,h4,q]:=h
  refine#[_,(zG (zy 3 mH.nd z6) (zG (zR p8 rfl (zV rfl B.range (za (pv 2) zg)) (zq (i:=4) mH.nd rfl (.inl rfl)) (zG (zy 3 mH.nd (zD zS (pv 3) (zk Y0 (pv 1) (zD yU (pv 0) (zA B.len (pv 1)))))) (ze (zy 0 mH.nd (zD y8 (pv 0) (zA B.len (pv 1))))))) (ze (zl (pv 3))))),?_]
  have s16:=zX
  rfl'
  refine#[⋯,⋯,ja2 (λi σ H'=>H'=H/\∃(found:()) (number:Int) (v5:Option V),σ=[~~~!number,~~~ls,-~~~m,~~~found,v5]/\found.length=i/\∀x ∈ found,x ∈ ls)
   #[rfl,[],_,Bb,rfl,rfl,λx h=>(nomatch h)] ?_ ?_]
  ·refine nm3 ?_;rintro i σ H' hi ⟨rfl,found,number,v5,rfl,hf,hm⟩:0
   rfl'
   have hm0:=br number (b:=(ls.length:Int)) ⋯;have hm1:=bp number (b:=(ls.length:Int)) ⋯;let#[v,e1,e2]:=vN hm0 hm1
   repeat (refine And.intro (by first | lia | decide | exact#[⋯,⋯] | assumption) ?_)
   refine#[v,e1,?_]
   repeat (refine And.intro (by first | lia | decide | exact#[⋯,⋯] | assumption) ?_)
   refine#[by rw[aj,hf];rfl,λx hx=>?_];rcases Bl.mp hx with h | h
   ·exact hm x h
   ·rw[Bm.mp h];exact ac e2
  ·refine nmB ?_;rintro σ H' ⟨rfl,found,number,v5,rfl,hf,hm⟩:0
   rfl'
   exact q found (by rw[hf];lia) hm
def DrawnP(ls:())(m:Nat)(rs:List zH):Prop:=(rs.map (·.1)).Nodup/\∀r ∈ rs,r.1.length=m/\r.2.length<m/\(∀x ∈ r.1,x ∈ ls)/\∀x ∈ r.2,x ∈ ls
def kvR(rs:List zH):List (sS × V):=rs.map λr=>(tx r.1,V.str (tx r.2))
def zc7(h:atD (kvR rs) (tx u)=Bb):u ∉ rs.map (·.1):=λhu=>by
 let#[r,hr,rfl]:=Bj.mp hu;unfold atD at h;rw[fQ,dI]at h;exact h (tx r.1,V.str (tx r.2)) (Bj.mpr #[r,hr,rfl]) (u6 rfl)
def DrawnP.snoc(h:DrawnP ls m rs)(hno:atD (kvR rs) (tx u)=Bb)(h1:u.length=m)(h2:v.length<m)(h3:∀x ∈ u,x ∈ ls)(h4:∀x ∈ v,x ∈ ls):DrawnP ls m (rs ++ [(u,v)]):=by
 refine#[?_,λr hr=>?_]
 ·rw[am];exact BM.mpr #[h.1,Bs.mpr #[(nomatch ·),.nil],λa ha b hb=>by rw[Bm.mp hb];rintro rfl;exact zc7 hno ha]
 ·rcases Bl.mp hr with hr | hr
  ·exact h.2 r hr
  ·rw[Bm.mp hr];exact#[h1,h2,h3,h4]
theorem zgr(h:(rs.map (·.1)).Nodup):∀r ∈ rs,atD (kvR rs) (tx r.1)=Ba (V.str (tx r.2)):=by
 induction rs with
 | nil=>intro r h;cases h
 | cons a rs ih =>
  rw[ao,List.nodup_cons]at h;intro r hr;unfold atD kvR;rw[ao,dD];rcases Bk.mp hr with rfl | hr
  ·rw[u6 rfl];rfl
  ·rw[u9 λe=>h.1 (by rw[wI e];exact Bj.mpr #[r,hr,rfl])];exact ih h.2 r hr
def za0(K:sL):Sp:=λvs H Q Z=>∃(a:sM) (ns:List Int) (ls:()) (m:Nat),vs=[.ref a,⇑ls,.int (m:Nat)]/\SqL K H a (ns.map V.int)/\(∀z ∈ ns,uU z)/\1<=ls.length/\ls.length<=26/\1<=m/\m<=50/\∀(D:sM) (H':Hp) (rs:List zH),Same H H'->LsA K H' D (rs.map dR)->rs.length<=12->rs≠[]->DrawnP ls m rs->Q (.ref D) H'
def mI:sQz 3 ["_law_script","_law_letters_here","_law_size","_law_rights","_law_number","_law_cell_here","_law_left"] Zp:=by nofun
def zay(B:Bt mg)(F:("_law_pairs"^^^Zp))(mJ:(1<<<"_law_cell") ["_law_script","_law_k"] [] (jm K))(si:(1<<<"_law_exact") ["_law_number","_law_letters_here","_law_size"] [] ZK)(ip:(1<<<"_law_mixed") ["_law_cell_here","_law_turn"] [] xG)(rj:(1<<<"_law_word") ["_law_number","_law_letters_here","_law_most"] [] jJ):(2&&&["_law_script","_law_letters_here","_law_size"]) (za0 K):=by
 exists F.ok mI
 ·let#[a,ns,ls,m,rfl,hS,hB,h1,h2,h3,h4,q]:=h
  refine#[_,(zh (xM (i:=3) mI.nd rfl (Or.inr rfl) zby) (zh (zR p8 rfl (zV rfl B.range (za (zD z7 zd (zD yU (cl0 mJ hr .nil rfl (za (pv 0) (za zd zg))) zd)) zg)) (zq (i:=4) mI.nd rfl (.inl rfl)) (zh (zy 5 mI.nd (cl0 mJ hr .nil rfl (za (pv 0) (za (zD z7 zd (pv 4)) zg)))) (zh (zy 6 mI.nd (cl0 si hr .nil rfl (za (cl0 ip hr .nil rfl (za (pv 5) (za zd zg))) (za (pv 1) (za (pv 2) zg))))) (ze (yS (zeg eR PySem.F.type_dict_setdefault zdr (pv 3) (za (pv 6) (za (cl0 rj hr .nil rfl (za (cl0 ip hr .nil rfl (za (pv 5) (za zd zg))) (za (pv 1) (za (zD wn (pv 2) zd) zg)))) zg)))))))) (ze (zl (yM (own:=["_law_left"]) (caps:=["_law_rights"]) (ix:=[3]) (tt:=xo) (te:=(Uq (zM (ya 0) (zM (tOp (zfb P w) (ya 1) (ya 0)) xw)))) rfl (zK (sc:=zi Zp) rfl (!0) (!0) (!0) rfl (!0) (!0) rfl) (zeS (pv 3)) (λZ Z Z Z Z Z=>zq (i:=0) (show List.Nodup [_,_] by decide) rfl (.inl rfl)) (λZ Z Z Z Z Z=>yg) (λZ Z Z Z Z Z=>(zW (za (pv 0) (za (zk zcs (pv 1) (pv 0)) zg))))))))),?_]
  have s16:=zX;change Same H H'/\∃(p:sM) (ep:Nat),H p=Bb/\H' p=Ba (Wq P w p [] ep)/\σ=%[!!a,~~~ls,-~~~m,!!p|3]
  ·rfl'
   exact λp ep hp=>#[zf hp,p,hp,#[ep,zc],rfl]
  rintro σ H1 ⟨s1,p,ep,hp,hH1,rfl⟩:0;change Same H H'/\∃(rs:List zH) (ep:Nat) (v4 v5 v6:Option V),H' p=Ba (Wq P w p (kvR rs) ep)/\rs.length<=12/\rs≠[]/\DrawnP ls m rs/\σ=[!!a,~~~ls,-~~~m,!!p,v4,v5,v6]
  ·rfl'
   refine vx (s1.seq hS) hB ∅ λc hc=>?_;have c0:=br c (b:=12) ∅;have c1:=bp c (b:=12) ∅;refine#[c,rfl,∅,⋯,⋯,ja2 (λi σ H'=>Same H H'/\∃(rs:List zH) (ep:Nat) (v4 v5 v6:Option V),H' p=Ba (Wq P w p (kvR rs) ep)/\rs.length<=i/\(0<i->rs≠[])/\DrawnP ls m rs/\σ=[!!a,~~~ls,-~~~m,!!p,v4,v5,v6]) #[s1,[],ep,Bb,Bb,Bb,hH1,al _,λh=>w4 h ∅,#[.nil,λr h=>(nomatch h)],rfl] ?_ ?_]
   ·refine nm3 ?_;rintro i σ H2 hi ⟨s2,rs,ep2,v4,v5,v6,hH2,hl,hne,hD,rfl⟩:0;change H'=H2/\∃d:Int,uU d/\σ=[!!a,~~~ls,-~~~m,!!p,Ba (.int (0+(i:Int))),~~~!d,v6]
    ·rfl'
     exact vx (s2.seq hS) hB ⋯ λd hd=>#[rfl,d,hd,rfl]
    rintro σ H3 ⟨rfl,d,hd,rfl⟩:0;change H'=H3/\∃u:(),u.length=m/\(∀x ∈ u,x ∈ ls)/\σ=[!!a,~~~ls,-~~~m,!!p,Ba (.int (0+(i:Int))),~~~!d,~~~u]
    ·rfl'
     exact xD hd ∅ ∅ λz hz=>Jn h1 h2 ⋯ λu hu1 hu2=>#[rfl,u,hu1,hu2,rfl]
    rintro σ H4 ⟨rfl,u,hu1,hu2,rfl⟩:0
    rfl'
    unfold zgK
    rfl'
    refine#[#[_,_,hH2],?_];refine xD hd ∅ ∅ λz hz=>W5 hz h1 h2 ⋯ ⋯ λv hv1 hv2=>?_;refine#[p,_,_,_,_,rfl,rfl,hH2,by unfold kvR;rw[aa];lia,λy hy=>#[s2,rs,#[ep2,hH2],⋯,λZ e=>(by rw[e]at hy;cases hy),hD],λhno ep3=>#[zu s2 hp,rs ++ [(u,v)],#[ep3,by rw[zc];unfold kvR;rw[am];rfl],by rw[aj];exact cj hl,λZ e=>by simp at e,hD.snoc hno hu1 ⋯ hu2 hv2]]
   ·refine nmB ?_;rintro σ H2 ⟨s2,rs,ep2,v4,v5,v6,hH2,hl,hne,hD,rfl⟩:0;exact#[s2,rs,#[ep2,hH2],⋯,hne ⋯,hD,#[v4,v5,v6,rfl]]
  rintro σ H2 ⟨s2,rs,ep2,v4,v5,v6,hH2,hl,hne,hD0,rfl⟩:0
  rfl'
  show qC (zgx P w (ya 3)) _ _ _ _ _ _ _ _;rw[zf7]
  rfl'
  refine#[_,_,hH2,λD hD=>CompD.by (λi Bg H'=>Same H2 H'/\H' D=Ba (.lst Bg)/\Iss K H' ((rs.take i).map dR) Bg) #[zf hD,zc,by erw[bv,aI,Iss]] (λi Bg H' h=>h.1 _ _ hH2) ?_ ?_]
  ·refine nm4 ?_;rintro i r Bg H' hr ⟨hs,hH,hI⟩:_;have hil:=(Bh.mp hr).1;right;unfold kvR at hr hil;rw[aa]at hil;rw[au,af hil]at hr;obtain rfl:=Option.some.inj hr;have hal:=hI.len;rw[aa,aC]at hal;have et:rs.take (i+1)=rs.take i ++ [rs[i]]:=zP (af hil)
   erw[xo]
   rfl'
   refine#[yz,p,_,_,_,_,rfl,rfl,hs _ _ hH2,zgr hD0.1 _ (d5 hil),⋯,λp1 hp1=>#[zf hp1 _ _ hH,⋯,x8 (by unfold kvR;rw[aa];exact hil) #[zu (hs.trans (zf hp1)) hD,zc,?_]]];rw[et,am];have u2:=zf (o:=HO.tup [.str (tx rs[i].1),.str (tx rs[i].2)]) hp1;let#[ys,hY,hJ]:=jb2 (u2 _ _ hH) (ja0 u2 _ _ hI) (xf _) (qh rs[i]) (Ub (x6 zc));rw[zc]at hY;cases hY;exact hJ
  ·refine nmB ?_;rintro Bg H' ⟨hs,hH,hI⟩:0;unfold kvR at hI;rw[aa,aJ]at hI;exact q D H' rs (s2.trans hs) #[Bg,hH,hI] hl hne hD0
theorem JX:∀ws:List (()),Str.join (tx []) (ws.map tx)=tx ws.flatten
 | []=>rfl
 | [w]=>by
  show tx w=_;simp
 | w::v::r=>by
  have ih:=JX (v::r);show tx w ++ tx [] ++ Str.join (tx []) ((v::r).map tx)=_;rw[ih,yV,yV];simp
def Kj{ws:List (())}(h:ws.flatten.length<=100000):JoinOk (tx []) (ws.map tx)=Bc:=by
 have s16:=zX
 have hf:∀(l:List (())) (n:Nat),(l.map tx).foldl (λa y=>a+y.length+0) n=n+l.flatten.length:=λl=>by
  induction l with
  | nil=>intro n;rfl
  | cons c r ih =>
   intro n;rw[ao,List.foldl_cons,ih,zI,dO,aj];lia
 have e:JoinOk (tx []) (ws.map tx)=!PySem.Builtin.Str.tooLong ((ws.map tx).foldl (λa y=>a+y.length+0) 0):=by
  unfold JoinOk;rw[List.foldl_toArray];rfl
 rw[e,hf];unfold PySem.Builtin.Str.tooLong;rw[dP,decide_eq_false_iff_not];lia
def dK3(k:Nat)(l:())(r:zH):List L3.D:=[.int (r.1.length:Nat),.lst ((uK k l r.1).map L3.D.int),dR r]
def we(k:Nat)(l:())(rs:List zH)(d:{r // r ∈ rs}):KeyFam {r // r ∈ rs}:=#[λa=>dK3 k l a.1,λa b=>rankF.lt (uM k l [] a.1.1) (uM k l [] b.1.1),Bc,d]
theorem Kv(h:eqD x1 y1=Bc->eqD x2 y2=Bd):wL (x1::x2::r) (y1::y2::r')=wL [x1,x2] [y1,y2]:=by
 cases e:eqD x1 y1 with
 | false=>erw[wL,e,be,if_false]
 | true=>erw[wL,e,h e,be,if_false]
theorem Zr{rs:List zH}(h:(rs.map (·.1)).Nodup)(ha:a ∈ rs)(hb:b ∈ rs)(e:a.1=b.1):a=b:=by
 induction rs with
 | nil=>cases ha
 | cons c rs ih =>
  rw[ao,List.nodup_cons]at h;rcases Bk.mp ha with e1 | ha'
  ·rcases Bk.mp hb with e2 | hb'
   ·rw[e1,e2]
   ·exact w4 (Bj.mpr #[b,hb',by rw[<- e1];exact e.symm]) h.1
  ·rcases Bk.mp hb with e2 | hb'
   ·exact w4 (Bj.mpr #[a,ha',by rw[<- e2];exact e]) h.1
   ·exact ih h.2 ha' hb'
def W6(hu:∀c ∈ u,c ∈ l)(hv:∀c ∈ v,c ∈ l)(h:u≠v):eqD (.lst ((uK k l u).map L3.D.int)) (.lst ((uK k l v).map L3.D.int))=Bd:=by
 erw[eqD]
 rw[jT];exact u9 λe=>h (Zx hu hv e)
def VC(hk:k≠2)(hn:(rs.map (·.1)).Nodup)(hl:∀r ∈ rs,∀c ∈ r.1,c ∈ l):(we k l rs d).OkF where
 w:=#[λa b h=>rankF_ok.w.asym _ _ h,λa b c h1 h2=>rankF_ok.w.ntr _ _ _ h1 h2]
 eq:=λa b=>by
  by_cases e:a.1.1=b.1.1
  ·obtain rfl:a=b:=Subtype.ext (Zr hn a.2 b.2 e)
   have h1:(we k l rs d).lt a a=Bd:=by
    cases h:(we k l rs d).lt a a with
    | false=>rfl
    | true=>exact (rankF_ok.w.asym _ _ h).symm.trans h |>.symm
   rw[h1]
   erw[we,dK3,wL,uC,if_true]
  ·have h:=rankF_ok.eq (uM k l [] a.1.1) (uM k l [] b.1.1);have w1:∀u:(),zE k l [] u=(u.length:Int):=λu=>by unfold zE;rw[w9 hk]
   erw[we]
   rw[<- h];unfold dK3;rw[Kv λZ=>W6 (hl _ a.2) (hl _ b.2) e]
   erw[rankF,uM,w1]
 ok:=λa b=>by
  by_cases e:a.1.1=b.1.1
  ·obtain rfl:a=b:=Subtype.ext (Zr hn a.2 b.2 e)
   erw[we,dK3,okF,uC,if_true]
  ·erw[we,dK3,okF,W6 (hl _ a.2) (hl _ b.2) e,be,if_false,okD]
   split
   ·exact uo _ _
   ·trivial
 dp:=λa=>by erw[we,dK3,dR,dpD,vG,uN];decide
 sh:=λa=>#[_,_,rfl,.inl #[rfl,_,rfl]]
theorem Jk{β:Type}{f:β->L3.D}{g:β->V}:∀{ys:List β},(∀y ∈ ys,Is K H (f y) (g y))->Iss K H (ys.map f) (ys.map g)
 | [],_=>by erw[aI,Iss]
 | y::ys,h=>by
  erw[ao,Iss]
  exact#[_,_,rfl,h y aB,Jk λz hz=>h z (av _ hz)]
theorem Ql{β:Type}{f:β->L3.D}:∀{bs:List β} {xs:List V},Iss K H (bs.map f) xs->∀y ∈ bs.zip xs,Is K H (f y.1) y.2
 | [],xs,_,y,hy=>by cases hy
 | b::bs,xs,h,y,hy=>by
  erw[ao,Iss]at h
  let#[x,r,rfl,h1,h2]:=h;rcases Bk.mp hy with rfl | hy
  ·exact h1
  ·exact Ql h2 y hy
def zej(k:Nat)(l:())(rs rs':List zH):Prop:=rs'.Perm rs/\rs'.Pairwise λa b=>rankF.lt (uM k l [] b.1) (uM k l [] a.1)=Bd
def XW(hk:k≠2)(hn:(rs.map (·.1)).Nodup)(hl:∀r ∈ rs,∀c ∈ r.1,c ∈ l)(hI:Iss K H (rs.attach.map λa=>.tup ((we k l rs d).dec a)) xs) :
  ∃rs':List zH,zej k l rs rs'/\Iss K H (rs'.map λr=>.tup (dK3 k l r)) ((srt (λp q=>(we k l rs d).lt p.1 q.1) ((we k l rs d).d0,V.non) (rs.attach.zip xs)).map (·.2)):=by
 have W:=(VC (d:=d) hk hn hl).w;let#[p1,p2]:=Vt (lt:=λ(p q:{r // r ∈ rs} × V)=>(we k l rs d).lt p.1 q.1) #[λa b=>W.asym _ _,λa b c=>W.ntr _ _ _] ((we k l rs d).d0,V.non) (rs.attach.zip xs);generalize srt (λ(p q:{r // r ∈ rs} × V)=>(we k l rs d).lt p.1 q.1) ((we k l rs d).d0,V.non) (rs.attach.zip xs)=ys at p1 p2;refine#[ys.map λy=>y.1.1,#[?_,?_],?_]
 ·have h1:=(p1.map (·.1)).map Subtype.val;have hlen:=hI.len;rw[aa]at hlen;rw[fv ⋯,List.attach_map_subtype_val,cf]at h1;exact h1
 ·exact BD.mpr p2
 ·rw[cf];exact Jk λy hy=>Ql hI y (p1.mem_iff.mp hy)
def hid(H:Hp)(R:sM):Hp:=λb=>if b=R then Bb else H b
def vL(h:b≠R):hid H R b=H b:=w9 h
def Wu : Same (hid H R) H:=λb o h=>by
 by_cases e:b=R
 ·rw[e,hid,w6 rfl]at h;cases h
 ·rw[vL e]at h;exact h
def JK : hid (upd H R o) R=hid H R:=funext λb=>by
 by_cases e:b=R
 ·rw[e,hid,hid,w6 rfl,w6 rfl]
 ·rw[vL e,vL e,zt e]
def Kr(s:Same H H')(hR:H R=Bb):Same H (hid H' R):=λb o h=>by
 rw[vL (zN h hR)];exact s b o h
def Zn(s:Same H H'):Same (hid H R) (hid H' R):=λb o h=>by
 by_cases e:b=R
 ·rw[e,hid,w6 rfl]at h;cases h
 ·rw[vL e]at h ⊢;exact s b o h
def Wz(K:sL):Sp:=λvs H Q Z=>∃(a:sM) (rs:List zH) (b:Bool) (l:()),vs=[.ref a,.bl b,⇑l]/\LsA K H a (rs.map dR)/\rs≠[]/\rs.length<=12/\(rs.map (·.1)).Nodup/\(∀r ∈ rs,r.1.length<=10/\∀c ∈ r.1,c ∈ l)/\kj l=Bc/\∀(D:sM) (H':Hp) (rs':List zH),Same H H'->LsA K H' D (rs'.map dR)->zej (if b=Bc then 1 else 0) l rs rs'->Q (.ref D) H'
def mK:sQz 3 ["_law_pairs_here","_law_right_here","_law_letters_here","_law_ranks","_law_pair","_law_seen"] uX:=by nofun
def Kh{f:sM}{fd:tW}(B:Bt mg)(hsorted:QS mg)(F:("_law_sided"^^^uX)) :(3&&&["_law_pairs_here","_law_right_here","_law_letters_here"]) (Wz K):=by
 exists F.ok mK
 ·let#[a,rs,b,l,rfl,hA,hne,hrl,hn,hl,hg,q]:=h
  refine#[_,(zh (zy 3 mK.nd (xg zg)) (zh (zR p8 rfl (zY (pv 0)) (zq (i:=4) mK.nd rfl (.inl rfl)) (zh (xM (i:=5) mK.nd rfl (Or.inr rfl) (!-4)) (zh (zJ (yk (pv 1) (λZ=>rfl)) (ze (xM (i:=5) mK.nd rfl (Or.inr rfl) (wf bK PySem.F.slot_str_join PySem.F.type_str_join zeT z6 (za (yM (own:=["_law_k"]) (caps:=["_law_seen"]) (ix:=[5]) (tt:=xo) (te:=(tOp zaQ (ya 1) (tOp (rI0 λi j=>.int (i - j)) (tOp (rI0 λi j=>.int (i - j)) (tCB (WR K) (zM (ya 1) xw)) (tC (.int 1))) (ya 0)))) rfl (zK (sc:=zi uX) rfl (!0) (!0) (!0) rfl (!0) (!0) rfl) (zV rfl B.range (za (zA B.len (pv 5)) zg)) (λZ Z Z Z Z Z=>zq (i:=0) (show List.Nodup [_,_] by decide) rfl (.inl rfl)) (λZ Z Z Z Z Z=>yg) (λZ Z Z Z Z Z=>(zk Y0 (pv 1) (zD wn (zD wn (zA B.len (pv 1)) zd) (pv 0))))) zg))))
     zr) (ze (yS (wf aX bh bn yx (pv 3) (za (zW (za (zA B.len (pv 5)) (za (yM (own:=["_law_sign"]) (caps:=["_law_letters_here"]) (ix:=[2]) (tt:=xo) (te:=(tBM K "str" Ky (ya 1) (zM (ya 0) xw))) rfl (zK (sc:=zi uX) rfl (!0) (!0) (!0) rfl (!0) (!0) rfl) (Yx (pv 5)) (λZ Z Z Z Z Z=>zq (i:=0) (show List.Nodup [_,_] by decide) rfl (.inl rfl)) (λZ Z Z Z Z Z=>yg) (λZ Z Z Z Z Z=>(wf bK dq du za6 (pv 1) (za (pv 0) zg)))) (za (pv 4) zg)))) zg))))))) (ze (zl (yM (own:=["_law_rank"]) (caps:=[]) (ix:=[]) (tt:=xo) (te:=(tOp (uI K) (ya 0) (tC (.int 2)))) rfl (zK (sc:=zi uX) rfl (!0) (!0) (!0) rfl (!0) (!0) rfl) (zY (yW (zbR (k:=0) (hr.mono ∅)) rfl hsorted fw (za (pv 3) zg))) (λZ Z Z Z Z Z=>zq (i:=0) (show List.Nodup [_] by decide) rfl (.inl rfl)) (λZ Z Z Z Z Z=>yg) (λZ Z Z Z Z Z=>(!-0))))))),?_]
  have s16:=zX;let#[xs,hX,hI]:=id hA;have hxl:=hI.len;rw[aa]at hxl;obtain⟨k,hk⟩:∃k:Nat,(if b=Bc then 1 else 0)=k:=#[_,rfl];rw[hk]at q;change Same H H'/\∃(R:sM),H R=Bb/\H' R=Ba (.lst [])/\σ=%[!!a,Ba (.bl b),~~~l,!!R|2]
  ·rfl'
   exact#[ar _,λR hR=>#[zf hR,R,hR,zc,rfl]]
  rintro σ H1 ⟨s1,R,hR,hR1,rfl⟩:0;change Same H H'/\∃v4 v5:Option V,LsA K H' R (rs.map λr=>.tup (dK3 k l r))/\σ=[!!a,Ba (.bl b),~~~l,!!R,v4,v5]
  ·rfl'
   refine#[#[_,x4 (s1 _ _ hX)],jb0 (xs:=xs) (λi σ H'=>Same H H'/\∃(v4 v5:Option V) (ys:List V),H' R=Ba (.lst ys)/\Iss K (hid H' R) ((rs.take i).map λr=>.tup (dK3 k l r)) ys/\σ=[!!a,Ba (.bl b),~~~l,!!R,v4,v5]) #[s1,Bb,Bb,[],hR1,by erw[bv,aI,Iss],rfl] (λi σ H' Z h=>x4 (h.1 _ _ hX)) ?_ ?_]
   ·refine nm4 ?_;rintro i x σ H2 hx ⟨s2,v4,v5,ys,hY,hJ,rfl⟩:_;have hil:=(Bh.mp hx).1;let#[r,pr,hri,rfl,hqr]:=hI.getR hx;have hrm:=ac hri;let#[hr10,hrc]:=hl r hrm;have hq2:=zp s2 hqr;have hyl:=hJ.len;rw[aa,aC]at hyl;right
    erw[yv,aN,aM]
    change H'=H2/\σ=[!!a,Ba (.bl b),~~~l,!!R,!!pr,Ba ⇑r.1]
    ·rfl'
     exact#[_,hq2,rfl]
    rintro σ H3 ⟨rfl,rfl⟩:0;change Same H3 H'/\σ=[!!a,Ba (.bl b),~~~l,!!R,!!pr,Ba ⇑(yD k r.1)]
    ·rfl'
     refine yb (λhb=>#[⋯,⋯,⋯,λD hD=>CompR.by (λi Bg H'=>Same H3 H'/\H' D=Ba (.lst Bg)/\Bg=(((r.1.reverse.take i).map λc=>[c]).map tx).map V.str) #[zf hD,zc,rfl] ?_ ?_]) λhb=>#[ja1 _,?_]
     ·refine nm3 ?_;rintro i Bg H' hi ⟨hs,hH,rfl⟩:_;rw[aA]at hi
      have hr:r.1.reverse[i]? = Ba (r.1[r.1.length - 1 - i]'⋯):=by
       rw[bF hi,af ⋯]
      have ha:atI r.1 ((r.1.length:Int) - 1 - (0+(i:Int)))=Ba (r.1[r.1.length - 1 - i]'⋯):=by
       rw[show (r.1.length:Int) - 1 - (0+(i:Int))=((r.1.length - 1 - i:Nat):Int) by lia];exact wU (af ⋯)
      right
      erw[xo]
      rfl'
      refine#[yz,⋯,⋯,_,ha,hH,by erw[aa,aC,bL];lia,x8 (by rw[aA];exact hi) #[zu hs hD,zc,?_]];rw[zP hr,am,am,am];rfl
     ·refine nmB ?_;rintro Bg H' ⟨hs,hH,rfl⟩:_;rw[aA,<- bL,aJ]at hH
      have hfl:(r.1.reverse.map λc=>[c]).flatten=r.1.reverse:=by
       induction r.1.reverse with
       | nil=>rfl
       | cons a r ih=>rw[ao,dO,ih];rfl
      right;refine#[tx [],D,(r.1.reverse.map λc=>[c]).map tx,rfl,rfl,x4 hH,Kj (by rw[hfl,bL];lia),?_];have e:Txt.join (tx []) ((r.1.reverse.map λc=>[c]).map tx)=Str.join (tx []) ((r.1.reverse.map λc=>[c]).map tx):=StrLaws.glued_eq_join _ _;rw[e,JX,hfl];refine#[hs,?_];rw[<- hk,w6 hb];rfl
     ·rw[<- hk,w9 hb];rfl
    rintro σ H4 ⟨s4,rfl⟩:_;have hsl:(yD k r.1).length=r.1.length:=by unfold yD;split <;> erw[bL]
    have hsm:∀c ∈ yD k r.1,c ∈ l:=λc hc=>hrc c (by
     unfold yD at hc;split at hc
     ·exact Bq.mp hc
     ·exact hc)
    right
    rfl'
    refine#[.inl #[_,x4 (s4 _ _ hY)],⋯,λD hD=>CompS.by (l:=yD k r.1) (λi Bg H'=>Same H4 H'/\H' D=Ba (.lst Bg)/\Bg=(qF l ((yD k r.1).take i)).map V.int) #[zf hD,zc,rfl] ?_ ?_]
    ·refine nm4 ?_;rintro i c Bg H' hc ⟨hs,hH,rfl⟩:_;have hci:=(Bh.mp hc).1;have hcl:=hsm c (ac hc);right
     erw[xo]
     rfl'
     rw[Vo hcl];refine#[yz,hH,by rw[aa];unfold qF;rw[aa,aC];lia,x8 hci #[zu hs hD,zc,?_]];unfold qF;rw[zP hc,am,am];rfl
    ·refine nmB ?_;rintro Bg H' ⟨hs,hH,rfl⟩:_;rw[aJ]at hH;have hR':=hs _ _ (s4 _ _ hY);right;refine#[⋯,λp hp=>?_];have up:=zf (o:=HO.tup [.int ((yD k r.1).length:Nat),.ref D,.ref pr]) hp;have hDR:D≠R:=λe=>by rw[e,s4 _ _ hY]at hD;cases hD
     have hpR:p≠R:=λe=>by rw[e,hR']at hp;cases hp
     have s5:=(s2.trans s4).trans (hs.trans up);refine#[ys,up _ _ hR',⋯,zu s5 hR,_,_,ys ++ [.ref p],zc,?_,rfl,rfl];rw[JK,zP hri,am];refine jc0 (ja0 (Zn (s4.trans (hs.trans up))) _ _ hJ) ?_
     erw[ao,aI,Iss,dK3,Is]
     refine#[_,_,rfl,#[p,_,rfl,x6 ((vL hpR).trans zc),_,_,rfl,by rw[hsl],_,_,rfl,#[D,_,rfl,x4 ((vL hDR).trans (up _ _ hH)),Iss.ints _],_,_,rfl,Ub (zp (Kr s5 hR) hqr),rfl],rfl]
   ·refine nmB ?_;rintro σ H2 ⟨s2,v4,v5,ys,hY,hJ,rfl⟩:_;rw[hxl,aJ]at hJ;right;exact#[s2,#[ys,hY,ja0 Wu _ _ hJ],v4,v5,rfl]
  rintro σ H2 ⟨s2,v4,v5,⟨ys,hY,hJ⟩,rfl⟩:0
  rfl'
  obtain⟨r0,hr0⟩:∃r0,r0 ∈ rs:=by
   cases rs with
   | nil=>exact w4 rfl hne
   | cons r0 _=>exact#[r0,aB]
  have hk2:k≠2:=by rw[<- hk];split <;> decide
  have hJ':Iss K H2 (rs.attach.map λa=>.tup ((we k l rs #[r0,hr0]).dec a)) ys:=by
   rw[show (rs.attach.map λa=>L3.D.tup ((we k l rs #[r0,hr0]).dec a))=rs.map λr=>.tup (dK3 k l r)from List.attach_map_val (f:=λr=>L3.D.tup (dK3 k l r))];exact hJ
  have hyl:=hJ.len;rw[aa]at hyl;let#[rs',hS,hO]:=XW hk2 hn (λr hr=>(hl r hr).2) hJ';refine#[R,ys,_,we k l rs #[r0,hr0],rs.attach,rfl,x4 hY,⋯,VC hk2 hn λr hr=>(hl r hr).2,hJ',λD hD=>#[D,rfl,#[_,x4 zc],λJ hJn=>?_]];generalize (srt (λ(p q:{r // r ∈ rs} × V)=>(we k l rs #[r0,hr0]).lt p.1 q.1) ((we k l rs #[r0,hr0]).d0,V.non) (rs.attach.zip ys)).map (·.2)=zs at *;have uD:=zf (o:=HO.lst zs) hD;have hzl:=hO.len;have hpl:=hS.1.length_eq;rw[aa]at hzl;refine ja3 (xs:=zs) (λi Bg H'=>Same (upd H2 D (.lst zs)) H'/\H' J=Ba (.lst Bg)/\Iss K H' ((rs'.take i).map dR) Bg) #[zf hJn,zc,by erw[bv,aI,Iss]] (λi Bg H' Z h=>x4 (h.1 _ _ zc)) ?_ ?_
  ·refine nm4 ?_;rintro i x Bg H' hx ⟨hs,hH,hIs⟩:_;have hil:=(Bh.mp hx).1;let#[dd,e,hi]:=hO.get hx;rw[au,af ⋯]at e;obtain rfl:=Option.some.inj e;have ht:rs'[i]? = Ba (rs'[i]'⋯):=af ⋯;right;generalize rs'[i]'⋯=r at *
   erw[dK3,Is,Iss]at hi
   let#[p,us,rfl,hq,u1,t1,rfl,rfl,u2,t2,rfl,_,u3,t3,rfl,h3,rfl]:=hi;have hal:=hIs.len;rw[aa,aC]at hal;have hs2:=uD.trans hs
   erw[xo]
   rfl'
   refine#[yz,_,zp hs2 hq,_,rfl,hH,⋯,x8 hil #[zu hs hJn,zc,?_]];rw[zP ht,am];let#[ws,hW,hV]:=jb2 hH hIs (xf _) (qh r) (Is.same hs2 _ _ h3);rw[zc]at hW;cases hW;exact hV
  ·refine nmB ?_;rintro Bg H' ⟨hs,hH,hIs⟩:_;rw[hzl,aJ]at hIs;right;exact q J H' rs' (s2.trans (uD.trans hs)) #[Bg,hH,hIs] hS
def wq(k N:Nat):List Int:=((aK (2 * k)).map (jh 2 N)).reverse
def atF(c:List Int):Nat->Int
 | 0=>-1
 | n+1=>if c[n]? = Ba 1 then atF c n else (n:Int)
def nxC(c:List Int):List Int:=(aK c.length).map λi:Nat=>if atF c c.length<(i:Int)then 0 else c.getD i 0
def okC(k N:Nat):Bool:=(wq k N).length == 2 * k && (wq k N).all (λz=>z == 0 || z == 1) && (if N+1<2 ^ (2 * k)then (wq k N).contains 0 && decide (0<=atF (wq k N) (2 * k)) && decide (atF (wq k N) (2 * k)<((2 * k:Nat):Int)) && (nxC (wq k N)).set (atF (wq k N) (2 * k)).toNat 1 == wq k (N+1)else !(wq k N).contains 0)
def okC_all:(∀N ∈ aK 16,okC 2 N=Bc)/\∀N ∈ aK 64,okC 3 N=Bc:=by symm
def TbsA(H:Hp)(D:sM)(k N:Nat)(Bg:List V):Prop:=H D=Ba (.lst Bg)/\Bg.length=N/\∀(i:Nat) (v:V),Bg[i]? = Ba v->∃t rs,v=.ref t/\TabAt (hid H D) t rs (wb 2 k i)
def J0:Sp:=λvs H Q Z=>∃k:Nat,vs=[.int (k:Nat)]/\(k=2\/k=3)/\∀(D:sM) (Bg:List V) (H':Hp),Same H H'->TbsA H' D k (2 ^ (2 * k)) Bg->Q (.ref D) H'
def TbsA.same{H H':Hp}{D:sM}{k N:Nat}{Bg:List V}(h:TbsA H D k N Bg)(s:Same H H'):TbsA H' D k N Bg:=#[s _ _ h.1,h.2.1,λi v hv=>let #[t,rs,e,ht]:=h.2.2 i v hv; #[t,rs,e,ht.same (Zn s)]]
theorem zhg(c:List Int):((c.map L3.D.int).any λe=>eqD e (.int 0))=c.contains 0:=by
 induction c with
 | nil=>rfl
 | cons z c ih =>
  rw[ao,dY,ih,dg];congr 1
  erw[eqD]
  rw[de]
  erw[beq_iff_eq]
  exact eq_comm
def zgD(H:Hp)(D:sM)(k:Nat)(m:Nat)(σ:L2.St)(G:Hp):Prop:=Same H G/\∃(N:Nat) (Bg:List V) (C:sM) (v4:Option V),TbsA G D k N Bg/\C≠D/\((m=2 ^ (2 * k) - N/\N<2 ^ (2 * k)/\G C=Ba (.lst ((wq k N).map V.int))/\σ=[-~~~k,!!D,!!C,Ba (.bl Bc),v4])\/(m=0/\N=2 ^ (2 * k)/\σ=[-~~~k,!!D,!!C,Ba (.bl Bd),v4]))
def Uw{D:Zm}(W:Nat->L2.St->Hp->Prop)(h0:∃m,W m σ H)(h:∀m σ H,W m σ H->c σ H λb H1=>if b=Bc then ∃N:L2.St->Hp->Prop,(∀σ' H',N σ' H'->∃m',m'<m/\W m' σ' H')/\tb { nx:=N,rt:=D.rt,bk:=D.nx,ct:=N } σ H1 else D.nx σ H1):kH c tb D σ H:=#[W,h0,h]
def ir:sQz 1 ["_law_many","_law_tables_here","_law_cells","_law_going","_law_at"] uu:=by nofun
def Ju(B:Bt mg)(F:("_law_tables"^^^uu)):(1&&&["_law_many"]) J0:=by
 exists F.ok ir
 ·let#[k,rfl,hk,q]:=h
  refine#[_,(zh (zy 1 ir.nd (xg zg)) (zh (xM (i:=2) ir.nd rfl (Or.inr rfl) (yM (own:=["_law_k"]) (caps:=[]) (ix:=[]) (tt:=xo) (te:=(tC (.int 0))) rfl (zK (sc:=zi uu) rfl (!0) (!0) (!0) rfl (!0) (!0) rfl) (zV rfl B.range (za (zD qw zd (pv 0)) zg)) (λZ Z Z Z Z Z=>zq (i:=0) (show List.Nodup [_] by decide) rfl (.inl rfl)) (λZ Z Z Z Z Z=>yg) (λZ Z Z Z Z Z=>zd))) (zh (zy 3 ir.nd yt) (zh (vq p8 (yk (pv 3) (λZ=>rfl)) (zh (yS (wf aX bh bn yx (pv 1) (za (xg (za (zQ jB (pv 2) yo (zO (pv 0))) (za (zQ jB (pv 2) (zO (pv 0)) yo) zg))) zg))) (zh (zy 3 ir.nd (yi (zdJ (wz hr)) zd (pv 2) (by with_unfolding_all rfl))) (zh (xM (i:=4) ir.nd rfl (Or.inr rfl) (zD wn (zA B.len (pv 2)) zd)) (zh (vq p8 (PW.pt (Vk (zv op_ge' (pv 4) zd (zx _)) (Z9 (zv xx (zk ix_list (pv 2) (pv 4)) zd (zx _))))) (ze (xM (i:=4) ir.nd rfl (Or.inr rfl) (zD wn (pv 4) zd)))) (zh (xM (i:=2) ir.nd rfl (Or.inr rfl) (yM (own:=["_law_k"]) (caps:=["_law_at","_law_cells"]) (ix:=[4,2]) (tt:=xo) (te:=(tIf (V3 (tOp zdR (ya 0) (ya 1))) (tC (.int 0)) (tOp (rIx K) (ya 2) (ya 0)))) rfl (zK (sc:=zi uu) rfl (!0) (!0) (!0) rfl (!0) (!0) rfl) (zV rfl B.range (za (zA B.len (pv 2)) zg)) (λZ Z Z Z Z Z=>zq (i:=0) (show List.Nodup [_,_,_] by decide) rfl (.inl rfl)) (λZ Z Z Z Z Z=>yg) (λZ Z Z Z Z Z=>(wG (zv Xb (pv 0) (pv 1) (zx _)) zd (zk zaB (pv 2) (pv 0)))))) (ze (zJ (yk (pv 3) (λZ=>rfl)) (ze (Qw zd (JV (pv 2) (pv 4) W8 (by intro _;rfl))))
     zr)))))))) (ze (zl (pv 1))))))),?_]
  have s16:=zX;have s16:=zX
  have ok:∀N,N<2 ^ (2 * k)->okC k N=Bc:=λN hN=>by
   rcases hk with rfl | rfl
   ·exact okC_all.1 N (Bn.mpr hN)
   ·exact okC_all.2 N (Bn.mpr hN)
  have pw:2 ^ (2 * k)<=64:=by rcases hk with rfl | rfl <;> decide
  have pw0:0<2 ^ (2 * k):=by rcases hk with rfl | rfl <;> decide
  change ∃D:sM,H D=Bb/\H'=upd H D (.lst [])/\σ=%[-~~~k,!!D|3]
  ·rfl'
   exact#[⋯,λp hp=>#[p,hp,rfl,rfl]]
  rintro σ H1 ⟨D,hD,rfl,rfl⟩:0;change Same H H'/\TbsA H' D k 0 []/\∃C:sM,C≠D/\H' C=Ba (.lst ((wq k 0).map V.int))/\σ=%[-~~~k,!!D,!!C|2]
  ·rfl'
   refine#[by unfold CMul;lia,⋯,⋯,λC hC=>CompR.by (λi Bg H'=>Same (upd H D (.lst [])) H'/\H' C=Ba (.lst Bg)/\Bg=aR i (V.int 0)) #[zf hC,zc,rfl] ?_ ?_]
   ·refine nm3 ?_;rintro i Bg H' hi ⟨hs,hH,rfl⟩:0
    erw[xo]
    rfl'
    refine#[yz,hH,by rw[bN];lia,x8 hi #[zu hs hC,zc,?_]];rw[eG]
   ·refine nmB ?_;rintro Bg H' ⟨hs,hH,rfl⟩:0;refine#[(zf hD).trans hs,#[hs _ _ zc,rfl,λi v h=>by simp at h],C,λe=>(by rw[e,zc]at hC;cases hC),?_,rfl];rw[hH];rcases hk with rfl | rfl <;> rfl
  rintro σ H2 ⟨s2,hT2,C,hCD,hC2,rfl⟩:0;change H'=H2/\σ=[-~~~k,!!D,!!C,Ba (.bl Bc),Bb]
  ·rfl'
  rintro σ H2 ⟨rfl,rfl⟩:0;change Same H H'/\(∃Bg,TbsA H' D k (2 ^ (2 * k)) Bg)/\∃v2 v3 v4,σ=[-~~~k,!!D,v2,v3,v4]
  ·refine Uw (zgD H D k) #[_,s2,0,[],C,Bb,hT2,hCD,.inl #[rfl,pw0,hC2,rfl]] ?_;rintro m σ G ⟨sG,N,Bg,C,v4,⟨hD1,hD2,hD3⟩,hCD,⟨rfl,hN,hC,rfl⟩ | ⟨rfl,rfl,rfl⟩⟩
   ·rfl'
    have okN:=ok N hN;unfold okC at okN;rw[ba,ba]at okN;let#[#[o1,o2],o3]:=okN;have hcl:(wq k N).length=2 * k:=by simpa using o1
    refine#[λσ' G'=>∃m',m'<2 ^ (2 * k) - N/\zgD H D k m' σ' G',λZ Z h=>h,?_];refine zj (λσ G'=>Same H G'/\(∃acc',TbsA G' D k (N+1) acc')/\G' C=Ba (.lst ((wq k N).map V.int))/\σ=[-~~~k,!!D,!!C,Ba (.bl Bc),v4]) ?_ ?_
    ·rfl'
     have e1:Ur ((wq k N).map V.int) Bb (Ba (k:Int))=(J7 2 k N 0).map V.int:=by
      rw[show Ur ((wq k N).map V.int) Bb (Ba (k:Int))=((wq k N).map V.int).take k from uj _ (bJ _),<- gp];have h:=Wd (n:=2) (k:=k) (N:=N) (r:=0) ∅;rw[Nat.zero_mul,dL]at h;rw[<- h];rfl
     have e2:Ur ((wq k N).map V.int) (Ba (k:Int)) Bb=(J7 2 k N 1).map V.int:=by
      rw[show Ur ((wq k N).map V.int) (Ba (k:Int)) Bb=((wq k N).map V.int).drop k from xq _ (bJ _),<- List.map_drop];have h:=Wd (n:=2) (k:=k) (N:=N) (r:=1) ∅;rw[gC,aW (by show ((wq k N).drop k).length<=k;rw[aS,hcl];lia)]at h;rw[<- h];rfl
     refine#[.inl #[_,x4 hD1],_,x4 hC,λp1 hp1=>#[_,x4 (zf hp1 _ _ hC),λp2 hp2=>#[⋯,λp3 hp3=>?_]]];rw[e1]at hp2 hp3 ⊢;rw[e2]at hp3 ⊢;have u1:=zf (o:=HO.lst ((J7 2 k N 0).map V.int)) hp1;have u2:=zf (o:=HO.lst ((J7 2 k N 1).map V.int)) hp2;have u3:=zf (o:=HO.lst [V.ref p1,V.ref p2]) hp3;have u:=u1.trans (u2.trans u3);have n1:p1≠D:=λe=>by rw[e,hD1]at hp1;cases hp1
     have n2:p2≠D:=λe=>by rw[e,u1 _ _ hD1]at hp2;cases hp2
     have n3:p3≠D:=λe=>by rw[e,u2 _ _ (u1 _ _ hD1)]at hp3;cases hp3
     refine#[Bg,u _ _ hD1,⋯,zu (sG.trans u) hD,#[Bg ++ [.ref p3],zc,by rw[aj,hD2];rfl,λi v h=>?_],by rw[zt hCD];exact u _ _ hC];rw[JK];by_cases hi:i<Bg.length
     ·rw[bW hi]at h;let#[t,rs,e,ht]:=hD3 i v h;exact#[t,rs,e,ht.same (Zn u)]
     ·have hil:=(Bh.mp h).1;rw[aj]at hil;have ei:i=Bg.length:=by erw[aG,bI]at hil;lia
      rw[ei,bG (al _),eD]at h;cases h;rw[ei,hD2];refine#[p3,[p1,p2],rfl,#[(vL n3).trans zc,rfl,λj r x hr hx=>?_]]
      match j,hr,hx with
      | 0,hr,hx =>
       cases hr;cases hx;exact (vL n1).trans (u3 _ _ (u2 _ _ zc))
      | 1,hr,hx =>
       cases hr;cases hx;exact (vL n2).trans (u3 _ _ zc)
      | j+2,hr,hx=>simp at hr
    rintro σ G1 ⟨s1,⟨acc',hT1⟩,hC1,rfl⟩:0;refine zj (λσ G'=>G'=G1/\σ=[-~~~k,!!D,!!C,Ba (.bl (decide (N+1<2 ^ (2 * k)))),v4]) ?_ ?_
    ·rfl'
     refine#[C,(wq k N).map L3.D.int,.int 0,rfl,?_,rfl,by rw[uN];decide,rfl,congrArg V.bl ?_]
     ·erw[Is]
      exact#[C,_,rfl,x4 hC1,Iss.ints _]
     ·rw[w9 ∅,zhg];by_cases hlt:N+1<2 ^ (2 * k)
      ·rw[w6 hlt,ba,ba,ba]at o3;rw[o3.1.1.1,u6 hlt]
      ·rw[w9 hlt]at o3;rw[u9 hlt];simpa using o3
    rintro σ G1 ⟨rfl,rfl⟩:0;refine zj (λσ G'=>G'=G1/\σ=[-~~~k,!!D,!!C,Ba (.bl (decide (N+1<2 ^ (2 * k)))),Ba (.int ((2 * k:Nat) - 1))]) ?_ ?_
    ·rfl'
     exact#[_,.inl #[_,x4 hC1,rfl],by rw[aa,hcl]]
    rintro σ G1 ⟨rfl,rfl⟩:0;refine zj (λσ G'=>G'=G1/\σ=[-~~~k,!!D,!!C,Ba (.bl (decide (N+1<2 ^ (2 * k)))),Ba (.int (atF (wq k N) (2 * k)))]) ?_ ?_
    ·refine Uw (λm σ G'=>G'=G1/\m<=2 * k/\atF (wq k N) m=atF (wq k N) (2 * k)/\σ=[-~~~k,!!D,!!C,Ba (.bl (decide (N+1<2 ^ (2 * k)))),Ba (.int ((m:Nat) - 1))]) #[2 * k,rfl,al _,rfl,rfl] ?_;refine nmC ?_;rintro m σ G' ⟨rfl,hm,hat,rfl⟩:0
     rfl'
     refine yb (λh0=>?_) λh0=>?_
     ·obtain⟨j,rfl⟩:∃j,m=j+1:=#[m - 1,⋯];have hj:j<(wq k N).length:=⋯;have ej:(((j+1:Nat):Int)) - 1=((j:Nat):Int):=⋯;have hg:(wq k N)[j]? = Ba (wq k N)[j]:=af hj
      erw[atF,hg]at hat
      rw[ej];refine#[_,x4 hC1,.int ((wq k N)[j]),wU (by rw[au,hg];rfl),rfl,yb (λe=>#[λσ' G''=>G''=G'/\σ'=[-~~~k,!!D,!!C,Ba (.bl (decide (N+1<2 ^ (2 * k)))),Ba (.int ((j:Nat) - 1))],?_,rfl,rfl]) λe=>?_]
      ·rintro σ' G'' ⟨rfl,rfl⟩;rw[w6 (congrArg Ba (V.int.inj e))]at hat;exact#[j,⋯,rfl,⋯,hat,rfl]
      ·rw[w9 λz=>e (congrArg V.int (Option.some.inj z))]at hat;exact hat
     ·have:m=0:=⋯;subst this;exact hat
    rintro σ G1 ⟨rfl,rfl⟩:0;refine zj (λσ G'=>Same G1 G'/\∃C',G1 C'=Bb/\G' C'=Ba (.lst ((nxC (wq k N)).map V.int))/\σ=[-~~~k,!!D,!!C',Ba (.bl (decide (N+1<2 ^ (2 * k)))),Ba (.int (atF (wq k N) (2 * k)))]) ?_ ?_
    ·rfl'
     refine#[_,.inl #[_,x4 hC1,rfl],⋯,by rw[aa,hcl];lia,λC' hC'=>CompR.by (λi Bg H'=>Same G1 H'/\H' C'=Ba (.lst Bg)/\Bg=((nxC (wq k N)).take i).map V.int) #[zf hC',zc,rfl] ?_ ?_]
     ·refine nm3 ?_;rintro i Bg H' hi ⟨hs,hH,rfl⟩:_;rw[aa,hcl,aA]at hi;have hi':i<(wq k N).length:=⋯
      have hx:(nxC (wq k N))[i]? = Ba (if atF (wq k N) (2 * k)<(i:Int)then 0 else (wq k N)[i]):=by
       unfold nxC;rw[au,af (by rw[bM];exact hi'),eV,hcl,Option.map_some,ae,af hi'];rfl
      have hal:(((nxC (wq k N)).take i).map V.int).length<sK:=by rw[aa,aC];lia
      have hlen:i<(((wq k N).map V.int).length:Int).toNat:=by rw[aa,hcl,aA];exact hi
      right
      erw[xo]
      rfl'
      refine#[yz,yb (λhlt=>#[hH,hal,x8 hlen #[zu hs hC',zc,?_]]) λhlt=>.inl #[_,x4 (hs _ _ hC1),.int ((wq k N)[i]),?_,hH,hal,x8 hlen #[zu hs hC',zc,?_]]]
      ·rw[w6 ⋯]at hx;rw[zP hx,am];rfl
      ·rw[show (0:Int)+(i:Int)=((i:Nat):Int) by lia];exact wU (by rw[au,af hi'];rfl)
      ·rw[w9 ⋯]at hx;rw[zP hx,am];rfl
     ·refine nmB ?_;rintro Bg H' ⟨hs,hH,rfl⟩:0;refine#[hs,C',hC',?_,rfl];rw[hH,aa,aA,aW (by unfold nxC;rw[aa,bM];exact al _)]
    rintro σ G2 ⟨g2,C',hC',hC2,rfl⟩:_;have hCD':C'≠D:=λe=>by rw[e,hT1.1]at hC';cases hC'
    right
    rfl'
    refine yb (λhlt=>?_) λhlt=>?_
    ·unfold zfh
     rfl'
     rw[w6 hlt,ba,ba,ba]at o3;let#[#[#[_,a0],a1],a2]:=o3;have a0':=u5 a0;have a1':=u5 a1;have hnl:((nxC (wq k N)).map V.int).length=2 * k:=by unfold nxC;rw[aa,aa,bM,hcl]
     refine#[C',_,_,(atF (wq k N) (2 * k)).toNat,rfl,rfl,hC2,?_,2 ^ (2 * k) - (N+1),⋯,s1.trans (zu g2 hC'),N+1,acc',C',_,hT1.same (zu g2 hC'),hCD',.inl #[rfl,hlt,?_,by rw[u6 hlt]]]
     ·unfold ixN;rw[hnl]
      erw[a0',if_true]
      rw[w6 ⋯]
     ·rw[zc,<- List.map_set,beq_iff_eq.mp a2]
    ·exact#[0,⋯,s1.trans g2,N+1,acc',C',_,hT1.same g2,hCD',.inr #[rfl,⋯,by rw[u9 hlt]]]
   ·rfl'
    exact#[sG,Bg,hD1,hD2,hD3]
  rintro σ H3 ⟨s3,⟨Bg,hT3⟩,v2,v3,v4,rfl⟩:0
  rfl'
  exact q D Bg H3 s3 hT3
def Zv:Sp:=λvs H Q Z=>∃(t:sM) (rs:List sM) (tab:List (List Int)) (l:()) (r:Int) (w:()),vs=[.ref t,⇑l,.int r,⇑w]/\TabAt H t rs tab/\xC l tab/\0<=r/\r<(tab.length:Int)/\(∀c ∈ w,c ∈ l)/\Q (.int (ue l tab r w)) H
def qP{w:()}(h:TabAt H t rs tab)(hG:xC l tab)(h0:0<=r)(h1:r<(tab.length:Int))(hw:∀c ∈ w,c ∈ l)(q:Q (.int (ue l tab r w)) H):Zv [.ref t,⇑l,.int r,⇑w] H Q E:=#[t,rs,tab,l,r,w,rfl,h,hG,h0,h1,hw,q]
def rn:sQz 4 ["_law_table","_law_letters_here","_law_room","_law_word_here","_law_sign"] zbD:=by nofun
def zew(B:Bt mg)(F:("_law_led"^^^zbD)):(1&&&["_law_table","_law_letters_here","_law_room","_law_word_here"]) Zv:=by
 exists F.ok rn
 ·let#[t,rs,tab,l,r,w,rfl,hT,hG,h0,h1,hw,q]:=h
  refine#[_,(zG (zR p8 rfl (Yx (pv 3)) (zq (i:=4) rn.nd rfl (.inl rfl)) (ze (zy 2 rn.nd (zk ix_list (zk ix_list (pv 0) (pv 2)) (wf bK dq du za6 (pv 1) (za (pv 4) zg)))))) (ze (zl (pv 2)))),?_]
  have s16:=zX
  rfl'
  refine ForS.by (λi σ H'=>H'=H/\∃v4,σ=[!!t,~~~l,Ba (.int (ue l tab r (w.take i))),~~~w,v4]) #[rfl,Bb,rfl] ?_ ?_
  ·refine nm4 ?_;rintro i c σ H' hc ⟨rfl,v4,rfl⟩:_;have hcl:=hw c (ac hc);let#[a,b]:=ZT hG (w:=w.take i) h0 h1 λx hx=>hw x (bA hx);let#[r',x,e1,e2,e3]:=hT.get a b;right
   rfl'
   refine#[_,x4 hT.top,_,e1,_,rfl,_,x4 e3,?_];rw[Vo hcl,YS hc];exact zbq hG e2 hcl
  ·refine nmB ?_;rintro σ H' ⟨rfl,v4,rfl⟩:0
   rfl'
   rw[aJ];exact q
def ql(l:())(tab:List (List Int))(ps:List zH):Bool:=ps.all λp=>(ve l tab p.1 p.2).isNone
def holdsB_iff : ql l tab ps=Bc ↔ ∀p ∈ ps,ve l tab p.1 p.2=Bb:=by unfold ql;rw[List.all_eq_true];exact#[λh p hp=>BC.mp (h p hp),λh p hp=>BC.mpr (h p hp)]
def j3(K:sL):Sp:=λvs H Q Z=>∃(t a:sM) (rs:List sM) (tab:List (List Int)) (l:()) (ps:List zH),vs=[.ref t,⇑l,.ref a]/\TabAt H t rs tab/\xC l tab/\LsA K H a (ps.map dR)/\InP l ps/\Q (.bl (ql l tab ps)) H
def Ug(h1:TabAt H t rs tab)(h2:xC l tab)(h3:LsA K H a (ps.map dR))(h4:InP l ps)(q:Q (.bl (ql l tab ps)) H):j3 K [.ref t,⇑l,.ref a] H Q E:=#[t,a,rs,tab,l,ps,rfl,h1,h2,h3,h4,q]
def oO:sQz 3 ["_law_table","_law_letters_here","_law_pairs_here","_law_pair","_law_room"] Xq:=by nofun
def Kp(B:Bt mg)(F:("_law_holds"^^^Xq))(pi:(1<<<"_law_led") ["_law_table","_law_letters_here","_law_room","_law_word_here"] [] Zv):(2&&&["_law_table","_law_letters_here","_law_pairs_here"]) (j3 K):=by
 exists F.ok oO
 ·let#[t,a,rs,tab,l,ps,rfl,hT,hG,hA,hp,q]:=h
  refine#[_,(zh (zR p8 rfl (zY (pv 2)) (zq (i:=3) oO.nd rfl (.inl rfl)) (ze (zR p8 rfl (zV rfl B.range (za (zA B.len (pv 0)) zg)) (zq (i:=4) oO.nd rfl (.inl rfl)) (ze (zJ (zv uJ (cl0 pi hr .nil rfl (za (pv 0) (za (pv 1) (za (pv 4) (za (!-3) zg))))) (cl0 pi hr .nil rfl (za (pv 0) (za (pv 1) (za (pv 4) (za (!-3) zg))))) (zx _)) (ze (zl yt))
      zr))))) (ze (zl yt))),?_]
  have s16:=zX;have hl:=hT.len;have hhi:=hG.hi;let#[xs,hX,hI]:=id hA;have hxl:=hI.len;rw[aa]at hxl;change H'=H/\(∀p ∈ ps,ve l tab p.1 p.2=Bb)/\∃v3 v4,σ=[!!t,~~~l,!!a,v3,v4]
  ·rfl'
   refine#[#[_,x4 hX],jb0 (xs:=xs) (λi σ H'=>H'=H/\(∀j p,j<i->ps[j]? = Ba p->ve l tab p.1 p.2=Bb)/\∃v3 v4,σ=[!!t,~~~l,!!a,v3,v4]) #[rfl,λj p h=>w4 h (bq j),_,_,rfl] (λi σ H' Z h=>by rw[h.1];exact x4 hX) ?_ λσ H' h=>?_]
   ·refine nm4 ?_;rintro i x σ H' hx ⟨rfl,hb,v3,v4,rfl⟩:_;let#[r,pr,hri,rfl,hqr]:=hI.getR hx;let#[r1,r2]:=hp r (ac hri);right
    erw[yv,aN,aM]
    rfl'
    refine#[_,.inl #[_,x4 hT.top,rfl],by rw[aa];lia,by rw[aa];lia,ja2 (λn σ H''=>H''=H'/\(∀j:Nat,j<n->ue l tab (j:Int) r.1=ue l tab (j:Int) r.2)/\∃v4,σ=[!!t,~~~l,!!a,!!pr,v4]) #[rfl,λj h=>w4 h (bq j),_,rfl] ?_ λσ H'' h=>?_]
    ·refine nm3 ?_;rintro n σ H'' hn ⟨rfl,hc,v4,rfl⟩:_;rw[aa]at hn;have hn':n<tab.length:=⋯;have e0:(0:Int)+(n:Int)=(n:Int):=⋯;right
     erw[yv,aN,aM]
     rfl'
     refine#[_,hqr,_,rfl,qP hT hG ⋯ ⋯ r1 #[_,hqr,_,rfl,qP hT hG ⋯ ⋯ r2 ?_]];rw[e0]
     rfl'
     refine yb (λh=>?_) λh j hj=>?_
     ·have:ql l tab ps=Bd:=by
       cases e:ql l tab ps with
       | false=>rfl
       | true =>
        have:=holdsB_iff.mp e r (ac hri);rw[Yv hn' h hc]at this;cases this
      rw[this]at q;exact q
     ·by_cases hj':j<n
      ·exact hc j hj'
      ·have:j=n:=⋯;rw[this];exact Decidable.not_not.mp h
    ·let#[rfl,hc,v4,rfl]:=h;rw[aa]at hc;refine#[rfl,λj p hj hpj=>?_,_,_,rfl];by_cases hj':j<i
     ·exact hb j p hj' hpj
     ·have:j=i:=⋯;subst this;rw[hri]at hpj;cases hpj;exact Y4 λj hj=>hc j ⋯
   ·let#[rfl,hb,v3,v4,rfl]:=h;refine#[rfl,λp hp=>?_,v3,v4,rfl];let#[j,hj]:=Bw.mp hp;exact hb j p (by have:=(Bh.mp hj).1;lia) hj
  rintro σ H1 ⟨rfl,hb,v3,v4,rfl⟩:0
  rfl'
  rw[holdsB_iff.mpr hb]at q;exact q
theorem vT : ∀{ps:List zH} {i:Nat},(wH l tab ps i).isNone=ql l tab ps
 | [],i=>rfl
 | p::ps,i=>by
  erw[wH,ql,eY]
  cases h:ve l tab p.1 p.2 with
  | some r=>rfl
  | none=>exact vT (ps:=ps) (i:=i+1)
def zdB(K:sL):Sp:=λvs H Q Z=>∃(l:()) (a wd:sM) (ps:List zH) (u v:()),vs=[⇑l,.ref a,.ref wd]/\(l.length=2\/l.length=3)/\LsA K H a (ps.map dR)/\InP l ps/\H wd=Ba (.lst [⇑u,⇑v])/\(∀c ∈ u,c ∈ l)/\(∀c ∈ v,c ∈ l)/\(∀(t:sM) (rs:List sM) (N:Nat) (H':Hp),Same H H'->N<2 ^ (2 * l.length)->y3 l (wb 2 l.length N) ps u v=Bc->(∀N',N'<N->y3 l (wb 2 l.length N') ps u v=Bd)->TabAt H' t rs (wb 2 l.length N)->Q (.ref t) H')/\((∀N,N<2 ^ (2 * l.length)->y3 l (wb 2 l.length N) ps u v=Bd)->∀H',Same H H'->Q .non H')
def lK:sQz 3 ["_law_letters_here","_law_pacts","_law_words","_law_table","_law_apart"] ww:=by nofun
def kz(B:Bt mg)(F:("_law_first_world"^^^ww))(rT:(1<<<"_law_tables") ["_law_many"] [] J0)(pi:(1<<<"_law_led") ["_law_table","_law_letters_here","_law_room","_law_word_here"] [] Zv)(sj:(2<<<"_law_holds") ["_law_table","_law_letters_here","_law_pairs_here"] [] (j3 K)):(3&&&["_law_letters_here","_law_pacts","_law_words"]) (zdB K):=by
 exists F.ok lK
 ·let#[l,a,wd,ps,u,v,rfl,hl,hA,hin,hW,hu,hv,q1,q2]:=h
  refine#[_,(zh (zR p8 rfl (zY (cl0 rT hr .nil rfl (za (zA B.len (pv 0)) zg))) (zq (i:=3) lK.nd rfl (.inl rfl)) (zh (zy 4 lK.nd (yi uJ (cl0 pi hr .nil rfl (za (pv 3) (za (pv 0) (za zd (za (zk ix_list (pv 2) zd) zg))))) (cl0 pi hr .nil rfl (za (pv 3) (za (pv 0) (za zd (za (zk ix_list (pv 2) zd) zg))))) (zx _))) (ze (zJ (PW.pt (Vk (yk (pv 4) (λZ=>rfl)) (Z9 (yk (cl0 sj hr .nil rfl (za (pv 3) (za (pv 0) (za (pv 1) zg)))) (λZ=>rfl))))) (ze (zl (pv 3)))
     zr)))) (ze (zl yd))),?_]
  have s16:=zX;change Same H H'/\(∀N,N<2 ^ (2 * l.length)->y3 l (wb 2 l.length N) ps u v=Bd)/\∃v3 v4,σ=[~~~l,!!a,!!wd,v3,v4]
  ·rfl'
   refine#[⋯,l.length,rfl,hl,λD Bg H1 s1 hT=>#[D,rfl,#[_,x4 hT.1],jb0 (xs:=Bg) (λi σ H'=>H'=H1/\(∀N,N<i->y3 l (wb 2 l.length N) ps u v=Bd)/\∃v3 v4,σ=[~~~l,!!a,!!wd,v3,v4]) #[rfl,λN h=>w4 h (bq N),_,_,rfl] (λi σ H' Z h=>by rw[h.1];exact x4 hT.1) ?_ ?_]]
   ·refine nm4 ?_;rintro i x σ H' hx ⟨rfl,hb,v3,v4,rfl⟩:_;let#[t,rs,rfl,ht0]:=hT.2.2 i x hx;have ht:=ht0.same Wu;have hi:=(Bh.mp hx).1;rw[hT.2.1]at hi;have hG:xC l (wb 2 l.length i):=qR i ∅ ∅;have hl2:(wb 2 l.length i).length=2:=uS 2 l.length i;have hW1:=s1 _ _ hW;right
    erw[yv,aN,aM]
    refine zj (λσ G=>G=H'/\σ=[~~~l,!!a,!!wd,!!t,Ba (.bl (decide (ue l (wb 2 l.length i) 0 u≠ue l (wb 2 l.length i) 0 v)))]) ?_ ?_
    ·rfl'
     refine#[_,x4 hW1,_,rfl,qP ht hG ∅ (by rw[hl2];decide) hu #[_,x4 hW1,_,rfl,qP ht hG ∅ (by rw[hl2];decide) hv #[rfl,rfl,?_]]];by_cases e:ue l (wb 2 l.length i) 0 u=ue l (wb 2 l.length i) 0 v
     ·rw[u6 (congrArg V.int e),u9 λh=>h e];rfl
     ·rw[u9 λh=>e (V.int.inj h),u6 e];rfl
    rintro σ G ⟨rfl,rfl⟩:0
    rfl'
    have nxt:y3 l (wb 2 l.length i) ps u v=Bd->∀N,N<i+1->y3 l (wb 2 l.length N) ps u v=Bd:=λh N hN=>by
     by_cases e:N=i
     ·rw[e];exact h
     ·exact hb N ⋯
    refine yb (λe=>Ug ht hG (hA.same s1) hin #[_,rfl,yb (λe2=>?_) λe2=>#[rfl,nxt ?_]]) λe=>nxt ?_
    ·refine q1 t rs i G s1 hi ?_ hb ht;unfold y3;rw[u6 e,vT,e2];rfl
    ·unfold y3;rw[vT,BF.mpr e2,dJ]
    ·unfold y3;rw[u9 e,Bool.false_and]
   ·refine nmB ?_;rintro σ H' ⟨rfl,hb,v3,v4,rfl⟩:_;rw[hT.2.1]at hb;right;exact#[s1,hb,_,_,rfl]
  rintro σ H1 ⟨s1,hb,v3,v4,rfl⟩:0
  rfl'
  exact q2 hb H1 s1
def zcI(hk:k≠2)(u v:()):zU k l ns u v=rankF.lt (uM k l [] u) (uM k l [] v):=by
 unfold zU
 erw[rankF,uM,zE,w9 hk]
def Ko(hk:k≠2)(hl:∀r ∈ rs,∀c ∈ r.1,c ∈ l)(hn:(rs.map Prod.fst).Nodup)(hz:Lined k l ns es zs)(hp:(zb zs).Perm rs)(hs:rs.Pairwise λa b=>rankF.lt (uM k l [] b.1) (uM k l [] a.1)=Bd):zb zs=rs:=by
 refine List.Perm.eq_of_pairwise (le:=λa b:zH=>rankF.lt (uM k l [] b.1) (uM k l [] a.1)=Bd) (λa b ha hb h1 h2=>?_) ?_ hs hp
 ·have ha':=hp.mem_iff.mp ha;refine Zr hn ha' hb ((zbr (k:=k) (ns:=[]) (hl a ha') (hl b hb)).mp ?_);by_cases e:uM k l [] a.1=uM k l [] b.1
  ·exact e
  ·have:=jM e;rw[h1,h2]at this;cases this
 ·refine BD.mpr (hz.srt.imp λ{a b} h=>?_);unfold km at h;by_cases e:b.1=a.1
  ·simp only;rw[e];exact qp _
  ·rw[w9 e,zcI hk]at h;exact h
theorem zdV{w:Bool}(hk:k≠2)(hs:∀p ∈ rs,TLr l s p)(h3:s<=3)(h12:rs.length<=12)(hA:(rs'.map lgR).Perm rs)(hn:(rs.map Prod.fst).Nodup)(ho:rs.Pairwise λa b=>rankF.lt (uM k l [] b.1) (uM k l [] a.1)=Bd)(hr:kG rs=Bd->r=0)(hC:Cpl k l ns (r+1) [] (fEs rs' rs'.length) w es):w=kG rs/\zb es=rs/\∀e ∈ es,e.2.2.length=1:=by
 have lin:=λzs (hz:Lined k l ns (fEs rs' rs'.length) zs)=>K3 hk hs ⋯ hA hn hz;have thin:∀{r},uL k l ns 20 (fEs rs' rs'.length) r->∃zs,Lined k l ns (fEs rs' rs'.length) zs/\r=Ba zs:=λh=>zcR (n:=19) h λzs hz=>(lin zs hz).1
 have good:∀zs,Lined k l ns (fEs rs' rs'.length) zs->jl zs=Bd/\(∀t ∈ ovA (zb zs) (zb zs).length,OkG (zb zs) 40 t)/\zb zs=rs/\∀e ∈ zs,e.2.2.length=1:=λzs hz=>by
  let#[#[h1,_],hp,hone]:=lin zs hz
  have hb:jl zs=Bd:=by
   unfold jl;have:=hp.length_eq;rw[xB]at this;rw[u9 ⋯,Bool.false_or,List.any_eq_false];intro e he;have:=(h1 e he).a;have:=(h1 e he).b;rw[decide_eq_true_eq];lia
  have hpe:=Ko hk (λr hr=>(hs r hr).ma) hn hz hp ho;refine#[hb,λt ht=>?_,hpe,hone];rw[hpe]at ht ⊢;let#[#[a1,a2],b1,b2]:=zd9 (l:=l) (ps:=rs) (λp h=>#[(hs p h).ma,(hs p h).mb]) (λp h=>#[by have:=(hs p h).a;lia,by have:=(hs p h).b;lia]) ht
  have sh:∀p ∈ rs,p.2.length<p.1.length:=λp h=>by
   have:=(hs p h).a;have:=(hs p h).b;lia
  let#[i,hi,_]:=vv sh a1;let#[j,hj,_]:=vv sh b1;exact#[by rw[qI hi];rfl,by rw[qI hj];rfl]
 cases hC with
 | slim h =>
  rcases h with h | ⟨bs,h,hb⟩
  ·let#[zs,_,e]:=thin h;cases e
  ·let#[zs,hz,e]:=thin h;cases e;rw[(good _ hz).1]at hb;cases hb
 | far h hb ht ho =>
  let#[zs,hz,e]:=thin h;cases e;exact w4 ((good _ hz).2.1 _ ht) ho
 | whole h hb ho hu =>
  let#[zs,hz,e]:=thin h;cases e;have hp:=(good _ hz).2.2;rw[hp.1]at hu;exact#[(metA_un.mpr hu).symm,hp]
 | more h hb ho hu q =>
  let#[zs,hz,e]:=thin h;cases e;have hp:=(good _ hz).2.2
  have hm:kG rs=Bd:=by
   rw[e9];exact λh=>hu (by rw[hp.1];exact metA_un.mp h)
  rw[hm];cases hr hm
  cases q with
  | out=>exact#[rfl,hp]
def zaW(hs:∀p ∈ rs,TLr l s p)(h:Alk rs rs'):(rs'.map lgR).Perm rs:=by
 have e:rs.map lgR=rs:=by
  refine (bV λp hp=>?_).trans (List.map_id _);unfold lgR;have:=(hs p hp).a;have:=(hs p hp).b;rw[w9 ⋯];rfl
 have:=h.2 lgR λp hp=>by
  unfold lgR;have:=(hs p hp).a;have:=(hs p hp).b;simp only;rw[w6 ⋯,w9 ⋯]
 rw[e]at this;exact this
inductive J79(K:sL)(H:Hp)(l:())(ps rs:List zH)(u v:())(i j:Nat)(wh:Bool)(m:Nat)(p:sM):Prop where
 | alike (S:sM) (ss:List Stp) (he:wAt ps u i=wAt ps v j) (hp:H p=Ba (.tup [.str "alike",.ref S])) (hS:LsA K H S (ss.map dSt)) (hl:ss.length<=2000) (hw:yh rs u ss=Ba v)
 | forms (es:List Ent) (D:sM) (hn:wAt ps u i≠wAt ps v j) (hw:wh=Bc) (hps:zb es=ps) (hE:∀e ∈ es,EOk rs e/\EB l e) (hp:H p=Ba (.tup [.str "forms",.ref D,⇑(wAt ps u i),⇑(wAt ps v j)])) (hD:EnsM K H D es)
 | world (N:Nat) (t:sM) (ts:List sM) (hn:wAt ps u i≠wAt ps v j) (hw:wh=Bd) (hm:m=2) (h3:N<2 ^ (2 * l.length)) (h4:y3 l (wb 2 l.length N) rs u v=Bc) (h5:∀N',N'<N->y3 l (wb 2 l.length N') rs u v=Bd) (hp:H p=Ba (.tup [.str "world",.ref t])) (ht:TabAt H t ts (wb 2 l.length N))
 | open_ (hn:wAt ps u i≠wAt ps v j) (hw:wh=Bd) (h5:m=2->∀N',N'<2 ^ (2 * l.length)->y3 l (wb 2 l.length N') rs u v=Bd) (hp:H p=Ba (.tup [.str "open"]))
def U0{w:()}(hw:∀c ∈ w,c ∈ l):ue l (wb 1 l.length N) 0 w=0:=by have hG:xC l (wb 1 l.length N):=qR N ∅ ∅;have hl:(wb 1 l.length N).length=1:=uS 1 l.length N;let#[a,b]:=ZT hG (w:=w) (r:=0) ∅ (by rw[hl];decide) hw;rw[hl]at b;lia
theorem zaR(h:∀e ∈ es,e.2.2.length<=C):∀us:List Stp,(byL es us).length<=us.length * C
 | []=>ar _
 | u::us=>by
  have ih:=zaR h us;unfold byL at ih ⊢;rw[e8,aj,aG,d8]
  have h1:(es.getD u.1.toNat ([],[],[])).2.2.length<=C:=by
   rw[ae]
   cases e:es[u.1.toNat]? with
   | none=>exact ar _
   | some x=>exact h x (ac e)
  have h2:(Wn es u).length<=C:=by
   unfold Wn;rw[YE];split
   ·exact h1
   ·rw[yB];exact h1
  lia
theorem JOut.j90(h:JOut K H k l ns rs u v r m p)(hG:OG l ns k)(hk:k≠2)(hs:∀p ∈ ps,TLr l s p)(h3:s<=3)(h12:ps.length<=12)(hA:Alk ps rs)(hnd:(ps.map Prod.fst).Nodup)(ho:ps.Pairwise λa b=>rankF.lt (uM k l [] b.1) (uM k l [] a.1)=Bd)(hr:kG ps=Bd->r=0)(hb:∀p ∈ rs,p.1.length<=60/\p.2.length<=60/\(∀c ∈ p.1,c ∈ l)/\∀c ∈ p.2,c ∈ l)(hm:m=1\/m=2)(hu8:u.length<=8)(hv8:v.length<=8)(hu:∀c ∈ u,c ∈ l)(hv:∀c ∈ v,c ∈ l):∃i j,EndsAt ps u i/\EndsAt ps v j/\J79 K H l ps rs u v i j (kG ps) m p:=by
 have sh:∀p ∈ ps,p.2.length<p.1.length:=λp h=>by
  have:=(hs p h).a;have:=(hs p h).b;lia
 have core:∀{w:Bool} {es:List Ent},Cpl k l ns (r+1) [] (fEs rs rs.length) w es->w=kG ps/\zb es=ps/\(∀e ∈ es,EOk rs e/\EB l e)/\∃i j,EndsAt ps u i/\EndsAt ps v j/\(jy es u v i j).length<=2000:=λ{w es} hC=>by
  let#[h1,e,hone]:=zdV hk hs h3 h12 (zaW hs hA) hnd ho hr hC;let#[gE,gor]:=zeI (rs:=rs) hG hC (zer hb) (λe he=>zah he) #[λe h=>(nomatch h),.inl rfl];let#[i,hi,bi]:=vv sh (w:=u) ⋯;let#[j,hj,bj]:=vv sh (w:=v) ⋯;refine#[h1,e,λe he=>#[gE e he,?_],i,j,hi,hj,?_]
  ·rcases gor with rfl | ⟨_,_,hB⟩
   ·cases he
   ·exact hB.e e he
  ·have hl:=zaR (C:=1) (λe he=>dm (hone e he)) (stS (sAt (zb es) u i) ++ yN (stS (sAt (zb es) v j)));rw[aj,yB,uO,uO,vY,vY]at hl;exact aH hl ⋯
 have noR:∀{w:Bool} {es:List Ent},zb es=ps->NoR es w u v->(∃i j,EndsAt ps u i/\EndsAt ps v j/\(jy es u v i j).length<=2000)->w=Bd/\∃i j,EndsAt ps u i/\EndsAt ps v j/\wAt ps u i≠wAt ps v j:=λ{w es} e hno ⟨i,j,hi,hj,hl⟩=>by
  unfold NoR at hno;rw[e]at hno;rcases hno with h | h | ⟨i',j',hi',hj',h | h⟩
  ·exact w4 hi (h i)
  ·exact w4 hj (h j)
  ·exact#[h.2,i',j',hi',hj',h.1]
  ·rw[hi'.uniq hi,hj'.uniq hj]at h;lia
 cases h with
 | alike w es i j S hc hb' hi hj he hl hp hS =>
  let#[_,e,hE,_]:=core hc;have hw:=Qq (λe he=>(hE e he).1) hi hj he;rw[e]at hi hj he;exact#[i,j,hi,hj,.alike S _ he hp hS hl hw]
 | forms es i j D hc hb' hi hj hn hp hD =>
  let#[h1,e,hE,_]:=core hc;rw[e]at hi hj hn hp;exact#[i,j,hi,hj,.forms es D hn h1.symm e hE hp hD]
 | world w es n N t ts hc hb' hno h1 h2 h3 h4 h5 hp ht' =>
  let#[g1,e,_,g4]:=core hc;let#[g5,i,j,hi,hj,hn]:=noR e hno g4
  have hn2:n=2:=by
   rcases (show n=1\/n=2 by lia)with rfl | rfl
   ·unfold y3 at h4;rw[U0 hu,U0 hv]at h4;simp at h4
   ·rfl
  subst hn2;exact#[i,j,hi,hj,.world N t ts hn (g1.symm.trans g5) ⋯ h3 h4 (λN' h'=>h5 2 N' ∅ ⋯ (.inr #[rfl,h'])) hp ht']
 | open_ w es hc hb' hno h5 hp =>
  let#[g1,e,_,g4]:=core hc;let#[g5,i,j,hi,hj,hn]:=noR e hno g4;exact#[i,j,hi,hj,.open_ hn (g1.symm.trans g5) (λhm2 N' h'=>h5 2 N' ∅ h' (.inl ⋯)) hp]
def zaZ(h:H p=Ba (.lst [⇑x,⇑y])):Is K H (.lst [⇑x,⇑y]) (.ref p):=by
 erw[Is,Iss]
 exact#[_,_,rfl,x4 h,_,_,rfl,rfl,_,_,rfl,rfl,rfl]
def Vx(K:sL):Sp:=λvs H Q Z=>∃(p ra pa wd:sM) (l:()) (ps rs:List zH) (u v:()) (i j:Nat) (wh:Bool) (m:Nat),vs=[.ref p,.bl wh,.ref ra,.ref pa,.ref wd,⇑l,.int (m:Nat)]/\(l.length=2\/l.length=3)/\LsA K H ra (ps.map dR)/\ShP ps/\ps.length<=12/\LsA K H pa (rs.map dR)/\qJ rs/\InP l rs/\H wd=Ba (.lst [⇑u,⇑v])/\(u.length<=8/\v.length<=8)/\(∀c ∈ u,c ∈ l)/\(∀c ∈ v,c ∈ l)/\EndsAt ps u i/\EndsAt ps v j/\J79 K H l ps rs u v i j wh m p/\∀H',Q (.bl Bc) H'
def nC:sQz 7 ["_law_found","_law_whole_here","_law_rules","_law_pacts","_law_words","_law_letters_here","_law_most","_law_forms","_law_table"] qb:=by nofun
def Km(B:Bt mg)(F:("_law_right"^^^qb))(ph:(1<<<"_law_form") ["_law_rules","_law_word_here"] [] (vo K))(pS:(3<<<"_law_first_world") ["_law_letters_here","_law_pacts","_law_words"] [] (zdB K))(re:(2<<<"_law_end") ["_law_pacts","_law_word_here","_law_steps_here"] [] (Xm K)):(4&&&["_law_found","_law_whole_here","_law_rules","_law_pacts","_law_words","_law_letters_here","_law_most"]) (Vx K):=by
 exists F.ok nC
 ·let#[p,ra,pa,wd,l,ps,rs,u,v,i,j,wh,m,rfl,hl,hR,hSh,hp12,hPa,hok,hin,hW,h88,hu,hv,hi,hj,hJ,q]:=h
  refine#[_,(zh (XM (i:=7) nC.nd rfl (.inl rfl) (.inl rfl) (own:=["_law_word_here"]) (caps:=["_law_rules"]) (ix:=[2]) (tt:=xo) (te:=(ud (vo K) [] E0 (zM (ya 1) (zM (ya 0) xw)))) rfl (zK (sc:=zi qb) rfl (!0) (!0) (!0) rfl (!0) (!0) rfl) (zY (pv 4)) (λZ Z Z Z Z Z=>zq (i:=0) (show List.Nodup [_,_] by decide) rfl (.inl rfl)) (λZ Z Z Z Z Z=>yg) (λZ Z Z Z Z Z=>(cl0 ph hr .nil rfl (za (pv 1) (za (pv 0) zg))))) (zh (zJ (zv xx (zk ix_list (pv 7) zd) (zk ix_list (pv 7) zd) (zx _)) (ze (zl (jN (yi xx (!-0) z6 (zx _)) (jZ (yi xx (cl0 re hr .nil rfl (za (pv 3) (za (zk ix_list (pv 4) zd) (za (!-0) zg)))) (zk ix_list (pv 4) zd) (zx _))))))
    zr) (zh (zJ (yk (pv 1) (λZ=>rfl)) (zh (zJ (PW.pt (wT (zv uJ (!-0) z6 (zx _)) (wg (zv (zaO (wz hr)) (xg (za (!-0) (za (!-0) zg))) (pv 7) (zx _))))) (ze (zl yt))
     zr) (zh (zJ (zv (zaO (wz hr)) (yM (own:=["_law_entry"]) (caps:=[]) (ix:=[]) (tt:=xo) (te:=(Uq (zM (tOp (uI K) (ya 0) (tC (.int 0))) (zM (tOp (uI K) (ya 0) (tC (.int 1))) xw)))) rfl (zK (sc:=zi qb) rfl (!0) (!0) (!0) rfl (!0) (!0) rfl) (zY (!-0)) (λZ Z Z Z Z Z=>zq (i:=0) (show List.Nodup [_] by decide) rfl (.inl rfl)) (λZ Z Z Z Z Z=>yg) (λZ Z Z Z Z Z=>(zW (za (!-0) (za (!-0) zg))))) (pv 2) (zx _)) (ze (zl yt))
     zr) (ze (zl (yW (zdQ rfl) rfl B.all gd (za (yM (own:=["_law_entry"]) (caps:=["_law_pacts"]) (ix:=[3]) (tt:=xo) (te:=(tOp rEq (ud (Xm K) [] E0 (zM (ya 1) (zM (tOp (uI K) (ya 0) (tC (.int 0))) (zM (tOp (uI K) (ya 0) (tC (.int 2))) xw)))) (tOp (uI K) (ya 0) (tC (.int 1))))) rfl (zK (sc:=zi qb) rfl (!0) (!0) (!0) rfl (!0) (!0) rfl) (zY (!-0)) (λZ Z Z Z Z Z=>zq (i:=0) (show List.Nodup [_,_] by decide) rfl (.inl rfl)) (λZ Z Z Z Z Z=>yg) (λZ Z Z Z Z Z=>(yi xx (cl0 re hr .nil rfl (za (pv 1) (za (!-0) (za (!-0) zg)))) (!-0) (zx _)))) zg))))))
    zr) (zh (zy 8 nC.nd yd) (zh (zJ (zv xx (pv 6) zd (zx _)) (ze (zy 8 nC.nd (cl0 pS hr .nil rfl (za (pv 5) (za (pv 3) (za (pv 4) zg))))))
    zr) (zh (zJ (zv op_isN' (pv 8) yd (zx _)) (ze (zl (yi (WE (wz hr)) (pv 0) (zW (za z6 zg)) (zx _))))
    zr) (ze (zl (jN (yi xx (!-0) z6 (zx _)) (jZ (yi (WE (wz hr)) (!-0) (pv 8) (zx _)))))))))))),?_]
  have s16:=zX;let#[u8,v8]:=h88
  have hmk:∀(G:Hp),Same H G->J79 K G l ps rs u v i j wh m p:=λG s=>by
   cases hJ with
   | alike S ss he hp hS hl hw=>exact .alike S ss he (s _ _ hp) (hS.same s) hl hw
   | forms es D hn hw hps hE hp hD=>exact .forms es D hn hw hps hE (s _ _ hp) (hD.same s)
   | world N t ts hn hw hm h3 h4 h5 hp ht=>exact .world N t ts hn hw hm h3 h4 h5 (s _ _ hp) (ht.same s)
   | open_ hn hw h5 hp=>exact .open_ hn hw h5 (s _ _ hp)
  change Same H H'/\∃F:sM,H' F=Ba (.lst [⇑(wAt ps u i),⇑(wAt ps v j)])/\σ=[!!p,Ba (.bl wh),!!ra,!!pa,!!wd,~~~l,-~~~m,!!F,Bb]
  ·rfl'
   refine#[#[_,x4 hW],λD hD=>ja3 (xs:=[⇑u,⇑v]) (λn Bg H'=>Same H H'/\H' D=Ba (.lst Bg)/\Bg=[V.str (tx (wAt ps u i)),V.str (tx (wAt ps v j))].take n) #[zf hD,zc,rfl] (λn Bg H' Z h=>x4 (h.1 _ _ hW)) ?_ ?_]
   ·refine nm4 ?_;rintro n x Bg H' hx ⟨hs,hH,rfl⟩:_;have hn:=(Bh.mp hx).1;right;rcases (show n=0\/n=1 by erw[aG,bI]at hn;lia)with rfl | rfl
    ·cases hx
     erw[xo]
     rfl'
     refine#[yz,ra,ps,u,rfl,hR.same hs,hSh,⋯,λi' H'' s'' hl' he'=>?_];rw[uf hl' he' hi.live hi.end_];exact#[s'' _ _ hH,by show 0<sK;lia,x8 hn #[zu (hs.trans s'') hD,zc,rfl]]
    ·cases hx
     erw[xo]
     rfl'
     refine#[yz,ra,ps,v,rfl,hR.same hs,hSh,⋯,λi' H'' s'' hl' he'=>?_];rw[uf hl' he' hj.live hj.end_];exact#[s'' _ _ hH,by show 1<sK;lia,x8 hn #[zu (hs.trans s'') hD,zc,rfl]]
   ·refine nmB ?_;rintro Bg H' ⟨hs,hH,rfl⟩:0;exact#[hs,D,hH,rfl]
  rintro σ H1 ⟨s1,F,hF,rfl⟩:_;have hPa1:=hPa.same s1;have hW1:=s1 _ _ hW;have hR1:=hR.same s1;right
  cases hmk H1 s1 with
  | alike S ss he hp hS hl' hw =>
   refine qv (λZ Z=>False) ?_ λZ Z h=>h.elim
   rfl'
   exact#[_,x4 hF,_,rfl,_,x4 hF,_,rfl,rfl,yb (λZ=>#[_,x6 hp,_,rfl,rfl,yb (λZ=>#[_,x4 hW1,_,rfl,_,x6 hp,_,rfl,Wh hPa1.is hok ⋯ hS.is hl' hw #[_,x4 hW1,_,rfl,rfl,by rw[u6 rfl];exact q _]]) λz=>w4 rfl z]) λh=>w4 (by rw[he]) h]
  | forms es D hn hw hps hE hp hD =>
   change H'=H1/\σ=[!!p,Ba (.bl wh),!!ra,!!pa,!!wd,~~~l,-~~~m,!!F,Bb]
   ·rfl'
    exact#[_,x4 hF,_,rfl,_,x4 hF,_,rfl,rfl,yb (λh=>w4 (wI (V.str.inj h)) hn) λZ=>trivial]
   rintro σ H2 ⟨rfl,rfl⟩:0;refine qv (λZ Z=>False) ?_ λZ Z h=>h.elim
   rfl'
   rw[w6 hw];have hlen:es.length<=12:=by rw[<- xB,hps];exact hp12
   let#[xs,hX,hEn]:=id hD;have hxl:=hEn.len;change Same H2 H'/\σ=[!!p,Ba (.bl wh),!!ra,!!pa,!!wd,~~~l,-~~~m,!!F,Bb]
   ·rfl'
    refine#[_,x6 hp,_,rfl,rfl,yb (λz=>w4 rfl z) λZ=>#[_,x6 hp,_,rfl,_,x6 hp,_,rfl,⋯,λL hL=>QB (.inl #[zaZ zc,zaZ (zf hL _ _ hF)]) (by erw[vG,dpD];decide) #[_,rfl,yb (λe=>by rw[xh]at e;cases e) λZ=>zf hL]]]
   rintro σ H3 ⟨s3,rfl⟩:0;change Same H3 H'/\σ=[!!p,Ba (.bl wh),!!ra,!!pa,!!wd,~~~l,-~~~m,!!F,Bb]
   ·rfl'
    refine#[_,x6 (s3 _ _ hp),_,rfl,D,rfl,#[_,x4 (s3 _ _ hX)],λJ hJ'=>ja3 (xs:=xs) (λn Bg H'=>Same H3 H'/\H' J=Ba (.lst Bg)/\Iss K H' (((zb es).take n).map dR) Bg) #[zf hJ',zc,by erw[bv,aI,Iss]] (λn Bg H' Z h=>x4 (h.1 _ _ (s3 _ _ hX))) ?_ ?_]
    ·refine nm4 ?_;rintro n x Bg H' hx ⟨hs,hH,hIs⟩:_;have hi':=(Bh.mp hx).1;let#[e,pe,se,hei,rfl,hqe,hse]:=hEn.get hx;have hm:(zb es)[n]? = Ba (e.1,e.2.1):=by unfold zb;rw[au,hei];rfl
     have hal:=hIs.len;rw[aa,aC]at hal;have hq2:=zp (s3.trans hs) hqe;right
     erw[xo]
     rfl'
     refine#[yz,_,hq2,_,rfl,_,hq2,_,rfl,⋯,λp' hp'=>#[zf hp' _ _ hH,⋯,x8 hi' #[zu (hs.trans (zf hp')) hJ',zc,?_]]];rw[zP hm,am];exact qU hH hIs hp' zeD (xf _) (by erw[z9,xp,and_self])
    ·refine nmB ?_;rintro Bg H' ⟨hs,hH,hIs⟩:_;have hpl:=xB es;rw[hxl,<- hpl,aJ,hps]at hIs;right;exact QB (.inl #[LsA.is #[Bg,hH,hIs],(hR1.same (s3.trans hs)).is]) (bC (zbi _) ∅) #[_,rfl,yb (λe=>by rw[xh]at e;cases e) λZ=>hs]
   rintro σ H4 ⟨s4,rfl⟩:_;have s24:=s3.trans s4;let#[xs2,hX2,hI2]:=hD.same s24;have hxl2:=hI2.len;have hP4:=hPa1.same s24;right
   rfl'
   refine#[_,x6 (s24 _ _ hp),_,rfl,D,rfl,#[_,x4 hX2],λJ hJ'=>ja3 (xs:=xs2) (λn Bg H'=>Same H4 H'/\H' J=Ba (.lst Bg)/\Bg=(aR n Bc).map V.bl) #[zf hJ',zc,rfl] (λn Bg H' Z h=>x4 (h.1 _ _ hX2)) ?_ ?_]
   ·refine nm4 ?_;rintro n x0 Bg H' hx ⟨hs,hH,rfl⟩:_;have hi':=(Bh.mp hx).1;let#[e,pe,se,hei,rfl,hqe,hse]:=hI2.get hx;let#[hok',hEe]:=hE e (ac hei);have hq2:=zp hs hqe;right
    erw[xo]
    rfl'
    refine#[yz,_,hq2,_,rfl,_,hq2,_,rfl,Wh (hP4.same hs).is hok (by have:=hEe.a;lia) (hse.same hs).is (by have:=hEe.s;lia) hok' #[_,hq2,_,rfl,rfl,hH,by rw[aa,bN];lia,x8 hi' #[zu hs hJ',zc,?_]]];rw[eG,am];simp
   ·refine nmB ?_;rintro Bg H' ⟨hs,hH,rfl⟩:0;refine#[J,aR xs2.length Bc,rfl,x4 hH,?_];have e:(aR xs2.length Bc).all id=Bc:=by simp
    rw[e];exact q _
  | world N t ts hn hw hm h3 h4 h5 hp ht =>
   change H'=H1/\σ=[!!p,Ba (.bl wh),!!ra,!!pa,!!wd,~~~l,-~~~m,!!F,Bb]
   ·rfl'
    exact#[_,x4 hF,_,rfl,_,x4 hF,_,rfl,rfl,yb (λh=>w4 (wI (V.str.inj h)) hn) λZ=>trivial]
   rintro σ H2 ⟨rfl,rfl⟩:0;change H'=H2/\σ=[!!p,Ba (.bl wh),!!ra,!!pa,!!wd,~~~l,-~~~m,!!F,Bb]
   ·rfl'
    exact yb (λh=>by rw[hw]at h;cases h) λZ=>trivial
   rintro σ H2 ⟨rfl,rfl⟩:0;change H'=H2/\σ=[!!p,Ba (.bl wh),!!ra,!!pa,!!wd,~~~l,-~~~m,!!F,Ba (.non)]
   ·rfl'
   rintro σ H2 ⟨rfl,rfl⟩:0;change Same H2 H'/\∃t' rs',TabAt H' t' rs' (wb 2 l.length N)/\σ=[!!p,Ba (.bl wh),!!ra,!!pa,!!wd,~~~l,-~~~m,!!F,!!t']
   ·rfl'
    refine yb (λZ=>#[l,pa,wd,rs,u,v,rfl,hl,hPa1,hin,hW1,hu,hv,λt' rs' N' H' s' g1 g2 g3 g4=>?_,λh=>?_]) λh=>w4 ⋯ h
    ·have eN:N'=N:=by
      rcases dQ N' N with e | e | e
      ·rw[h5 N' e]at g2;cases g2
      ·exact e
      ·have:=g3 N e;rw[h4]at this;cases this
     rw[eN]at g4;exact#[s',t',#[rs',g4],rfl]
    ·have:=h N h3;rw[h4]at this;cases this
   rintro σ H3 ⟨s3,t',rs',ht',rfl⟩:0;change H'=H3/\σ=[!!p,Ba (.bl wh),!!ra,!!pa,!!wd,~~~l,-~~~m,!!F,!!t']
   ·rfl'
   rintro σ H3 ⟨rfl,rfl⟩:0
   rfl'
   refine#[_,x6 (s3 _ _ hp),_,rfl,rfl,yb (λZ=>#[_,x6 (s3 _ _ hp),_,rfl,ZH (.inl #[(ht.same s3).is,ht'.is]) (bC (zcJ _) ∅) ?_]) λz=>w4 rfl z];rw[xh];exact q _
  | open_ hn hw h5 hp =>
   change H'=H1/\σ=[!!p,Ba (.bl wh),!!ra,!!pa,!!wd,~~~l,-~~~m,!!F,Bb]
   ·rfl'
    exact#[_,x4 hF,_,rfl,_,x4 hF,_,rfl,rfl,yb (λh=>w4 (wI (V.str.inj h)) hn) λZ=>trivial]
   rintro σ H2 ⟨rfl,rfl⟩:0;change H'=H2/\σ=[!!p,Ba (.bl wh),!!ra,!!pa,!!wd,~~~l,-~~~m,!!F,Bb]
   ·rfl'
    exact yb (λh=>by rw[hw]at h;cases h) λZ=>trivial
   rintro σ H2 ⟨rfl,rfl⟩:0;change H'=H2/\σ=[!!p,Ba (.bl wh),!!ra,!!pa,!!wd,~~~l,-~~~m,!!F,Ba (.non)]
   ·rfl'
   rintro σ H2 ⟨rfl,rfl⟩:0;change Same H2 H'/\σ=[!!p,Ba (.bl wh),!!ra,!!pa,!!wd,~~~l,-~~~m,!!F,Ba (.non)]
   ·rfl'
    refine yb (λhm=>#[l,pa,wd,rs,u,v,rfl,hl,hPa1,hin,hW1,hu,hv,λt' rs' N' H' s' g1 g2 Z Z=>?_,λZ H' s'=>#[s',rfl]]) λZ=>ja1 _;have:=h5 ⋯ N' g1;rw[g2]at this;cases this
   rintro σ H3 ⟨s3,rfl⟩:0;refine qv (λZ Z=>False) ?_ λZ Z h=>h.elim
   rfl'
   refine#[⋯,λp1 hp1=>ZH (l:=[.str "open"]) (m:=[.str "open"]) (.inr #[?_,?_]) ∅ ?_]
   ·erw[Is,Iss]
    exact#[_,_,rfl,x6 (zf hp1 _ _ (s3 _ _ hp)),_,_,rfl,rfl,rfl]
   ·erw[Is,Iss]
    exact#[_,_,rfl,x6 zc,_,_,rfl,rfl,rfl]
   ·rw[xh];exact q _
def Jp(l:()):zcw λu v:()=>(∀c ∈ u,c ∈ l) ↔ ∀c ∈ v,c ∈ l :=
 #[λZ=>.rfl,.symm,.trans,λ{u v} a b h=>by
  erw[List.mem_append]
  exact#[λg c hc=>hc.elim (λhc=>hc.elim (λhc=>g c (.inl (.inl hc))) (h.mp (λc hc=>g c (.inl (.inr hc))) c)) (λhc=>g c (.inr hc)),λg c hc=>hc.elim (λhc=>hc.elim (λhc=>g c (.inl (.inl hc))) (h.mpr (λc hc=>g c (.inl (.inr hc))) c)) (λhc=>g c (.inr hc))]]
theorem J79.same{H H':Hp}{l:()}{ps rs:List zH}{u v:()}{i j m:Nat}{wh:Bool}{p:sM}(h:J79 K H l ps rs u v i j wh m p)(s:Same H H'):J79 K H' l ps rs u v i j wh m p:=by
 cases h with
 | alike S ss he hp hS hl hw=>exact .alike S ss he (s _ _ hp) (hS.same s) hl hw
 | forms es D hn hw hps hE hp hD=>exact .forms es D hn hw hps hE (s _ _ hp) (hD.same s)
 | world N t ts hn hw hm h3 h4 h5 hp ht=>exact .world N t ts hn hw hm h3 h4 h5 (s _ _ hp) (ht.same s)
 | open_ hn hw h5 hp=>exact .open_ hn hw h5 (s _ _ hp)
def Wx(K:sL)(T:sM):Sp:=λvs H Q Z=>∃(a:sM) (ns:List Int),vs=[.ref a]/\SqL K H a (ns.map V.int)/\(∀z ∈ ns,uU z)/\H T=Ba (.tbl #[])/\∀H',Q (.bl Bc) H'
def ij:sQz 1 ["_law_script","_law_first","_law_letters_here","_law_right_here","_law_order","_law_rules","_law_pacts","_law_words","_law_asked","_law_whole_here","_law_rounds","_law_most","_law_found"] kr:=by nofun
def zdW{f CO CR CW TB:sM}(B:Bt mg)(T:TWS P w K mg base CO CR CW)(F:("law"^^^kr))(mJ:(1<<<"_law_cell") ["_law_script","_law_k"] [] (jm K))(rR:(2<<<"_law_letters") ["_law_cell_here","_law_many"] [] qg)(sk:(3<<<"_law_sided") ["_law_pairs_here","_law_right_here","_law_letters_here"] [] (Wz K))(rV:(2<<<"_law_turned") ["_law_pacts","_law_cell_here"] [] (YM K))(sC:(2<<<"_law_meet") ["_law_rules"] [] (Yi K))(rW:(11>>>"judged") ["order","pacts","one","other","rounds","most"] [] (ze1 K CO CR CW TB))(so:(4<<<"_law_right") ["_law_found","_law_whole_here","_law_rules","_law_pacts","_law_words","_law_letters_here","_law_most"] [] (Vx K))(sq:(2<<<"_law_pairs") ["_law_script","_law_letters_here","_law_size"] [] (za0 K))(rj:(1<<<"_law_word") ["_law_number","_law_letters_here","_law_most"] [] jJ)(re:(2<<<"_law_end") ["_law_pacts","_law_word_here","_law_steps_here"] [] (Xm K))(rX:(4<<<"_law_answer") ["_law_found","_law_many"] [] (UN K))(ip:(1<<<"_law_mixed") ["_law_cell_here","_law_turn"] [] xG)(sr:(3<<<"_law_chain") ["_law_pacts","_law_word_here","_law_cells","_law_most"] [] (Zz K)):(12&&&["_law_script"]) (Wx K TB):=by
 exists F.ok ij
 ·let#[a,ns,rfl,hS,hB,hT,q]:=h
  refine#[_,(zh (zy 1 ij.nd (cl0 mJ hr .nil rfl (za (pv 0) (za zd zg)))) (zh (xM (i:=2) ij.nd rfl (Or.inr rfl) (cl0 rR hr .nil rfl (za (pv 1) (za (zD z7 zd (zD yU (pv 1) zd)) zg)))) (zh (zy 3 ij.nd (yi xx (zD yU (zD y8 (pv 1) zd) zd) zd (zx _))) (zh (zy 4 ij.nd (mkC T.mO hr rfl T.gO (za (pv 2) zg))) (zh (zJ (yk (pv 3) (λZ=>rfl)) (ze (zy 4 ij.nd (mkC T.mR hr rfl T.gR (za (pv 2) zg))))
    zr) (zh (zy 5 ij.nd (cl0 sk hr .nil rfl (za (cl0 sq hr .nil rfl (za (pv 0) (za (pv 2) (za (zD z7 zd (zD yU (zD y8 (pv 1) zd) zd)) zg)))) (za (pv 3) (za (pv 2) zg))))) (zh (zy 6 ij.nd (cl0 rV hr .nil rfl (za (pv 5) (za (cl0 mJ hr .nil rfl (za (pv 0) (za zd zg))) zg)))) (zh (XM (i:=7) ij.nd rfl (.inl rfl) (.inl rfl) (own:=["_law_k"]) (caps:=["_law_script","_law_letters_here"]) (ix:=[0,2]) (tt:=xo) (te:=(ud jJ [] E0 (zM (ud xG [] E0 (zM (ud (jm K) [] E0 (zM (ya 1) (zM (tOp Y1 (tC (.int 12)) (ya 0)) xw))) (zM (tC (.int 4)) xw))) (zM (ya 2) (zM (tC (.int 8)) xw))))) rfl (zK (sc:=zi kr) rfl (!0) (!0) (!0) rfl (!0) (!0) rfl) (zV rfl B.range (za zd zg)) (λZ Z Z Z Z Z=>zq (i:=0) (show List.Nodup [_,_,_] by decide) rfl (.inl rfl)) (λZ Z Z Z Z Z=>yg) (λZ Z Z Z Z Z=>(cl0 rj hr .nil rfl (za (cl0 ip hr .nil rfl (za (cl0 mJ hr .nil rfl (za (pv 1) (za (zD jV zd (pv 0)) zg))) (za zd zg))) (za (pv 2) (za zd zg)))))) (zh (zy 8 ij.nd (cl0 mJ hr .nil rfl (za (pv 0) (za zd zg)))) (zh (zJ (zv xx (zD yU (pv 8) zd) zd (zx _)) (ze (Qw (cl0 re hr .nil rfl (za (pv 6) (za (zk ix_list (pv 7) zd) (za (cl0 sr hr .nil rfl (za (pv 6) (za (zk ix_list (pv 7) zd) (za (zQ jB (pv 0) (zO zd) (zO zd)) (za zd zg))))) zg)))) (JV (pv 7) zd W8 (by intro _;rfl))))
    zr) (zh (zy 9 ij.nd (cl0 sC hr .nil rfl (za (pv 5) zg))) (zh (zy 10 ij.nd zd) (zh (zJ (yk (pv 9) (λZ=>rfl)) (ze (zy 10 ij.nd (zD yU (zD y8 (pv 8) zd) zd)))
    zr) (zh (zy 11 ij.nd (zD z7 zd (zD yU (zD y8 (pv 8) zd) zd))) (zh (zy 12 ij.nd (clP xe0 rW hr .nil rfl (za (pv 4) (za (vn xF rfl B.list jb3 (za (pv 6) zg)) (za (zk ix_list (pv 7) zd) (za (zk ix_list (pv 7) zd) (za (pv 10) (za (pv 11) zg)))))))) (zh (zJ (yf (yk (cl0 rX hr .nil rfl (za (pv 12) (za (zA B.len (pv 2)) zg))) (λZ=>rfl))) (ze (zl yt))
    zr) (ze (zl (cl0 so hr .nil rfl (za (pv 12) (za (pv 9) (za (pv 5) (za (pv 6) (za (pv 7) (za (pv 2) (za (pv 11) zg)))))))))))))))))))))))))),?_]
  have s16:=zX;have hTab:TabOk H TB lp lq:=#[#[],hT,trivial,.inl rfl];change H'=H/\∃n:Int,uU n/\σ=%[!!a,~~~!n|11]
  ·rfl'
   exact vx hS hB ∅ λc hc=>#[rfl,c,hc,rfl]
  rintro σ H0 ⟨rfl,n,hn,rfl⟩:0;change H'=H0/\∃l:(),kj l=Bc/\(l.length=2\/l.length=3)/\σ=%[!!a,~~~!n,~~~l|10]
  ·rfl'
   have e0:=br n (b:=2) ∅;have e1:=bp n (b:=2) ∅;exact#[∅,Wm hn ⋯ ⋯ λl hl hnd hs=>#[rfl,l,u6 #[⋯,⋯,hs,hnd],⋯,rfl]]
  rintro σ H1 ⟨rfl,l,hg,l23,rfl⟩:_;let#[l1,l6,lsm,lnd]:=u5 hg;have l3:l.length<=3:=⋯;right;change H'=H1/\∃b:Bool,σ=%[!!a,~~~!n,~~~l,Ba (.bl b)|9]
  ·rfl'
   exact#[#[∅,∅],∅]
  rintro σ H1 ⟨rfl,b,rfl⟩:_
  have mk:∀{C x dx:sM} {H:Hp},H x=Bb->H dx=Bb->Same H (upd (upd (upd H dx (.own x)) x (.ins C dx [])) x (.ins C dx [("letters",⇑l)])):=λ{C x dx H} hx hdx b o' e=>by
   rw[zt (zN e hx),zt (zN e hx)];exact zf hdx _ _ e
  right;change Same H1 H'/\∃o:sM,OrdAt CO CR CW H' o 0 l (l.map λZ=>1)/\σ=%[!!a,~~~!n,~~~l,Ba (.bl b),!!o|8]
  ·rfl'
   intro x dx hx hdx hne;exact#[x,CO,dx,l,rfl,hg,T.cO,T.lO,zc,rfl,mk hx hdx,dx,.inl #[rfl,zc]]
  rintro σ H2 ⟨s2,o0,ho0,rfl⟩:_;obtain⟨k,hk⟩:∃k:Nat,(if b=Bc then 1 else 0)=k:=#[_,rfl];right;change Same H1 H'/\∃(o:sM),OrdAt CO CR CW H' o k l (l.map λZ=>1)/\σ=%[!!a,~~~!n,~~~l,Ba (.bl b),!!o|8]
  ·rfl'
   refine yb (λhb=>?_) λhb=>#[s2,by rw[<- hk,w9 hb];exact ho0];intro x dx hx hdx hne;exact#[x,CR,dx,l,rfl,hg,T.cR,T.lR,zc,rfl,s2.trans (mk hx hdx),by rw[<- hk,w6 hb];exact#[dx,.inr #[rfl,zc]]]
  rintro σ H3 ⟨s3,o,ho,rfl⟩:_;have k2:k≠2:=by rw[<- hk];split <;> decide
  have hG:OG l (l.map λZ=>1) k:=#[hg,by rw[<- hk];split <;> decide,aa _,λx hx=>by let#[_,_,rfl]:=Bj.mp hx;decide];have hS3:=s3.seq hS;right;change Same H3 H'/\∃pr:sM,(∃(rs:List zH) (m:Nat),m<=3/\LsA K H' pr (rs.map dR)/\rs.length<=12/\(rs.map Prod.fst).Nodup/\(∀p ∈ rs,TLr l m p)/\rs.Pairwise λa b=>rankF.lt (uM k l [] b.1) (uM k l [] a.1)=Bd)/\σ=%[!!a,~~~!n,~~~l,Ba (.bl b),!!o,!!pr|7]
  ·rfl'
   have e0:=br (n / 4) (b:=2) ∅;have e1:=bp (n / 4) (b:=2) ∅;rw[show 2+n / 4 % 2=((2+n / 4 % 2).toNat:Int) by lia];obtain⟨m,hm⟩:∃m,(2+n / 4 % 2).toNat=m:=#[_,rfl];rw[hm];refine#[#[∅,∅],∅,a,ns,l,m,rfl,hS3,hB,⋯,⋯,⋯,⋯,λD H' rs s' hL h12 hne hD=>#[D,rs,b,l,rfl,hL,hne,h12,hD.1,λr hr=>#[by have:=(hD.2 r hr).1;lia,(hD.2 r hr).2.2.1],hg,λD2 H5 rs' s5 hL5 hSd=>?_]];rw[hk]at hSd;refine#[s'.trans s5,D2,#[rs',m,⋯,hL5,by rw[hSd.1.length_eq];exact h12,((hSd.1.map Prod.fst).nodup_iff).mpr hD.1,λp hp=>?_,hSd.2],rfl];have h:=hD.2 p (hSd.1.mem_iff.mp hp);exact#[h.1,h.2.1,h.2.2.1,h.2.2.2]
  rintro σ H4 ⟨s4,pr,⟨rs,m,m3,hP,h12,hnd,hTL,hso⟩,rfl⟩:_;have hS4:=s4.seq hS3;right;change Same H4 H'/\∃pa:sM,(∃rs',LsA K H' pa (rs'.map dR)/\Alk rs rs')/\σ=%[!!a,~~~!n,~~~l,Ba (.bl b),!!o,!!pr,!!pa|6]
  ·rfl'
   exact vx hS4 hB ∅ λc hc=>#[pr,c,rs,rfl,hc,hP,⋯,λD H' rs' Z s' hL hA=>#[s',D,#[rs',hL,hA],rfl]]
  rintro σ H5 ⟨s5,pa,⟨rs',hPa,hA⟩,rfl⟩:_;have hAp:=zaW hTL hA;have hrl:rs'.length<=12:=by rw[hA.1];exact h12
  have hrs:∀p ∈ rs',p.1.length<=3/\p.2.length<=3/\(∀c ∈ p.1,c ∈ l)/\∀c ∈ p.2,c ∈ l:=λp hp=>by
   have h:=hTL _ (hAp.mem_iff.mp (Bj.mpr #[p,hp,rfl]));have h1:=h.a;have h2:=h.b;have h3:=h.ma;have h4:=h.mb;unfold lgR at h1 h2 h3 h4;by_cases g:p.1.length<p.2.length
   ·rw[w6 g]at h1 h2 h3 h4;simp only at h1 h2 h3 h4;exact#[⋯,⋯,h4,h3]
   ·rw[w9 g]at h1 h2 h3 h4;exact#[⋯,⋯,h3,h4]
  have hok:qJ rs':=#[⋯,λr hr=>by have:=hrs r hr;lia];have sE:=s4.trans s5;have hS5:=sE.seq hS3;have hPr:=hP.same s5
  have hShP:ShP rs:=#[λp hp e=>by
   have h1:=(hTL p hp).a;have h2:=(hTL p hp).b;rw[e]at h1
   erw[bI]at h1
   lia,λp hp=>by
   have h1:=(hTL p hp).a;have h2:=(hTL p hp).b
   lia,λp hp=>by
   have h1:=(hTL p hp).a
   lia,⋯]
  right;change Same H5 H'/\∃(wd:sM) (u v:()),H5 wd=Bb/\H' wd=Ba (.lst [⇑u,⇑v])/\(u.length<=8/\v.length<=8)/\(∀c ∈ u,c ∈ l)/\(∀c ∈ v,c ∈ l)/\σ=%[!!a,~~~!n,~~~l,Ba (.bl b),!!o,!!pr,!!pa,!!wd|5]
  ·rfl'
   refine#[⋯,⋯,λD hD=>CompR.by (λi Bg H'=>Same H5 H'/\H' D=Ba (.lst Bg)/\∃ws:List (()),Bg=ws.map (λw=>V.str (tx w))/\ws.length=i/\∀w ∈ ws,w.length<=8/\∀c ∈ w,c ∈ l) #[zf hD,zc,[],rfl,rfl,λw h=>(nomatch h)] ?_ ?_]
   ·refine nm3 ?_;rintro i Bg H' hi ⟨hs,hH,ws,rfl,hwl,hwb⟩:0
    erw[xo]
    rfl'
    refine#[yz,vx (hs.seq hS5) hB ⋯ λc hc=>xD hc ∅ ∅ λz hz=>W5 hz ⋯ ⋯ ∅ ∅ λw hw1 hw2=>#[hH,by rw[aa,hwl];have:i<2:=hi;lia,x8 hi #[zu hs hD,zc,ws ++ [w],by rw[am];rfl,by rw[aj,hwl];rfl,λw' hw'=>?_]]];rcases Bl.mp hw' with h | h
    ·exact hwb w' h
    ·rw[Bm.mp h];exact#[⋯,hw2]
   ·refine nmB ?_;rintro Bg H' ⟨hs,hH,ws,rfl,hwl,hwb⟩:0
    match ws,hwl,hwb,hH with
    | [u,v],_,hwb,hH =>
     have hu:=hwb u aB;have hv:=hwb v (av _ aB);exact#[hs,D,hD,u,v,hH,hu.1,hv.1,hu.2,hv.2,rfl]
  rintro σ H6 ⟨s6,wd,u,v0,hwn,hW0,⟨hu8,hv08⟩,hu,hv0,rfl⟩:_;have hS6:=s6.seq hS5;right;change H'=H6/\∃c:Int,σ=%[!!a,~~~!n,~~~l,Ba (.bl b),!!o,!!pr,!!pa,!!wd,~~~!c|4]
  ·rfl'
   exact vx hS6 hB ∅ λc hc=>#[rfl,c,rfl]
  rintro σ H6 ⟨rfl,c,rfl⟩:_;have hPa6:=hPa.same s6;right;change Same H5 H'/\∃v:(),H' wd=Ba (.lst [⇑u,⇑v])/\v.length<=8/\(∀c ∈ v,c ∈ l)/\σ=%[!!a,~~~!n,~~~l,Ba (.bl b),!!o,!!pr,!!pa,!!wd,~~~!c|4]
  ·rfl'
   refine#[∅,yb (λZ=>?_) λZ=>#[s6,v0,hW0,hv08,hv0]];refine#[_,x4 hW0,_,rfl,_,x4 hW0,_,rfl,_,hS6,λp hp=>?_];rw[YU ns ∅ ∅];have hcb:∀z ∈ (ns.drop (14:Int).toNat).take ((30:Int) - 14).toNat,uU z:=λz hz=>hB z (cY (bA hz));have hcl:((ns.drop (14:Int).toNat).take ((30:Int) - 14).toNat).length<=16:=by rw[aC];exact Nat.min_le_left _ _
   generalize (ns.drop (14:Int).toNat).take ((30:Int) - 14).toNat=cs at hcb hcl ⊢;have sp:=zf (o:=.lst (cs.map V.int)) hp;refine QO (hPa6.same sp).is hok ⋯ ∅ (x4 zc) hcb ⋯ λT H7 ss w' hT s7 hL7 hwk hw' hsl Z=>Wh (hPa6.same (sp.trans s7)).is hok ⋯ hL7.is ⋯ hwk ?_;unfold zfh
   rfl'
   refine#[wd,_,_,1,rfl,rfl,s7 _ _ (sp _ _ hW0),rfl,zu (s6.trans (sp.trans s7)) hwn,w',zc,hw',(zbj (Jp l) (λp hp=>#[λZ=>(hrs p hp).2.2.2,λZ=>(hrs p hp).2.2.1]) hwk).mp hu]
  rintro σ H7 ⟨s7,v,hW,hv8,hv,rfl⟩:_;have hS7:=s7.seq hS5;right;change Same H7 H'/\σ=%[!!a,~~~!n,~~~l,Ba (.bl b),!!o,!!pr,!!pa,!!wd,~~~!c,Ba (.bl (kG rs))|3]
  ·rfl'
   exact#[pr,rs,rfl,hPr.same s7,hShP,λp hp=>by have h1:=(hTL p hp).a;have h2:=(hTL p hp).b;lia,λH' s'=>#[s',rfl]]
  rintro σ H8 ⟨s8,rfl⟩:0;change H'=H8/\σ=%[!!a,~~~!n,~~~l,Ba (.bl b),!!o,!!pr,!!pa,!!wd,~~~!c,Ba (.bl (kG rs)),~~~!(0)|2]
  ·rfl'
  rintro σ H8 ⟨rfl,rfl⟩:0;change H'=H8/\∃r:Nat,(kG rs=Bd->r=0)/\r<=3/\σ=%[!!a,~~~!n,~~~l,Ba (.bl b),!!o,!!pr,!!pa,!!wd,~~~!c,Ba (.bl (kG rs)),-~~~r|2]
  ·rfl'
   have c0:=br (c / 2) (b:=4) ∅;have c1:=bp (c / 2) (b:=4) ∅;exact yb (λhm=>#[#[∅,∅],∅,(c / 2 % 4).toNat,λh=>w4 (h.symm.trans hm) ∅,⋯,⋯]) λhm=>#[0,λZ=>rfl,∅,rfl]
  rintro σ H8 ⟨rfl,r,hr0,hr3,rfl⟩:0;change H'=H8/\∃m:Nat,(m=1\/m=2)/\σ=[!!a,~~~!n,~~~l,Ba (.bl b),!!o,!!pr,!!pa,!!wd,~~~!c,Ba (.bl (kG rs)),-~~~r,-~~~m,Bb]
  ·rfl'
   have c0:=br (c / 8) (b:=2) ∅;have c1:=bp (c / 8) (b:=2) ∅;exact#[#[∅,∅],∅,(1+c / 8 % 2).toNat,⋯,⋯]
  rintro σ H8 ⟨rfl,m,hm12,rfl⟩:_;have sA:=s7.trans s8;have sB:=sE.trans sA;have hTab8:=hTab.same (s3.trans sB);have ho8:=ho.same sB;have hPa8:=hPa.same sA;have hPr8:=hPr.same sA;have hW8:=s8 _ _ hW;let#[px,hPx,hPi]:=id hPa8;have hb60:∀p ∈ rs',p.1.length<=60/\p.2.length<=60/\(∀c ∈ p.1,c ∈ l)/\∀c ∈ p.2,c ∈ l:=λp hp=>by have h:=hrs p hp;exact#[⋯,⋯,h.2.2]
  right;change (LsA K H' pa (rs'.map dR)/\LsA K H' pr (rs.map dR)/\H' wd=Ba (.lst [⇑u,⇑v]))/\∃fp:sM,JOut K H' k l (l.map λZ=>1) rs' u v r m fp/\σ=[!!a,~~~!n,~~~l,Ba (.bl b),!!o,!!pr,!!pa,!!wd,~~~!c,Ba (.bl (kG rs)),-~~~r,-~~~m,!!fp]
  ·rfl'
   refine#[px,.inl (x4 hPx),λhd hh=>?_];have sh:=zf (o:=HO.lst px) hh;have hW':=sh _ _ hW8;have hT':=hTab8.same sh;let#[tp,htp,_]:=id hT';refine#[_,x4 hW',_,rfl,_,x4 hW',_,rfl,o,hd,k,l,_,rs',u,v,r,m,rfl,ho8.same sh,hG,#[px,zc,ja0 sh _ _ hPi],⋯,hb60,⋯,⋯,hu,hv,⋯,⋯,?_,hT',λfp H' sT hTk hJ=>#[(hPa8.same sh).samT sT htp,(hPr8.same sh).samT sT htp,sT.at htp hW' (λZ z=>by cases z),fp,hJ,rfl]];rcases hm12 with rfl | rfl <;> rcases l23 with h | h <;> rw[h] <;> decide
  rintro σ H9 ⟨⟨hPa9,hPr9,hW9⟩,fp,hJ,rfl⟩:0;change Same H9 H'/\σ=[!!a,~~~!n,~~~l,Ba (.bl b),!!o,!!pr,!!pa,!!wd,~~~!c,Ba (.bl (kG rs)),-~~~r,-~~~m,!!fp]
  ·rfl'
   exact#[⋯,fp,l,rfl,⋯,hJ.ans ⋯,λH' s'=>#[Bc,rfl,Yg s']]
  rintro σ H10 ⟨s10,rfl⟩:_;let#[i,j,hi,hj,hJ79]:=hJ.j90 hG k2 hTL m3 h12 hA hnd hso hr0 hb60 hm12 hu8 hv8 hu hv;right
  rfl'
  exact#[fp,pr,pa,wd,l,rs,rs',u,v,i,j,kG rs,m,rfl,l23,hPr9.same s10,hShP,h12,hPa9.same s10,hok,λp hp=>(hb60 p hp).2.2,s10 _ _ hW9,#[hu8,hv8],hu,hv,hi,hj,hJ79.same s10,q]
end
end
mutual section
def FnE(K:sL)(x q:sS)(st:sV)(f:sM):Prop:=∃fd,Fun K x q st f fd
def FnA(K:sL)(x:sS)(st:sV)(f:sM):Prop:=ax K sI x=Ba (Ba (.ref f))/\FnE K x x st f
def FnA.mk{K:sL}{x:sS}{st:sV}{f:sM}{h:tB}{mg:sS->Option sN}(q:FnA K x st f)(X:K.In h)(G:h.Ns sI mg):mg x=Ba (.ref f)/\aP K (.ref f)=Bc/\FnE K x x st f:=by let#[a,fd,F]:=q;exact#[aL X G a,F.kp,fd,F]
def Yf{us:List sN}(h:us.length=1):∃a,us=[a]:=List.length_eq_one_iff.mp h
theorem vt{us:List sN}(h:us.length=2):∃a0 a1,us=[a0,a1]:=by
 cases us with
 | nil=>cases h
 | cons a r =>
  let#[a1,rfl]:=Yf (Nat.succ.inj h);exact#[a,a1,rfl]
theorem kA{us:List sN}(h:us.length=3):∃a0 a1 a2,us=[a0,a1,a2]:=by
 cases us with
 | nil=>cases h
 | cons a r =>
  let#[a1,a2,rfl]:=vt (Nat.succ.inj h);exact#[a,a1,a2,rfl]
theorem KL{us:List sN}(h:us.length=4):∃a0 a1 a2 a3,us=[a0,a1,a2,a3]:=by
 cases us with
 | nil=>cases h
 | cons a r =>
  let#[a1,a2,a3,rfl]:=kA (Nat.succ.inj h);exact#[a,a1,a2,a3,rfl]
theorem zga{us:List sN}(h:us.length=5):∃a0 a1 a2 a3 a4,us=[a0,a1,a2,a3,a4]:=by
 cases us with
 | nil=>cases h
 | cons a r =>
  let#[a1,a2,a3,a4,rfl]:=KL (Nat.succ.inj h);exact#[a,a1,a2,a3,a4,rfl]
theorem zgE{us:List sN}(h:us.length=6):∃a0 a1 a2 a3 a4 a5,us=[a0,a1,a2,a3,a4,a5]:=by
 cases us with
 | nil=>cases h
 | cons a r =>
  let#[a1,a2,a3,a4,a5,rfl]:=zga (Nat.succ.inj h);exact#[a,a1,a2,a3,a4,a5,rfl]
theorem zhb{us:List sN}(h:us.length=7):∃a0 a1 a2 a3 a4 a5 a6,us=[a0,a1,a2,a3,a4,a5,a6]:=by
 cases us with
 | nil=>cases h
 | cons a r =>
  let#[a1,a2,a3,a4,a5,a6,rfl]:=zgE (Nat.succ.inj h);exact#[a,a1,a2,a3,a4,a5,a6,rfl]
def dfm(P:sU)(w:sZ){K:sL}{mg:sS->Option sN}(base:tB){CX:CXT}{k:Nat}{f:sM}{fd:tW}{nm:sS}{ps:List sS}{sp:Sp}(h:FnOk P w K mg base CX k f fd ps sp)(m:mg nm=Ba (.ref f))(p:aP K (.ref f)=Bc)(b:Binds K fd ps []):Df P w K mg base CX k nm ps [] sp:=#[_,_,h,m,p,b]
def FnA.df(P:sU)(w:sZ){K:sL}{h:tB}{mg:sS->Option sN}(base:tB){x:sS}{st:sV}{f:_}{CX:CXT}{k:Nat}{ps:List sS}{sp:Sp}(q:FnA K x st f)(X:K.In h)(G:h.Ns sI mg)(H:∀{fd},Fun K x x st f fd->FnOk P w K mg base CX k f fd ps sp)(hb:∀(kV doc pm:sN) (an:Option sM) (cdv ct:sN) (us:List sN),us.length=ps.length->bindArgs (bD x x (yP st) (yl st) (zi st) .none kV doc pm an cdv ct) #[us,[]]=pure (ps.zip us)):Df P w K mg base CX k x ps [] sp:=by let#[M,p,_,F]:=q.mk X G;exact dfm P w base (H F) M p (F.binds hb)
end
local macro_rules | `(tactic| injections)=>`(tactic| (intro _ _ _ _ _ _ us hl;first | (obtain⟨_,e⟩:=Yf hl;subst e;rfl) | (obtain⟨_,_,e⟩:=vt hl;subst e;rfl) | (obtain⟨_,_,_,e⟩:=kA hl;subst e;rfl) | (obtain⟨_,_,_,_,e⟩:=KL hl;subst e;rfl) | (obtain⟨_,_,_,_,_,e⟩:=zga hl;subst e;rfl) | (obtain⟨_,_,_,_,_,_,e⟩:=zgE hl;subst e;rfl) | (obtain⟨_,_,_,_,_,_,_,e⟩:=zhb hl;subst e;rfl)))
local macro_rules | `(nofun)=>`(by injections)
def all_mk{l:PySem.W.OpenLaw}{w:sZ}{K:sL}{h:tB}{mg:sS->Option sN}{fa f0 f1 f2 f3 f4 f5 f6 f7 f8 f9 f10 f11 f12 f13 f14 f15 f16 f17 f18 f19 f20 f21 f22 f23 f24 f25 f26 f27 f28 f29 f30 f31 f32 f33 f34 f35 f36 f37 f38 f39 f40 f41 f42 f43 f44 f45 f46 f47 f48 f49 f50 f51 f52 f53 f54 f55 f56 f57 f58 f59 f60 f61 f62 f63 f64 pT gW gM gL gP gQ ig gU ia gN ic:sM}{cc TB:sM}(X:K.In h)(G:h.Ns sI mg)(hfa:mg "law" = Ba (.ref fa))(hlam:∃a o fd,mg "in_order" = Ba (.ref a)/\h.get? a=Ba o/\o.data=.func fd/\fd.code=.ref cc)(hgT:sI≠TB)
{od6 an6 od12 an12 od32 an32 od64 an64:Option sM}{sl6 sl12 sl32 sl64:Array (Option sN)}{oc6 kV6 dc6 pm6 cd6 ct6 oc12 kV12 dc12 pm12 cd12 ct12 oc32 kV32 dc32 pm32 cd32 ct32 oc64 kV64 dc64 pm64 cd64 ct64:sN}
  {t6:AQ}
  {fI:sM}
  {odI anI:Option sM}
  {slI:Array (Option sN)}
  {ocI kVI dcI pmI cdI ctI:sN}
  {t8:AQ}
  {fU:sM}
  {odU anU:Option sM}
  {slU:Array (Option sN)}
  {ocU kVU dcU pmU cdU ctU:sN}
  {t9:AQ}
  {tmt:AQ}
  {tmu tms tmd tmp:AQ}
  {tcu tce tcd tcp:AQ}
  {tju tjs:AQ}
  {iW:sM}
  {iF:sM}
  {mh:sM}
  {iQ:sM}
  {iX:sM}
  {iG:sM}
  {lL:sM}
  {iu:sM}
  {mi:sM}
  {lM:sM}
  {mL:sM}
  {lj:sM}
  {lm:sM}
  {oy:sM}
  {ny:AQ}
  {d1_gone:sN}
  {d2_gone:Option sM}
  {d3_gone:Nat}
  {d4_gone:Array (Option sN)}
  {nE:sM}
  {oM:AQ}
  {d1_unmet:sN}
  {d2_unmet:Option sM}
  {d3_unmet:Nat}
  {d4_unmet:Array (Option sN)}
  (a0:FnA K "is_small_letter" yY f0)
  (a1:FnA K "letters_of" vc f1)
  (a2:FnA K "stands_at" vU f2)
  (a3:FnA K "put" zbF f3)
  (a4:FnA K "first_within" wa f4)
  (a5:FnA K "first_from" vh f5)
  (a6:ax K sI "gone" = Ba (Ba (.ref f6))) (l6:K.lookup f6=Ba #[oc6,od6,.func (bD "gone" "gone" (yP vJ) (yl vJ) (zi vJ) (.ref oy) kV6 dc6 pm6 an6 cd6 ct6),sl6]) (k6:cb K cd6 "gone" = Bc) (p6:aP K (.ref f6)=Bc)
  (a7:FnA K "back" Ww f7)
  (a8:FnA K "moved" ZM f8)
  (a9:FnA K "by_pacts" uW f9)
  (a10:FnA K "pairs_of" vw f10)
  (a11:FnA K "as_rule" jE f11)
  (a12:ax K sI "in_order" = Ba (Ba (.ref f12))) (l12:K.lookup f12=Ba #[oc12,od12,.func (bD "in_order" "in_order" (yP yL) (yl yL) (zi yL) .none kV12 dc12 pm12 an12 cd12 ct12),sl12]) (k12:cb K cd12 "in_order" = Bc) (p12:aP K (.ref f12)=Bc)
  (a13:FnA K "brought_down" xS f13)
  (a14:FnA K "refuse_beyond" xy f14)
  (a15:FnA K "built_anew" vd f15)
  (a16:FnA K "thinned" ji f16)
  (a17:FnA K "_law_cell" Jf f17)
  (a18:FnA K "_law_mixed" Wb f18)
  (a19:FnA K "_law_letters" ka f19)
  (a20:FnA K "_law_word" Jx f20)
  (a21:FnA K "_law_whole" Wr f21)
  (a22:FnA K "_law_steps" XH f22)
  (a23:FnA K "_law_used" Ut f23)
  (a24:FnA K "_law_uses" Qp f24)
  (a25:FnA K "_law_chain" X3 f25)
  (a26:FnA K "_law_end" zcM f26)
  (a27:FnA K "agree" X6 f27)
  (a28:FnA K "overlaps" qj f28)
  (a29:FnA K "peak" JF f29)
  (a30:FnA K "form_of" jQ f30)
  (a31:FnA K "is_met" Z0 f31)
  (a32:ax K sI "unmet" = Ba (Ba (.ref f32))) (l32:K.lookup f32=Ba #[oc32,od32,.func (bD "unmet" "unmet" (yP xT) (yl xT) (zi xT) (.ref nE) kV32 dc32 pm32 an32 cd32 ct32),sl32]) (k32:cb K cd32 "unmet" = Bc) (p32:aP K (.ref f32)=Bc)
  (a33:FnA K "system_by" vX f33)
  (a34:FnA K "first_entries" yR f34)
  (a35:FnA K "is_beyond" wx f35)
  (a36:FnA K "thinned_within" xj f36)
  (a37:FnA K "unmet_within" xR f37)
  (a38:FnA K "entry_of" u7 f38)
  (a39:FnA K "completed" wE f39)
  (a40:FnA K "table_of" vF f40)
  (a41:FnA K "table_count" wA f41)
  (a42:FnA K "tables_within" xA f42)
  (a43:FnA K "table_at" vC f43)
  (a44:FnA K "tells_apart" wC f44)
  (a45:FnA K "world_apart" wD f45)
  (a46:FnA K "gone_within" wF f46)
  (a47:FnA K "judged_by_roads" yZ f47)
  (a48:FnA K "judged_by_worlds" yQ f48)
  (a49:FnA K "judged" ZG f49)
  (a50:FnA K "_law_entries" jK f50)
  (a51:FnA K "_law_table_ok" vA f51)
  (a52:FnA K "_law_answer" ZB f52)
  (a53:FnA K "_law_form" UE f53)
  (a54:FnA K "_law_meet" Qr f54)
  (a55:FnA K "_law_turned" Zi f55)
  (a56:FnA K "_law_exact" Wo f56)
  (a57:FnA K "_law_pairs" Zp f57)
  (a58:FnA K "_law_sided" uX f58)
  (a59:FnA K "_law_tables" uu f59)
  (a60:FnA K "_law_led" zbD f60)
  (a61:FnA K "_law_holds" Xq f61)
  (a62:FnA K "_law_first_world" ww f62)
  (a63:FnA K "_law_right" qb f63)
  (a64:ax K sI "law" = Ba (Ba (.ref f64))) (l64:K.lookup f64=Ba #[oc64,od64,.func (bD "law" "law" (yP kr) (yl kr) (zi kr) .none kV64 dc64 pm64 an64 cd64 ct64),sl64]) (k64:cb K cd64 "law" = Bc) (p64:aP K (.ref f64)=Bc)
  (g_LetterError:ax K sI "LetterError" = Ba (Ba (.ref pT)))
  (g_NoLetters:ax K sI "NoLetters" = Ba (Ba (.ref gW)))
  (g_Order:ax K sI "Order" = Ba (Ba (.ref gM)))
  (g_FromRight:ax K sI "FromRight" = Ba (Ba (.ref gL)))
  (g_NotTurned:ax K sI "NotTurned" = Ba (Ba (.ref gP)))
  (g_System:ax K sI "System" = Ba (Ba (.ref gQ)))
  (g_NoUse:ax K sI "NoUse" = Ba (Ba (.ref ig)))
  (g_TooFar:ax K sI "TooFar" = Ba (Ba (.ref gU)))
  (g_NoWorld:ax K sI "NoWorld" = Ba (Ba (.ref ia)))
  (g_World:ax K sI "World" = Ba (Ba (.ref gN)))
  (g_TooMany:ax K sI "TooMany" = Ba (Ba (.ref ic)))
  (kbb:aV K (.type "bool") (.type "bool")=Ba Bc)
  (kt:aV K (.type "tuple") (.type "tuple")=Ba Bc)
  (ki:aV K (.type "int") (.type "int")=Ba Bc)
  (kb:aV K (.type "int") (.type "bool")=Ba Bd)
  (kl:aV K (.type "list") (.type "list")=Ba Bc)
  (XIl:XI K gW)
  (xi:ah K (.ref gW) "__init__" = Ba (Ba (.builtin "ValueError.__init__")))
  (most:ax K sI "MOST_LETTERS" = Ba (Ba (.int 6 t6)))
  (nF:ci K gM fM=Bc)
  (nG:cI K gM=Bc)
  (nH:cU K gM=Bc)
  (nI:ah K (.ref gM) "__setattr__" = Ba (Ba (.builtin "object.__setattr__")))
  (oP:df K gM=Bc)
  (oQ:aP K (.ref gM)=Bc)
  (nJ:ah K (.ref gM) "letters" = Ba Bb)
  (rp:aV K (.ref gM) (.ref gM)=Ba Bc)
  (rq:ah K (.ref gM) "__class__" = Ba (Ba (.builtin "object.__class__")))
  (rA:bZ K gM (.type "object")=Ba Bc)
  (mM:ci K gL fM=Bc)
  (mN:cI K gL=Bc)
  (mP:cU K gL=Bc)
  (mQ:ah K (.ref gL) "__setattr__" = Ba (Ba (.builtin "object.__setattr__")))
  (mS:df K gL=Bc)
  (mT:aP K (.ref gL)=Bc)
  (mU:ah K (.ref gL) "letters" = Ba Bb)
  (oe:aV K (.ref gL) (.ref gM)=Ba Bc)
  (og:ah K (.ref gL) "__class__" = Ba (Ba (.builtin "object.__class__")))
  (oh:bZ K gL (.type "object")=Ba Bc)
  (win:ax K sI "WINDOW" = Ba (Ba (.int 128 t8)))
  (XIt:XI K gP)
  (nn:ah K (.ref gP) "number" = Ba Bb)
  (ini:ah K (.ref gP) "__init__" = Ba (Ba (.ref fI)))
  (lI:K.lookup fI=Ba #[ocI,odI,.func (bD "__init__" "NotTurned.__init__" (yP yc) (yl yc) (zi yc) .none kVI dcI pmI anI cdI ctI),slI])
  (kI:cb K cdI "NotTurned.__init__" = Bc)
  (pI:aP K (.ref fI)=Bc)
  (fnI:bc K (.ref fI)=Bc)
  (oj:ci K gQ fM=Bc)
  (ol:cI K gQ=Bc)
  (om:cU K gQ=Bc)
  (oo:ah K (.ref gQ) "__setattr__" = Ba (Ba (.builtin "object.__setattr__")))
  (oq:df K gQ=Bc)
  (ot:aP K (.ref gQ)=Bc)
  (no_System:ah K (.ref gQ) "order" = Ba Bb)
  (nr_System:ah K (.ref gQ) "rules" = Ba Bb)
  (XIu:XI K ig)
  (ua:ah K (.ref ig) "at" = Ba Bb)
  (iniU:ah K (.ref ig) "__init__" = Ba (Ba (.ref fU)))
  (lU:K.lookup fU=Ba #[ocU,odU,.func (bD "__init__" "NoUse.__init__" (yP yK) (yl yK) (zi yK) .none kVU dcU pmU anU cdU ctU),slU])
  (kU:cb K cdU "NoUse.__init__" = Bc)
  (pU:aP K (.ref fU)=Bc)
  (fnU:bc K (.ref fU)=Bc)
  (XIf:XI K gU)
  (vi:ah K (.ref gU) "__init__" = Ba (Ba (.builtin "ValueError.__init__")))
  (sFF:dz K (.ref gU) (.ref gU)=Ba Bc)
  (XIq:XI K ia)
  (nwi:ah K (.ref ia) "__init__" = Ba (Ba (.builtin "ValueError.__init__")))
  (mostr:ax K sI "MOST_ROOMS" = Ba (Ba (.int 8 t9)))
  (oR:ci K gN fM=Bc)
  (oS:cI K gN=Bc)
  (oU:cU K gN=Bc)
  (oV:ah K (.ref gN) "__setattr__" = Ba (Ba (.builtin "object.__setattr__")))
  (oW:df K gN=Bc)
  (oX:aP K (.ref gN)=Bc)
  (oY:ah K (.ref gN) "letters" = Ba Bb)
  (nt_World:ah K (.ref gN) "table" = Ba Bb)
  (XIm:XI K ic)
  (wi:ah K (.ref ic) "__init__" = Ba (Ba (.builtin "ValueError.__init__")))
  (mostt:ax K sI "MOST_TABLES" = Ba (Ba (.int 1000 tmt)))
  (ks:aV K (.type "str") (.type "str")=Ba Bc)
  (nmin:ax K sI "min" = Ba Bb)
  (nany:ax K sI "any" = Ba Bb)
  (nsorted:ax K sI "sorted" = Ba Bb)
  (mou:ax K sI "MOST_USES_thinning" = Ba (Ba (.int 40 tmu)))
  (mos:ax K sI "MOST_STEPS_thinning" = Ba (Ba (.int 240 tms)))
  (mod_:ax K sI "MOST_SIDE_thinning" = Ba (Ba (.int 60 tmd)))
  (mop:ax K sI "MOST_PASSES" = Ba (Ba (.int 20 tmp)))
  (mcu:ax K sI "MOST_USES_completing" = Ba (Ba (.int 40 tcu)))
  (mce:ax K sI "MOST_ENTRIES" = Ba (Ba (.int 12 tce)))
  (mcd:ax K sI "MOST_SIDE_completing" = Ba (Ba (.int 10 tcd)))
  (mcp:ax K sI "MOST_PEAKS" = Ba (Ba (.int 8 tcp)))
  (mju:ax K sI "MOST_USES_judging" = Ba (Ba (.int 40 tju)))
  (mjs:ax K sI "MOST_STEPS_judging" = Ba (Ba (.int 2000 tjs)))
  (mj:ah K (.ref gM) "__init__" = Ba (Ba (.ref iW)))
  (ml:FnE K "__init__" "Order.__init__" wV iW)
  (iY:bc K (.ref iW)=Bc)
  (ln:ah K (.ref gM) "weight" = Ba (Ba (.ref iF)))
  (lr:FnE K "weight" "Order.weight" xO iF)
  (iH:bc K (.ref iF)=Bc)
  (mm:ah K (.ref gM) "seen" = Ba (Ba (.ref mh)))
  (mn:FnE K "seen" "Order.seen" wQ mh)
  (mq:bc K (.ref mh)=Bc)
  (iR:ah K (.ref gL) "seen" = Ba (Ba (.ref iQ)))
  (iS:FnE K "seen" "FromRight.seen" xl iQ)
  (iT:bc K (.ref iQ)=Bc)
  (mr:ah K (.ref gM) "rank" = Ba (Ba (.ref iX)))
  (mv:FnE K "rank" "Order.rank" xL iX)
  (iZ:bc K (.ref iX)=Bc)
  (lu:ah K (.ref gM) "before" = Ba (Ba (.ref iG)))
  (lv:FnE K "before" "Order.before" xU iG)
  (iI:bc K (.ref iG)=Bc)
  (lN:ah K (.ref gQ) "__init__" = Ba (Ba (.ref lL)))
  (lP:FnE K "__init__" "System.__init__" wu lL)
  (lQ:bc K (.ref lL)=Bc)
  (iw:ah K (.ref gQ) "rules_told" = Ba (Ba (.ref iu)))
  (iA:FnE K "rules_told" "System.rules_told" yG iu)
  (iB:bc K (.ref iu)=Bc)
  (mw:ah K (.ref gN) "__init__" = Ba (Ba (.ref mi)))
  (mx:FnE K "__init__" "World.__init__" vf mi)
  (my:bc K (.ref mi)=Bc)
  (lS:ah K (.ref gN) "rooms" = Ba (Ba (.ref lM)))
  (lT:FnE K "rooms" "World.rooms" wv lM)
  (lV:bc K (.ref lM)=Bc)
  (mV:ah K (.ref gN) "led" = Ba (Ba (.ref mL)))
  (mW:FnE K "led" "World.led" vV mL)
  (mX:bc K (.ref mL)=Bc)
  (lw:ah K (.ref gN) "parted" = Ba (Ba (.ref lj)))
  (lx:FnE K "parted" "World.parted" xY lj)
  (ly:bc K (.ref lj)=Bc)
  (lA:ah K (.ref gN) "broken" = Ba (Ba (.ref lm)))
  (lB:FnE K "broken" "World.broken" xV lm)
  (lC:bc K (.ref lm)=Bc)
  (oz:K.lookup oy=Ba #[d1_gone,d2_gone,.seq #[.int 4000 ny] d3_gone,d4_gone])
  (nL:K.lookup nE=Ba #[d1_unmet,d2_unmet,.seq #[.int 4000 oM] d3_unmet,d4_unmet])
  (fiR_init:ah K (.ref gL) "__init__" = Ba (Ba (.ref iW)))
  (fiR_weight:ah K (.ref gL) "weight" = Ba (Ba (.ref iF)))
  (fiR_rank:ah K (.ref gL) "rank" = Ba (Ba (.ref iX)))
  (fiR_before:ah K (.ref gL) "before" = Ba (Ba (.ref iG)))
  (b0:ax K sI "len" = Ba Bb)
  (b1:ax K sI "range" = Ba Bb)
  (b2:ax K sI "isinstance" = Ba Bb)
  (b3:ax K sI "str" = Ba Bb)
  (b4:ax K sI "int" = Ba Bb)
  (b5:ax K sI "tuple" = Ba Bb)
  (b6:ax K sI "list" = Ba Bb)
  (b7:ax K sI "bool" = Ba Bb)
  (b8:ax K sI "enumerate" = Ba Bb)
  (b9:ax K sI "all" = Ba Bb)
  (b10:ax K sI "ValueError" = Ba Bb)
  (b11:ax K sI "max" = Ba Bb)
  (b12:ax K sI "reversed" = Ba Bb)
  (b13:ax K sI "zip" = Ba Bb)
  (b14:ax K sI "sum" = Ba Bb)
  (b15:ax K sI "sorted" = Ba Bb)
  : ∃fd:tW,(∀(s:sP) (v:sN),Ay s fd #[[v],[]] [("_law_script",v)])/\∀base:tB,K.In base->base.Ns sI mg->base.BuiltinsAt mg TB->PySem.W.CodeHd base cc TB->FnOk l.prog w K mg base CX0 12 fa fd ["_law_script"] (Wx K TB):=by
 have e:=hfa.symm.trans (aL X G a64);cases e;have B:Bt mg:=#[aO X G b0,aO X G b1,aO X G b2,aO X G b3,aO X G b4,aO X G b5,aO X G b6,aO X G b7,aO X G b8,aO X G b9,aO X G b10,aO X G b11,aO X G b12,aO X G b13,aO X G b14,aO X G b15];let#[M1,p1,_,F1]:=a1.mk X G;have B1:=F1.binds (ps:=["text"]) nofun;have F6:FunD K "gone" "gone" vJ (.ref oy) f6 (bD "gone" "gone" (yP vJ) (yl vJ) (zi vJ) (.ref oy) kV6 dc6 pm6 an6 cd6 ct6):=⟨#[_,_,_,_,_,_,_,_,_,rfl,l6,k6]⟩;have M6:=aL X G a6;have F12:=fun_mk (st:=yL) l12 k12 p12;have M12:=aL X G a12;have F32:FunD K "unmet" "unmet" xT (.ref nE) f32 (bD "unmet" "unmet" (yP xT) (yl xT) (zi xT) (.ref nE) kV32 dc32 pm32 an32 cd32 ct32):=⟨#[_,_,_,_,_,_,_,_,_,rfl,l32,k32]⟩;have M32:=aL X G a32;have F64:=fun_mk (st:=kr) l64 k64 p64;have B64:=F64.binds (ps:=["_law_script"]) nofun;have M64:=aL X G a64
 have HCC:cd12=.ref cc:=by
  let#[ai,oi,fdi,m1,m2,m3,m4]:=hlam;have e1:=m1.symm.trans (aL X G a12);cases e1;have e2:=m2.symm.trans (X _ _ l12);cases e2;cases m3;exact m4
 refine#[bD "law" "law" (yP kr) (yl kr) (zi kr) .none kV64 dc64 pm64 an64 cd64 ct64,λs v=>.of_eq rfl,λbase Z Z HBT HCH=>?_];have TL:zgS K mg gW:=#[XIl,xi,aL X G g_NoLetters,t6,aL X G most];have TO:TOrd K mg gM gL gM:=#[#[nF,nG,nH,nI],#[mM,mN,mP,mQ],#[nF,nG,nH,nI],aL X G g_Order,aL X G g_FromRight,nJ,mU,nJ];have TNt:TNT K mg gP:=#[XIt,aL X G g_NotTurned,nn];have FI:=fun_mk (st:=yc) lI kI pI;have BI:=FI.binds (ps:=["self","number"]) nofun;have TD:DNT l.prog w K mg base gP:=#[TNt,_,_,ini,fnI,uP TNt FI,BI];have TS:zdU K mg gQ:=#[#[oj,ol,om,oo],aL X G g_System,no_System,nr_System];have TWi:zgM mg:=#[t8,aL X G win];have TNu:TNU K mg ig:=#[XIu,aL X G g_NoUse,ua];have FU:=fun_mk (st:=yK) lU kU pU;have BU:=FU.binds (ps:=["self","at"]) nofun;have TUd:DNU l.prog w K mg base ig:=#[TNu,_,_,iniU,fnU,Z1 TNu FU,BU];have TF:zbM K mg gU:=#[XIf,vi,aL X G g_TooFar];have TNw:ze2 K mg ia:=#[XIq,nwi,aL X G g_NoWorld,t9,aL X G mostr];have CLw:zaJ K mg gN:=#[#[oR,oS,oU,oV],aL X G g_World,oY,nt_World];have TM:KF K mg ic:=#[XIm,wi,aL X G g_TooMany,tmt,aL X G mostt];have TMk:TMo mg:=#[#[tmu,aL X G mou],#[tms,aL X G mos],#[tmd,aL X G mod_],#[tmp,aL X G mop]];have TMcc:TMc mg:=#[#[tcu,aL X G mcu],#[tce,aL X G mce],#[tcd,aL X G mcd],#[tcp,aL X G mcp]];have TMjj:TMj mg:=#[#[tju,aL X G mju],#[tjs,aL X G mjs]];have d:=λ{x st f CX k ps sp}(q:FnA K x st f) H hb=>FnA.df l.prog w base (CX:=CX) (k:=k) (ps:=ps) (sp:=sp) q X G H hb;have D0:=d a0 (λF=>Kf F) nofun;have D1:=dfm l.prog w base (Zl B TL F1 D0) M1 p1 B1;have D2:=d a2 (λF=>Xf B F) nofun;have D3:=d a3 (λF=>zdI B TUd F D2) nofun;let#[_,lc]:=ml;have sv:=lc.kp;have nR:=lc.binds (ps:=["self","letters"]) nofun;have pV:DMk l.prog w K mg base CX0 3 gM ["self","letters"] (Zo K):=#[_,_,#[oP,mj,iY,oQ],uA B lc D1,nR];let#[_,iJ]:=lr;have ng:=iJ.kp;have nh:=iJ.binds (ps:=["self","word"]) nofun;have pj:DM l.prog w K mg base CX0 1 gM "weight" ["self","word"] Zs:=#[_,_,#[ln,iH,ng],wZ B iJ,nh];let#[_,mz]:=mn;have pW:=mz.kp;have pX:=mz.binds (ps:=["self","word"]) nofun;have pY:DM l.prog w K mg base CX0 1 gM "seen" ["self","word"] Qk:=#[_,_,#[mm,mq,pW],Zt B mz,pX];let#[_,iU]:=iS;have oE:=iU.kp;have oF:=iU.binds (ps:=["self","word"]) nofun;have oG:DM l.prog w K mg base CX0 1 gL "seen" ["self","word"] XG:=#[_,_,#[iR,iT,oE],qd B iU,oF];have TT:TWS l.prog w K mg base gM gL gM:=#[TO,pV,#[_,_,#[mS,fiR_init,iY,mT],uA B lc D1,nR],pj,#[_,_,#[fiR_weight,iH,ng],wZ B iJ,nh],pY,oG];let#[_,lg]:=mv;have nS:=lg.kp;have nU:=lg.binds (ps:=["self","word"]) nofun;have nV:DM l.prog w K mg base CX0 2 gM "rank" ["self","word"] (jw gM gL gM):=#[_,_,#[mr,iZ,nS],uF B TT lg,nU];have DRk:DR l.prog w K mg base gM gL gM:=⟨λC h=>by rcases h with e | e | e; (rw[e];exact#[TO.cO,nV]); (rw[e];exact#[TO.cR,#[_,_,#[fiR_rank,iZ,nS],uF B TT lg,nU]]); (rw[e];exact#[TO.cO,nV])⟩;let#[_,iK]:=lv;have ni:=iK.kp;have nj:=iK.binds (ps:=["self","one","other"]) nofun;have nk:DM l.prog w K mg base CX0 3 gM "before" ["self","one","other"] (Qb gM gL gM):=#[_,_,#[lu,iI,ni],wM B DRk iK,nj];have DBk:DB l.prog w K mg base gM gL gM:=⟨λC h=>by rcases h with e | e | e; (rw[e];exact#[TO.cO,nk]); (rw[e];exact#[TO.cR,#[_,_,#[fiR_before,iI,ni],wM B DRk iK,nj]]); (rw[e];exact#[TO.cO,nk])⟩;have D4:=d a4 (λF=>jS B F) nofun;have D5:=d a5 (λF=>Zu B TWi F D4) nofun;have O6:=zcm (P:=l.prog) (w:=w) (base:=base) B TF TUd F6 D5 D3;have D6:Df l.prog w K mg base (CXx l.prog w) 4 "gone" ["rules","word","most"] [] (xQ K gU):=#[_,_,O6,M6,p6,λs us hK hl=>by let#[_,_,_,rfl]:=kA (us:=us) ↥hl;exact BindsTo.of_defaults rfl (hK _ _ oz) rfl rfl rfl];have D6d:Df l.prog w K mg base (CXx l.prog w) 4 "gone" ["rules","word","most"] [.int 4000 ny] (xQ K gU):=#[_,_,O6,M6,p6,λs us hK hl=>by let#[_,_,rfl]:=vt (us:=us) ↥hl;exact BindsTo.of_defaults rfl (hK _ _ oz) rfl rfl rfl];have D7:=d a7 (λF=>zc8 B F) nofun;have D8:=d a8 (λF=>K1 B F) nofun;have D9:=d a9 (λF=>Xv B F D8 D7) nofun;have D10:=d a10 (λF=>X2 B F) nofun;have D11:=d a11 (λF=>Ua B DBk F D7) nofun;have D12:=dfm l.prog w base (Wi B DRk (aO X G nsorted) HCH HBT hgT F12 HCC D11) M12 p12 (F12.binds nofun);have D13:=d a13 (λF=>jg B TMk F D10 D6 D6d D9 D7) nofun;have D14:=d a14 (λF=>qH B TF TMk F) nofun;have D15:=d a15 (λF=>ZY B F D13 D14 D11) nofun;have D16:=d a16 (λF=>V4 B TF TMk F D12 D15 D10) nofun;have D17:=d a17 (λF=>zbP B F) nofun;have D18:=d a18 (λF=>Kq B F) nofun;have D19:=d a19 (λF=>VL B F D18) nofun;have D20:=d a20 (λF=>zbY B F) nofun;have D21:=d a21 (λF=>KN B #[ki,kb] F) nofun;have D22:=d a22 (λF=>K6 B #[kl,kt,kbb] F D21) nofun;have D23:=d a23 (λF=>zdd B F) nofun;have D24:=d a24 (λF=>zbS B F D23) nofun;have D25:=d a25 (λF=>KP B F D24 D23 D18) nofun;have D26:=d a26 (λF=>zee B F D23) nofun;let#[_,lX]:=lP;have su:=lX.kp;have pK:=lX.binds (ps:=["self","order","rules"]) nofun;have pL:DMk l.prog w K mg base (CXx l.prog w) 5 gQ ["self","order","rules"] (qN K gM gL gM gP gQ):=#[_,_,#[oq,lN,lQ,ot],kn B TD TS DBk lX,pK];have MS:MkS l.prog w K mg base gM gL gM gP gQ:=pL;have D27:=d a27 (λF=>Kk B F) nofun;have D28:=d a28 (λF=>Wa B F D27) nofun;have D29:=d a29 (λF=>zcU B F D3) nofun;have D30:=d a30 (λF=>VV B F D6 D6d) nofun;have D31:=d a31 (λF=>Qj B F D29 D30) nofun;let#[_,iC]:=iA;have nM:=iC.kp;have nN:=iC.binds (ps:=["self"]) nofun;have nO:DM l.prog w K mg base CX0 1 gQ "rules_told" ["self"] (Zy K gQ):=#[_,_,#[iw,iB,nM],vI B TS iC,nN];have O32:=zad (P:=l.prog) (w:=w) (base:=base) B TS F32 D28 D31 nO;have D32:Df l.prog w K mg base (CXx l.prog w) 7 "unmet" ["system","most"] [] (ui K gQ gU):=#[_,_,O32,M32,p32,λs us hK hl=>by let#[_,_,rfl]:=vt (us:=us) ↥hl;exact BindsTo.of_defaults rfl (hK _ _ nL) rfl rfl rfl];have D32d:Df l.prog w K mg base (CXx l.prog w) 7 "unmet" ["system","most"] [.int 4000 oM] (ui K gQ gU):=#[_,_,O32,M32,p32,λs us hK hl=>by let#[_,rfl]:=Yf (us:=us) ↥hl;exact BindsTo.of_defaults rfl (hK _ _ nL) rfl rfl rfl];have D33:=d a33 (λF=>YN B TS MS F D10) nofun;have D34:=d a34 (λF=>qA B F) nofun;have D35:=d a35 (λF=>Yz B (aO X G nany) TMcc F) nofun;have D36:=d a36 (λF=>uZ B TF ⟨sFF⟩ F D16 D35) nofun;have D37:=d a37 (λF=>jx B TF ⟨sFF⟩ TMcc F D32 D32d D33) nofun;have D38:=d a38 (λF=>Xz B F D29 D9 D10) nofun;have D39:=d a39 (λF=>YI B TMcc F D34 D36 D37 D38) nofun;have D40:=d a40 (λF=>XR B TNw F) nofun;let#[_,mB]:=mx;have sw:=mB.kp;have pZ:=mB.binds (ps:=["self","letters","table"]) nofun;have rb:DMk l.prog w K mg base (CXx l.prog w) 4 gN ["self","letters","table"] (ux gN):=#[_,_,#[oW,mw,my,oX],Ze B CLw mB D1 D40,pZ];let#[_,lY]:=lT;have pM:=lY.kp;have pN:=lY.binds (ps:=["self"]) nofun;have pO:DM l.prog w K mg base CX0 1 gN "rooms" ["self"] (qV gN):=#[_,_,#[lS,lV,pM],kq B CLw lY,pN];let#[_,mY]:=mW;have rB:=mY.kp;have rD:=mY.binds (ps:=["self","room","word"]) nofun;have ou:DM l.prog w K mg base CX0 1 gN "led" ["self","room","word"] (jc gN):=#[_,_,#[mV,mX,rB],Yu B CLw mY,rD];let#[_,lD]:=lx;have pq:=lD.kp;have pA:=lD.binds (ps:=["self","one","other"]) nofun;have pB:DM l.prog w K mg base CX0 2 gN "parted" ["self","one","other"] (vD gN):=#[_,_,#[lw,ly,pq],jW B CLw lD pO ou,pA];let#[_,lE]:=lB;have pC:=lE.kp;have pD:=lE.binds (ps:=["self","pacts"]) nofun;have pE:DM l.prog w K mg base CX0 3 gN "broken" ["self","pacts"] (qe K gN):=#[_,_,#[lA,lC,pC],jL B CLw lE pB,pD];have D41:=d a41 (λF=>kg B F) nofun;have D42:=d a42 (λF=>qD B TM F D41) nofun;have D43:=d a43 (λF=>XA B F) nofun;have D44:=d a44 (λF=>ky B CLw F ou pE) nofun;have D45:=d a45 (λF=>kD B TM CLw F D42 D41 D43 D44 rb) nofun;have D46:=d a46 (λF=>kh B TF ⟨sFF⟩ TMjj F D6 D6d D10) nofun;have D47:=d a47 (λF=>uh B TMjj F D46 D9 D7) nofun;have D48:=d a48 (λF=>vZ B F D45) nofun;have D49:=d a49 (λF=>QI B TO TM F D39 D47 D42 D48) nofun;have D50:=d a50 (λF=>Uk B #[kl,kt,kbb] ⟨ks⟩ F D22) nofun;have D51:=d a51 (λF=>We B #[kl,kt,kbb] F D21) nofun;have D52:=d a52 (λF=>Jt B #[kt,ks] F D22 D51 D50) nofun;have D53:=d a53 (λF=>zbN B ⟨(aO X G nmin)⟩ F) nofun;have D54:=d a54 (λF=>zci B ⟨(aO X G nmin)⟩ F D53) nofun;have D55:=d a55 (λF=>JA B F D18) nofun;have D56:=d a56 (λF=>K5 B F) nofun;have D57:=d a57 (λF=>zay B F D17 D56 D18 D20) nofun;have D58:=d a58 (λF=>Kh B (aO X G nsorted) F) nofun;have D59:=d a59 (λF=>Ju B F) nofun;have D60:=d a60 (λF=>zew B F) nofun;have D61:=d a61 (λF=>Kp B F D60) nofun;have D62:=d a62 (λF=>kz B F D59 D60 D61) nofun;have D63:=d a63 (λF=>Km B F D53 D62 D26) nofun;exact zdW B TT F64 D17 D19 D58 D55 D54 D49 D63 D57 D20 D26 D52 D18 D25
def walk{l:PySem.W.OpenLaw}{q:sU}{loose:List sS}{XP:(sS->Option sN)->tB->Prop}{YP:sZ->tB->Prop}{d:DefRec}{K:Params->sL}(hn:l.most=Ba 63)(hdf:d.params.defaults=[])(hY:∀(w:sZ) (h:tB),YP w h->(K w.params).In h) (hj:((PyProof.Rows.recsOf q).find? λr=>r.name ==("in_order" : sS)).isSome=Bc) (hno:∀w:sZ,zce (K w.params)=Bc)(F:∀(w:sZ) (mg:sS->Option sN) (fa:sM) (h:tB) (cc T:sM),(K w.params).In h->h.Ns sI mg->mg d.name=Ba (.ref fa)->(∃a o fd,mg "in_order" = Ba (.ref a)/\h.get? a=Ba o/\o.data=.func fd/\fd.code=.ref cc)->sI≠T ->
   ∃fd:tW,(∀(s:sP) (u:sN),Ay s fd #[[u],[]] [("_law_script",u)])/\∀base:tB,(K w.params).In base->base.Ns sI mg->base.BuiltinsAt mg T->PySem.W.CodeHd base cc T->FnOk l.prog w (K w.params) mg base CX0 12 fa fd ["_law_script"] (Wx (K w.params) T)) :
  PySem.W.WalkO q loose XP YP l.row.toRowW d [] (λf vs=>gg f vs):=by
 let#[din,hd]:=Bv.mp hj;have hnm:din.name="in_order":=by simpa using eC hd
 exact L3.walk_ofT (n:=63) (k:=12) (x:="_law_script") (CX:=λZ=>CX0) (din:=din) (sp:=λw T=>Wx (K w.params) T) hn ∅ hdf #[rfl,∅,∅] (fj hd) hY hno (λw mg fa h cc T a b c e g=>F w mg fa h cc T a b c (by rw[hnm]at e;exact e) g) (λZ Z a ns T hl hB hT hS=>#[a,ns,rfl,hS,hB,hT,λZ=>rfl]) λZ Z Z Z Z z=>z
end LL
namespace PySem.W.Fast
local macro_rules | `(#print $s:str)=>do let c:=s.getString.toList;let d<-(List.range (c.length/10)).mapM λi=>`(def $(mkIdent (.mkSimple s!"tw{((c.drop (10*i)).take 10).foldl (λa x=>let n:=x.toNat;a*86+(n-36-if n>92 then 5 else if n>64 then 3 else if n>47 then 2 else if n>45 then 1 else 0)) 0}")):ident:=Nat);return Lean.mkNullNode d.toArray
#print "'U_ADi4X*pa_qg)&%hu<S{m03yhY=jLhb9.<CSr{Y+^,)z>j$T(c5a9n4MB}d:ip.b}&aV0S`EwfuFH;6NoTYK]Enja`:NO{(&|6K81)fjnDkOL):2v4*p?Kh;qy(qBdF6ALmjq'v;I32T)Yu_yhws_3Y.FlPgwpk+;N4PGY:E*=d=A=*L5GBL%mTu*bOFCqXG3l?JGyolC&FGwk4H&FE.BMD&jhJ(c$&|yE)5B'Z'?pzkr16Kw&pps]6*MGGx6?.L}&5^h5|60JU,aGS2M:L>ZW%lT9'xGVF|)2]5br]]KM,6%I+yQ~G;A$I;|x&=:y0tc}A<DH)'f;28:1IDOv_:}_:nZg$.Scw$AV*41aQ{Sb,t_1)9dPH%wk*6~.K%P1hw0++3Q^ca?+W4b|=x]N8FvqlDm*0v&dSfdg%xE9PRcL=HFOPT1H7gb%VcOrH*e<40h4'`Mhjxf7$bYH:r>;MWWP4~7dcELh+%Ao<~~0+d]v<z3.+%'V(<mX^U<qspJ>(g}=ZOhXB0znNQT0sw0GQ(|10Oa?354Z(05Q2SgZ`A62LYn'9_My|eV8,t?3nIJ5Apen%PnaB'xx$n8f2gMrXBa3Y<qoE<bPz)%&%*e{n,Z;'YV%|Gh=sGBj1}wLpK%13&&rl+g3nRa3:{2IPqE+]07,davOY*.lT'9;xNmXeEi`u},:F<0*.hn8YrtK5]xGAZ|gYn.0D25lCz*_;.`7}4PBA(B37I9'1O'xhC>?v~}}|_lA~QuJ~>96)r'n_K}mc]ellQIAmiD%3E$ckkT%^GZ*Mj2f=^'U=N^]MW1?Qs?7<griwnXTPXhMMe~_b)*+JoGT;<%L`1}``3y4_XHqD;taUB5H47*X?Z0k(a;J:BZ6_iY??mg3G;'x{0R'x,WD+YRD6%z~tF8]w,Va$L83D?V,n|cFV>R*a<g3cvB|w6B_:w|q9N:XU.``Xy<`X>=]`>Ex%oQ>W1C.0oQxX,*t?wOAQQkxyoTT+<V<BkQ]jjj~7+ti(CT;`Xg~l;|;g{pse&0sro2DJKYQ_k0}$V'u~CIcK=nz0S>&El8oba'h{]y0.ZiMjuRy?ZN7Co)0sSu9ktk3qKmdyscUiAu{roT0:4O?n<SYNVRc_;V9%6M8YH+GDdxC6cY30U<KHvp>d+8`pV8]v=pGaBnK,fJX|n(ljF}oI_rub~}k.VukyVibb9%'G^:c(aW3]qvxjfU:)7Bs_s8FZ)xOx*c:91h:>>yj+*es>}'&igqDb9FfqHvwaj*PNqEjdKfyG.pBjRCujFcv;'639bZ)=;DXi>ss}>+%1jupRf:~_PCe;k_{_+J?CV<C2HLqkNY+Y_bqRzgdcPltmlcg~E:Wq5aNsKmsk+pMsN8gRiFC|IOJ`g|R)33cI71,yQcsj=VJr=WHJ69<?xFzPmS5,'Nj>PcwLj:xI4)AR5mV?c2q3E~kcHZn+$C%?T=O`oHcrU8o6Q5)=ZDnp)b]=p~rM,Sh]I`o0(<<Q]mp:;?m.L0^Ej;&;Rl*lmM(laF*{U]8Lt3c{y3%{I>gu(kE,s39'nHF%Mi<UB'eBGAb?w.K8%h.e8N$qV%g$3XP>LixI1,pH4G3%2A<8Y4OPSu8=F]Dat9x7~6`;r{bR8:~eDZHR8UHo5^^TUi:w*?>cead`O)_tzNJ{9l<tq185gf{bNodM&WM'z$]3>)$3xQaQ.sYOb.UgD>:Pc3BBQBrLcDSAqo>Y>%gUX7Af])cqVU6&dm,=SL];v4^ij4x$b1cC]2Yb}by&z3c&|%(GU~O1nRh:~vAutYM,j$XwH.|,R(|kWLT{ZNT5JarRue+7+_uXid&~'w7(bZH?IM,CD+FJBn;|bOlRx}&)vngi'2FyJ2q+RSIEmY)H$4g)*`+D%pLD(*cWz'NTv9vuu`Ym%_Obz)?pFt?51*cC5Pfn+$.5;^f*&a3gimNP=7zU,jymQA0%PCkRS_`ion^dh&u~r{Q={dlheDy|M'6mA+uI*DTc}dXgx_r0o;B^s>5^c&Ol>JNdy>=x+C+H;%qYO;FbPO))IR26~hoP>.=+L9K90O&_USwmtSMX7x^Piwk?<Yw`%z:ay'v2w9<Cgm]niabpOnpsX4hNb4VyD=jFQ`1H]zCVtOT9,8E~,igo|9hn`X4^HXx3Ud:S0a|OfBj27KU{SV.MrEEuIs$:nQ=OIqv;$&=`7OWRz{UeOrsO;x~2sIrx8U${A+IMw:.XO}Z8M+RP:Y3N,s,U02yLU5T^VgZRz<bw9cM4:D}bYc>L%ALDdu,V%i57.CLF_~9w(I{onhjDSzTLpH1JR9luR91Hypu(;u~6w,}qFmKIdA~w9'FwwJg&0]*M`JfFGMzwQaP:00j%}Nm1{W*69>$8SNIRY9;jb0<7ns)TgN%bZVi2MnB%6)*y]I7vy%J;>bK88z>n`l.$<zMC<)p='EAr>o`h35h$&kK]D.;~|>|d,X;E5hc'MW0gTmcegBE+Y)B*pTJiq(|Lwn8P$+i6mimLxEOYHn=a64ZTM&iUAEadv)t69P^zKI0Tmyu.Zw},a~5>6WKkwodx&1qiNe&_muUn?%Tak5$h<wR1%EZMqnh^bU4kh1ZoG4Nq8Iv932aJ+OAQBeP+:UX4u]nfl8Fo~HWZp.aKas6=,4Z9{JuW+e3tJ.~c}v16Q~~g5iI`JK*wz0E306:6_QfFLpowR.c{Egw&.(unOMo&=q^brQ35yDK)}r33YZ.9A98L%(roNf(md2gztL^SVQ0_)l+`E)%*JA(I(J>b96Qp8C%zo&V_IH=Bb1nf%w,h`p}WSG1=1)(fS=(E+g*b'2UyHc:pyF,5I%(%^2P9{^3g%3:*jL^JV>s&=^r_yXw:gD{5sUx2t}6Q3iOI'G{_tSiHGRMCyni>_RNs({$qLk4.VP*NowPWuTQ&P<fZk2g+bzPEY()denHVeNzM,ZL$.8<TxKl9qeH6EXHD=1l32_zv:]hbs?<6Qn&cRG_6Uv9lh7=SnV,h~ByLXaFx%_IfT*Kc]r*}b_i8Ac_=zn=&.Q6HOgFg.}'Rqf0d4>TDIg])~'zu|sx|B3qx2GaG,%6A_$HFqw={6L.hhTmhNCPjID<f9uXo|>}UAeB:&&3FlKqme{xk40?kLT~%BrtB)IxA{51EEgpu~9v>'R$:^^E>u*ylH<`96B0$3a8`A}THXaT&s?)|cKyy,r1.(:*(LI6;d_y`4<+8zS2W2OMheYHAUl]ftIAF'gbj?rsNMlUoAVE9cUcfR~4&_0^.2;|gD%u']Q22F^d;yJ;9Ts^2T$4y?jfvURY,5vUmwhYyu)QC;(Jk(X|fz?;b54Qe%=UM_oCWv}XOiU`6RK7;J&|^0o&2p*Q]`j}<|*U%GMvP+wVye;7=dy3'nP^HgeSdyYBK5`S>^AihV1F^UAIqHZYVoh7%c6g>']+>t=BfYtAiVE$klR%DhYr$0>fKIXj%nHVGzdY^1s3>C]Y}wOWlG:6Ak2_`zAtOMbfX::xJf:nG,$iOl'UNa=6}lO0]yt8PtGh^rSjml^_89KcDGIkbv)h?_BW6h(KLPI=uVg'PIW20Eh4N:^HA_tejz2hNT4Cz{NymGd~QpG~xR$.'LTY%y_*jxNYt9wmr{H~oYtEQwyBe>GTv|f7m*(|TbNNF}jzE]('cY0.hcR0P:,7?.Z8DpW.:KgLw$)f(09;9WK'$nT^Z:7HK]T+&*]4WTeB^Ug}2LTo+M8z*(f=7Ez)u1>&clq]$oqqjdM,Z{$c.++5cw3NOPa{]O280sg~^(:g4]gQ*}Q<LsMPE^rP(43e'aG{e%nl%'%Z(HNTj995mG_=EGfo+4}Ha3^zeTTSk)4n]lv$6+cp|3Pa~PPL_*C`OYg]PYde)%Sk=5`UCShENj,.F+x{Zqqw'L;'`V0d|;}z1%n`b<q,(^M`Q=]{4(xDNh=f95W%xp)]r~ZnBglVVB*1bkj~{e':o:;00Uu$nR*REa<gaGn'tKma_3I}B:T:]u|y|SAlJ9$VL)'jd1;NuleL~ZasIZQ:djNrI6ofIGL1l+jp`1Rp&8j_iEs)G&|e^FpS0e>3QoH]5MPx6sHsaxR;]6cxQ3*+^)$cQ?;Srd3=P*?2SxB?)c1XRjD0Zg5pu:D{}4Jr>D%H%|35`Q>aAAJo1i9U%5WYa6c%S.7HVS3<WnxB%xM`gw_08AA]48F'OnDfQbdafjGJY..qoMOd%94&m4KS:QJFAxH*5e<C7o2m5aypL]QhayG$gZ^GPTNc9q<YVG{<G|.&&8B8}K%3:9<g8RIZa]j)~O9pON>C2WyRZlM5raYppM]=jTe?'fosBy)sd7OYG,Vmuq4ggqQy=?'kS+:+.lkp0<>S=<.9y136DDakQQEg1%EJ$<C&~e+h_(U`*KOsI4Nw)fJy+:5}2L.9kgDj`rNz1IE~Z8N~S|k7zW`rZWc0`*heo|$%h=VO9;g%KaaemW<OIA,ShV?rL$lx3rjTe7|dO~b.+Y<hi.w7m4Gp.`$]?~ZR6UgX'07c3~1UhA5vqkz%1{>NW8DHLJiQ_AQN,QL=1U:QyCMt5U8(A:V*0wr?cu'()NLl.oxd:cgD_A'S&O'G)+1M}<gMF=Z(S]Mzal,hrjz0QUgLYzmt9?0YfdS91Am90,IBZg7X>8Gp;<+:T'X))$`lceSelAh(5FSja?=jw*oG7Xx(|ff+`+Nf]_hZDFVR'^TxkW0%lC6`O.H`V{J8S~b1wKPZ2e,=qrA.0uxU$e0ccM8;KFBB_hUd<cu<(Nr)}OWqKUkFzcGYfB}_'I^UgzIGPCB3FW~{Aw]O5{A+U4*'}opS{|z~Zk~<^y?KUIl+L?E5yhn(f_*4V:)H:E.c{6_|=Hgs|MOSM=6D2mp3f,A)0z6,W<%KM~mP8M&|RtTP&~lQ`OqU3q0gkQhVrPBm24O7IV3(Lqag^&O3+zAzB3UpKZdSeHHyHEkDprP29{]lcha;WAWvNzneROF+sY},:3qEds&asa;&f|0D11zapq1Lf)WcFaVcwn3eFft'NiLw5+S;yH)Lf&odVE`bm?8R>_1sS6y4JETLjVsmtJNhKgJZuX&Y(.S,zevm~Ypt^?UQQl%Q]*%aHw%%<Hx%5ZH'|h%,hC7]=zCzZA7<0MW:~uV.Dx:_5xrfw'|()5,_4m<`;qOQwX?,YKv'<3r:f9Mh:E:e`NXcuqhnY>2Xt?CF2G^VW=|MKN{]k$zsfO6.tt4o|t3{528Oh3?G}mg%)SOnBt)v_])r4.,?4w9^s:XRx%_'^C$0S}o3Ym1.Vs]kw1'f>`&~Pm('bUl&Hm+|CT|}P4irb(d>pv?fJk5uAKsKxYLYUEt'kEbHJ*?i>;pYFN9Qe8>N0758gk+jHh6(SrbuO<NQ<q7c;<;n8c}arGf|.)}rL2wQz9Q`r17D?$?:^:8}OnDKcnO}%15{dJ(tL~^F8YK|QqXM6;vTu%dm4zOfL^Q2m~CUXK&U]urv1B}~Swu`ph&TT1%piE$vAKp$ou&m<8X6J'J.&rf`ATeL<=sL|mcGnAwnYT~_1lbeKr1mf{Tv;hWfP|fSjecnr|:I]MYFyUHJkza<JjeBD0~9`Jn^1.3y4q_5FqmYDQ>9JX^6JS3Y9&pklAt*:C+R{7.N&bv31UozN92?{+d4jcC?p:wO%mxpM<?tsdHMrgcL|}%,joXKb7Ev)]Y6f51thI$XRr}f%x)QQ3e9mJbSmO&P'?='],5~]2LYj7=}ycJ1DJlo*2Z2<2+6?2P&48P~gg{K6n+]{)|X?HD'|,okxE{1){HK]B;6h2Q'T=JH<Shb34NW$m&|:DHOqYK`I&z)a4;lrPW09LV1vAjPUKyE*?z^Y6'wlFmst(4QKJn.f,Cjm*HkVkOon|qkV~F=JGwwo>Y?'7`:U?,^c27;.Z0^wKxX]8k5]rW?znRT](qaDZur_Z2<>vfT(S)?C1]Pv&5E?$g_WuBp^ArN$*0Kan{.L^%X?zgEwsl<dGL5;3&_Lbe):Mcs|'ze))9QoxI5T<Exk(U8c`B8%Ch6.q?RaepZ$%TR$5HzeY<YR0,q~{'pgBJf)IGi>M.6S}4j7O'mZk6O6tB?fT9y,h1V~,Cg_)|]9;7idWk*I5Y86g]JP(pnx1(_O1%UjQ?5&Xl:(*B^Tj8qD.wMt1rFQg;>U,ZFbUJnjQ3V5q8geZb}jGQE}KtE%N$+8J+M9k7dM8%hV;Sk0]d1CL.GFAjRMN5Gi?i|*M)E9D25yxQr$Y5r^K^eY?pH%EQN4NV1uq,i|T6kW^7EbMt5Wlg:gWG%=<5J8m=?1l:)d)EaeA;aE^e7)|KBW`avSt1R7GP|5%AdD}EZdH:pT_2f&]*hAfp`3<hL5'Yrj}djD8^HFb~tkd99|3UTFj.58Z{:oZ(lQFng;R6|*1.toi;Om'gSH0+lZXWlj:;Spbcp`z2KG'13Cll6F(?7kD:HXzcQBHDRX%4^we&&RvgszD1n3Nw9,KQR*x$OdAhlAs`iJR{NkqX?,4>+,dg?Bs_M'bD|fdw1`]CH<4|^M^DT0RJ|Y(czVD^=2mHj2|DYUS^`VH'0zr1P)0}K(HoV%yTMr8vOy6Vi{}Nogq*C&0D0CN;J=}X~._i),^7x>8Btx&qA*'^.*+.ML~aij4T8`(L`]Sos:$7O]QJpnazA=d2J{xO+zQco_*fcJ6k8`1a~Z,$YFW1*N4=thf}5M&imxTZtvXzVV.{G(oG(rA]]Dx,R)qc%?N9tB&TCeJHXd?PQq?r7'T,y5'$PhTOH<LF2N{<FLe|uKWNPZ>s$xO1XO~^rbvp)bbO`,PNGs',MCCYWsNuBpXL*+3yb(9O+ei2;o=R7$tK.)r>:G955s?6w*%T+?q=}'+kat]Z':)kjlH{Znc+MTY;^yn3:d>]xO;={p*uip(0Zh%D=YaV5oR3$p$wI{jN91).($+)6'}I:Fg+Ke^A5q,mIL(3~MTvukG3Xi8q0E)C??y_]1ABN7]X*?`'Mwf`XJ8BJIIvK5rXbC16'8XcH??iu4{Cn<'%mvAm86>S:~RDk?sA^CrF`ut]|Iq'^L6SRq1]4dEHpojMCz}C5XfPPyzd:)zK(|{G{v]krkIblu&4wVl'S77W=ynO26c,%a|PeSsf8vDzHkcD]4egGfzSV3mGZ{fL<yz4q;19b9pVEY<S7rT?G7|Wcd(1GYD=EQ0W`Ek]w;k6Fkv.|TM;w$o&s6A(Gl&5]l)Xn?ps>h,$c_V~?j&JUmFVq;&{?*ke$0z~=~xDvYWSeC]>n"
end PySem.W.Fast
open PySem PySem.W PyProof.Rows
set_option maxRecDepth 100000 in
set_option maxHeartbeats 0 in
theorem PySem.Challenge.cw_letterlaw_k90_whole_thin_lists_judged_holds : PySem.Challenge.rw_letterlaw_k90_whole_thin_lists_judged.Holds := by
 w_on;o_law;k_head; (case hw=>w_witness2)
 k_fill
 refine LL.walk (l:=PySem.Challenge.rw_letterlaw_k90_whole_thin_lists_judged) rfl rfl (λw h Y=>PySem.W.km_in_of Y) ?hJJ ?hNN ?hFF
 case hJJ=>first | kernel_rfl | rfl | decide +kernel
 case hNN=>intro w;first | kernel_rfl | rfl
 case hFF =>
  intro w mg fa h cc T KX G hmg hlam hgT
  refine' LL.all_mk KX G hmg hlam hgT ?a0 ?a1 ?a2 ?a3 ?a4 ?a5 ?a6 ?l6 ?k6 ?p6 ?a7 ?a8 ?a9 ?a10 ?a11 ?a12 ?l12 ?k12 ?p12 ?a13 ?a14 ?a15 ?a16 ?a17 ?a18 ?a19 ?a20 ?a21 ?a22 ?a23 ?a24 ?a25 ?a26 ?a27 ?a28 ?a29 ?a30 ?a31 ?a32 ?l32 ?k32 ?p32 ?a33 ?a34 ?a35 ?a36 ?a37 ?a38 ?a39 ?a40 ?a41 ?a42 ?a43 ?a44 ?a45 ?a46 ?a47 ?a48 ?a49 ?a50 ?a51 ?a52 ?a53 ?a54 ?a55 ?a56 ?a57 ?a58 ?a59 ?a60 ?a61 ?a62 ?a63 ?a64 ?l64 ?k64 ?p64 ?g_LetterError ?g_NoLetters ?g_Order ?g_FromRight ?g_NotTurned ?g_System ?g_NoUse ?g_TooFar ?g_NoWorld ?g_World ?g_TooMany ?kbb ?kt ?ki ?kb ?kl ?XIl ?xi ?most ?nF ?nG ?nH ?nI ?oP ?oQ ?nJ ?rp ?rq ?rA ?mM ?mN ?mP ?mQ ?mS ?mT ?mU ?oe ?og ?oh ?win ?XIt ?nn ?ini ?lI ?kI ?pI ?fnI ?oj ?ol ?om ?oo ?oq ?ot ?no_System ?nr_System ?XIu ?ua ?iniU ?lU ?kU ?pU ?fnU ?XIf ?vi ?sFF ?XIq ?nwi ?mostr ?oR ?oS ?oU ?oV ?oW ?oX ?oY ?nt_World ?XIm ?wi ?mostt ?ks ?nmin ?nany ?nsorted ?mou ?mos ?mod_ ?mop ?mcu ?mce ?mcd ?mcp ?mju ?mjs ?mj ?ml ?iY ?ln ?lr ?iH ?mm ?mn ?mq ?iR ?iS ?iT ?mr ?mv ?iZ ?lu ?lv ?iI ?lN ?lP ?lQ ?iw ?iA ?iB ?mw ?mx ?my ?lS ?lT ?lV ?mV ?mW ?mX ?lw ?lx ?ly ?lA ?lB ?lC ?oz ?nL ?fiR_init ?fiR_weight ?fiR_rank ?fiR_before ?b0 ?b1 ?b2 ?b3 ?b4 ?b5 ?b6 ?b7 ?b8 ?b9 ?b10 ?b11 ?b12 ?b13 ?b14 ?b15
  (case a0|a1|a2|a3|a4|a5=>exact#[by k_is,_,L2.fun_mk (by k_is) (by k_is) (by k_is)])
  case a6|l6|k6|p6=>k_is
  (case a7|a8|a9|a10|a11=>exact#[by k_is,_,L2.fun_mk (by k_is) (by k_is) (by k_is)])
  case a12|l12|k12|p12=>k_is
  (case a13|a14|a15|a16|a17|a18|a19|a20|a21|a22|a23|a24|a25|a26|a27|a28|a29|a30|a31=>exact#[by k_is,_,L2.fun_mk (by k_is) (by k_is) (by k_is)])
  case a32|l32|k32|p32=>k_is
  (case a33|a34|a35|a36|a37|a38|a39|a40|a41|a42|a43|a44|a45|a46|a47|a48|a49|a50|a51|a52|a53|a54|a55|a56|a57|a58|a59|a60|a61|a62|a63=>exact#[by k_is,_,L2.fun_mk (by k_is) (by k_is) (by k_is)])
  case a64|l64|k64|p64|g_LetterError|g_NoLetters|g_Order|g_FromRight|g_NotTurned|g_System|g_NoUse|g_TooFar|g_NoWorld|g_World|g_TooMany|xi|most|nI|oQ|nJ|rq|rA|mQ|mT|mU|og|oh|win|nn|ini|lI|kI|pI|oo|ot|no_System|nr_System|ua|iniU|lU|kU|pU|vi|sFF|nwi|mostr|oV|oX|oY|nt_World|wi|mostt|nmin|nany|nsorted|mou|mos|mod_|mop|mcu|mce|mcd|mcp|mju|mjs|mj|ln|mm|iR|mr|lu|lN|iw|mw|lS|mV|lw|lA=>k_is
  (case XIl|XIt|XIu|XIf|XIq|XIm=>exact#[#[by first | kernel_rfl | rfl | k_is | decide +kernel,by k_is,by k_is,by k_is,by k_is],by k_is,by k_is,by k_is,by k_is])
  case oz|nL|fiR_init|fiR_weight|fiR_rank|fiR_before|b0|b1|b2|b3|b4|b5|b6|b7|b8|b9|b10|b11|b12|b13|b14|b15=>k_is
  (case ml|lr|mn|iS|mv|lv|lP|iA|mx|lT|mW|lx|lB=>exact#[_,L2.fun_mk (by k_is) (by k_is) (by k_is)])
  (case kbb|kt|ki|kb|kl|rp|oe|ks=>first | kernel_rfl | rfl)
  (case nF|nH|oP|mM|mP|mS|oj|om|oq|oR|oU|oW=>first | kernel_rfl | rfl | k_is | decide +kernel)
  (case nG|mN|fnI|ol|fnU|oS|iY|iH|mq|iT|iZ|iI|lQ|iB|my|lV|mX|ly|lC=>first | kernel_rfl | rfl | k_is)
#print axioms PySem.Challenge.cw_letterlaw_k90_whole_thin_lists_judged_holds
