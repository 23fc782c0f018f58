import PyProof.Rows.All
import Wide.All
import OpenK.AllK
import Wide.FinOn
import PyProof.EqAt
import PyProof.EqKinds
import PyProof.NeKinds
import PyProof.TupleCall
import KE.KRevIter
import PyProof.ZipIter
import PyProof.Rows.SetFrom
import PyProof.StrWalks
import PyProof.DictStraight
import PyProof.DictDisplay
import PyProof.StrLawsFrom
import PyProof.Rows.StrNews2
import KE.KMinBuiltin
import PyProof.Rows.CallKwBuiltin
import PyProof.Rows.SortShell
import KE.KSortTup
import KE.KBoundM
import KE.KLam
import KE.KDictLaws
import PyProof.DictWalks
import Lean
import PySem.Challenge.RW_letterlaw_k81_alike_walked
set_option compiler.extract_closed false
open Lean(mkIdent)
set_option tactic.hygienic false
def zzP(s:Lean.Syntax):Lean.MacroM Lean.Syntax:=s.rewriteBottomUpM λs=>do if s.isIdent then `(rcasesPat| $(⟨s⟩):ident) else if s[0].getAtomVal=="#[" then `(rcasesPat| ⟨$(←s[1].getSepArgs.mapM λp=>`(Lean.Parser.Tactic.rcasesPatLo| $(⟨p⟩):rcasesPat)),*⟩) else if s[0].getAtomVal=="_" then `(rcasesPat| _) else return s
def zzI(s:String):Array (Lean.TSyntax `term):=(s.splitOn " ").toArray.map λs=>⟨mkIdent s.toName⟩
def zzM(s:String)(a:List (Lean.TSyntax `term)):Lean.TSyntax `term:=let x:=zzI s;Lean.Syntax.mkApp x[0]! (x.extract 1 x.size++a.toArray)
def zzQ(s:String):Lean.MacroM (Lean.TSyntax `term):=let i:=zzI (s.drop 1).toString;match s.front with | 'R'=>`(.ref $(i[0]!)) | 'I'=>`(.int $(i[0]!)) | 'S'=>do let q<-`([$i,*]);`(⇑$q) | 'C'=>do let q<-i.pop.foldrM (λa b=>`($a ::$b)) i.back!;`(⇑$q) | _=>`(⇑$(i[0]!))
local macro_rules | `(tactic| let#[$a,*]:=$e)=>do `(tactic| obtain $(⟨←zzP (←`(#[$a,*]))⟩):rcasesPat:=$e)
local macro_rules | `(⇑$a)=>`(.str ($(mkIdent `tx) $a))
local macro_rules | `(tactic| rintro $p* : 0)=>`(tactic| (rintro $p* : _;right))
local macro_rules | `(↥$a)=>`(by simpa using $a)
local macro_rules | `(%[$a,*|$n:num])=>do let x<-`(none);let a:=a.getElems;let p<-(match a[0]!.raw.isNatLit? with | some k=>do return (<-(["Sx0 x1 x2 x3,Ra,Ic,Sx0,Sx1,Sx2,Sx3","Ra,Cx y t,Ic,Ih,Sx,Sy","Ra,Ic0,Ik,Tl,RW"][k]!.splitOn ",").toArray.mapM λs=>return zzM "BJ" [<-zzQ s])++a.extract 1 a.size | _=>pure a);`([$(p++Array.replicate n.getNat x),*])
open Lean in
local macro_rules | `(mutual $c* end)=>if c[0]!.raw.isOfKind ``Parser.Command.section then do let m<-`(noncomputable def x:=0);return mkNullNode (<-(c.drop 1).mapM λx=>do let y<-x.raw.rewriteBottomUpM λx=>pure (x.setInfo .none);return if y[0].getArgs.all (·.getNumArgs==0)&&(["def","abbrev"].contains y[1][0].getAtomVal||y[1][1].getAtomVal=="instance")then y.setArg 0 m.raw[0] else y) else Macro.throwUnsupported
def zzA(h:True:=by first | rfl | exact .inl rfl | exact .inr rfl | exact .inr (.inl rfl) | exact .inr (.inr rfl) | decide | assumption | (intro _;rfl) | exact ⟨rfl,rfl⟩):=h
local macro_rules | `(‹$t›)=>`(autoParam $t $(mkIdent `zzA._auto_1))
local macro_rules | `(end in $d)=>do let m<-`(noncomputable def x:=0);return d.raw.setArg 0 m.raw[0]
local macro_rules | `($a∪$b)=>`($(zzM "az K tB" [a])=some (some (.ref $b)))
local macro_rules | `($a∪0)=>`($(zzM "az K tB" [a])=some none)
local macro_rules | `($a∪($b,$c))=>`($(zzM "az K tB" [a])=some (some (.int $b $c)))
local macro_rules | `($a∩$b∩$c)=>do `($(zzM "af K" [<-`(.ref $a),b])=some (some (.ref $c)))
local macro_rules | `($a∩$b:str)=>do `($(zzM "af K" [<-`(.ref $a),b])=some (some (.builtin $(Lean.quote ("object."++b.getString)))))
local macro_rules | `($a∩1)=>do `($(zzM "af K" [<-`(.ref $a),Lean.quote "__init__"])=some (some (.builtin "ValueError.__init__")))
local macro_rules | `($a∩0)=>do `($(zzM "aV K" [<-`(.ref $a)])=true)
local macro_rules | `($a∩$b∩0)=>do `($(zzM "af K" [<-`(.ref $a),b])=some none)
local macro_rules | `(!0)=>`(by decide +kernel)
local macro_rules | `(!-$i)=>`($(mkIdent `zm) $(mkIdent `w6) ($(mkIdent `pv) $i) $(mkIdent `zb))
local macro_rules | `(tactic| exists $t,*)=>do let t:=t.getElems;let i:=zzI (if t.size>1 then "cdv A outer s H vs Q E hr hx h" else "cdv A outer s H vs Q E hr h");`(tactic| refine $(t[0]!) (λvs H Q E h=>by repeat (first | (obtain⟨e,_⟩:=h;subst e;rfl) | obtain⟨_,h⟩:=h)) (λ$i*=>?_))
local macro_rules | `(tactic| rintro $p* : _)=>`(tactic| rintro $(mkIdent `Gz):ident $(mkIdent `hGz):ident $p*)
local macro_rules | `(tactic| right)=>`(tactic| subst $(mkIdent `hGz))
local macro_rules | `($s⁻¹)=>`(($s).heap.objs.size)
def sizL{n:Nat}(h:n.ble 9=true):n<=PySem.sizeLine:=Nat.le_trans (Nat.le_of_ble_eq_true h) (by decide)
local macro_rules | `(⋯)=>`(by first | exact $(mkIdent `sizL) rfl | lia)
local macro_rules | `(∅)=>`(by decide)
local macro_rules | `(tactic| erw [$[$a:term],*] $[$l:location]?)=>`(tactic| simp only [$[$a:term],*] $[$l:location]?)
local macro_rules | `(())=>`(List Nat)
local macro_rules | `(#[$a,*])=>if a.getElems.size>1 then `(⟨$a,*⟩) else Lean.Macro.throwUnsupported
open List renaming toArray→w4
open PySem.Value renaming ref→u9
open PySem.Value renaming none→u6
open PySem.PassesOwn renaming never→u5
open PySem.Builtin.Str renaming strSliceIndices→r9
open PySem.Builtin.Range renaming rangeSize→r8
open List renaming getElem?_eq_some_iff→BP,mem_map→BQ,mem_cons→BR,mem_append→BS,mem_singleton→BV,mem_range→BX,mem_filter→BY,all_eq_true→BZ,mem_reverse→Ca,nodup_cons→Cb,length_pos_iff→Cd,mem_iff_getElem?→Cg,mem_filterMap→Ci,any_eq_true→Ck,find?_eq_none→Cm,nodup_iff_count→Cn,pairwise_append→Co,pairwise_cons→Cp,mem_flatMap→Cq,isPerm_iff→Cr,pairwise_map→Cs,mem_replicate→Ct
open Option renaming map_eq_some_iff→BW,isSome_iff_exists→Cc,bind_eq_some_iff→Cf
open Int renaming ofNat_le→Ce
open Nat renaming lt_one_iff→Cj
local macro_rules | `(tactic| symm)=>`(tactic| decide +kernel)
local macro_rules | `(tactic| nofun)=>`(tactic| exact⟨rfl,rfl,rfl,by decide +kernel,rfl,by decide +kernel,by decide +kernel⟩)
open List renaming length_map→aa,getD_eq_getElem?_getD→ac,mem_of_getElem?→ag,getElem?_eq_getElem→ah,size_toArray→aj,length_append→am,map_cons→ao,map_append→ar,getElem?_map→au,mem_cons_of_mem→aw,replicate→ay,mem_cons_self→aC,length_cons→aF,mem_append_right→aH,map_nil→aJ,length_take→aL,range→aM,take_length→aP,sum_cons→aQ,append_assoc→aS,drop_eq_getElem_cons→aT,set_cons_zero→aW,set_cons_succ→aX,lookup_cons→aY,append_nil→aZ,map_map→bc,toArray→bf,take_of_length_le→bg,drop_of_length_le→bh,length_replicate→bj,lookup→bn,map_congr_left→bp,length_drop→bq,take_append_of_le_length→bt,mem_of_mem_take→bu,cons_append→bx,mem_cons→bF,getElem?_reverse→bG,length_nil→bH,idxOf_lt_length_of_mem→bK,mem_append_left→bL,not_mem_nil→bM,getElem?_append_right→bN,nil_append→bS,take_append_drop→bV,eq_nil_of_length_eq_zero→bW,take_zero→cq,filter_cons_of_pos→cr,replicate_succ→cz,getElem?_eq_none→cE,getElem?_append_left→cG,length_range→cL,drop_append_of_le_length→cP,filter_cons_of_neg→cQ,range_succ_eq_map→cU,range_succ→db,mem_of_mem_drop→dg,getElem?_take_of_lt→dh,length_reverse→di,getElem?_cons_zero→dj,filter_append→dk,length_filter_le→dw,take_succ_cons→dB,flatMap_append→dD,of_mem_zip→dH,forIn_cons→dI,filter_nil→dL,contains_cons→dN,zip_cons_cons→dO,map_replicate→dP,drop_zero→dQ,getElem?_cons_succ→dW,flatMap_cons→dX,getElem?_set_self→dY,map_take→d4,map_drop→d5,getElem_mem→d8,getElem?_set_ne→d9,count_cons→eg,any_map→eD,find?_some→eF,sum_nil→eG,filterMap_cons→eJ,getElem?_range→eM,replicate_zero→eN,drop_drop→eQ,find?_eq_none→eS,getElem_idxOf→eU,flatten_cons→e7,filter_congr→fg,extract_eq_drop_take→fh,mem_of_find?_eq_some→fj,drop_length→fm,mem_nil_iff→fo,map_reverse→fz,filter_cons→fA,getElem?_replicate→fF,pairwise_singleton→fG,idxOf_cons→fJ,length_singleton→fQ,forIn_nil→fS,mem_range→fX,take_take→fY,all_cons→gc,getElem_range→gp,length→gu
open PySem.Heap renaming get?_push_of_some→ae,lt_size→av,get?_push_size→aE,get?_update_other→aI,get?_update_self→bU,size_push→cj,size_update→d6
open PySem.W renaming findIn→af,nsIn→az,mg_of→aG,keepIn→aK,kitOne→aN,mg_none_of→aR,isFn→aV,kia_one→bi,fnOf→bv,mroIn→bC,emptyDict→bR,plainGet→bX,callWith_K→bZ,codeIn→cp,hasDictIn→cu,methodCall_KW→cD,kla_fn→cF,instObj→cH,plainOver→cK,subIn→cN,makesIn→cZ,specialIn→dc,looks_findIn→de,takesIn→ee,plainGet_of→eL,lookIn→eO,methodObj→eY,kitx_list→eZ,envX→ft,takerIn→fH,cellsFrom_some→fL,callWith_K0→gh,kitx_tuple→gm,set_plain→gq,kitx_dict→gr,handedIn→gv,bind_fn→gw,findObj→gx,readsIn→gy,findCls→gz,kat_nil→gB,kas_ask→gC
open Nat renaming le_refl→ak,lt_of_lt_of_le→aq,zero_le→ax,ne_of_lt→aA,le_trans→aB,lt_of_le_of_lt→ba,le_of_not_lt→bw,le_of_lt_succ→bA,lt_of_le_of_ne→bD,not_lt_zero→bI,le_of_eq→bY,le_add_right→cb,lt_of_lt_of_eq→ce,le_antisymm→cw,le_of_lt→cA,ne_of_gt→cB,succ_pos→cI,lt_irrefl→cM,succ_le_succ→cS,add_right_comm→cY,le_sub_one_of_lt→df,le_succ→dq,lt_succ_of_lt→du,lt_trans→dv,add_sub_cancel'→dC,min_eq_left→dJ,lt_add_of_pos_right→dU,min_eq_right→d7,min_self→eh,lt_or_ge→et,min_le_left→eC,zero_add→eE,mul_le_mul_right→eI,lt_trichotomy→e8,succ_mul→fk,lt_of_not_le→fq,sub_self→fB,mul_le_mul→fR,sub_lt_sub_right→gb
open Bool renaming false_ne_true→aD,and_eq_true→aU,false_eq_true→be,eq_false_or_eq_true→cJ,eq_iff_iff→dF,or_true→ef,and_false→eP,not_false→fV,and_true→gd,beq_comm→ge,not_true→gf,true_and→gg
open Int renaming toNat_natCast→aO,eq_ofNat_of_zero_le→br,emod_lt_of_pos→bE,emod_nonneg→bJ,natCast_mul→dM,lt_irrefl→eX
open PyProof.Rows renaming callWith_type1→bz,boot_sum→fW
open PySem.F renaming plainAttrs_list→bB,plain_max_loop→bQ,slot_list_append→cf,type_list_append→ci,plainAttrs_str→cX,entry_max_loop→dZ,excBase_ValueError→eW,slot_str_count→fM,type_str_count→fN,slot_str_index→fO,type_str_index→fP
open PySem.Str renaming ofString→bO,empty→eR
open PySem renaming strKind→bP,mem_of_lookup→cy,frameOf→eV,passOn→gn,call→gA
open Decidable renaming byContradiction→bT
open Option renaming bind_some→cC,getD_some→cT,getD_none→dA,isSome_map→e9,join_some→fu,join_none→fw
open Array renaming length_toList→eK,getD→fZ,toList_append→gk
open PySem renaming wpAny_bind→tw,wpAny_pure→tz,mainGlobals→tB,starEach→tD,sizeLine→tE
open PySem.W renaming Frag→tF
open PySem renaming Addr→tG,Value→tH,wpAny→tI,Shared→tJ,Str→tK,Program→tL,Stmt→tM,compareOp→tN,wpAny_holding→tO,World→tP,wpAny_field→tQ,keywordEach→tR,backTo→tS,Heap→tT,wpAny_truthy_bool→tU,strIterType→tV,wpAny_Call_Name_kw→tW,bootBuiltins→tY,sizeLine_eq→tZ,backToKw→Aa,wpAny_standAt→Ab,wpAny_seqItems→Ac,wpAny_loadPart_at→Ad,wpAny_execs_nil→Ae,Around→Af,wpAny_noRaise→Ag,wpAny_setField→Ah,IsPair→Ai,wpAny_passesOwn→Aj,wpAny_execs_cons→Ak,wpAny_setField_rec→Al,wpAny_mono→Am,FuncData→An,wpAny_pyIter_list→Ao,wpAny_call→Ap,Expr→Aq,codeAny_mono→Ar,codeAny→As,Obj→Au,wpAny_isSubtype_exc→Av,codeAny_builtin→Aw,wpAny_letGo→Ax,wpAny_tryCatch→Ay,plainObj_wpAny_Assign_Attribute→Az,wpAny_attempt→AA,codeAny_call_builtin→AB,NameKind→AC,Scope→AF,IsZip→AG,wpAny_Assign_Name→AH,wpAny_comprehension_free→AI,wpAny_getItem_str_slice→AJ,wpAny_call_entry→AK,wpAny_Try_except→AL,wpAny_rule→AM,wpAny_pyNext_range_end→AN,wpAny_pyNext_list_item→AO,wpAny_pyIter_rangeiter→AQ,wpAny_updateSeq→AS,wpAny_pyNext_list_end→AT,codeAny_handlers_test→AU,Tok→AV,wpAny_updateSeq_pair→AW,wpAny_pyIter_revIter→AX,wpAny_newFunctionEnv→AY,wpAny_loadPart→AZ,recursionLimit→Ba,excClassObj→Bb,IsRangeIter→Bc,BindsTo→Bd,wpAny_handleBy_cons→Be,wpAny_onRaise→Bf,wpAny_newList→Bg,ExceptHandler→Bj,wpAny_pyIter_tuple→Bk,wpAny_pyIter_range→Bl,wpAny_pyIter_enum→Bm,wpAny_newObj_type→Bn,wpAny_assign_Name→Bo,wpAny_Return_some→Bp,wpAny_pyIter_zip→Br,wpAny_lookBehind→Bs,wpAny_getItem_of→Bu,Arguments→Bv,isCodeTable→Bw,CmpOp→Bx,Keyword→By,wpAny_Name→Bz,Env→BB,TriplesOk→BC,Pos→BD,Paired→BE
open PyProof.Rows renaming seqObj→tX,envOfC→AD,AllBare→AE,subscriptTail_builtinR→AR,subscriptTail→Bh,IntsAre→Bq,Subscript_→BA,Call_→BF
open PySem.W renaming KasT→BH
open Option renaming some→BJ,none→BK
open Bool renaming true→BL,false→BM
open PySem PySem.Spec PyProof.Rows
local macro_rules | `(tactic| change $t:term)=>`(tactic| refine $(mkIdent `zj) (λ$(mkIdent `σ) $(mkIdent `H')=>$t) ?_ ?_)
local macro_rules | `(tactic| intros $xs*)=>`(tactic| (intro $(mkIdent `BN):ident $(mkIdent `s):ident $(mkIdent `σ):ident $(mkIdent `H):ident;intro $[$(xs.map λx=>(⟨x.raw⟩:Lean.TSyntax `term))]*))
def z9:=@if_neg
def y9:=@if_pos
def y6:=@absurd
def y4:=@decide_eq_false
def y3:=@decide_eq_true
def w9:=@of_decide_eq_true
set_option Elab.async false
set_option linter.all false
set_option maxRecDepth 100000
set_option maxHeartbeats 0
set_option compiler.extract_closed false
namespace L2
mutual section
abbrev Key:=Sum Int tK
def zeC:Key->tH->Bool
 | .inl k,v=>Value.isInt k v
 | .inr x,v=>Value.isStrOf x v
def zhU(w:tP):Key->Int
 | .inl k=>hashInt k
 | .inr x=>hashStr w x
theorem yu:∀{k:Key} {v:tH},zeC k v=BL->(∃i t,k=Sum.inl i/\v=Value.int i t)\/(∃x t,k=Sum.inr x/\v=Value.str x t)
 | .inl i,v,h=>by
  let#[t,e]:=Value.isInt_shape (k:=i) (v:=v) h;exact .inl #[i,t,rfl,e]
 | .inr x,v,h=>by
  let#[t,e]:=Value.isStrOf_shape (x:=x) (v:=v) h;exact .inr #[x,t,rfl,e]
def zei(a b:Int):decide ((Sum.inl a:Key)=Sum.inl b)=(a == b):=by
 by_cases e:a=b
 ·subst e;simp
 ·have h:¬ (Sum.inl a:Key)=Sum.inl b:=λq=>e (Sum.inl.inj q);rw[y4 h];exact (beq_eq_false_iff_ne.mpr e).symm
def zeW(a b:tK):decide ((Sum.inr a:Key)=Sum.inr b)=decide (a=b):=by
 by_cases e:a=b
 ·subst e;simp
 ·have h:¬ (Sum.inr a:Key)=Sum.inr b:=λq=>e (Sum.inr.inj q);rw[y4 h,y4 e]
def zfy(a:Int)(b:tK):decide ((Sum.inl a:Key)=Sum.inr b)=BM:=y4 (λq=>nomatch q)
def zeJ(a:tK)(b:Int):decide ((Sum.inr a:Key)=Sum.inl b)=BM:=y4 (λq=>nomatch q)
def Wm(prog:tL)(w:tP):PySem.KeyKind prog w Key where
 is:=zeC
 hash:=zhU w
 inj:=λv a b ha hb=>by
  rcases yu ha with ⟨i,t,rfl,rfl⟩ | ⟨x,t,rfl,rfl⟩
  ·rcases yu hb with ⟨j,u,rfl,e⟩ | ⟨y,u,rfl,e⟩
   ·injection e with e1 _;rw[e1]
   ·exact nomatch e
  ·rcases yu hb with ⟨j,u,rfl,e⟩ | ⟨y,u,rfl,e⟩
   ·exact nomatch e
   ·injection e with e1 _;rw[e1]
 byValue:=λk v h=>by
  rcases yu h with ⟨i,t,rfl,rfl⟩ | ⟨x,t,rfl,rfl⟩ <;> rfl
 pyHash:=λhv h=>by
  rcases yu hv with ⟨i,t,rfl,rfl⟩ | ⟨x,t,rfl,rfl⟩
  ·exact wpAny_pyHash_int h
  ·exact wpAny_pyHash_str h
 eqBool:=λhu hv h=>by
  rcases yu hu with ⟨i,t,rfl,rfl⟩ | ⟨x,t,rfl,rfl⟩
  ·rcases yu hv with ⟨j,u,rfl,rfl⟩ | ⟨y,u,rfl,rfl⟩
   ·rw[zei]at h;exact wpAny_eqBool_int h
   ·rw[zfy]at h;exact SeqAt.EqAt.int_str i t y u _ _ _ _ h
  ·rcases yu hv with ⟨j,u,rfl,rfl⟩ | ⟨y,u,rfl,rfl⟩
   ·rw[zeJ]at h;exact SeqAt.EqAt.str_int x t j u _ _ _ _ h
   ·rw[zeW]at h;exact wpAny_eqBool_str h
 «strs»:=λk x t v h=>by
  rcases yu h with ⟨i,u,rfl,e⟩ | ⟨y,u,rfl,e⟩
  ·exact nomatch e
  ·injection e with e1 _;subst e1;cases v <;> rfl
inductive V where
 | non | bl (b:Bool) | int (i:Int) | str (x:tK) | byt (b:Array UInt8) | flt (b:UInt64) | ref (a:tG) | ty (n:String)
 deriving DecidableEq
def RelV:V->tH->Prop
 | .non,u=>u=u6
 | .bl b,u=>u=Value.bool b
 | .int i,u=>∃t,u=Value.int i t
 | .str x,u=>∃t,u=Value.str x t
 | .byt b,u=>∃t,u=Value.bytes b t
 | .flt b,u=>∃t,u=Value.float b t
 | .ref a,u=>u=u9 a
 | .ty n,u=>u=Value.type n
abbrev Vals:List V->List tH->Prop:=BE RelV
def Vals.length(r:Vals xs us):xs.length=us.length:=Paired.length r
theorem Vals.get:∀{xs:List V} {us:List tH} {i:Nat} {x:V},Vals xs us->xs[i]? = BJ x->∃u,us[i]? = BJ u/\RelV x u
 | _,_,_,_,.nil,e=>by simp at e
 | _,_,0,_,.cons r _,e=>by simp at e;subst e;exact#[_,rfl,r]
 | _,_,i+1,x,.cons _ t,e=>by
  let#[u,h1,h2]:=Vals.get (i:=i) (x:=x) t ↥e;exact#[u,by simpa using h1,h2]
theorem Vals.set(r:RelV x u):∀{xs:List V} {us:List tH} (i:Nat),Vals xs us->Vals (xs.set i x) (us.set i u)
 | _,_,_,.nil=>.nil
 | _,_,0,.cons _ t=>.cons r t
 | _,_,i+1,.cons q t=>.cons q (Vals.set r i t)
theorem Vals.append(h:Vals xs us)(s:Vals ys ws):Vals (xs ++ ys) (us ++ ws):=by
 induction h with
 | nil=>exact s
 | cons r t ih=>exact .cons r ih
theorem Vals.take:∀{xs:List V} {us:List tH} (n:Nat),Vals xs us->Vals (xs.take n) (us.take n)
 | _,_,0,_=>.nil
 | _,_,_+1,.nil=>.nil
 | _,_,n+1,.cons r t=>.cons r (Vals.take n t)
theorem Vals.drop:∀{xs:List V} {us:List tH} (n:Nat),Vals xs us->Vals (xs.drop n) (us.drop n)
 | _,_,0,r=>r
 | _,_,_+1,.nil=>.nil
 | _,_,n+1,.cons _ t=>Vals.drop n t
def RelO:Option V->Option tH->Prop
 | some v,BJ u=>RelV v u
 | none,BK=>True
 | _,_=>False
def KV{κ:Type}:List (κ × V)->List (κ × tH)->Prop:=BE λ(p:κ × V) (q:κ × tH)=>p.1=q.1/\RelV p.2 q.2
def kV:Key->V
 | .inl i=>.int i
 | .inr x=>.str x
inductive HO where
  | lst (xs:List V)
  | tup (xs:List V)
  | dK (kvs:List (Key × V)) | dT (kvs:List (List Key × V))
  | set (S:Int->Bool) (n:Nat)
  | ins (C dx:tG) (fs:List (tK × V))
  | own (x:tG)
  | xd (fs:List (tK × V))
  | met (f x:tG)
  | rng (lo hi:Int)
  | frz (o:Au) (u:HO)
  | tbl (ps:Array tH)
  | ext (φ:tT->Prop)
abbrev Hp:=tG->Option HO
def upd(H:Hp)(a:tG)(o:HO):Hp:=λb=>if b=a then BJ o else H b
def zd : upd H a o a=BJ o:=by unfold upd;rw[y9 rfl]
def zo(h:b≠a):upd H a o b=H b:=by unfold upd;rw[z9 h]
def zE{H:Hp}(h:H a=BJ o)(h':H b=BK):a≠b:=by intro e;subst e;rw[h]at h';cases h'
end
section
variable(P:tL)(w:tP)
def ObjOk(H:Hp)(h:tT)(a:tG):HO->Prop
 | .lst xs=>xs.length<=tE/\∃(its:List tH) (n:Nat),Vals xs its/\h.get? a=BJ { cls:=.type "list",data:=.seq its.toArray n }
 | .tup xs=>xs.length<=tE/\∃its:List tH,Vals xs its/\IsTup h a its.toArray
 | .dK kvs=>kvs.length<=tE/\(a == sysModules)=BM/\∃vs,KV kvs vs/\h.DictOf (Wm P w) a vs
 | .dT kvs=>kvs.length<=tE/\(a == sysModules)=BM/\∃xs:List (List Key × tG × tH),
   BE (λ(p:List Key × V) (q:List Key × tG × tH)=>p.1=q.1/\H q.2.1=BJ (.tup (p.1.map kV))/\RelV p.2 q.2.2) kvs xs /\
   ∃o es ep,h.get? a=BJ o/\o.ExactDict/\o.data=.dict es ep/\es.toList=xs.map (entryOfKey (tupleKind (Wm P w)))/\(xs.map (·.1)).Nodup
 | .set S n=>h.SetOf (intKind P w) a S n
 | .ins C dx fs=>H dx=BJ (.own a)/\fs.length<=1000/\dx≠a/\h.get? a=BJ (cH C dx) /\
   ∃mA,h.Ns1 dx mA/\(∀f,RelO (fs.lookup f) (mA f))/\PySem.Within mA (fs.map (·.1))
 | .own _=>∃o,h.get? a=BJ o
 | .xd fs=>∃mA,h.Ns1 a mA/\∀f,RelO (fs.lookup f) (mA f)
 | .rng lo hi=>∃t u v,h.get? a=BJ { cls:=.type "range",data:=.fields (w4 [.int lo t,.int hi u,.int 1 v]) }
 | .frz o u=>h.get? a=BJ o/\ObjOk H h a u
 | .tbl ps=>h.get? a=BJ { cls:=.none,data:=.fields ps }
 | .met f x=>h.get? a=BJ (eY (.ref f) (.ref x))
 | .ext φ=>φ h/\(∃o,h.get? a=BJ o)/\∀h1 h2:tT,φ h1->(∀o,h1.get? a=BJ o->h2.get? a=BJ o)->φ h2
def HOk(H:Hp)(h:tT):Prop:=∀a o,H a=BJ o->ObjOk P w H h a o
end
mutual section
theorem ObjOk.lt(x:ObjOk P w H h a o):a<h.objs.size:=by
 cases o with
 | lst xs=>let#[_,_,_,_,e]:=x;exact av e
 | tup xs=>let#[_,_,_,p]:=x;exact p.lt
 | dK kvs=>let#[_,_,_,_,o,_,_,e,_]:=x;exact av e
 | dT kvs=>let#[_,_,_,_,o,_,_,e,_]:=x;exact av e
 | set S n=>let#[o,_,_,_,e,_]:=x;exact av e
 | ins C dx fs=>let#[_,_,_,e,_]:=x;exact av e
 | own y=>let#[_,e]:=x;exact av e
 | xd fs=>let#[_,#[_,_,_,e,_],_]:=x;exact av e
 | rng lo hi=>let#[_,_,_,e]:=x;exact av e
 | frz ob u=>let#[e,_]:=x;exact av e
 | tbl ps=>exact av (show h.get? a=BJ _ from x)
 | met f y=>exact av (show h.get? a=BJ _ from x)
 | ext φ=>let#[_,#[_,e],_]:=x;exact av e
theorem Paired.mapP(h:BE F l₁ l₂)(f:∀a b,F a b->G a b):BE G l₁ l₂:=by
 induction h with
 | nil=>exact .nil
 | cons r t ih=>exact .cons (f _ _ r) ih
theorem ObjOk.stay(x:ObjOk P w H h a o)(k:∀b u,(b=a\/H b=BJ (.own a))->h.get? b=BJ u->h'.get? b=BJ u)(ho:∀b,H b=BJ (.own a)->H' b=BJ (.own a)) (ht:∀b xs,H b=BJ (.tup xs)->H' b=BJ (.tup xs)):ObjOk P w H' h' a o:=by
 induction o with
 | lst xs=>let#[z,its,n,r,e]:=x;exact#[z,its,n,r,k _ _ (.inl rfl) e]
 | tup xs=>let#[z,its,r,ob,e,c]:=x;exact#[z,its,r,ob,k _ _ (.inl rfl) e,c]
 | dK kvs=>let#[z,y,vs,r,ob,es,ep,e,c]:=x;exact#[z,y,vs,r,ob,es,ep,k _ _ (.inl rfl) e,c]
 | dT kvs =>
  let#[z,y,xs,r,ob,es,ep,e,c]:=x;exact#[z,y,xs,Paired.mapP r λp q z=>#[z.1,ht _ _ z.2.1,z.2.2],ob,es,ep,k _ _ (.inl rfl) e,c]
 | set S n=>let#[ob,es,ep,t,e,c]:=x;exact#[ob,es,ep,t,k _ _ (.inl rfl) e,c]
 | ins C dx fs =>
  let#[d,z,ne,e,mA,#[od,es,ep,e2,c],r]:=x;exact#[ho _ d,z,ne,k _ _ (.inl rfl) e,mA,#[od,es,ep,k _ _ (.inr d) e2,c],r]
 | own y=>let#[ob,e]:=x;exact#[ob,k _ _ (.inl rfl) e]
 | xd fs=>let#[mA,#[od,es,ep,e,c],r]:=x;exact#[mA,#[od,es,ep,k _ _ (.inl rfl) e,c],r]
 | rng lo hi=>let#[t,u,v,e]:=x;exact#[t,u,v,k _ _ (.inl rfl) e]
 | frz ob u ih=>let#[e,q]:=x;exact#[k _ _ (.inl rfl) e,ih q]
 | tbl ps =>
  have e:h.get? a=BJ { cls:=.none,data:=.fields ps }:=x;show h'.get? a=BJ { cls:=.none,data:=.fields ps };exact k a _ (.inl rfl) e
 | met f y =>
  have e:h.get? a=BJ (eY (.ref f) (.ref y)):=x;show h'.get? a=BJ (eY (.ref f) (.ref y));exact k a _ (.inl rfl) e
 | ext φ=>let#[p,#[o,e],st]:=x;exact#[st _ _ p λo q=>k _ _ (.inl rfl) q,#[o,k _ _ (.inl rfl) e],st]
def HOk.lt(x:HOk P w H h)(e:H a=BJ o):a<h.objs.size:=(x a o e).lt
theorem HOk.fresh(x:HOk P w H h)(e:h.objs.size<=a):H a=BK:=by
 cases q:H a with
 | none=>rfl
 | some u=>exact y6 (aq (x.lt q) e) (cM _)
def HOk.kept(x:HOk P w H h)(k:∀b u,h.get? b=BJ u->h'.get? b=BJ u):HOk P w H h':=λa o e =>
 (x a o e).stay (λb u Z q=>k b u q) (λZ q=>q) λZ Z q=>q
def HOk.laid(x:HOk P w H h)(k:∀b u,h.get? b=BJ u->h'.get? b=BJ u)(hp:h.objs.size<=a)(new:ObjOk P w (upd H a o) h' a o):HOk P w (upd H a o) h':=λb u e=>by
 have hn:=x.fresh hp;by_cases hb:b=a
 ·subst hb;rw[zd]at e;cases e;exact new
 ·rw[zo hb]at e;exact (x b u e).stay (λc v Z q=>k c v q) (λc q=>by rw[zo (zE q hn)];exact q) λc xs q=>by rw[zo (zE q hn)];exact q
def Rd(H:Hp)(a:tG)(u:HO):Prop:=H a=BJ u\/∃o,H a=BJ (.frz o u)
def Rd.ok(r:Rd H a u)(x:HOk P w H h):ObjOk P w H h a u:=by
 rcases r with r | ⟨o,r⟩
 ·exact x a u r
 ·let#[_,q]:=x a _ r;exact q
def Mut:Option HO->Prop
 | some (.lst _)=>True
 | some (.dK _)=>True
 | some (.dT _)=>True
 | some (.set _ _)=>True
 | some (.ins _ _ _)=>True
 | some (.ext _)=>True
 | _=>False
def HOk.write(ok:HOk P w H h)(mu:Mut (H x))(he:e=x\/H e=BJ (.own x))(k:∀b u,b≠e->h.get? b=BJ u->h'.get? b=BJ u)(heo:∃u,h'.get? e=BJ u)(new:ObjOk P w (upd H x o') h' x o'):HOk P w (upd H x o') h':=λb u q=>by
 have nown:∀c y,H c=BJ (.own y)->c≠x:=λc y r z=>by subst z;rw[r]at mu;exact mu
 have ntup:∀c xs,H c=BJ (.tup xs)->c≠x:=λc xs r z=>by subst z;rw[r]at mu;exact mu
 by_cases hb:b=x
 ·subst hb;rw[zd]at q;cases q;exact new
 ·rw[zo hb]at q;by_cases hbe:b=e
  ·have q':H b=BJ (.own x):=by
    rcases he with z | z
    ·exact y6 (hbe.trans z) hb
    ·rw[hbe];exact z
   rw[q]at q';cases q';let#[v,hv]:=heo;exact#[v,by rw[hbe];exact hv]
  ·refine (ok b u q).stay (λc v hc r=>k c v ?_ r) (λc r=>by rw[zo (nown c b r)];exact r) λc xs r=>by rw[zo (ntup c xs r)];exact r
   rcases hc with rfl | hc
   ·exact hbe
   ·rintro rfl;rcases he with z | z
    ·exact nown c b hc z
    ·rw[hc]at z;cases z;exact hb rfl
structure Un(fs ex:List tG)(H H':Hp)(h h':tT):Prop where
 keep:∀b o,h.get? b=BJ o->H b=BK->b ∉ fs->b ∉ ex->h'.get? b=BJ o
 slot:∀b o,h.get? b=BJ o->H b=BK->b ∈ fs->b ∉ ex->∃sl,h'.get? b=BJ { o with slots:=sl }
 free:∀b o,h.get? b=BJ o->H b=BK->b ∉ ex->H' b=BK
 there:∀b o,h.get? b=BJ o->b ∉ ex->∃o',h'.get? b=BJ o'
 tups:∀b xs,H b=BJ (.tup xs)->H' b=BJ (.tup xs)
 frzs:∀b o u,H b=BJ (.frz o u)->H' b=BJ (.frz o u)
 tbls:∀b ps,H b=BJ (.tbl ps)->∃more,H' b=BJ (.tbl (ps ++ more))
def Un.any(u:Un fs ex H H1 h h1)(q:h.get? b=BJ ob)(n:H b=BK)(hx:b ∉ ex):∃sl,h1.get? b=BJ { ob with slots:=sl }:=by
 by_cases hb:b ∈ fs
 ·exact u.slot b ob q n hb hx
 ·exact#[ob.slots,u.keep b ob q n hb hx]
def Un.kept(k:∀b u,h.get? b=BJ u->h'.get? b=BJ u):Un fs ex H H h h' :=
 #[λb ob q Z Z Z=>k b ob q,λb ob q Z Z Z=>#[ob.slots,k b ob q],λZ Z Z n Z=>n,λb ob q Z=>#[ob,k b ob q],λZ Z q=>q,λZ Z Z q=>q,λZ ps q=>#[#[],by rw[q];simp]]
def Un.refl:Un fs ex H H h h:=Un.kept λZ Z q=>q
def Un.laid(k:∀b u,h.get? b=BJ u->h'.get? b=BJ u)(hp:h.objs.size<=a)(hn:H a=BK):Un fs ex H (upd H a o) h h' where
 keep:=λb u q Z Z Z=>k b u q
 slot:=λb u q Z Z Z=>#[u.slots,k b u q]
 free:=λb u q n Z=>by rw[zo (aA (aq (av q) hp))];exact n
 there:=λb u q Z=>#[u,k b u q]
 tups:=λb xs q=>by rw[zo (zE q hn)];exact q
 frzs:=λb u xs q=>by rw[zo (zE q hn)];exact q
 tbls:=λb ps q=>#[#[],by rw[zo (zE q hn),q];simp]
def Un.write(mu:Mut (H x))(he:e=x\/H e=BJ (.own x))(k:∀b u,b≠e->h.get? b=BJ u->h'.get? b=BJ u)(heo:∃u,h'.get? e=BJ u):Un fs ex H (upd H x o) h h':=by
 have hx:∀b,H b=BK->b≠x:=λb n z=>by subst z;rw[n]at mu;exact mu
 have hb:∀b,H b=BK->b≠e:=λb n z=>by
  subst z;rcases he with r | r
  ·exact hx b n r
  ·rw[n]at r;cases r
 have hm:∀b u,H b=BJ u->¬ Mut (BJ u)->b≠x:=λb u q nm z=>by subst z;rw[q]at mu;exact nm mu
 refine#[λb u q n Z Z=>k b u (hb b n) q,λb u q n Z Z=>#[u.slots,k b u (hb b n) q],λb u q n Z=>by rw[zo (hx b n)];exact n,λb u q Z=>?_,
  λb xs q=>by rw[zo (hm b _ q λz=>z)];exact q,λb u xs q=>by rw[zo (hm b _ q λz=>z)];exact q,λb ps q=>#[#[],by rw[zo (hm b _ q λz=>z),q];simp]]
 by_cases hbe:b=e
 ·subst hbe;exact heo
 ·exact#[u,k b u hbe q]
def trk(h:tT)(H:Hp):List tG:=(aM h.objs.size).filter λa=>(H a).isSome
def U1(h:tT)(H:Hp):tT:=PySem.W.hideAll h (trk h H)
def JC(h:tT)(H:Hp):(U1 h H).objs.size=h.objs.size:=PySem.W.hideAll_size _ _
def WP(e:h.get? b=BJ o)(n:H b=BK):(U1 h H).get? b=BJ o :=
 PySem.W.hideAll_get _ e λhm=>by
  have q:(H b).isSome=BL:=(BY.mp hm).2;rw[n]at q;simp at q
theorem zcS(e:(U1 h H).get? b=BJ o):h.get? b=BJ o/\H b=BK:=by
 have e':h.get? b=BJ o:=PySem.W.of_hideAll (trk h H) e;refine#[e',?_]
 cases q:H b with
 | none=>rfl
 | some x =>
  have hm:b ∈ trk h H:=BY.mpr #[BX.mpr (av e'),by simp [q]];have z:(U1 h H).get? b=BK:=PySem.W.hideAll_none (trk h H) hm;rw[z]at e;cases e
def zcQ(g h:tT)(L:tG):List (tG × Au):=(aM h.objs.size).filterMap λa=>if a=L\/(g.get? a).isSome=BL then BK else (h.get? a).map λo=>(a,o)
def rest(g h:tT)(L d:tG):List (tG × Au):=(zcQ g h L).filter λp=>decide (p.1≠d)
structure Mod(K:tF)(mg:tK->Option tH)(base:tT):Prop where
 kin:K.In base
 glob:base.Ns tB mg
 blt:∃mb,base.Ns builtinsNs mb/\∀x:tK,x≠"__name__"->mb x=tY x
 nolimit:base.NoLimit
structure Cx where
 prog:tL
 w:tP
 K:tF
 mg:tK->Option tH
 base:tT
 A:Af
 N:List tK
 s₀:tJ
 H₀:Hp
 env:BB
 outer:List BB
 stack:List BB
 ex:List tG
 fn:tK->Bool
 calm:Bool
 pn:List (tG × Au)
 xe:tH->tJ->Prop
def frs(l:List BB):List tG:=l.filterMap (·.frame)
abbrev Cx.fs(X:Cx):List tG:=frs X.outer
def Vis(sc:AF)(x:tK):Prop:=sc.names.lookup x=BJ .local\/sc.names.lookup x=BJ .cell\/sc.names.lookup x=BJ .free
def Loc(sc:AF)(x:tK):Prop:=sc.names.lookup x=BJ .local\/sc.names.lookup x=BJ .cell
def zh3(env:BB)(h:tT)(m:tK->Option tH)(x:tK)(u:tH):Prop :=
 (env.kindOf x=BJ .local/\m x=BJ u)\/((env.kindOf x=BJ .cell\/env.kindOf x=BJ .free)/\∃c,env.cells.lookup x=BJ c/\h.IsCell c (BJ u))
structure Cx.Ok(X:Cx):Prop where
 mod:Mod X.K X.mg X.base
 kind:X.env.scope.kind=.function
 glob:X.env.globals=tB
 blt:X.env.builtins=builtinsNs
 above:X.s₀.heap.objs.size<=X.env.locals
 inj:∀x y c,X.env.cells.lookup x=BJ c->X.env.cells.lookup y=BJ c->x=y
 has:∀x,(X.env.kindOf x=BJ .cell\/X.env.kindOf x=BJ .free)->∃c,X.env.cells.lookup x=BJ c
 cab:∀x c,X.fn x=BL->X.env.cells.lookup x=BJ c->X.s₀.heap.objs.size<=c
 hd:X.calm=BL->X.A.handled=BK
 frames:X.A.frames=BJ X.stack
 stk:X.stack=X.outer\/(X.stack=X.env::X.outer/\X.env.frame=BJ X.env.locals)
 exf:∀b ∈ X.ex,b≠X.env.locals/\∀x c,X.env.cells.lookup x=BJ c->c≠b
 bs:∀b o,X.base.get? b=BJ o->X.s₀.heap.get? b=BJ o/\X.H₀ b=BK
 bsz:X.base.objs.size<=X.s₀.heap.objs.size
 noex:∀b o,X.base.get? b=BJ o->b ∉ X.ex
 exfs:∀b ∈ X.ex,b ∉ X.fs
 funs:X.s₀.heap.FunFrames X.base X.outer
 frf:∀b ∈ X.fs,X.H₀ b=BK
structure Inv(X:Cx)(BN:List (tG × Au))(σ:List (Option V))(H:Hp)(s:tJ):Prop where
 ok:X.Ok
 os:s.os=X.s₀.os
 bare:AE s.gens
 base:Un X.fs X.ex X.H₀ H X.s₀.heap s.heap
 loc:∃m,s.heap.Ns X.env.locals m/\∀(i:Nat) (x:tK) (v:V),X.N[i]? = BJ x->σ[i]? = BJ (BJ v)->Vis X.env.scope x->∃u,RelV v u/\zh3 X.env s.heap m x u
 cell:∀x c,X.env.cells.lookup x=BJ c->∃v,s.heap.IsCell c v
 free:H X.env.locals=BK
 freeC:∀x c,X.env.cells.lookup x=BJ c->H c=BK
 pin:∀p ∈ X.pn ++ BN,s.heap.get? p.1=BJ p.2/\H p.1=BK/\p.1≠X.env.locals/\p.1 ∉ X.fs/\∀v,p.2.data≠.cell v
 hok:HOk X.prog X.w H s.heap
 len:σ.length=X.N.length
def Cx.Ok.nofr{X:Cx}(ok:X.Ok)(e:X.base.get? b=BJ o):b ∉ X.fs:=λhb=>by
 have:=(ok.funs.mem hb).1;rw[e]at this;cases this
def Inv.bs(I:Inv X BN σ H s):∀b o,X.base.get? b=BJ o->s.heap.get? b=BJ o/\H b=BK:=λb o e =>
 #[I.base.keep b o (I.ok.bs b o e).1 (I.ok.bs b o e).2 (I.ok.nofr e) (I.ok.noex b o e),I.base.free b o (I.ok.bs b o e).1 (I.ok.bs b o e).2 (I.ok.noex b o e)]
def Inv.bk(I:Inv X BN σ H s):∀b o,X.base.get? b=BJ o->s.heap.get? b=BJ o:=λb o e=>(I.bs b o e).1
def Inv.mod(I:Inv X BN σ H s):Mod X.K X.mg X.base:=I.ok.mod
def Inv.kIn(I:Inv X BN σ H s):X.K.In s.heap:=I.ok.mod.kin.keeps I.bk
def Inv.nolimit(I:Inv X BN σ H s):s.heap.NoLimit:=I.ok.mod.nolimit.keeps I.bk
def Inv.fr(I:Inv X BN σ H s):∃m,Fr X.base X.env.locals s.heap m :=
 let #[m,hn,_]:=I.loc
 #[m,hn,I.bk,aB I.ok.bsz I.ok.above]
def Inv.lt(I:Inv X BN σ H s):X.env.locals<s⁻¹:=let #[_,hn,_]:=I.loc;hn.lt
def Inv.sz(I:Inv X BN σ H s):X.s₀.heap.objs.size<=s⁻¹:=aB I.ok.above (cA I.lt)
def Inv.nofs(I:Inv X BN σ H s)(h:s⁻¹<=a):a ∉ X.fs:=λhb=>by
 let#[_,o,ho,_]:=I.ok.funs.mem hb;exact y6 (aq (av ho) (aB I.sz h)) (cM _)
def Inv.cne(I:Inv X BN σ H s):∀x c,X.env.cells.lookup x=BJ c->c≠X.env.locals:=λx c e z=>by
 let#[v,o,ho,hd]:=I.cell x c e;let#[m,#[o',es,ep,ho',hd',_],_]:=I.loc;rw[z,ho']at ho;cases ho;rw[hd']at hd;cases hd
def Inv.funs(I:Inv X BN σ H s):s.heap.FunFrames X.base X.outer:=by
 have all:∀(l:List BB),(∀b ∈ frs l,b ∈ X.fs)->X.s₀.heap.FunFrames X.base l->s.heap.FunFrames X.base l:=by
  intro l
  induction l with
  | nil=>intro _ _;trivial
  | cons env r ih =>
   intro hs hl;let#[hk,#[L,o,hf,hn,ho,hd],hr]:=hl;have hL:L ∈ X.fs:=hs L (by unfold frs;rw[eJ,hf];exact aC);let#[sl,e]:=I.base.slot L o ho (I.ok.frf L hL) hL λz=>I.ok.exfs L z hL;exact#[hk,#[L,_,hf,hn,e,hd],ih (λb hb=>hs b (by unfold frs;rw[eJ,hf];exact aw _ hb)) hr]
 exact all X.outer (λZ hb=>hb) I.ok.funs
def Inv.stack(I:Inv X BN σ H s):s.heap.FunFrames X.base X.stack:=by
 rcases I.ok.stk with e | ⟨e,hf⟩
 ·rw[e];exact I.funs
 ·rw[e];let#[m,hn,_]:=I.loc;refine .cons (by rw[I.ok.kind];decide) hf hn ?_ I.funs;exact Heap.get?_none_of_le (aB I.ok.bsz I.ok.above)
def Inv.stkSub(I:Inv X BN σ H s):∀b ∈ frs X.stack,b ∈ X.env.locals::X.fs:=λb hb=>by
 rcases I.ok.stk with e | ⟨e,hf⟩
 ·rw[e]at hb;exact aw _ hb
 ·rw[e]at hb;unfold frs at hb;rw[eJ,hf]at hb;exact hb
def Inv.stkFree(I:Inv X BN σ H s):∀b ∈ frs X.stack,H b=BK:=λb hb=>by
 rcases BR.mp (I.stkSub b hb)with e | hb
 ·rw[e];exact I.free
 ·let#[_,o,ho,_]:=I.ok.funs.mem hb;exact I.base.free b o ho (I.ok.frf b hb) λz=>I.ok.exfs b z hb
def Inv.step{ch:List tG}(I:Inv X BN σ H s)(hch:∀b ∈ ch,(b ∈ X.ex\/X.s₀.heap.objs.size<=b)/\b≠X.env.locals/\(∀x c,X.env.cells.lookup x=BJ c->c≠b)/\∀p ∈ X.pn ++ BN,p.1≠b)(keep:∀b o,b≠X.env.locals->b ∉ X.fs->b ∉ ch->s.heap.get? b=BJ o->H b=BK->h'.get? b=BJ o)(slot:∀b o,b≠X.env.locals->b ∈ X.fs->b ∉ ch->s.heap.get? b=BJ o->H b=BK->∃sl,h'.get? b=BJ { o with slots:=sl })(free:∀b o,b ∉ ch->s.heap.get? b=BJ o->H b=BK->H' b=BK)(there:∀b o,b ∉ ch->s.heap.get? b=BJ o->∃o',h'.get? b=BJ o')(tups:∀b xs,H b=BJ (.tup xs)->H' b=BJ (.tup xs))(frzs:∀b o u,H b=BJ (.frz o u)->H' b=BJ (.frz o u))(tbls:∀b ps,H b=BJ (.tbl ps)->∃more,H' b=BJ (.tbl (ps ++ more)))(ns:∀m,s.heap.Ns X.env.locals m->h'.Ns X.env.locals m)(hok:HOk X.prog X.w H' h')(hg:AE g') :
  Inv X BN σ H' { s with heap:=h',gens:=g',drawn:=d',toks:=t' }:=by
 have neL:∀b o,X.s₀.heap.get? b=BJ o->b≠X.env.locals:=λb o e=>aA (aq (av e) I.ok.above)
 have neC:∀b o,X.s₀.heap.get? b=BJ o->b ∉ X.ex->b ∉ ch:=λb o e hx hb=>by
  rcases (hch b hb).1 with z | z
  ·exact hx z
  ·exact y6 (aq (av e) z) (cM _)
 have cellK:∀x c,X.env.cells.lookup x=BJ c->∀v,s.heap.IsCell c v->h'.IsCell c v:=λx c e v ⟨o,ho,hd⟩=>by
  have nch:c ∉ ch:=λz=>(hch c z).2.2.1 x c e rfl;by_cases hc:c ∈ X.fs
  ·let#[sl,q]:=slot c o (I.cne x c e) hc nch ho (I.freeC x c e);exact#[_,q,hd]
  ·exact#[o,keep c o (I.cne x c e) hc nch ho (I.freeC x c e),hd]
 refine#[I.ok,I.os,hg,#[λb o e n hb hx=>?_,λb o e n hb hx=>?_,λb o e n hx=>?_,λb o e hx=>?_,λb xs e=>tups b xs (I.base.tups b xs e),λb o xs e=>frzs b o xs (I.base.frzs b o xs e),λb ps e=>?_],?_,λx c e=>?_,?_,λx c e=>?_,λp hp=>?_,hok,I.len]
 ·exact keep b o (neL b o e) hb (neC b o e hx) (I.base.keep b o e n hb hx) (I.base.free b o e n hx)
 ·let#[sl,e1]:=I.base.slot b o e n hb hx;let#[sl',e2]:=slot b _ (neL b o e) hb (neC b o e hx) e1 (I.base.free b o e n hx);exact#[sl',e2]
 ·let#[o',e1]:=I.base.there b o e hx;exact free b o' (neC b o e hx) e1 (I.base.free b o e n hx)
 ·let#[o',e1]:=I.base.there b o e hx;exact there b o' (neC b o e hx) e1
 ·let#[m1,e1]:=I.base.tbls b ps e;let#[m2,e2]:=tbls b _ e1;exact#[m1 ++ m2,by rw[e2,Array.append_assoc]]
 ·let#[m,hn,hl]:=I.loc;refine#[m,ns m hn,λi x v e1 e2 e3=>?_];let#[u,r,l]:=hl i x v e1 e2 e3;refine#[u,r,?_];rcases l with l | ⟨k,c,e,z⟩
  ·exact .inl l
  ·exact .inr #[k,c,e,cellK x c e _ z]
 ·let#[v,z]:=I.cell x c e;exact#[v,cellK x c e v z]
 ·let#[m,#[o,_,_,ho,_],_]:=I.loc;exact free _ o (λz=>(hch _ z).2.1 rfl) ho I.free
 ·let#[v,o,ho,hd]:=I.cell x c e;exact free c o (λz=>(hch c z).2.2.1 x c e rfl) ho (I.freeC x c e)
 ·let#[e,n,ne,nf,d]:=I.pin p hp;have nch:p.1 ∉ ch:=λz=>(hch p.1 z).2.2.2 p hp rfl;exact#[keep p.1 p.2 ne nf nch e n,free p.1 p.2 nch e n,ne,nf,d]
def Inv.un(I:Inv X BN σ H s)(u:Un X.fs [] H H' s.heap h')(hok:HOk X.prog X.w H' h'):Inv X BN σ H' { s with heap:=h',toks:=t' }:=by
 let#[m,#[o,es,ep,ho,r],_]:=id I.loc;let#[sl,hL]:=u.any ho I.free (by simp)
 exact I.step (g':=s.gens) (d':=s.drawn) (ch:=[]) (λZ z=>nomatch z) (λb o Z hb Z e n=>u.keep b o e n hb (by simp)) (λb o Z hb Z e n=>u.slot b o e n hb (by simp)) (λb o Z e n=>u.free b o e n (by simp)) (λb o Z e=>u.there b o e (by simp)) u.tups u.frzs u.tbls (λm' hm=>by
  let#[o',es',ep',ho',r']:=hm;rw[ho]at ho';cases ho'
  exact#[_,es',ep',hL,r']) hok I.bare
def Inv.call(I:Inv X BN σ H s)(u:Un (frs X.stack) ch H H' s.heap h')(hok:HOk X.prog X.w H' h')(hg:AE g')(hch:∀b ∈ ch,(b ∈ X.ex\/X.s₀.heap.objs.size<=b)/\b≠X.env.locals/\(∀x c,X.env.cells.lookup x=BJ c->c≠b)/\∀p ∈ X.pn ++ BN,p.1≠b) :
  Inv X BN σ H' { s with heap:=h',gens:=g',drawn:=d',toks:=t' }:=by
 let#[m,#[o,es,ep,ho,r],_]:=id I.loc;let#[sl,hL]:=u.any ho I.free λz=>(hch _ z).2.1 rfl
 exact I.step (ch:=ch) hch (λb o hL hb hc e n=>u.keep b o e n (λz=>(BR.mp (I.stkSub b z)).elim hL hb) hc) (λb o Z Z hc e n=>u.any e n hc) (λb o hc e n=>u.free b o e n hc) (λb o hc e=>u.there b o e hc) u.tups u.frzs u.tbls (λm' hm=>by
  let#[o',es',ep',ho',r']:=hm;rw[ho]at ho';cases ho'
  exact#[_,es',ep',hL,r']) hok hg
def Inv.turned(I:Inv X BN σ H s)(k:∀b o,b≠it->s.heap.get? b=BJ o->h'.get? b=BJ o)(hn:H it=BK)(hL:it≠X.env.locals)(h1:it ∈ X.ex\/X.s₀.heap.objs.size<=it)(h2:∀x c,X.env.cells.lookup x=BJ c->c≠it)(h3:∀p ∈ X.pn ++ BN,p.1≠it):Inv X BN σ H { s with heap:=h',toks:=t' }:=by
 have nit:∀b u,H b=BJ u->b≠it:=λb u e z=>by rw[z,hn]at e;cases e
 refine I.step (g':=s.gens) (d':=s.drawn) (ch:=[it]) (λb hb=>?_) (λb o Z Z hc e Z=>k b o (λz=>hc (by simp [z])) e) (λb o Z Z hc e Z=>#[o.slots,k b o (λz=>hc (by simp [z])) e]) (λZ Z Z Z n=>n)
  (λb o hc e=>#[o,k b o (λz=>hc (by simp [z])) e]) (λZ Z e=>e) (λZ Z Z e=>e) (λb ps e=>#[#[],by rw[e];simp]) (λm hm=>?_) (λb u e=>?_) I.bare
 ·have e:b=it:=by simpa using hb
  subst e;exact#[h1,hL,h2,h3]
 ·let#[o,es,ep,ho,r]:=hm;exact#[o,es,ep,k _ o (Ne.symm hL) ho,r]
 ·refine (I.hok b u e).stay (λc v hc q=>k c v ?_ q) (λZ q=>q) λZ Z q=>q;rcases hc with z | z
  ·rw[z];exact nit b u e
  ·exact nit c _ z
def Inv.tok(I:Inv X BN σ H s)(t:Nat):Inv X BN σ H { s with toks:=t }:=I.un (h':=s.heap) (t':=t) Un.refl I.hok
def Inv.kept(I:Inv X BN σ H s)(k:∀b u,s.heap.get? b=BJ u->h'.get? b=BJ u):Inv X BN σ H { s with heap:=h',toks:=t' }:=I.un (Un.kept k) (I.hok.kept k)
def Inv.laid(I:Inv X BN σ H s)(k:∀b u,s.heap.get? b=BJ u->h'.get? b=BJ u)(hp:s⁻¹<=a)(new:ObjOk X.prog X.w (upd H a o) h' a o) :
  Inv X BN σ (upd H a o) { s with heap:=h',toks:=t' }:=I.un (Un.laid k hp (I.hok.fresh hp)) (I.hok.laid k hp new)
def Inv.write(I:Inv X BN σ H s)(mu:Mut (H x))(he:e=x\/H e=BJ (.own x))(k:∀b u,b≠e->s.heap.get? b=BJ u->h'.get? b=BJ u)(heo:∃u,h'.get? e=BJ u)(new:ObjOk X.prog X.w (upd H x o) h' x o):Inv X BN σ (upd H x o) { s with heap:=h',toks:=t' }:=I.un (Un.write mu he k heo) (I.hok.write mu he k heo new)
def Inv.weak(I:Inv X BN σ H s)(hl:σ'.length=σ.length)(w:∀(i:Nat) v,σ'[i]? = BJ (BJ v)->σ[i]? = BJ (BJ v)):Inv X BN σ' H s :=
 #[I.ok,I.os,I.bare,I.base,let #[m,hn,hl']:=I.loc; #[m,hn,λi x v e1 e2 e3=>hl' i x v e1 (w i v e2) e3],I.cell,I.free,I.freeC,I.pin,I.hok,hl.trans I.len]
def Inv.pins_of(I:Inv X BN σ H s)(h:∀p ∈ pins',s.heap.get? p.1=BJ p.2/\H p.1=BK/\p.1≠X.env.locals/\p.1 ∉ X.fs/\∀v,p.2.data≠.cell v):Inv X pins' σ H s :=
 #[I.ok,I.os,I.bare,I.base,I.loc,I.cell,I.free,I.freeC,λp hp=>(BS.mp hp).elim (λz=>I.pin p (bL _ z)) (h p),I.hok,I.len]
def ZM{N:List tK}(hN:N.Nodup){i j:Nat}(a:N[i]? = BJ x)(b:N[j]? = BJ x):i=j:=by let#[h1,e1]:=BP.mp a;let#[h2,e2]:=BP.mp b;exact (List.getElem_inj hN).mp (e1.trans e2.symm)
def XA(I:Inv X BN σ H s)(hN:X.N.Nodup)(hi:X.N[i]? = BJ x)(hx:Loc X.env.scope x)(r:RelV v u)(h:∀s',Inv X BN (σ.set i (BJ v)) H s'->(∃a,Heap.SameBut a s.heap s'.heap/\(a=X.env.locals\/X.env.cells.lookup x=BJ a))->Q Unit.unit s')(hf:‹X.fn x=BL\/X.env.scope.names.lookup x=BJ .local›):tI M A (storeName X.env x u) Q E s:=by
 let#[m,hn,hl]:=id I.loc;have hcls:(X.env.scope.kind == .class || (X.env.scope.kind == .module && X.env.locals != X.env.globals))=BM:=by rw[I.ok.kind];rfl
 have hiσ:i<σ.length:=by rw[I.len];exact (BP.mp hi).1
 have cne:=I.cne
 have tracked:∀{a:tG} {h':tT},(∃o,s.heap.get? a=BJ o/\H a=BK)->Heap.SameBut a s.heap h'->HOk X.prog X.w H h':=λ{a h'} ha hs b ob e=>by
  let#[_,_,hfree]:=ha;refine (I.hok b ob e).stay (λc w' hc q=>(hs.2 c ?_).trans q) (λZ q=>q) λZ Z q=>q;rintro rfl;rcases hc with rfl | hc
  ·rw[hfree]at e;cases e
  ·rw[hfree]at hc;cases hc
 rcases hx with hk | hk
 ·refine wpAny_storeName_local hk hn (λh' hn' hs=>?_) hcls;let#[oL,_,_,hoL,_]:=id hn;refine h _ #[I.ok,I.os,I.bare,#[λb o e n hb hx=>?_,λb o e n hb hx=>?_,I.base.free,λb o e hx=>?_,I.base.tups,I.base.frzs,I.base.tbls],#[_,hn',λj y v' e1 e2 e3=>?_],λy c e=>?_,I.free,I.freeC,λp hp=>?_,tracked #[oL,hoL,I.free] hs,by simpa using I.len] #[_,hs,.inl rfl]
  ·exact (hs.2 b (aA (aq (av e) I.ok.above))).trans (I.base.keep b o e n hb hx)
  ·let#[sl,e1]:=I.base.slot b o e n hb hx;exact#[sl,(hs.2 b (aA (aq (av e) I.ok.above))).trans e1]
  ·let#[o',e1]:=I.base.there b o e hx;exact#[o',(hs.2 b (aA (aq (av e) I.ok.above))).trans e1]
  ·by_cases hj:j=i
   ·subst hj;rw[hi]at e1;cases e1;rw[dY hiσ]at e2;cases e2;exact#[u,r,.inl #[hk,by simp]]
   ·rw[d9 (Ne.symm hj)]at e2;let#[u',r',q]:=hl j y v' e1 e2 e3;refine#[u',r',?_];rcases q with ⟨k,e⟩ | ⟨k,c,e,z⟩
    ·refine .inl #[k,?_];have:y≠x:=λe=>hj (ZM hN e1 (e ▸ hi));simp [this,e]
    ·exact .inr #[k,c,e,z.sameBut hs (cne y c e)]
  ·let#[w',z]:=I.cell y c e;exact#[w',z.sameBut hs (cne y c e)]
  ·let#[e,n,ne,nf,d]:=I.pin p hp;exact#[(hs.2 p.1 ne).trans e,n,ne,nf,d]
 ·have hfn:X.fn x=BL:=by
   rcases hf with z | z
   ·exact z
   ·rw[z]at hk;cases hk
  let#[c,hc]:=I.ok.has x (.inl hk);let#[w',z]:=I.cell x c hc;refine wpAny_storeName_cell I.ok.kind hk hc z (λh' hc' hs=>?_);let#[oc,hoc,hocd]:=id z;refine h { s with heap:=h' } #[I.ok,I.os,I.bare,#[λb o e n hb hx=>?_,λb o e n hb hx=>?_,I.base.free,λb o e hx=>?_,I.base.tups,I.base.frzs,I.base.tbls],#[m,hn.sameBut hs (Ne.symm (cne x c hc)),λj y v' e1 e2 e3=>?_],λy c' e=>?_,I.free,I.freeC,λp hp=>?_,tracked #[oc,hoc,I.freeC x c hc] hs,by simpa using I.len] #[c,hs,.inr hc]
  ·exact (hs.2 b (aA (aq (av e) (I.ok.cab x c hfn hc)))).trans (I.base.keep b o e n hb hx)
  ·let#[sl,e1]:=I.base.slot b o e n hb hx;exact#[sl,(hs.2 b (aA (aq (av e) (I.ok.cab x c hfn hc)))).trans e1]
  ·let#[o',e1]:=I.base.there b o e hx;exact#[o',(hs.2 b (aA (aq (av e) (I.ok.cab x c hfn hc)))).trans e1]
  ·by_cases hj:j=i
   ·subst hj;rw[hi]at e1;cases e1;rw[dY hiσ]at e2;cases e2;exact#[u,r,.inr #[.inl hk,c,hc,hc']]
   ·rw[d9 (Ne.symm hj)]at e2;let#[u',r',q]:=hl j y v' e1 e2 e3;refine#[u',r',?_];rcases q with q | ⟨k,c',e,z'⟩
    ·exact .inl q
    ·refine .inr #[k,c',e,z'.sameBut hs ?_];rintro rfl;exact hj (ZM hN e1 (I.ok.inj _ _ _ e hc ▸ hi))
  ·by_cases hcc:c'=c
   ·subst hcc;exact#[_,hc']
   ·let#[w2,z2]:=I.cell y c' e;exact#[w2,z2.sameBut hs hcc]
  ·let#[e,n,ne,nf,d]:=I.pin p hp;refine#[(hs.2 p.1 ?_).trans e,n,ne,nf,d];intro q;rw[q,hoc]at e;have q':oc=p.2:=Option.some.inj e;exact d w' (by rw[<- q'];exact hocd)
def uL(I:Inv X BN σ H s)(hN:X.N.Nodup)(hi:X.N[i]? = BJ x)(hx:Loc X.env.scope x)(r:RelV v u)(h:∀s',Inv X BN (σ.set i (BJ v)) H s'->Q Unit.unit s')(hf:‹X.fn x=BL\/X.env.scope.names.lookup x=BJ .local›):tI M A (storeName X.env x u) Q E s :=
 XA I hN hi hx r (λs' I' Z=>h s' I') hf
def Inv.call'(I:Inv X BN σ H s)(ho:s'.os=s.os)(u:Un (frs X.stack) ch H H' s.heap s'.heap)(hok:HOk X.prog X.w H' s'.heap)(hg:AE s'.gens)(hch:∀b ∈ ch,(b ∈ X.ex\/X.s₀.heap.objs.size<=b)/\b≠X.env.locals/\(∀x c,X.env.cells.lookup x=BJ c->c≠b)/\∀p ∈ X.pn ++ BN,p.1≠b):Inv X BN σ H' s':=by let#[h',g',d',t',o']:=s';have e:o'=s.os:=ho;subst e;exact I.call (g':=g') (t':=t') (d':=d') u hok hg hch
abbrev XK:=tH->Option tG->Hp->Prop
abbrev St:=List (Option V)
abbrev VK:=V->Hp->Prop
abbrev TE:=St->Hp->VK->Prop
abbrev TT:=St->Hp->(Bool->Hp->Prop)->Prop
abbrev TA:=St->Hp->(List V->Hp->Prop)->Prop
structure kT where
 nx:St->Hp->Prop
 rt:VK
 bk:St->Hp->Prop:=λZ Z=>False
 ct:St->Hp->Prop:=λZ Z=>False
abbrev TS:=kT->St->Hp->Prop
def EP(X:Cx)(BN:List (tG × Au))(σ:St)(Q:VK)(u:tH)(s':tJ):Prop:=∃v H',Inv X BN σ H' s'/\RelV v u/\Q v H'
def TP(X:Cx)(BN:List (tG × Au))(σ:St)(Q:Bool->Hp->Prop)(b:Bool)(s':tJ):Prop:=∃H',Inv X BN σ H' s'/\Q b H'
def AP(X:Cx)(BN:List (tG × Au))(σ:St)(Q:List V->Hp->Prop)(us:List tH)(s':tJ):Prop:=∃vs H',Inv X BN σ H' s'/\Vals vs us/\Q vs H'
def SP(X:Cx)(BN:List (tG × Au))(D:kT)(f:Flow)(s':tJ):Prop :=
 match f with
 | .next=>∃σ' H',Inv X BN σ' H' s'/\D.nx σ' H'
 | .brk=>∃σ' H',Inv X BN σ' H' s'/\D.bk σ' H'
 | .cont=>∃σ' H',Inv X BN σ' H' s'/\D.ct σ' H'
 | .ret u=>∃v σ' H',Inv X BN σ' H' s'/\RelV v u/\D.rt v H'
def PE(X:Cx)(e:Aq)(t:TE):Prop :=
 ∀(BN:List (tG × Au)) (s:tJ) (σ:St) (H:Hp) (Q:VK),Inv X BN σ H s->t σ H Q->tI (model X.prog X.w) X.A (eval e X.env) (EP X BN σ Q) X.xe s
def PT(X:Cx)(e:Aq)(t:TT):Prop :=
 ∀(BN:List (tG × Au)) (s:tJ) (σ:St) (H:Hp) (Q:Bool->Hp->Prop),Inv X BN σ H s->t σ H Q->tI (model X.prog X.w) X.A (isTrue e X.env (eval e X.env)) (TP X BN σ Q) X.xe s
def PW(X:Cx)(e:Aq)(t:TT):Prop :=
 ∀(whole:Sem tH) (BN:List (tG × Au)) (s:tJ) (σ:St) (H:Hp) (Q:Bool->Hp->Prop),Inv X BN σ H s->t σ H Q->tI (model X.prog X.w) X.A (isTrue e X.env whole) (TP X BN σ Q) X.xe s
def PW.pt(h:PW X e t):PT X e t:=h _
def PA(X:Cx)(es:List Aq)(t:TA):Prop :=
 ∀(pos:BD) (BN:List (tG × Au)) (s:tJ) (σ:St) (H:Hp) (Q:List V->Hp->Prop),Inv X BN σ H s->t σ H Q->tI (model X.prog X.w) X.A (spliced (tS pos (tD es X.env))) (AP X BN σ Q) X.xe s
def PS(X:Cx)(st:tM)(t:TS):Prop :=
 ∀(BN:List (tG × Au)) (s:tJ) (σ:St) (H:Hp) (D:kT),Inv X BN σ H s->t D σ H->tI (model X.prog X.w) X.A (exec st X.env) (SP X BN D) X.xe s
def PSs(X:Cx)(st:List tM)(t:TS):Prop :=
 ∀(BN:List (tG × Au)) (s:tJ) (σ:St) (H:Hp) (D:kT),Inv X BN σ H s->t D σ H->tI (model X.prog X.w) X.A (execs st X.env) (SP X BN D) X.xe s
def thn(h:tI M A t Q E s)(hQ:∀a s,Q a s->Q' a s):tI M A t Q' E s:=Am h hQ λZ Z x=>x
def el5{α β:Type}{a b c:α->β->Prop}{C:Prop}(f:∀x y,a x y->b x y->c x y->C):(∃x y,a x y/\b x y/\c x y)->C:=λh=>Exists.elim h λx h=>Exists.elim h λy h=>f x y h.1 h.2.1 h.2.2
def el3{α:Type}{a b:α->Prop}{C:Prop}(f:∀x,a x->b x->C):(∃x,a x/\b x)->C:=λh=>Exists.elim h λx h=>f x h.1 h.2
def ua2{a b C:Prop}(f:a->b->C):a/\b->C:=λh=>f h.1 h.2
end
section
mutual section
variable{X:Cx}
def onSl(σ:St)(i:Nat)(p:V->Prop):Prop:=match σ[i]? with | some (BJ v)=>p v | _=>False
theorem onSl.of(h:onSl σ i p):∃v,σ[i]? = BJ (BJ v)/\p v:=by
 unfold onSl at h;split at h
 ·exact#[_,by assumption,h]
 ·exact h.elim
def onInt(x:V)(p:Int->Prop):Prop:=match x with | .int k=>p k | _=>False
def onInt.of(h:onInt x p):∃k,x=.int k/\p k:=by cases x <;> first | exact#[_,rfl,h] | exact h.elim
def onInt.to(h:∃k,x=.int k/\p k):onInt x p:=by let#[k,rfl,h]:=h;exact h
def onStr(x:V)(p:tK->Prop):Prop:=match x with | .str k=>p k | _=>False
def onStr.of(h:onStr x p):∃k,x=.str k/\p k:=by cases x <;> first | exact#[_,rfl,h] | exact h.elim
def onStr.to(h:∃k,x=.str k/\p k):onStr x p:=by let#[k,rfl,h]:=h;exact h
def onBl(x:V)(p:Bool->Prop):Prop:=match x with | .bl k=>p k | _=>False
def onBl.of(h:onBl x p):∃k,x=.bl k/\p k:=by cases x <;> first | exact#[_,rfl,h] | exact h.elim
def onBl.to(h:∃k,x=.bl k/\p k):onBl x p:=by let#[k,rfl,h]:=h;exact h
def onRef(x:V)(p:tG->Prop):Prop:=match x with | .ref k=>p k | _=>False
def onRef.of(h:onRef x p):∃k,x=.ref k/\p k:=by cases x <;> first | exact#[_,rfl,h] | exact h.elim
def onRef.to(h:∃k,x=.ref k/\p k):onRef x p:=by let#[k,rfl,h]:=h;exact h
def ym(i:Nat):TE:=λσ H Q=>onSl σ i λv=>Q v H
def tC(v:V):TE:=λZ H Q=>Q v H
def zeG(hN:X.N[i]? = BJ x)(hv:Vis X.env.scope x)(hd:‹(x ==("__debug__" : tK))=BM›)(hcd:‹(x ==("__classdict__" : tK))=BM›):PE X (.Name x pos) (ym i):=by
 intros Q I h;let#[v,e,h]:=onSl.of h;let#[m,hn,hl]:=I.loc;let#[u,r,l]:=hl i x v hN e hv;have fin:EP X BN σ Q u s:=#[v,H,I,r,h];rcases l with ⟨hk,hm⟩ | ⟨hk,c,hc,hcell⟩
 ·exact Bz (wpAny_loadName_local I.ok.kind hk hn hm fin) hd
 ·rcases hk with hk | hk
  ·exact Bz (wpAny_loadName_cell I.ok.kind hk hc hcell fin) hd
  ·exact Bz (wpAny_loadName_free I.ok.kind hk hc hcell fin hcd) hd
def zb{i j pos}:PE X (.Constant (.int i) j pos) (tC (.int i)):=λZ Z Z H Z I h=>wpAny_Constant_int #[.int i,H,I.tok _,#[_,rfl],h]
def yJ{b j pos}:PE X (.Constant (.bool b) j pos) (tC (.bl b)):=λZ Z Z H Z I h=>Constant_bool #[.bl b,H,I,rfl,h]
def yh{j pos}:PE X (.Constant .none j pos) (tC .non):=λZ Z Z H Z I h=>Constant_none #[.non,H,I,rfl,h]
def zP{x j pos}:PE X (.Constant (.str x) j pos) (tC (.str x)):=λZ Z Z H Z I h=>Calls.Constant_str #[.str x,H,I.tok _,#[_,rfl],h]
def Gl(X:Cx)(x:tK):Prop:=X.env.kindOf x=BJ .globalImplicit
def vg(I:Inv X BN σ H s)(hg:Gl X x)(hm:X.mg x=BJ u)(h:Q u s)(hd:‹(x ==("__debug__" : tK))=BM›):tI (model X.prog X.w) X.A (eval (.Name x pos) X.env) Q E s :=
 Calls.Name_function_global I.ok.kind hg (Calls.loadGlobal_global (by rw[I.ok.glob];exact I.mod.glob.keeps I.bk) hm h) hd
def vq(I:Inv X BN σ H s)(hg:Gl X x)(hm:X.mg x=BK)(hv:tY x=BJ u)(h:Q u s)(hn:‹x≠"__name__"›)(hd:‹(x ==("__debug__" : tK))=BM›):tI (model X.prog X.w) X.A (eval (.Name x pos) X.env) Q E s:=by let#[mb,h1,h2]:=I.mod.blt;exact Calls.Name_function_global I.ok.kind hg (Calls.loadGlobal_builtin (by rw[I.ok.glob];exact I.mod.glob.keeps I.bk) hm (by rw[I.ok.blt];exact h1.keeps I.bk) ((h2 x hn).trans hv) h) hd
def yy(hg:Gl X x)(hm:X.mg x=BJ u)(r:RelV v u)(hd:‹(x ==("__debug__" : tK))=BM›):PE X (.Name x pos) (tC v) :=
 λZ Z Z H Z I h=>vg I hg hm #[v,H,I,r,h] hd
def zc1(hg:Gl X x)(hm:X.mg x=BK)(hv:tY x=BJ u)(r:RelV v u)(hn:‹x≠"__name__"›)(hd:‹(x ==("__debug__" : tK))=BM›):PE X (.Name x pos) (tC v) :=
 λZ Z Z H Z I h=>vq I hg hm hv #[v,H,I,r,h] hn hd
variable{a b:Aq}{ta tb:TE}{pos:BD}
def PC(X:Cx)(op:Bx)(a b:Aq)(t:TE):Prop :=
 ∀(BN:List (tG × Au)) (s:tJ) (σ:St) (H:Hp) (Q:VK),Inv X BN σ H s->t σ H Q ->
  tI (model X.prog X.w) X.A (eval a X.env) (λv s₁=>tI (model X.prog X.w) X.A (eval b X.env) (λu s₂=>tI (model X.prog X.w) X.A (tN op v u) (EP X BN σ Q) X.xe s₂) X.xe s₁) X.xe s
def zar(b:Aq)(h:op≠.In)(h2:op≠.NotIn):behindInMarks op b=BM:=by
 have e1:(op == CmpOp.In)=BM:=by cases op <;> first | rfl | exact y6 rfl h
 have e2:(op == CmpOp.NotIn)=BM:=by cases op <;> first | rfl | exact y6 rfl h2
 cases b <;> simp [behindInMarks,e1,e2]
def xB(h:PC X op a b t)(h1:behindInMarks op b=BM:=by first | exact zar _ ∅ ∅ | rfl):PE X (.Compare a [op] [b] pos) t:=λBN s σ H Q I hw=>wpAny_Compare1 (h BN s σ H Q I hw) h1
variable{tA tB':TT}{rest:List Aq}
def zfQ(t u:TT):TT:=λσ H Q=>t σ H λc H1=>if c=BL then u σ H1 Q else Q BM H1
def tOr(t u:TT):TT:=λσ H Q=>t σ H λc H1=>if c=BL then Q BL H1 else u σ H1 Q
def zdT(t:TT):TT:=λσ H Q=>t σ H λc H1=>Q (!c) H1
theorem JJ(ha:PT X a tA):PW X (.BoolOp .And [a] pos) tA:=by
 intro wh BN s σ H Q I h;refine isTrue_and (thn (ha BN s σ H Q I h) λc s1 e=>?_)
 cases c with
 | true=>exact isTrue_and_nil e
 | false=>exact e
theorem xN(ha:PT X a tA):PW X (.BoolOp .Or [a] pos) tA:=by
 intro wh BN s σ H Q I h;refine isTrue_or (thn (ha BN s σ H Q I h) λc s1 e=>?_)
 cases c with
 | false=>exact isTrue_or_nil e
 | true=>exact e
theorem zbB(ha:PT X a tA)(hb:PW X (.BoolOp .And (b::rest) pos) tB'):PW X (.BoolOp .And (a::b::rest) pos) (zfQ tA tB'):=by
 intro wh BN s σ H Q I h;refine isTrue_and (thn (ha BN s σ H _ I h) λc s1=>el3 λH1 I1 q1=>?_)
 cases c with
 | true=>exact hb wh BN s1 σ H1 Q I1 q1
 | false=>exact#[H1,I1,q1]
theorem wA(ha:PT X a tA)(hb:PW X (.BoolOp .Or (b::rest) pos) tB'):PW X (.BoolOp .Or (a::b::rest) pos) (tOr tA tB'):=by
 intro wh BN s σ H Q I h;refine isTrue_or (thn (ha BN s σ H _ I h) λc s1=>el3 λH1 I1 q1=>?_)
 cases c with
 | true=>exact#[H1,I1,q1]
 | false=>exact hb wh BN s1 σ H1 Q I1 q1
def zX(ha:PT X a tA):PT X (.UnaryOp .Not a pos) (zdT tA):=by intros Q I h;exact isTrue_not (ha BN s σ H (λc H1=>Q (!c) H1) I h)
def VU(ta tb:TE):TE:=λσ H Q=>ta σ H λx H1=>onBl x λc=>if c=BL then tb σ H1 Q else Q (.bl BM) H1
def zfU(ta tb:TE):TE:=λσ H Q=>ta σ H λx H1=>onBl x λc=>if c=BL then Q (.bl BL) H1 else tb σ H1 Q
def V6(ta:TE):TE:=λσ H Q=>ta σ H λx H1=>onBl x λc=>Q (.bl (!c)) H1
def vP{op}(h:PE X a t):PE X (.BoolOp op [a] pos) t:=λBN s σ H Q I hw=>BoolOp_one (h BN s σ H Q I hw)
theorem vN(ha:PE X a ta)(hb:PE X (.BoolOp .And (b::rest) pos) tb):PE X (.BoolOp .And (a::b::rest) pos) (VU ta tb):=by
 intros Q I h;refine BoolOp_and (thn (ha BN s σ H _ I h) λv s1=>el5 λx H1 I1 r1 q1=>?_);let#[c,rfl,q1]:=onBl.of q1;cases r1;refine tU ?_
 cases c with
 | true=>exact hb BN s1 σ H1 Q I1 q1
 | false=>exact#[.bl BM,H1,I1,rfl,q1]
theorem zf9(ha:PE X a ta)(hb:PE X (.BoolOp .Or (b::rest) pos) tb):PE X (.BoolOp .Or (a::b::rest) pos) (zfU ta tb):=by
 intros Q I h;refine BoolOp_or (thn (ha BN s σ H _ I h) λv s1=>el5 λx H1 I1 r1 q1=>?_);let#[c,rfl,q1]:=onBl.of q1;cases r1;refine tU ?_
 cases c with
 | false=>exact hb BN s1 σ H1 Q I1 q1
 | true=>exact#[.bl BL,H1,I1,rfl,q1]
def Jg(ha:PE X a ta):PE X (.UnaryOp .Not a pos) (V6 ta):=by intros Q I h;refine UnaryOp_ (thn (ha BN s σ H _ I h) λv s1=>el5 λx H1 I1 r1 q1=>?_);let#[c,rfl,q1]:=onBl.of q1;cases r1;exact not_of (tU #[.bl (!c),H1,I1,rfl,q1])
def tIf(t:TT)(ta tb:TE):TE:=λσ H Q=>t σ H λc H1=>if c=BL then ta σ H1 Q else tb σ H1 Q
theorem vv(hc:PT X c tA)(ha:PE X a ta)(hb:PE X b tb):PE X (.IfExp c a b pos) (tIf tA ta tb):=by
 intros Q I h;refine wpAny_IfExp (thn (hc BN s σ H _ I h) λd s1=>el3 λH1 I1 q1=>?_)
 cases d with
 | true=>exact ha BN s1 σ H1 Q I1 q1
 | false=>exact hb BN s1 σ H1 Q I1 q1
end
end
mutual section
def SqL(K:tF)(H:Hp)(a:tG)(xs:List V):Prop :=
 Rd H a (.lst xs) \/
  ∃(o:Au) (its:Array tH) (n:Nat),K.lookup a=BJ o/\o.cls=.type "list"/\o.dict=BK/\o.data=.seq its n/\its.size<=tE/\Vals xs its.toList
def SqT(K:tF)(H:Hp)(a:tG)(xs:List V):Prop :=
 Rd H a (.tup xs) \/
  ∃(o:Au) (its:Array tH) (n:Nat),K.lookup a=BJ o/\o.cls=.type "tuple"/\o.data=.seq its n/\its.size<=tE/\Vals xs its.toList
def zh5:tH->Option V
 | .none=>BJ .non
 | .bool b=>BJ (.bl b)
 | .int i _=>BJ (.int i)
 | .str x _=>BJ (.str x)
 | .bytes b _=>BJ (.byt b)
 | .float b _=>BJ (.flt b)
 | .ref a=>BJ (.ref a)
 | .type n=>BJ (.ty n)
 | _=>BK
theorem RelV.abs(r:RelV x u):zh5 u=BJ x:=by
 cases x with
 | non=>cases r;rfl
 | bl _=>cases r;rfl
 | int _=>let#[t,rfl]:=r;rfl
 | str _=>let#[t,rfl]:=r;rfl
 | byt _=>let#[t,rfl]:=r;rfl
 | flt _=>let#[t,rfl]:=r;rfl
 | ref _=>cases r;rfl
 | ty _=>cases r;rfl
def RelV.inj(r:RelV x u)(q:RelV y u):x=y:=Option.some.inj (r.abs.symm.trans q.abs)
theorem Vals.inj(h:Vals xs us)(h':Vals ys us):xs=ys:=by
 induction h generalizing ys with
 | nil =>
  cases h';rfl
 | cons r t ih =>
  cases h' with
  | cons r' t'=>rw[r.inj r',ih t']
def SqL.of{K:tF}(h:H a=BJ (.lst xs)):SqL K H a xs:=.inl (.inl h)
def SqT.of{K:tF}(h:H a=BJ (.tup xs)):SqT K H a xs:=.inl (.inl h)
def Inv.list(I:Inv X BN σ H s)(h:SqL X.K H a xs):∃its:List tH,Vals xs its/\PlainL s.heap a its.toArray/\xs.length<=tE:=by
 rcases h with h | ⟨o,its,n,hk,hc,hd,hs,hz,r⟩
 ·let#[z,its,n,r,e]:=h.ok I.hok;exact#[its,r,#[_,n,e,rfl,rfl,rfl],z]
 ·refine#[its.toList,r,#[o,n,I.kIn a o hk,hc,hd,by simpa using hs],?_];have e:=r.length;erw[eK]at e;lia
def Inv.tuple(I:Inv X BN σ H s)(h:SqT X.K H a xs):∃its:List tH,Vals xs its/\IsTup s.heap a its.toArray/\xs.length<=tE:=by
 rcases h with h | ⟨o,its,n,hk,hc,hs,hz,r⟩
 ·let#[z,its,r,p]:=h.ok I.hok;exact#[its,r,p,z]
 ·refine#[its.toList,r,#[o,I.kIn a o hk,hc,n,by simpa using hs],?_];have e:=r.length;erw[eK]at e;lia
def Inv.list_inj(I:Inv X BN σ H s)(h:SqL X.K H a xs)(h':SqL X.K H a ys):xs=ys:=by
 let#[its,r,#[o,n,e,_,_,d],_]:=I.list h;let#[its',r',#[o',n',e',_,_,d'],_]:=I.list h';rw[e]at e';cases e';rw[d]at d';injection d' with d1 _;have:its=its':=by simpa using congrArg Array.toList d1
 subst this;exact r.inj r'
def Inv.tuple_inj(I:Inv X BN σ H s)(h:SqT X.K H a xs)(h':SqT X.K H a ys):xs=ys:=by
 let#[its,r,#[o,e,_,n,d],_]:=I.tuple h;let#[its',r',#[o',e',_,n',d'],_]:=I.tuple h';rw[e]at e';cases e';rw[d]at d';injection d' with d1 _;have:its=its':=by simpa using congrArg Array.toList d1
 subst this;exact r.inj r'
abbrev Cx.wish(X:Cx)(E:tH->tJ->Prop):Cx:={ X with xe:=E }
abbrev Cx.nox(X:Cx):Cx:=X.wish λZ Z=>False
def Cx.Ok.wish{X:Cx}(ok:X.Ok)(E:tH->tJ->Prop):(X.wish E).Ok :=
 #[ok.mod,ok.kind,ok.glob,ok.blt,ok.above,ok.inj,ok.has,ok.cab,ok.hd,ok.frames,ok.stk,ok.exf,ok.bs,ok.bsz,ok.noex,ok.exfs,ok.funs,ok.frf]
def Cx.Ok.unwish{X:Cx}(ok:(X.wish E).Ok):X.Ok :=
 #[ok.mod,ok.kind,ok.glob,ok.blt,ok.above,ok.inj,ok.has,ok.cab,ok.hd,ok.frames,ok.stk,ok.exf,ok.bs,ok.bsz,ok.noex,ok.exfs,ok.funs,ok.frf]
def Inv.wish(I:Inv X BN σ H s)(E:tH->tJ->Prop):Inv (X.wish E) BN σ H s:=#[I.ok.wish E,I.os,I.bare,I.base,I.loc,I.cell,I.free,I.freeC,I.pin,I.hok,I.len]
def Inv.unwish(I:Inv (X.wish E) BN σ H s):Inv X BN σ H s:=#[I.ok.unwish,I.os,I.bare,I.base,I.loc,I.cell,I.free,I.freeC,I.pin,I.hok,I.len]
theorem SP.unwish(h:SP (X.wish E) BN D f s'):SP X BN D f s':=by
 cases f with
 | next=>let#[σ',H',I,q]:=h;exact#[σ',H',I.unwish,q]
 | brk=>let#[σ',H',I,q]:=h;exact#[σ',H',I.unwish,q]
 | cont=>let#[σ',H',I,q]:=h;exact#[σ',H',I.unwish,q]
 | ret u=>let#[v,σ',H',I,r,q]:=h;exact#[v,σ',H',I.unwish,r,q]
def PSs.nox{st:List tM}(h:PSs X.nox st t):PSs X st t:=λBN s σ H D I hw =>
 Am (h BN s σ H D (I.wish _) hw) (λZ Z q=>q.unwish) λZ Z z=>False.elim z
def zal:TS:=λD σ H=>D.nx σ H
def zf2(t u:TS):TS:=λD σ H=>t { D with nx:=u D } σ H
def zp:PSs X [] zal:=λZ Z σ H Z I h=>Ae #[σ,H,I,h]
theorem zG{X:Cx}{st:tM}{rest:List tM}{t:TS}{u:TS}(h1:PS X st t)(h2:PSs X rest u):PSs X (st::rest) (zf2 t u):=by
 intros D I h;refine Ak (thn (h1 BN s σ H { D with nx:=u D } I h) λf s1 q=>?_)
 cases f with
 | next =>
  let#[σ',H',I',q]:=q;exact h2 BN s1 σ' H' D I' q
 | ret v=>exact q
 | brk=>exact q
 | cont=>exact q
theorem zg{X:Cx}{st:tM}{t:TS}(h1:PS X st t):PSs X [st] t:=by
 intros D I h;refine Ak (thn (h1 BN s σ H D I h) λf s1 q=>?_)
 cases f with
 | next=>exact Ae q
 | ret v=>exact q
 | brk=>exact q
 | cont=>exact q
def Inv.quiet(I:Inv X BN σ H s):interactive X.env=BM:=by simp [interactive,I.ok.kind]
def Ki(te:TE):TS:=λD σ H=>te σ H λZ H1=>D.nx σ H1
def xU(he:PE X e te)(hs:‹swapsWith e BK pos.line X.env=pure BM›):PS X (.Expr e pos) (Ki te):=by intros D I h;exact wpAny_Expr_any (thn (he BN s σ H _ I h) λv s1=>el5 λx H1 I1 r1 q1=>#[σ,H1,I1,q1]) I.quiet hs
def zbN(te:TE):TS:=λD σ H=>te σ H D.rt
def zk(he:PE X e te):PS X (.Return (BJ e) pos) (zbN te):=by intros D I h;exact Bp (thn (he BN s σ H _ I h) λv s1=>el5 λx H1 I1 r1 q1=>#[x,σ,H1,I1,r1,q1])
def zf0(c:TT)(t u:TS):TS:=λD σ H=>c σ H λb H1=>if b=BL then t D σ H1 else u D σ H1
theorem zJ(hc:PT X c tc)(ha:PSs X a t)(hb:PSs X b u):PS X (.If c a b pos) (zf0 tc t u):=by
 intros D I h;refine wpAny_If (thn (hc BN s σ H _ I h) λd s1=>el3 λH1 I1 q1=>?_)
 cases d with
 | true=>exact ha BN s1 σ H1 D I1 q1
 | false=>exact hb BN s1 σ H1 D I1 q1
abbrev TG:=V->St->Hp->(St->Hp->Prop)->Prop
abbrev TGs:=List V->St->Hp->(St->Hp->Prop)->Prop
def PG(X:Cx)(target:Aq)(t:TG):Prop :=
 ∀(BN:List (tG × Au)) (s:tJ) (σ:St) (H:Hp) (v:V) (u:tH) (Q:St->Hp->Prop),Inv X BN σ H s->RelV v u->t v σ H Q ->
  tI (model X.prog X.w) X.A (assign target X.env u) (λZ s'=>∃σ' H',Inv X BN σ' H' s'/\Q σ' H') X.xe s
def PGs(X:Cx)(ts:List Aq)(t:TGs):Prop :=
 ∀(BN:List (tG × Au)) (s:tJ) (σ:St) (H:Hp) (vs:List V) (us:List tH) (Q:St->Hp->Prop),Inv X BN σ H s->Vals vs us->t vs σ H Q ->
  tI (model X.prog X.w) X.A (assignInOrder ((assignEach ts X.env).map (·.2)) us) (λZ s'=>∃σ' H',Inv X BN σ' H' s'/\Q σ' H') X.xe s
abbrev zhk:=V->V->V->Hp->(Hp->Prop)->Prop
def zgd(X:Cx)(t:zhk):Prop :=
 ∀(BN:List (tG × Au)) (s:tJ) (σ:St) (H:Hp) (o i v:V) (ov iv u:tH) (Q:Hp->Prop),Inv X BN σ H s->RelV o ov->RelV i iv->RelV v u->t o i v H Q ->
  tI (model X.prog X.w) X.A (setItem ov iv u) (λZ s'=>∃H',Inv X BN σ H' s'/\Q H') X.xe s
def yH(i:Nat):TG:=λv σ H Q=>Q (σ.set i (BJ v)) H
def zq(hN:X.N.Nodup)(hi:X.N[i]? = BJ x)(hx:Loc X.env.scope x)(hf:‹X.fn x=BL\/X.env.scope.names.lookup x=BJ .local›):PG X (.Name x pos) (yH i):=by intros v u Q I r h;exact Bo (uL I hN hi hx r (λs' I'=>#[_,H,I',h]) hf)
def zcZ:TGs:=λvs σ H Q=>vs=[]/\Q σ H
def ko(t:TG)(u:TGs):TGs:=λvs σ H Q=>∃v r,vs=v::r/\t v σ H λσ' H'=>u r σ' H' Q
def y8:PGs X [] zcZ:=by intros vs us Q I r h;let#[e,h]:=h;subst e;cases r;exact assignInOrder_nil #[σ,H,I,h]
theorem zL(h1:PG X e t)(h2:PGs X es u)(hs:‹(assignEach (e::es) X.env).map (·.2)=assign e X.env::(assignEach es X.env).map (·.2)›):PGs X (e::es) (ko t u):=by
 intros vs us Q I r h;let#[v,vr,e1,h]:=h;subst e1
 cases r with
 | cons r rr =>
  rw[hs];refine assignInOrder_cons (thn (h1 BN s σ H _ _ _ I r h) λ_ s1 ⟨σ1,H1,I1,q1⟩=>?_);exact h2 BN s1 σ1 H1 _ _ Q I1 rr q1
def zdz(K:tF)(n:Nat)(t:TGs):TG:=λv σ H Q=>∃a xs,v=.ref a/\SqT K H a xs/\xs.length=n/\t xs σ H Q
def wN(hc:X.calm=BL)(h:PGs X es t)(hn:‹(assignEach es X.env).length=n›)(hst:‹(assignEach es X.env).findIdx? (·.1)=BK›):PG X (.Tuple es k pos) (zdz X.K n t):=by intros v u Q I r hw;let#[a,xs,e1,hq,hl,hw]:=hw;subst e1;cases r;let#[its,rv,ht,hz]:=I.tuple hq;refine assign_Tuple_tuple (I.ok.hd hc) ht (by simp [hn,<- hl,rv.length]) hst λh' hx=>?_;have I1:Inv X BN σ H { s with heap:=h' }:=I.kept (t':=s.toks) λb o e=>hx b o (aA (av e)) e;exact h BN _ σ H xs _ Q I1 ↥rv hw
def zgC(to ti:TE)(t:zhk):TG:=λv σ H Q=>to σ H λo H1=>ti σ H1 λi H2=>t o i v H2 λH3=>Q σ H3
def zbt(ho:PE X o to)(hi:PE X i ti)(hs:zgd X t)(ha:∀v,assign (.Subscript o i pos) X.env v=(do
   let ov <- holding [v] (eval o X.env)
   let iv <- holding [v,ov] (eval i X.env)
   standAt pos
   holding [v,ov,iv] (setItem ov iv v)
   release [v,ov,iv] []):=by intro _;rfl):PG X (.Subscript o i pos) (zgC to ti t):=by intros v u Q I r h;rw[ha];refine tw (tO (thn (ho BN s σ H _ I h) λov s1=>el5 λx H1 I1 r1 q1=>?_));refine tw (tO (thn (hi BN s1 σ H1 _ I1 q1) λiv s2=>el5 λy H2 I2 r2 q2=>?_));refine tw (Ab (tw (tO (thn (hs BN s2 σ H2 x y v ov iv u _ I2 r1 r2 r q2) λZ s3=>el3 λH3 I3 q3=>?_))));exact wpAny_release #[σ,H3,I3,q3]
def zde(te:TE)(g:TG):TS:=λD σ H=>te σ H λx H1=>g x σ H1 D.nx
def jX(he:PE X e te)(hg:PG X tg g)(hs:‹swapsWithSole [tg] e pos.line X.env=pure BM›)(hw:‹swappedStores [tg] e X.env=pure BK›)(h1:‹(assignEach [tg] X.env).map (·.2)=[assign tg X.env]›):PS X (.Assign [tg] e pos) (zde te g):=by intros D I h;refine wpAny_Assign_stores (thn (he BN s σ H _ I h) λv s1=>el5 λx H1 I1 r1 q1=>?_) hs hw;rw[h1];exact thn (hg BN s1 σ H1 x v _ I1 r1 q1) λZ s2 q=>q
def jH(hN:X.N.Nodup)(hi:X.N[i]? = BJ x)(hx:Loc X.env.scope x)(he:PE X e te)(hs:‹swapsWith e (BJ (.Name x pos')) pos.line X.env=pure BM›)(hf:‹X.fn x=BL\/X.env.scope.names.lookup x=BJ .local›) :
  PS X (.Assign [.Name x pos'] e pos) (zde te (yH i)):=by intros D I h;refine AH (thn (he BN s σ H _ I h) λv s1=>el5 λy H1 I1 r1 q1=>?_) hs;exact uL I1 hN hi hx r1 (λs2 I2=>#[_,H1,I2,q1]) hf
def U0(c:TT)(tb:TS):TS:=λD σ H=>∃W:Nat->St->Hp->Prop,(∃m,W m σ H)/\∀m σ H,W m σ H ->
 c σ H λb H1=>if b=BL then ∃N:St->Hp->Prop,(∀σ' H',N σ' H'->∃m',m'<m/\W m' σ' H')/\tb { D with nx:=N,ct:=N,bk:=D.nx } σ H1 else D.nx σ H1
theorem VP(hp:PassesOwn (model X.prog X.w) X.A X.env X.xe)(hc:PT X c tc)(hb:PSs X body tb):PS X (.While c body [] pos) (U0 tc tb):=by
 intros D I h;let#[W,#[m0,w0],turn]:=h;refine wpAny_While (codeAny_whileLoop (λn s'=>∃σ' H',Inv X BN σ' H' s'/\W n σ' H') ?_ m0 #[σ,H,I,w0]);rintro n s1 ⟨σ1,H1,I1,w1⟩;refine Aj hp (thn (hc BN s1 σ1 H1 _ I1 (turn n σ1 H1 w1)) λb s2=>el3 λH2 I2 q2=>?_)
 cases b with
 | true =>
  let#[N,hN,q2]:=q2;rw[y9 rfl];refine Aj hp (thn (hb BN s2 σ1 H2 _ I2 q2) λf s3 q3=>?_)
  cases f with
  | next =>
   let#[σ3,H3,I3,n3]:=q3;let#[m',hm,w3]:=hN σ3 H3 n3;exact#[m',hm,σ3,H3,I3,w3]
  | cont =>
   let#[σ3,H3,I3,n3]:=q3;let#[m',hm,w3]:=hN σ3 H3 n3;exact#[m',hm,σ3,H3,I3,w3]
  | brk=>exact q3
  | ret v=>exact q3
 | false =>
  rw[z9 aD];exact Ae #[σ1,H2,I2,q2]
structure It where
 go:Nat->Hp->Prop
 yld:Nat->Hp->V->Hp->Prop
 stop:Nat->Hp->Prop
def wf(X:Cx)(BN:List (tG × Au))(H:Hp)(b:tG):Prop :=
 H b=BK/\b≠X.env.locals/\b ∉ X.fs/\(b ∈ X.ex\/X.s₀.heap.objs.size<=b)/\(∀x c,X.env.cells.lookup x=BJ c->c≠b)/\∀p ∈ X.pn ++ BN,p.1≠b
def Inv.fpOk(I:Inv X BN σ H s)(hb:s⁻¹<=b)(hn:H' b=BK):wf X BN H' b:=by
 refine#[hn,cB (aq I.lt hb),I.nofs hb,.inr (aB I.sz hb),λx c e z=>?_,λp hp z=>?_]
 ·let#[v,q]:=I.cell x c e;exact y6 (aq q.lt (by rw[z];exact hb)) (cM _)
 ·exact y6 (aq (av (I.pin p hp).1) (by rw[z];exact hb)) (cM _)
structure Kh(P:tL)(w:tP)(K:tF)(tg:Aq)(J:It)(fp:List tG)(it:tG)(tn:Nat->tT->Prop):Prop where
 mem:it ∈ fp
 obj:∀i h,tn i h->∀b ∈ fp,∃o,h.get? b=BJ o/\∀v,o.data≠.cell v
 keep:∀i h h',tn i h->(∀b ∈ fp,∀o,h.get? b=BJ o->h'.get? b=BJ o)->tn i h'
 item:∀(X:Cx),X.prog=P->X.w=w->X.K=K->X.calm=BL->∀(i:Nat) (BN:List (tG × Au)) (s:tJ) (σ:St) (H:Hp) (E:tH->tJ->Prop),Inv X BN σ H s->(∀b ∈ fp,wf X BN H b)->tn i s.heap->J.go i H ->
  tI (model P w) X.A (pyNext (.ref it)) (λr s1=>∃u,r=BJ u /\
   tI (model P w) X.A (letOwnedTupleGo tg (.ref it) u) (λZ s2=>∃x H',Inv X BN σ H' s2/\RelV x u/\J.yld i H x H'/\tn (i+1) s2.heap/\∀b ∈ fp,H' b=BK) E s1) E s
 done:∀(X:Cx),X.prog=P->X.w=w->X.K=K->X.calm=BL->∀(i:Nat) (BN:List (tG × Au)) (s:tJ) (σ:St) (H:Hp) (E:tH->tJ->Prop),Inv X BN σ H s->(∀b ∈ fp,wf X BN H b)->tn i s.heap->J.stop i H ->
  tI (model P w) X.A (pyNext (.ref it)) (λr s1=>r=BK/\Inv X BN σ H s1) E s
 self:∀(A:Af) (i:Nat) (s:tJ) (Q:tH->tJ->Prop) (E:tH->tJ->Prop),tn i s.heap->Q (.ref it) s->tI (model P w) A (pyIter (.ref it)) Q E s
abbrev TI:=St->Hp->(It->Hp->Prop)->Prop
def PIE(X:Cx)(BN:List (tG × Au))(σ:St)(tg:Aq)(R:It->Hp->Prop)(itv:tH)(s2:tJ):Prop :=
 ∃(it:tG) (fp:List tG) (tn:Nat->tT->Prop) (J:It) (H':Hp),itv=.ref it/\Inv X BN σ H' s2/\Kh X.prog X.w X.K tg J fp it tn/\tn 0 s2.heap/\(∀b ∈ fp,wf X BN H' b)/\R J H'
def PI(X:Cx)(tg iter:Aq)(wi:TI):Prop :=
 ∀(BN:List (tG × Au)) (s:tJ) (σ:St) (H:Hp) (R:It->Hp->Prop),Inv X BN σ H s->wi σ H R ->
  tI (model X.prog X.w) X.A (eval iter X.env) (λv s1=>tI (model X.prog X.w) X.A (pyIter v) (PIE X BN σ tg R) X.xe s1) X.xe s
def Uq(ho:s.heap.get? it=BJ o)(hc:o.cls=.type n)(hd:o.data=.fields vs)(hn:["enumerate","zip","dict_itemiterator","dict_reverseitemiterator","odict_iterator","itertools.zip_longest","itertools.pairwise"].contains n=BM)(hQ:Q Unit.unit s):tI M A (letOwnedTupleGo tg (.ref it) u) Q E s:=by
  unfold letOwnedTupleGo
  cases tg <;> first
    | exact tz hQ
    | (cases u <;> first
        | exact tz hQ
        | (refine tw (wpAny_load ho ?_)
           rw[hc,hd];show tI M A (if (["enumerate","zip","dict_itemiterator","dict_reverseitemiterator","odict_iterator","itertools.zip_longest","itertools.pairwise"].contains n && vs[0]? == BJ (rawInt _))=BL then _ else _) Q E s;rw[z9 (by intro h;rw[hn,Bool.false_and]at h;cases h)]
           exact tz hQ))
def Itl(K:tF)(a:tG):It :=
 #[λi H=>∃xs x,SqL K H a xs/\xs[i]? = BJ x,λi H x H'=>H'=H/\∀xs,SqL K H a xs->xs[i]? = BJ x,λi H=>∃xs,SqL K H a xs/\xs.length<=i]
def Itt(K:tF)(a:tG):It :=
 #[λi H=>∃xs x,SqT K H a xs/\xs[i]? = BJ x,λi H x H'=>H'=H/\∀xs,SqT K H a xs->xs[i]? = BJ x,λi H=>∃xs,SqT K H a xs/\xs.length<=i]
def Itr(lo:Int)(n:Nat):It:=#[λi Z=>i<n,λi H x H'=>H'=H/\x=.int (lo+i),λi Z=>n<=i]
def JV{K:tF}(a it:tG):Kh P w K tg (Itl K a) [it] it (λi h=>h.IsListIter it a i) where
 mem:=by simp
 obj:=λi h st b hb=>by
  have e:b=it:=by simpa using hb
  subst e;let#[o,e,c,d]:=st;exact#[o,e,λv z=>by rw[d]at z;cases z]
 keep:=λi h h' st k=>st.at λo e=>k it (by simp) o e
 item:=by
  intro X hP hw hK hc i BN s σ H E I hf st hg;subst hP hw hK;let#[xs,x,hq,hx]:=hg;let#[its,rv,p,hz]:=I.list hq;let#[u,hu,ru]:=rv.get hx;let#[f0,f1,f2,f3,f4,f5]:=hf it (by simp);refine AO st p.isList (x:=u) ↥hu λh' st' sb=>?_;have I1:Inv X BN σ H { s with heap:=h' }:=I.turned (t':=s.toks) (λb o hb e=>(sb.2 b hb).trans e) f0 f1 f3 f4 f5;let#[o,e,c,d]:=id st';exact#[u,rfl,Uq (s:={ s with heap:=h' }) e c d ∅ #[x,H,I1,ru,#[rfl,λys hy=>by rw[I.list_inj hy hq];exact hx],st',λb hb=>(hf b hb).1]]
 done:=by
  intro X hP hw hK hc i BN s σ H E I hf st hg;subst hP hw hK;let#[xs,hq,hx]:=hg;let#[its,rv,p,hz]:=I.list hq;let#[f0,f1,f2,f3,f4,f5]:=hf it (by simp);have hl:=rv.length;exact AT (I.ok.hd hc) st p.isList (by simp;lia) λh' eb=>#[rfl,I.turned (t':=s.toks) (λb o hb e=>eb b o hb e) f0 f1 f3 f4 f5]
 self:=λZ Z Z Z Z st h=>wpAny_pyIter_listiter st h
def Uy{K:tF}(a it:tG):Kh P w K tg (Itt K a) [it] it (λi h=>h.IsTupleIter it a i) where
 mem:=by simp
 obj:=λi h st b hb=>by
  have e:b=it:=by simpa using hb
  subst e;let#[o,e,c,d]:=st;exact#[o,e,λv z=>by rw[d]at z;cases z]
 keep:=λi h h' st k=>st.at λo e=>k it (by simp) o e
 item:=by
  intro X hP hw hK hc i BN s σ H E I hf st hg;subst hP hw hK;let#[xs,x,hq,hx]:=hg;let#[its,rv,p,hz]:=I.tuple hq;let#[u,hu,ru]:=rv.get hx;let#[f0,f1,f2,f3,f4,f5]:=hf it (by simp);refine wpAny_pyNext_tuple_item st (show s.heap.IsTuple a its.toArray from p) (x:=u) ↥hu λh' st' sb=>?_;have I1:Inv X BN σ H { s with heap:=h' }:=I.turned (t':=s.toks) (λb o hb e=>(sb.2 b hb).trans e) f0 f1 f3 f4 f5;let#[o,e,c,d]:=id st';exact#[u,rfl,Uq (s:={ s with heap:=h' }) e c d ∅ #[x,H,I1,ru,#[rfl,λys hy=>by rw[I.tuple_inj hy hq];exact hx],st',λb hb=>(hf b hb).1]]
 done:=by
  intro X hP hw hK hc i BN s σ H E I hf st hg;subst hP hw hK;let#[xs,hq,hx]:=hg;let#[its,rv,p,hz]:=I.tuple hq;let#[f0,f1,f2,f3,f4,f5]:=hf it (by simp);have hl:=rv.length;exact wpAny_pyNext_tuple_end (I.ok.hd hc) st (show s.heap.IsTuple a its.toArray from p) (by simp;lia) λh' eb=>#[rfl,I.turned (t':=s.toks) (λb o hb e=>eb b o hb e) f0 f1 f3 f4 f5]
 self:=λZ Z Z Z Z st h=>wpAny_pyIter_tupleiter st h
def Ur{K:tF}(it:tG)(lo:Int)(n:Nat):Kh P w K tg (Itr lo n) [it] it (λi h=>Bc h it (lo+(i:Nat) * 1) ((n:Int) - (i:Nat)) 1) where
 mem:=by simp
 obj:=λi h st b hb=>by
  have e:b=it:=by simpa using hb
  subst e
  exact#[_,st,λv z=>by
   have z':Data.fields _=Data.cell v:=z
   cases z']
 keep:=λi h h' st k=>k it (by simp) _ st
 item:=by
  intro X hP hw hK hc i BN s σ H E I hf st hg;subst hP hw hK;let#[f0,f1,f2,f3,f4,f5]:=hf it (by simp);have W:=Walks.range (prog:=X.prog) (w:=X.w) (I.ok.hd hc) it lo 1 n;refine W.item i s _ _ hg st λv h' tk hv st' kk=>?_;let#[t,rfl]:=hv;have I1:Inv X BN σ H { s with heap:=h',toks:=tk }:=I.turned (λb o hb e=>kk b o ↥hb e) f0 f1 f3 f4 f5;refine#[_,rfl,Uq (s:={ s with heap:=h',toks:=tk }) (n:="range_iterator") st' rfl rfl ∅ #[.int (lo+i),H,I1,#[t,?_],#[rfl,rfl],st',λb hb=>(hf b hb).1]];rw[Int.mul_one]
 done:=by
  intro X hP hw hK hc i BN s σ H E I hf st hg;subst hP hw hK;let#[f0,f1,f2,f3,f4,f5]:=hf it (by simp);exact AN (I.ok.hd hc) st (by have:n<=i:=hg;lia) λh' eb=>#[rfl,I.turned (t':=s.toks) (λb o hb e=>eb b o hb e) f0 f1 f3 f4 f5]
 self:=λZ Z Z Z Z st h=>AQ st h
def zdb(K:tF)(tl:TE):TI:=λσ H R=>tl σ H λx H1=>∃a,x=.ref a/\(∃xs,SqL K H1 a xs)/\R (Itl K a) H1
def zhK(K:tF)(tl:TE):TI:=λσ H R=>tl σ H λx H1=>∃a,x=.ref a/\(∃xs,SqT K H1 a xs)/\R (Itt K a) H1
def yv(hl:PE X l tl):PI X tg l (zdb X.K tl):=by
 intros R I h;refine thn (hl BN s σ H _ I h) λv s1=>el5 λx H1 I1 r1 q1=>?_;let#[a,e,#[xs,hq],q]:=q1;subst e;cases r1;let#[its,rv,p,hz]:=I1.list hq;refine Ao p.isList ?_;refine#[s1⁻¹,[s1⁻¹],_,_,H1,rfl,I1.kept (t':=s1.toks) λb o e=>ae _ e,JV a _,#[_,aE _ rfl,rfl,rfl],λb hb=>?_,q];have e:b=s1⁻¹:=by simpa using hb
 subst e;exact I1.fpOk (ak _) (I1.hok.fresh (ak _))
def zed(hl:PE X l tl):PI X tg l (zhK X.K tl):=by
 intros R I h;refine thn (hl BN s σ H _ I h) λv s1=>el5 λx H1 I1 r1 q1=>?_;let#[a,e,#[xs,hq],q]:=q1;subst e;cases r1;let#[its,rv,p,hz]:=I1.tuple hq;refine Bk (show s1.heap.IsTuple a its.toArray from p) ?_;refine#[s1⁻¹,[s1⁻¹],_,_,H1,rfl,I1.kept (t':=s1.toks) λb o e=>ae _ e,Uy a _,#[_,aE _ rfl,rfl,rfl],λb hb=>?_,q];have e:b=s1⁻¹:=by simpa using hb
 subst e;exact I1.fpOk (ak _) (I1.hok.fresh (ak _))
def Vr{lo hi:Int}(I:Inv X BN σ H s)(h1:-(2 ^ 62)<=lo)(h2:lo<2 ^ 62)(h3:-(2 ^ 62)<=hi)(h4:hi<2 ^ 62)(q:R (Itr lo (hi - lo).toNat) H):tI (model X.prog X.w) X.A (pyIter (.ref s⁻¹)) (PIE X BN σ tg R) E { s with heap:=s.heap.push { cls:=.type "range",data:=.fields (w4 [.int lo t,.int hi u,.int 1 v]) },toks:=tk }:=by
 refine Bl (IsRange.new ..) (small_one h1 h2 h3 h4) ?_;have I1:Inv X BN σ H { s with heap:=s.heap.push { cls:=.type "range",data:=.fields (w4 [.int lo t,.int hi u,.int 1 v]) },toks:=tk }:=I.kept λb o e=>ae _ e
 refine#[(s.heap.push { cls:=.type "range",data:=.fields (w4 [.int lo t,.int hi u,.int 1 v]) }).objs.size,[(s.heap.push { cls:=.type "range",data:=.fields (w4 [.int lo t,.int hi u,.int 1 v]) }).objs.size],_,_,H,rfl,
  I1.kept (t':=tk) λb o e=>ae _ e,Ur _ lo (hi - lo).toNat,?_,λb hb=>?_,q]
 ·have e1:lo+((0:Nat):Int) * 1=lo:=by simp
  have e2:(((hi - lo).toNat:Nat):Int) - ((0:Nat):Int)=r8 lo hi 1:=by rw[rangeSize_one];split <;> lia
  show Bc _ _ (lo+((0:Nat):Int) * 1) ((((hi - lo).toNat:Nat):Int) - ((0:Nat):Int)) 1;rw[e1,e2];exact aE _ rfl
 ·have e:b=(s.heap.push { cls:=.type "range",data:=.fields (w4 [.int lo t,.int hi u,.int 1 v]) }).objs.size:=by simpa using hb
  subst e;exact I1.fpOk (ak _) (I1.hok.fresh (ak _))
def zcG(ta:TA):TI:=λσ H R=>ta σ H λvs H1=>∃j:Int,vs=[.int j]/\-(2 ^ 62)<=j/\j<2 ^ 62/\R (Itr 0 j.toNat) H1
def zen(ta:TA):TI:=λσ H R=>ta σ H λvs H1=>∃i j:Int,vs=[.int i,.int j]/\(-(2 ^ 62)<=i/\i<2 ^ 62/\-(2 ^ 62)<=j/\j<2 ^ 62)/\R (Itr i (j - i).toNat) H1
theorem yg(hg:Gl X "range")(hm:X.mg "range" = BK)(ha:PA X [a] ta)(hs:‹tD [a] X.env=[(BM,eval a X.env)]›):PI X tg (.Call (.Name "range" p) [a] [] pos) (zcG ta):=by
 intros R I h;refine BF (vq I hg hm boot_range (bz (thn (ha pos BN s σ H _ I h) λus s1=>el5 λvs H1 I1 r1 q1=>?_) hs rfl));let#[j,e,q1,q2,q]:=q1;subst e
 cases r1 with
 | cons r rr =>
  cases rr;let#[t,rfl]:=r;exact call_range_1 (Vr I1 ⋯ ⋯ q1 q2 ↥q)
theorem Xx(hg:Gl X "range")(hm:X.mg "range" = BK)(ha:PA X [a,b] ta)(hs:‹tD [a,b] X.env=[(BM,eval a X.env),(BM,eval b X.env)]›)(hs2:‹tD [b] X.env=[(BM,eval b X.env)]›) :
  PI X tg (.Call (.Name "range" p) [a,b] [] pos) (zen ta):=by
 intros R I h;refine BF (vq I hg hm boot_range (bz (thn (ha pos BN s σ H _ I h) λus s1=>el5 λvs H1 I1 r1 q1=>?_) (by rw[hs,hs2]) (by rw[hs2];rfl)));let#[i,j,e,#[q1,q2,q3,q4],q]:=q1;subst e
 cases r1 with
 | cons r rr =>
  cases rr with
  | cons r' rr =>
   cases rr;let#[t,rfl]:=r;let#[t',rfl]:=r';exact call_range_2 (Vr I1 q1 q2 q3 q4 q)
def K6(wi:TI)(g:TG)(tb:TS):TS:=λD σ H=>wi σ H λJ H1=>∃W:Nat->Nat->St->Hp->Prop,(∃m,W 0 m σ H1)/\∀i m σ H,W i m σ H ->
 (J.stop i H/\D.nx σ H)\/(J.go i H/\∃N:St->Hp->Prop,(∀σ' H',N σ' H'->∃m',m'<m/\W (i+1) m' σ' H')/\∀x H',J.yld i H x H'->g x σ H' λσ2 H2=>tb { D with nx:=N,ct:=N,bk:=D.nx } σ2 H2)
def Xc(fp:List tG)(h:tT):List (tG × Au):=fp.filterMap λb=>(h.get? b).map λo=>(b,o)
def vB(hb:b ∈ fp)(e:h.get? b=BJ o):(b,o) ∈ Xc fp h:=Ci.mpr #[b,hb,by rw[e];rfl]
theorem Qy(hp:p ∈ Xc fp h):p.1 ∈ fp/\h.get? p.1=BJ p.2:=by
 let#[b,hb,e]:=Ci.mp hp
 cases q:h.get? b with
 | none=>rw[q]at e;cases e
 | some o =>
  rw[q]at e;have e':(b,o)=p:=Option.some.inj e;subst e';exact#[hb,q]
def Inv.pinned(I:Inv X BN σ H s)(hf:∀b ∈ fp,wf X BN H b)(ho:∀b ∈ fp,∃o,s.heap.get? b=BJ o/\∀v,o.data≠.cell v):Inv X (BN ++ Xc fp s.heap) σ H s :=
 I.pins_of λp hp=>(BS.mp hp).elim (λz=>I.pin p (aH _ z)) λz=>by
  let#[hb,e]:=Qy z;let#[f0,f1,f2,_]:=hf p.1 hb;let#[o,e',d]:=ho p.1 hb;rw[e]at e';cases e';exact#[e,f0,f1,f2,d]
def Inv.unpinned(I:Inv X (BN ++ pl) σ H s):Inv X BN σ H s:=I.pins_of λp hp=>I.pin p (aH _ (bL _ hp))
def zW(hp:PassesOwn (model X.prog X.w) X.A X.env X.xe)(hc:X.calm=BL)(hi:PI X tg iter wi)(hg:PG X tg g)(hb:PSs X body tb)(hs:‹∀x,foldedSetIterable iter X.env x=pure x›):PS X (.For tg iter body [] pos) (K6 wi g tb):=by
 intros D I h;refine wpAny_For (thn (hi BN s σ H _ I h) λv s1 h1=>thn h1 λitv s2 h2=>?_) hs;let#[it,fp,tn,J,H2,e,I2,T,st2,f2,W,#[m0,w0],turn]:=h2;subst e;have stat:∀{H':Hp},(∀b ∈ fp,H' b=BK)->∀b ∈ fp,wf X BN H' b:=λhn b hb=>#[hn b hb,(f2 b hb).2];refine codeAny_forLoop_any (λn s'=>∃i σ' H',Inv X BN σ' H' s'/\tn i s'.heap/\(∀b ∈ fp,H' b=BK)/\W i n σ' H') ?_ m0 #[0,σ,H2,I2,st2,λb hb=>(f2 b hb).1,w0];rintro n s3 ⟨i,σ3,H3,I3,st3,fr3,w3⟩;rcases turn i n σ3 H3 w3 with ⟨stop,qn⟩ | ⟨go,N,hN,step⟩
 ·refine Aj hp (thn (T.done X rfl rfl rfl hc i BN s3 σ3 H3 X.xe I3 (stat fr3) st3 stop) λr s4 ⟨hr,I4⟩=>?_);subst hr;exact Ae #[σ3,H3,I4,qn]
 ·refine Aj hp (thn (T.item X rfl rfl rfl hc i BN s3 σ3 H3 X.xe I3 (stat fr3) st3 go) λr s4 ⟨u,hr,h4⟩=>?_);subst hr;refine Aj hp (thn h4 λZ s5=>el5 λx H5 I5 r5 q_z=>?_);let#[y5,st5,fr5]:=q_z;have I5':=I5.pinned (stat fr5) (T.obj _ _ st5);refine Aj hp (thn (hg _ s5 σ3 H5 x u _ I5' r5 (step x H5 y5)) λ_ s6 ⟨σ6,H6,I6,q6⟩=>?_);refine Aj hp (thn (hb _ s6 σ6 H6 _ I6 q6) λf s7 q7=>?_)
  have again:∀{σ7:St} {H7:Hp},Inv X (BN ++ Xc fp s5.heap) σ7 H7 s7->N σ7 H7->∃m,m<n/\∃i σ' H',Inv X BN σ' H' s7/\tn i s7.heap/\(∀b ∈ fp,H' b=BK)/\W i m σ' H':=λ{σ7 H7} I7 n7=>by
   let#[m',hm,w7]:=hN σ7 H7 n7;refine#[m',hm,i+1,σ7,H7,I7.unpinned,T.keep _ _ _ st5 λb hb o e=>(I7.pin (b,o) (aH _ (aH _ (vB hb e)))).1,λb hb=>?_,w7];let#[o,e,d]:=T.obj _ _ st5 b hb;exact (I7.pin (b,o) (aH _ (aH _ (vB hb e)))).2.1
  cases f with
  | next=>let#[σ7,H7,I7,n7]:=q7;exact again I7 n7
  | cont=>let#[σ7,H7,I7,n7]:=q7;exact again I7 n7
  | brk=>let#[σ7,H7,I7,q7]:=q7;exact#[σ7,H7,I7.unpinned,q7]
  | ret v=>let#[x7,σ7,H7,I7,r7,q7]:=q7;exact#[x7,σ7,H7,I7.unpinned,r7,q7]
def KQ{K:tF}{g:TG}{tb:TS}{D:kT}(Pv:Nat->St->Hp->Prop)(h0:Pv 0 σ H)(hl:∀i σ H,i<=xs.length->Pv i σ H->SqL K H a xs)(hs:∀i x σ H,xs[i]? = BJ x->Pv i σ H->g x σ H λσ2 H2=>tb { D with nx:=Pv (i+1),ct:=Pv (i+1),bk:=D.nx } σ2 H2)(hd:∀σ H,Pv xs.length σ H->D.nx σ H) :
  ∃W:Nat->Nat->St->Hp->Prop,(∃m,W 0 m σ H)/\∀i m σ H,W i m σ H ->
   ((Itl K a).stop i H/\D.nx σ H)\/((Itl K a).go i H/\∃N:St->Hp->Prop,(∀σ' H',N σ' H'->∃m',m'<m/\W (i+1) m' σ' H')/\∀x H',(Itl K a).yld i H x H'->g x σ H' λσ2 H2=>tb { D with nx:=N,ct:=N,bk:=D.nx } σ2 H2):=by
 refine#[λi m σ H=>m=xs.length - i/\i<=xs.length/\Pv i σ H,#[xs.length,by simp,ax _,h0],?_];rintro i m σ H ⟨rfl,hi,p⟩;have q:=hl i σ H hi p;by_cases hlt:i<xs.length
 ·refine .inr #[#[xs,xs[i],q,by simp [hlt]],Pv (i+1),λσ' H' p'=>#[xs.length - (i+1),⋯,rfl,hlt,p'],λx H' y=>?_];let#[e,y]:=y;subst e;exact hs i x σ _ (y xs q) p
 ·have e:i=xs.length:=⋯;subst e;exact .inl #[#[xs,q,ak _],hd σ H p]
def zbW{K:tF}{g:TG}{tb:TS}{D:kT}(Pv:Nat->St->Hp->Prop)(h0:Pv 0 σ H)(hl:∀i σ H,i<=xs.length->Pv i σ H->SqT K H a xs)(hs:∀i x σ H,xs[i]? = BJ x->Pv i σ H->g x σ H λσ2 H2=>tb { D with nx:=Pv (i+1),ct:=Pv (i+1),bk:=D.nx } σ2 H2)(hd:∀σ H,Pv xs.length σ H->D.nx σ H) :
  ∃W:Nat->Nat->St->Hp->Prop,(∃m,W 0 m σ H)/\∀i m σ H,W i m σ H ->
   ((Itt K a).stop i H/\D.nx σ H)\/((Itt K a).go i H/\∃N:St->Hp->Prop,(∀σ' H',N σ' H'->∃m',m'<m/\W (i+1) m' σ' H')/\∀x H',(Itt K a).yld i H x H'->g x σ H' λσ2 H2=>tb { D with nx:=N,ct:=N,bk:=D.nx } σ2 H2):=by
 refine#[λi m σ H=>m=xs.length - i/\i<=xs.length/\Pv i σ H,#[xs.length,by simp,ax _,h0],?_];rintro i m σ H ⟨rfl,hi,p⟩;have q:=hl i σ H hi p;by_cases hlt:i<xs.length
 ·refine .inr #[#[xs,xs[i],q,by simp [hlt]],Pv (i+1),λσ' H' p'=>#[xs.length - (i+1),⋯,rfl,hlt,p'],λx H' y=>?_];let#[e,y]:=y;subst e;exact hs i x σ _ (y xs q) p
 ·have e:i=xs.length:=⋯;subst e;exact .inl #[#[xs,q,ak _],hd σ H p]
def Qj{lo:Int}{g:TG}{tb:TS}{D:kT}(Pv:Nat->St->Hp->Prop)(h0:Pv 0 σ H)(hs:∀i σ H,i<n->Pv i σ H->g (.int (lo+i)) σ H λσ2 H2=>tb { D with nx:=Pv (i+1),ct:=Pv (i+1),bk:=D.nx } σ2 H2)(hd:∀σ H,Pv n σ H->D.nx σ H) :
  ∃W:Nat->Nat->St->Hp->Prop,(∃m,W 0 m σ H)/\∀i m σ H,W i m σ H ->
   ((Itr lo n).stop i H/\D.nx σ H)\/((Itr lo n).go i H/\∃N:St->Hp->Prop,(∀σ' H',N σ' H'->∃m',m'<m/\W (i+1) m' σ' H')/\∀x H',(Itr lo n).yld i H x H'->g x σ H' λσ2 H2=>tb { D with nx:=N,ct:=N,bk:=D.nx } σ2 H2):=by
 refine#[λi m σ H=>m=n - i/\i<=n/\Pv i σ H,#[n,by simp,ax _,h0],?_];rintro i m σ H ⟨rfl,hi,p⟩;by_cases hlt:i<n
 ·refine .inr #[hlt,Pv (i+1),λσ' H' p'=>#[n - (i+1),⋯,rfl,hlt,p'],λx H' y=>?_];let#[e,y]:=y;subst e y;exact hs i σ _ hlt p
 ·have e:i=n:=⋯;subst e;exact .inl #[ak _,hd σ H p]
abbrev R2:=V->V->Hp->VK->Prop
def OpR(X:Cx)(f:tH->tH->Sem tH)(r:R2):Prop :=
 ∀(BN:List (tG × Au)) (s:tJ) (σ:St) (H:Hp) (x y:V) (v u:tH) (Q:VK),Inv X BN σ H s->RelV x v->RelV y u->r x y H Q ->
  tI (model X.prog X.w) X.A (f v u) (EP X BN σ Q) X.xe s
def UnR(X:Cx)(f:tH->Sem tH)(r:V->Hp->VK->Prop):Prop :=
 ∀(BN:List (tG × Au)) (s:tJ) (σ:St) (H:Hp) (x:V) (v:tH) (Q:VK),Inv X BN σ H s->RelV x v->r x H Q ->
  tI (model X.prog X.w) X.A (f v) (EP X BN σ Q) X.xe s
def uf(X:Cx)(f:tH)(r:List V->Hp->VK->Prop):Prop :=
 ∀(BN:List (tG × Au)) (s:tJ) (σ:St) (H:Hp) (xs:List V) (us:List tH) (Q:VK),Inv X BN σ H s->Vals xs us->r xs H Q ->
  tI (model X.prog X.w) X.A (call f us) (EP X BN σ Q) X.xe s
def zhM(X:Cx)(r:V->Hp->(Bool->Hp->Prop)->Prop):Prop :=
 ∀(BN:List (tG × Au)) (s:tJ) (σ:St) (H:Hp) (x:V) (v:tH) (Q:Bool->Hp->Prop),Inv X BN σ H s->RelV x v->r x H Q ->
  tI (model X.prog X.w) X.A (truthy v) (TP X BN σ Q) X.xe s
def tOp(r:R2)(ta tb:TE):TE:=λσ H Q=>ta σ H λx H1=>tb σ H1 λy H2=>r x y H2 Q
def tUn(r:V->Hp->VK->Prop)(ta:TE):TE:=λσ H Q=>ta σ H λx H1=>r x H1 Q
def rI(C:Int->Int->Prop)(g:Int->Int->V):R2:=λx y H Q=>onInt x λi=>onInt y λj=>C i j/\Q (g i j) H
def rI0(g:Int->Int->V):R2:=λx y H Q=>onInt x λi=>onInt y λj=>Q (g i j) H
def rU(g:Int->V):V->Hp->VK->Prop:=λx H Q=>onInt x λi=>Q (g i) H
def zgs(ha:PE X a ta)(hb:PE X b tb){R:V->V->Hp->Prop}(I:Inv X BN σ H s)(h:ta σ H λx H1=>tb σ H1 λy H2=>R x y H2){f:tH->tH->Sem tH}(hf:∀v u s2 x y H2,Inv X BN σ H2 s2->RelV x v->RelV y u->R x y H2->tI (model X.prog X.w) X.A (f v u) Q X.xe s2) :
  tI (model X.prog X.w) X.A (eval a X.env) (λv s₁=>tI (model X.prog X.w) X.A (eval b X.env) (λu s₂=>tI (model X.prog X.w) X.A (f v u) Q X.xe s₂) X.xe s₁) X.xe s:=by refine thn (ha BN s σ H _ I h) λv s1=>el5 λx H1 I1 r1 q1=>?_;refine thn (hb BN s1 σ H1 _ I1 q1) λu s2=>el5 λy H2 I2 r2 q2=>?_;exact hf v u s2 x y H2 I2 r1 r2 q2
def zr(ho:OpR X (binaryOp op) r)(ha:PE X a ta)(hb:PE X b tb):PE X (.BinOp a op b pos) (tOp r ta tb):=by intros Q I h;exact wpAny_BinOp (zgs ha hb I h λv u s2 x y H2 I2 rx ry q=>ho BN s2 σ H2 x y v u Q I2 rx ry q)
def zgJ(ho:UnR X (unaryOp op) r)(ha:PE X a ta):PE X (.UnaryOp op a pos) (tUn r ta):=by intros Q I h;exact UnaryOp_ (thn (ha BN s σ H _ I h) λv s1=>el5 λx H1 I1 r1 q1=>ho BN s1 σ H1 x v Q I1 r1 q1)
def opI{g:Int->Int->Int}(rule:∀(i j:Int) (t u:AV) (s:tJ) (Q:tH->tJ->Prop) (E:tH->tJ->Prop),C i j->Q (.int (g i j) s.toks) { s with toks:=s.toks+1 }->tI (model X.prog X.w) X.A (f (.int i t) (.int j u)) Q E s) :
  OpR X f (rI C λi j=>.int (g i j)):=by intros x y v u Q I rx ry h;let#[i,rfl,h2]:=onInt.of h;let#[j,rfl,hc,q]:=onInt.of h2;let#[t,rfl]:=rx;let#[t',rfl]:=ry;exact rule i j t t' s _ _ hc #[.int (g i j),H,I.tok _,#[_,rfl],q]
def zhm{g:Int->Int->Int}(rule:∀(i j:Int) (t u:AV) (s:tJ) (Q:tH->tJ->Prop) (E:tH->tJ->Prop),Q (.int (g i j) s.toks) { s with toks:=s.toks+1 }->tI (model X.prog X.w) X.A (f (.int i t) (.int j u)) Q E s) :
  OpR X f (rI0 λi j=>.int (g i j)):=by intros x y v u Q I rx ry h;let#[i,rfl,h2]:=onInt.of h;let#[j,rfl,q]:=onInt.of h2;let#[t,rfl]:=rx;let#[t',rfl]:=ry;exact rule i j t t' s _ _ #[.int (g i j),H,I.tok _,#[_,rfl],q]
def zfZ{g:Int->Int->Bool}(rule:∀(i j:Int) (t u:AV) (s:tJ) (Q:tH->tJ->Prop) (E:tH->tJ->Prop),Q (.bool (g i j)) s->tI (model X.prog X.w) X.A (f (.int i t) (.int j u)) Q E s) :
  OpR X f (rI0 λi j=>.bl (g i j)):=by intros x y v u Q I rx ry h;let#[i,rfl,h2]:=onInt.of h;let#[j,rfl,q]:=onInt.of h2;let#[t,rfl]:=rx;let#[t',rfl]:=ry;exact rule i j t t' s _ _ #[.bl (g i j),H,I,rfl,q]
def zhS(i j:Int):Prop:=0<j/\j<1073741824
def CMul(i j:Int):Prop:=(-(2 ^ 64)<i/\i<2 ^ 64)\/(-(2 ^ 64)<j/\j<2 ^ 64)
def CMul.ok(h:CMul i j):IntMulOk i j:=by
 rcases h with ⟨h1,h2⟩ | ⟨h1,h2⟩
 ·exact .of_left (intBits_le_64 h1 h2)
 ·exact .of_right (intBits_le_64 h1 h2)
def yq:OpR X (binaryOp .Add) (rI0 λi j=>.int (i+j)):=zhm λZ Z Z Z Z Z Z q=>add_int q
def jF:OpR X (binaryOp .Sub) (rI0 λi j=>.int (i - j)):=zhm λZ Z Z Z Z Z Z q=>sub_int q
def kQ:OpR X (binaryOp .Mult) (rI CMul λi j=>.int (i * j)):=opI λZ Z Z Z Z Z Z hc q=>mul_int q hc.ok
def yO:OpR X (binaryOp .FloorDiv) (rI zhS λi j=>.int (i / j)):=opI λi j Z Z Z Z Z hc q=>by
 have h1:(0:Int)<j:=hc.1;have h2:j<1073741824:=hc.2;exact floordiv_int ⋯ (by rw[Int.fdiv_eq_ediv_of_nonneg i ⋯];exact q) (.inl (PyProof.noPylong_small ⋯))
def zR:OpR X (binaryOp .Mod) (rI (λZ j=>0<j) λi j=>.int (i % j)):=opI λi j Z Z Z Z Z hc q=>by
 have h1:(0:Int)<j:=hc;exact mod_int' ⋯ (by rw[Int.fmod_eq_emod_of_nonneg i ⋯];exact q)
def unI{g:Int->Int}(rule:∀(i:Int) (t:AV) (s:tJ) (Q:tH->tJ->Prop) (E:tH->tJ->Prop),Q (.int (g i) s.toks) { s with toks:=s.toks+1 }->tI (model X.prog X.w) X.A (f (.int i t)) Q E s) :
  UnR X f (rU λi=>.int (g i)):=by intros x v Q I rx h;let#[i,rfl,q]:=onInt.of h;let#[t,rfl]:=rx;exact rule i t s _ _ #[.int (g i),H,I.tok _,#[_,rfl],q]
def zfp:UnR X (unaryOp .USub) (rU λi=>.int (-i)):=unI λZ Z Z Z Z q=>neg_int q
def Kf:V->V->Bool
 | .non,.non=>BL | .non,.int _=>BL | .int _,.non=>BL | .non,.bl _=>BL | .bl _,.non=>BL | .non,.str _=>BL | .str _,.non=>BL
 | .int _,.int _=>BL | .bl _,.bl _=>BL | .str _,.str _=>BL | .byt _,.byt _=>BL
 | .int _,.str _=>BL | .str _,.int _=>BL | .bl _,.str _=>BL | .str _,.bl _=>BL
 | _,_=>BM
def rEq:R2:=λx y H Q=>match x,y with | .int a,.int b=>Q (.bl (decide (a=b))) H | .str a,.str b=>Q (.bl (decide (a=b))) H | x,y=>Kf x y=BL/\Q (.bl (decide (x=y))) H
def rEq_is : rEq x y H Q=(Kf x y=BL/\Q (.bl (decide (x=y))) H):=by cases x <;> cases y <;> first | rfl | (show Q _ H=(BL=BL/\Q _ H);rw[eq_self,true_and];congr 2;exact decide_eq_decide.mpr #[λh=>by rw[h],λh=>by cases h;rfl])
def rNe:R2:=λx y H Q=>match x,y with | .int a,.int b=>Q (.bl (!decide (a=b))) H | .str a,.str b=>Q (.bl (!decide (a=b))) H | x,y=>Kf x y=BL/\Q (.bl (!decide (x=y))) H
def rNe_is : rNe x y H Q=(Kf x y=BL/\Q (.bl (!decide (x=y))) H):=by cases x <;> cases y <;> first | rfl | (show Q _ H=(BL=BL/\Q _ H);rw[eq_self,true_and];congr 2;congr 1;exact decide_eq_decide.mpr #[λh=>by rw[h],λh=>by cases h;rfl])
def Je : decide (V.int i=V.int j)=(i == j):=by rw[dF];simp
def zaX : decide (V.bl i=V.bl j)=(i == j):=by rw[dF];simp
def Q5 : decide (V.str i=V.str j)=(i == j):=by rw[dF];simp
def UP : decide (V.byt i=V.byt j)=(i.toList == j.toList):=by rw[dF];cases i;cases j;simp
def zY(I:Inv X BN σ H s)(q:Q (.bl k) H)(e:k=k'):EP X BN σ Q (.bool k') s:=by subst e;exact#[.bl k,H,I,rfl,q]
theorem yQ:OpR X (tN .Eq) rEq:=by
 intros x y v u Q I rx ry h;let#[hs,q]:=rEq_is.mp h
 cases x with
 | non =>
  cases rx
  cases y with
  | non=>cases ry;exact PySem.EqNone.eq_none_none (zY I q (by simp))
  | bl j=>cases ry;exact PySem.EqNone.eq_none_bool (zY I q (by simp))
  | int j=>let#[t',rfl]:=ry;exact PySem.EqNone.eq_none_int (zY I q (by simp))
  | str j=>let#[t',rfl]:=ry;exact PySem.EqNone.eq_none_str (zY I q (by simp))
  | _=>exact y6 (show BM=BL from hs) aD
 | bl i =>
  cases rx
  cases y with
  | non=>cases ry;exact PySem.EqNone.eq_bool_none (zY I q (by simp))
  | bl j=>cases ry;exact eq_bool (zY I q zaX)
  | str j=>let#[t',rfl]:=ry;exact PySem.EqMixed.eq_bool_str (zY I q (by simp))
  | _=>exact y6 (show BM=BL from hs) aD
 | int i =>
  let#[t,rfl]:=rx
  cases y with
  | non=>cases ry;exact PySem.EqNone.eq_int_none (zY I q (by simp))
  | int j=>let#[t',rfl]:=ry;exact eq_int (zY I q Je)
  | str j=>let#[t',rfl]:=ry;exact PySem.EqMixed.eq_int_str (zY I q (by simp))
  | _=>exact y6 (show BM=BL from hs) aD
 | str i =>
  let#[t,rfl]:=rx
  cases y with
  | non=>cases ry;exact PySem.EqNone.eq_str_none (zY I q (by simp))
  | bl j=>cases ry;exact PySem.EqMixed.eq_str_bool (zY I q (by simp))
  | int j=>let#[t',rfl]:=ry;exact PySem.EqMixed.eq_str_int (zY I q (by simp))
  | str j=>let#[t',rfl]:=ry;exact eq_str (zY I q Q5)
  | _=>exact y6 (show BM=BL from hs) aD
 | byt i =>
  let#[t,rfl]:=rx
  cases y with
  | byt j=>let#[t',rfl]:=ry;exact PySem.W.eq_bytes (zY I q UP)
  | _=>exact y6 (show BM=BL from hs) aD
 | _=>cases y <;> exact y6 (show BM=BL from hs) aD
theorem qb:OpR X (tN .NotEq) rNe:=by
 intros x y v u Q I rx ry h;let#[hs,q]:=rNe_is.mp h
 cases x with
 | non =>
  cases rx
  cases y with
  | non=>cases ry;exact PySem.EqNone.ne_none_none (zY I q (by simp))
  | bl j=>cases ry;exact PySem.EqNone.ne_none_bool (zY I q (by simp))
  | int j=>let#[t',rfl]:=ry;exact PySem.EqNone.ne_none_int (zY I q (by simp))
  | str j=>let#[t',rfl]:=ry;exact PySem.EqNone.ne_none_str (zY I q (by simp))
  | _=>exact y6 (show BM=BL from hs) aD
 | bl i =>
  cases rx
  cases y with
  | non=>cases ry;exact PySem.EqNone.ne_bool_none (zY I q (by simp))
  | bl j=>cases ry;exact ne_bool (zY I q (congrArg not zaX))
  | str j=>let#[t',rfl]:=ry;exact PySem.EqMixed.ne_bool_str (zY I q (by simp))
  | _=>exact y6 (show BM=BL from hs) aD
 | int i =>
  let#[t,rfl]:=rx
  cases y with
  | non=>cases ry;exact PySem.EqNone.ne_int_none (zY I q (by simp))
  | int j=>let#[t',rfl]:=ry;exact ne_int (zY I q (congrArg not Je))
  | str j=>let#[t',rfl]:=ry;exact PySem.EqMixed.ne_int_str (zY I q (by simp))
  | _=>exact y6 (show BM=BL from hs) aD
 | str i =>
  let#[t,rfl]:=rx
  cases y with
  | non=>cases ry;exact PySem.EqNone.ne_str_none (zY I q (by simp))
  | bl j=>cases ry;exact PySem.EqMixed.ne_str_bool (zY I q (by simp))
  | int j=>let#[t',rfl]:=ry;exact PySem.EqMixed.ne_str_int (zY I q (by simp))
  | str j=>let#[t',rfl]:=ry;exact ne_str (zY I q (congrArg not Q5))
  | _=>exact y6 (show BM=BL from hs) aD
 | byt i =>
  let#[t,rfl]:=rx
  cases y with
  | byt j=>let#[t',rfl]:=ry;exact PySem.W.ne_bytes (zY I q (congrArg not UP))
  | _=>exact y6 (show BM=BL from hs) aD
 | _=>cases y <;> exact y6 (show BM=BL from hs) aD
def V5:OpR X (tN .Lt) (rI0 λi j=>.bl (decide (i<j))):=zfZ λZ Z Z Z Z Z Z q=>lt_int q
def zem:OpR X (tN .LtE) (rI0 λi j=>.bl (decide (i<=j))):=zfZ λZ Z Z Z Z Z Z q=>le_int q
def Kj:OpR X (tN .Gt) (rI0 λi j=>.bl (decide (j<i))):=zfZ λZ Z Z Z Z Z Z q=>gt_int q
def zgr:OpR X (tN .GtE) (rI0 λi j=>.bl (decide (j<=i))):=zfZ λZ Z Z Z Z Z Z q=>ge_int q
def Ka:OpR X (tN .Lt) (λx y H Q=>∃i j,x=.str i/\y=.str j/\Q (.bl (decide (i.cps.toList<j.cps.toList))) H):=by intros x y v u Q I rx ry h;let#[i,j,rfl,rfl,q]:=h;let#[t,rfl]:=rx;let#[t',rfl]:=ry;exact lt_str (zY I q rfl)
def zeB:OpR X (tN .Is) (λx y H Q=>y=.non/\Q (.bl (decide (x=.non))) H):=by
 intros x y v u Q I rx ry h;let#[rfl,q]:=h;cases ry;refine is_none_gen (zY I q ?_)
 cases x <;> first
  | (cases rx;rfl)
  | (let#[t,rfl]:=rx;rfl)
def zdK:OpR X (tN .IsNot) (λx y H Q=>y=.non/\Q (.bl (!decide (x=.non))) H):=by
 intros x y v u Q I rx ry h;let#[rfl,q]:=h;cases ry;refine isnot_none_gen (zY I q ?_)
 cases x <;> first
  | (cases rx;rfl)
  | (let#[t,rfl]:=rx;rfl)
def zt(b:Aq)(h:‹op≠.In›)(h2:‹op≠.NotIn›):behindInMarks op b=BM:=by
 have e1:(op == CmpOp.In)=BM:=by cases op <;> first | rfl | exact y6 rfl h
 have e2:(op == CmpOp.NotIn)=BM:=by cases op <;> first | rfl | exact y6 rfl h2
 cases b <;> simp [behindInMarks,e1,e2]
def ya(ho:OpR X (tN op) r)(ha:PE X a ta)(hb:PE X b tb)(hm:behindInMarks op b=BM):PE X (.Compare a [op] [b] pos) (tOp r ta tb):=by intros Q I h;exact wpAny_Compare1 (zgs ha hb I h λv u s2 x y H2 I2 rx ry q=>ho BN s2 σ H2 x y v u Q I2 rx ry q) hm
def JU(t:TE):TT:=λσ H Q=>t σ H λx H'=>onBl x λk=>Q k H'
def zu(ho:OpR X (tN op) r)(ha:PE X a ta)(hb:PE X b tb)(hm:behindInMarks op b=BM):PT X (.Compare a [op] [b] pos) (JU (tOp r ta tb)):=by
 intros Q I h
 refine wpAny_isTrue_Compare1 (thn (ha BN s σ H _ I h) λv s1=>el5 λx H1 I1 r1 q1=>thn (hb BN s1 σ H1 _ I1 q1) λu s2=>el5 λy H2 I2 r2 q2 =>
  thn (ho BN s2 σ H2 x y v u _ I2 r1 r2 q2) λc s3=>el5 λz H3 I3 r3 q3=>?_) hm
 let#[k,rfl,q3]:=onBl.of q3;cases r3;exact tU #[H3,I3,q3]
def Zo(r r':R2)(ta tb tc:TE):TE:=λσ H Q=>ta σ H λx H1=>tb σ H1 λy H2=>r x y H2 λz H3=>onBl z λk =>
 (if k=BL then tc σ H3 λw' H4=>r' y w' H4 Q else Q (.bl BM) H3)
theorem WZ(ho:OpR X (tN op) r)(ho':OpR X (tN op') r')(ha:PE X a ta)(hb:PE X b tb)(hc:PE X c tc)(hm:lastMarks [op,op'] [b,c]=BM:=by with_unfolding_all rfl):PE X (.Compare a [op,op'] [b,c] pos) (Zo r r' ta tb tc):=by
 intros Q I h
 refine Compare_chain (thn (ha BN s σ H _ I h) λv s1=>el5 λx H1 I1 r1 q1=>chain_link (thn (hb BN s1 σ H1 _ I1 q1) λu s2=>el5 λy H2 I2 r2 q2 =>
  thn (ho BN s2 σ H2 x y v u _ I2 r1 r2 q2) λd s3=>el5 λz H3 I3 r3 q3=>?_)) hm
 let#[k,rfl,q3]:=onBl.of q3;cases r3;refine tU ?_
 cases k with
 | false=>exact ite_ff #[.bl BM,H3,I3,rfl,q3]
 | true=>exact ite_tt (chain_last (thn (hc BN s3 σ H3 _ I3 q3) λw' s4=>el5 λz' H4 I4 r4 q4=>ho' BN s4 σ H4 y z' u w' Q I4 r2 r4 q4))
theorem uu(ho:OpR X (tN op) r)(ho':OpR X (tN op') r')(ha:PE X a ta)(hb:PE X b tb)(hc:PE X c tc)(hm:lastMarks [op,op'] [b,c]=BM:=by with_unfolding_all rfl):PT X (.Compare a [op,op'] [b,c] pos) (JU (Zo r r' ta tb tc)):=by
 intros Q I h
 refine isTrue_chain (thn (ha BN s σ H _ I h) λv s1=>el5 λx H1 I1 r1 q1=>test_link (thn (hb BN s1 σ H1 _ I1 q1) λu s2=>el5 λy H2 I2 r2 q2 =>
  thn (ho BN s2 σ H2 x y v u _ I2 r1 r2 q2) λd s3=>el5 λz H3 I3 r3 q3=>?_)) hm
 let#[k,rfl,q3]:=onBl.of q3;cases r3;refine tU ?_
 cases k with
 | false =>
  exact ite_ff #[H3,I3,q3]
 | true =>
  refine ite_tt (test_last (thn (hc BN s3 σ H3 _ I3 q3) λw' s4=>el5 λz' H4 I4 r4 q4=>thn (ho' BN s4 σ H4 y z' u w' _ I4 r2 r4 q4) λd' s5=>el5 λz2 H5 I5 r5 q5=>?_));let#[k2,rfl,q5]:=onBl.of q5;cases r5;exact tU #[H5,I5,q5]
def zfa(K:tF)(x:V)(H:Hp)(k:Bool):Prop :=
 match x with
 | .non=>k=BM
 | .bl b=>k=b
 | .int i=>k=(i != 0)
 | .str y=>y.length<=tE/\k=((y.length:Int) != 0)
 | .byt y=>y.size<=tE/\k=((y.size:Int) != 0)
 | .ref p=>(∃xs,SqL K H p xs/\k=!xs.isEmpty)\/(∃xs,SqT K H p xs/\k=!xs.isEmpty)\/∃kvs,H p=BJ (.dK kvs)/\k=!kvs.isEmpty
 | _=>False
def Uw(r:KV kvs vs):(!vs.isEmpty)=!kvs.isEmpty:=by cases r <;> rfl
def kZ(r:Vals xs its):(!its.toArray.isEmpty)=!xs.isEmpty:=by cases r <;> simp
def k7:(tE:Nat)<2 ^ 63:=by rw[tZ];decide
theorem zbx:zhM X (λx H Q=>∃k,zfa X.K x H k/\Q k H):=by
 intros x v Q I rx h;let#[k,e,q]:=h;have hl:=k7;have hs:tE=16777216:=tZ
 cases x with
 | non =>
  cases rx;have e':k=BM:=e;subst e';exact truthy_none #[H,I,q]
 | bl b =>
  cases rx;have e':k=b:=e;subst e';exact tU #[H,I,q]
 | int i =>
  let#[t,rfl]:=rx;have e':k=(i != 0):=e;subst e';exact PySem.P.truthy_int #[H,I,q]
 | str y =>
  let#[t,rfl]:=rx;obtain⟨hy,e'⟩:y.length<=tE/\k=((y.length:Int) != 0):=e;subst e';exact PySem.P.truthy_str ⋯ #[H,I.tok _,q]
 | byt y =>
  let#[t,rfl]:=rx;obtain⟨hy,e'⟩:y.size<=tE/\k=((y.size:Int) != 0):=e;subst e';exact PySem.W.truthy_bytes ⋯ #[H,I.tok _,q]
 | ref p =>
  cases rx;have e':(∃xs,SqL X.K H p xs/\k=!xs.isEmpty)\/(∃xs,SqT X.K H p xs/\k=!xs.isEmpty)\/∃kvs,H p=BJ (.dK kvs)/\k=!kvs.isEmpty:=e;rcases e' with ⟨xs,hx,e'⟩ | ⟨xs,hx,e'⟩ | ⟨kvs,hx,e'⟩
  ·subst e';let#[its,r,pl,hz]:=I.list hx;have hlen:=r.length;exact wpAny_truthy_list pl.isList (by erw[aj];lia) #[H,I.tok _,by rw[kZ r];exact q]
  ·subst e';let#[its,r,pl,hz]:=I.tuple hx;have hlen:=r.length;exact truthy_tuple pl (by erw[aj];lia) #[H,I.tok _,by rw[kZ r];exact q]
  ·subst e';obtain⟨hz,hS,vs,r,m⟩:kvs.length<=tE/\(p == sysModules)=BM/\∃vs,KV kvs vs/\s.heap.DictOf (Wm X.prog X.w) p vs:=I.hok p _ hx;have hlen:kvs.length=vs.length:=Paired.length r;exact wpAny_truthy_dict hS m ⋯ #[H,I.tok _,by rw[Uw r];exact q]
 | _=>exact (show False from e).elim
def VO(ha:PE X a ta)(he:∀whole,isTrue a X.env whole=(do let v <- whole;standAt a.pos;holding [v] (truthy v))) :
  PT X a (λσ H Q=>ta σ H λx H'=>∃k,zfa X.K x H' k/\Q k H'):=by intros Q I h;exact isTrue_plain (thn (ha BN s σ H _ I h) λv s1=>el5 λx H1 I1 r1 q1=>zbx BN s1 σ H1 x v Q I1 r1 q1) (he _)
def yE:OpR X (binaryOp .Add) (λx y H Q=>∃i j,x=.str i/\y=.str j/\i.length+j.length<=tE/\Q (.str (i ++ j)) H):=by intros x y v u Q I rx ry h;let#[i,j,rfl,rfl,hz,q]:=h;let#[t,rfl]:=rx;let#[t',rfl]:=ry;exact add_str (λt' tk=>#[.str (i ++ j),H,I.tok _,#[_,rfl],q]) hz
theorem vf(r:Vals [x] us):∃u,us=[u]/\RelV x u:=by
 cases r with
 | cons r1 r2=>cases r2;exact#[_,rfl,r1]
theorem Qv(r:Vals [x,y] us):∃u w',us=[u,w']/\RelV x u/\RelV y w':=by
 cases r with
 | cons r1 r2 =>
  cases r2 with
  | cons r3 r4=>cases r4;exact#[_,_,rfl,r1,r3]
def QW(hc:X.calm=BL):uf X (.builtin "max") (λxs H Q=>∃i j,xs=[.int i,.int j]/\Q (.int (if j > i then j else i)) H):=by
 intros xs us Q I r h;let#[i,j,rfl,q]:=h;let#[u,w',rfl,#[t,rfl],#[t',rfl]]:=Qv r;refine max_two_ints (I.ok.hd hc) λh' tk k=>#[_,H,I.kept k,?_,q];by_cases hj:j > i
 ·rw[y9 hj,y9 hj];exact#[_,rfl]
 ·rw[z9 hj,z9 hj];exact#[_,rfl]
def JL:uf X (.type "int") (λxs H Q=>(∃i,xs=[.int i]/\Q (.int i) H)\/∃k,xs=[.bl k]/\Q (.int (if k then 1 else 0)) H):=by
 intros xs us Q I r h;rcases h with ⟨i,rfl,q⟩ | ⟨k,rfl,q⟩
 ·let#[u,rfl,t,rfl]:=vf r;exact call_int_int #[.int i,H,I,#[_,rfl],q]
 ·let#[u,rfl,r1]:=vf r;cases r1;exact call_int_bool #[.int (if k then 1 else 0),H,I.tok _,#[_,rfl],q]
def zfz(K:tF)(x:V)(H:Hp)(n:Nat):Prop :=
 match x with
 | .str y=>y.length<=tE/\n=y.length
 | .byt y=>y.size<=tE/\n=y.size
 | .ref p=>(∃xs,SqL K H p xs/\n=xs.length)\/∃xs,SqT K H p xs/\n=xs.length
 | _=>False
theorem zaQ:uf X (.builtin "len") (λxs H Q=>∃x n,xs=[x]/\zfz X.K x H n/\Q (.int n) H):=by
 intros xs us Q I r h;let#[x,n,rfl,e,q]:=h;let#[u,rfl,rx]:=vf r;have hl:=k7;have hs:tE=16777216:=tZ
 cases x with
 | str y =>
  let#[t,rfl]:=rx;obtain⟨hy,e'⟩:y.length<=tE/\n=y.length:=e;subst e';exact len_str ⋯ #[.int _,H,I.tok _,#[_,rfl],q]
 | byt y =>
  let#[t,rfl]:=rx;obtain⟨hy,e'⟩:y.size<=tE/\n=y.size:=e;subst e';exact PySem.W.len_bytes ⋯ #[.int _,H,I.tok _,#[_,rfl],q]
 | ref p =>
  cases rx;have e':(∃xs,SqL X.K H p xs/\n=xs.length)\/∃xs,SqT X.K H p xs/\n=xs.length:=e;rcases e' with ⟨xs,hx,e'⟩ | ⟨xs,hx,e'⟩
  ·subst e';let#[its,r',pl,hz]:=I.list hx;have hlen:=r'.length;exact Calls.call_len_list pl.isList (by erw[aj];lia) #[.int xs.length,H,I.tok _,#[_,by erw[aj];rw[hlen]],q]
  ·subst e';let#[its,r',pl,hz]:=I.tuple hx;have hlen:=r'.length;exact len_tuple pl (by erw[aj];lia) #[.int xs.length,H,I.tok _,#[_,by erw[aj];rw[hlen]],q]
 | _=>exact (show False from e).elim
structure ObjM(h:tT)(x dx C:tG)(mA:tK->Option tH):Prop where
 obj:h.get? x=BJ (cH C dx)
 ns:h.Ns1 dx mA
 ne:dx≠x
end
set_option tactic.hygienic true in
def UU{h:tT}(n:h.Ns1 dx mA):∃od,h.get? dx=BJ od/\∀name,eO name od=BJ (mA name):=by
 let#[o,es,ep,ho,hd,hk,_,hm]:=n;refine#[o,ho,λname=>?_];have e:=hm name;unfold nsFind findBy at e;rw[<- Array.find?_toList]at e;unfold eO;rw[hd];dsimp only;split
 ·rename_i y q;rw[q]at e;exact congrArg BJ e
 ·rename_i q;rw[q]at e
  have a:es.toList.any (·.refKey)=BM:=by
   rw[List.any_eq_false];intro y hy;let#[z,t,hkey]:=hk y (Array.mem_toList_iff.mp hy);simp [DictEntry.refKey,hkey]
  have a':¬ es.toList.any (·.refKey)=BL:=by rw[a];exact aD
  rw[z9 a'];exact congrArg BJ e
def ObjM.look(I:ObjM h x dx C mA):∃od,PySem.W.InstAt h x (cH C dx) C (BJ od)/\∀name,eO name od=BJ (mA name) :=
 let #[od,ho,hl]:=UU I.ns
 #[od,#[I.obj,rfl,rfl,ho],hl]
section
variable{prog:tL}{w:tP}{A:Af}{E:tH->tJ->Prop}{s:tJ}{K:tF}{x dx C f:tG}{mA:tK->Option tH}{name:tK}{v:tH}
def zcJ(X:K.In s.heap)(I:ObjM s.heap x dx C mA)(hg:bX K C name=BL)(hh:cu K C=BL)(ha:af K (.ref C) name=BJ BK)(hv:mA name=BJ v)(hv':gv v=BL)(h:Q v { s with toks:=s.toks+1 }) :
  tI (model prog w) A (getAttr (.ref x) name expr) Q E s:=by let#[od,J,hl]:=I.look;exact PySem.W.get_value X J (eL hg).1 (PySem.W.findObj_own hh ha rfl (by rw[hl,hv])) hv' h
def KC(X:K.In s.heap)(I:ObjM s.heap x dx C mA)(hg:bX K C name=BL)(hf:af K (.ref C) name=BJ (BJ (.ref f)))(ht:aV K (.ref f)=BL)(hv:mA name=BK)(h:Q (.ref f,[.ref x]) s) :
  tI (model prog w) A (getMethod (.ref x) name pl) Q E s:=by let#[od,J,hl]:=I.look;exact PySem.W.method_fn X J (eL hg).1 (eL hg).2 hf (beq_iff_eq.mp ht) (by show (eO name od).map (·.isSome)=BJ BM;rw[hl,hv];rfl) h
theorem zdh(X:K.In s.heap)(I:ObjM s.heap x dx C mA)(hs:af K (.ref C) "__setattr__" = BJ (BJ (.builtin "object.__setattr__")))(hp:cK K C=BL)(ht:fH K C name=BJ BK)(hh:cu K C=BL)(hw:PySem.Within mA ns)(hsz:ns.length<=tE)(h:∀h',ObjM h' x dx C (λy=>if y=name then BJ v else mA y)->Heap.SameBut dx s.heap h'->Q Unit.unit { s with heap:=h',toks:=s.toks+2 }) :
  tI (model prog w) A (setAttr (.ref x) name v) Q E s:=by let#[od,J,hl]:=I.look;refine gq X J hs (PySem.W.osa_open (s:={ s with toks:=s.toks+1 }) (r:=BK) X J hp ht λb=>?_);let#[cd,hc,hd']:=PySem.W.any_some hh;have hx:s.heap.get? x=BJ #[.ref C,BJ dx,.plain,#[]]:=I.obj;refine tw (tz (tw (tw (AZ hx (tw (PySem.W.Looks.here (s:={ s with toks:=s.toks+1 }) (PySem.W.looks_clsIn X hc) ?_))))));rw[hd'];refine tz (a:=BJ dx) (tw (tz (tw ?_)));refine wpAny_nsSet1 (s:={ s with toks:=s.toks+1 }) I.ns λh' hn2 hs2=>?_;let#[oD,esD,epD,hoD,hdD,hcD]:=hn2.count (PySem.Within.cons name v hw);refine tw (Bs hoD (by rw[hdD];exact pastItsLine_dict (aB hcD (by rw[aF];lia))) ?_);exact tz (h _ #[(hs2.2 _ (Ne.symm I.ne)).trans I.obj,hn2,I.ne] hs2)
def Kl(X:K.In s.heap)(hm:cZ K C=BL)(hi:af K (.ref C) "__init__" = BJ (BJ (.ref f)))(hf:PySem.W.typeIn K (.ref f)=BJ (.type "function"))(h:As (model prog w) (A.under (.builtin "type.__call__" #[.ref C::vs,kw])) (.call (.ref f) #[.ref (s⁻¹+1)::vs,kw]) (PySem.W.InitBack (s⁻¹+1) R)
   { s with heap:=(s.heap.push bR).push (cH C s⁻¹) }) :
  As (model prog w) A (.call (.ref C) #[vs,kw]) R s:=by let#[hh,g,d,t,os]:=s;exact PySem.W.make_core (PySem.W.makes_of X hm) (de X hi) (λself=>gw X self hf) (.inl rfl) h
end
mutual section
def YA(f:tK)(v:V):List (tK × V)->List (tK × V)
  | []=>[(f,v)]
  | (g,x)::r=>if g=f then (g,v)::r else (g,x)::YA f v r
theorem jI(f g:tK)(v:V):∀fs:List (tK × V),(YA f v fs).lookup g=if g=f then BJ v else fs.lookup g
  | []=>by
    show bn g [(f,v)]=_;by_cases h:g=f
    . have hb:(g == f)=BL:=beq_iff_eq.mpr h
      erw[bn,hb,y9 h]
    . have hb:(g == f)=BM:=beq_eq_false_iff_ne.mpr h
      erw[bn,hb,z9 h]
  | (k,x)::r=>by
    have ih:=jI f g v r;rw[show YA f v ((k,x)::r)=(if k=f then (k,v)::r else (k,x)::YA f v r)from rfl];by_cases hk:k=f
    . rw[y9 hk]
      by_cases h:g=k
      . have hb:(g == k)=BL:=beq_iff_eq.mpr h
        erw[bn,hb,y9 (h.trans hk)]
      . have hb:(g == k)=BM:=beq_eq_false_iff_ne.mpr h
        erw[bn,hb,z9 (λe:g=f=>h (e.trans hk.symm))]
    . rw[z9 hk]
      by_cases h:g=k
      . have hb:(g == k)=BL:=beq_iff_eq.mpr h
        erw[bn,hb,z9 (λe:g=f=>hk (h.symm.trans e))]
      . have hb:(g == k)=BM:=beq_eq_false_iff_ne.mpr h
        erw[bn,hb];exact ih
theorem jN(f:tK)(v:V):∀fs:List (tK × V),f ∈ (YA f v fs).map (·.1)/\∀g,g ∈ fs.map (·.1)->g ∈ (YA f v fs).map (·.1)
  | []=>#[by simp [YA],λg h=>by simp at h]
  | (k,x)::r=>by
    let#[i1,i2]:=jN f v r;rw[show YA f v ((k,x)::r)=(if k=f then (k,v)::r else (k,x)::YA f v r)from rfl];by_cases hk:k=f
    . rw[y9 hk]
      subst hk;exact#[by simp,λg h=>by simpa using h]
    . rw[z9 hk]
      refine#[?_,λg h=>?_]
      . rw[ao]
        exact aw _ i1
      . rw[ao]at h ⊢
        rcases BR.mp h with e | e
        . exact BR.mpr (.inl e)
        . exact aw _ (i2 g e)
theorem ji(f:tK)(v:V):∀fs:List (tK × V),(YA f v fs).length<=fs.length+1
  | []=>by simp [YA]
  | (k,x)::r=>by
    have ih:=ji f v r;rw[show YA f v ((k,x)::r)=(if k=f then (k,v)::r else (k,x)::YA f v r)from rfl];by_cases hk:k=f
    . rw[y9 hk,aF,aF];lia
    . rw[z9 hk,aF,aF];lia
theorem RelO.some_of(r:RelO (BJ v) o):∃u,o=BJ u/\RelV v u:=by
 cases o with
 | none=>exact (show False from r).elim
 | some u=>exact#[u,rfl,r]
theorem RelO.none_of(r:RelO BK o):o=BK:=by
 cases o with
 | none=>rfl
 | some u=>exact (show False from r).elim
theorem UD(r:RelV v u):gv u=BL:=by
 cases v with
 | non=>cases (show u=u6 from r);rfl
 | bl b=>cases (show u=Value.bool b from r);rfl
 | int i=>let#[t,e]:=(show ∃t,u=Value.int i t from r);cases e;rfl
 | str x=>let#[t,e]:=(show ∃t,u=Value.str x t from r);cases e;rfl
 | byt b=>let#[t,e]:=(show ∃t,u=Value.bytes b t from r);cases e;rfl
 | flt b=>let#[t,e]:=(show ∃t,u=Value.float b t from r);cases e;rfl
 | ref a=>cases (show u=u9 a from r);rfl
 | ty n=>cases (show u=Value.type n from r);rfl
def Zx(hok:HOk P w H h)(e:H a=BJ (.ins C dx fs)):∃mA,ObjM h a dx C mA/\(∀f,RelO (fs.lookup f) (mA f))/\PySem.Within mA (fs.map (·.1))/\fs.length<=1000/\H dx=BJ (.own a):=by let#[d,z,ne,ob,mA,n,r,q]:=(show ObjOk P w H h a (.ins C dx fs)from hok a _ e);exact#[mA,#[ob,n,ne],r,q,z,d]
structure Cls(K:tF)(C:tG):Prop where
 pg:bX K C eR=BL
 hd:cu K C=BL
 po:cK K C=BL
 sa:af K (.ref C) "__setattr__" = BJ (BJ (.builtin "object.__setattr__"))
def Cls.get{K:tF}(c:Cls K C)(f:tK):bX K C f=BL:=c.pg
def NoAttr(K:tF)(C:tG)(f:tK):Prop:=af K (.ref C) f=BJ BK
def NoAttr.taker{K:tF}(n:NoAttr K C f):fH K C f=BJ BK:=by unfold fH;rw[show af K (.ref C) f=BJ BK from n];rfl
structure zfe(K:tF)(C:tG)(m:tK)(f:tG):Prop where
 at_:af K (.ref C) m=BJ (BJ (.ref f))
 fn:aV K (.ref f)=BL
 kp:aK K (.ref f)=BL
def V3(I:Inv X BN σ H s)(e:H a=BJ (.ins C dx fs))(c:Cls X.K C)(n:NoAttr X.K C f)(l:fs.lookup f=BJ v)(h:∀u s',Inv X BN σ H s'->RelV v u->Q u s'):tI (model X.prog X.w) A (getAttr (.ref a) f b) Q E s:=by let#[mA,O,r,_,_,_]:=Zx I.hok e;let#[u,hu,ru]:=RelO.some_of (v:=v) (o:=mA f) (by rw[<- l];exact r f);exact zcJ I.kIn O (c.get f) c.hd n hu (UD ru) (h u _ (I.tok _) ru)
def wn(I:Inv X BN σ H s)(e:H a=BJ (.ins C dx fs))(c:Cls X.K C)(k:zfe X.K C m g)(l:fs.lookup m=BK)(h:Q (.ref g,[.ref a]) s):tI (model X.prog X.w) A (getMethod (.ref a) m pl) Q E s:=by let#[mA,O,r,_,_,_]:=Zx I.hok e;have hn:mA m=BK:=RelO.none_of (by rw[<- l];exact r m);exact KC I.kIn O (c.get m) k.at_ k.fn hn h
def VV(I:Inv X BN σ H s)(e:H a=BJ (.ins C dx fs))(c:Cls X.K C)(n:NoAttr X.K C f)(hl:fs.length<1000)(ry:RelV y u)(h:∀s',Inv X BN σ (upd H a (.ins C dx (YA f y fs))) s'->Q Unit.unit s'):tI (model X.prog X.w) A (setAttr (.ref a) f u) Q E s:=by
 let#[mA,O,r,wi,_,ho]:=Zx I.hok e;have hz:(fs.map (·.1)).length<=tE:=by rw[aa,tZ];lia
 refine zdh I.kIn O c.sa c.po n.taker c.hd wi hz λh' O' sb=>h _ ?_;have hd:∃o,h'.get? dx=BJ o:=let #[o,_,_,e',_]:=O'.ns; #[o,e'];refine I.write (x:=a) (e:=dx) (by rw[e];exact True.intro) (.inr ho) (λb q hb z=>(sb.2 b hb).trans z) hd ?_;refine#[by rw[zo O.ne];exact ho,?_,O.ne,O'.obj,_,O'.ns,λg=>?_,λg hg=>?_]
 ·have:=ji f y fs;lia
 ·show RelO ((YA f y fs).lookup g) (if g=f then BJ u else mA g);rw[jI];by_cases q:g=f
  ·rw[y9 q,y9 q];exact ry
  ·rw[z9 q,z9 q];exact r g
 ·by_cases q:g=f
  ·rw[q];exact (jN f y fs).1
  ·refine (jN f y fs).2 g (wi g λz=>hg ?_);show (if g=f then BJ u else mA g)=BK;rw[z9 q];exact z
def Inv.made(I:Inv X BN σ H s):Inv X BN σ (upd (upd H s⁻¹ (.own (s⁻¹+1))) (s⁻¹+1) (.ins C s⁻¹ [])) { s with heap:=(s.heap.push bR).push (cH C s⁻¹) }:=by
 have e1:(s.heap.push bR).get? s⁻¹=BJ bR:=aE s.heap rfl
 have e2:((s.heap.push bR).push (cH C s⁻¹)).get? (s⁻¹+1)=BJ (cH C s⁻¹):=by
  have:=aE (s.heap.push bR) (o:=cH C s⁻¹) rfl
  rwa [cj]at this
 have e3:(s.heap.push bR).Ns s⁻¹ (λZ=>BK):=#[bR,#[],_,e1,rfl,(λe he=>y6 he (by simp)),λZ=>rfl];have I1:=I.laid (a:=s⁻¹) (o:=.own (s⁻¹+1)) (h':=s.heap.push bR) (t':=s.toks) (λb u q=>ae _ q) (ak _) #[_,e1];refine I1.laid (a:=s⁻¹+1) (o:=.ins C s⁻¹ []) (t':=s.toks) (λb u q=>ae _ q) (bY (cj _ _)) ?_;have ne:s⁻¹≠s⁻¹+1:=aA (Nat.lt_succ_self _);refine#[by rw[zo ne,zd],ax _,ne,e2,λZ=>BK,(Heap.Ns1.of_empty e3).at λo q=>ae _ q,λZ=>True.intro,λy hy=>y6 rfl hy]
def zdH(hb:attributeBase e f env (eval e env)=eval e env)(h:tI (model prog w) A (eval e env) (λo s₁=>tI (model prog w) A (getAttr o f BL) Q E s₁) E s):tI (model prog w) A (eval (.Attribute e f pos) env) Q E s :=
 Attribute_any_ h (by rw[arm_eval_Attribute,hb])
def zd1(K:tF)(ta:TE)(f:tK):TE:=λσ H Q=>ta σ H λx H1=>∃a C dx fs v,x=.ref a/\H1 a=BJ (.ins C dx fs)/\Cls K C/\NoAttr K C f/\fs.lookup f=BJ v/\Q v H1
def zgI(K:tF)(ta tv:TE)(f:tK):TS:=λD σ H=>tv σ H λy H1=>ta σ H1 λx H2=>∃a C dx fs,x=.ref a/\H2 a=BJ (.ins C dx fs)/\Cls K C/\NoAttr K C f/\fs.length<1000 /\
 D.nx σ (upd H2 a (.ins C dx (YA f y fs)))
def ur(he:PE X e ta)(hb:attributeBase e f X.env (eval e X.env)=eval e X.env):PE X (.Attribute e f pos) (zd1 X.K ta f):=by intros Q I h;refine zdH hb (thn (he BN s σ H _ I h) λu s1=>el5 λx H1 I1 rx q_z=>?_);let#[a,C,dx,fs,v,ex,ea,c,n,l,q]:=q_z;subst ex;obtain rfl:u=u9 a:=rx;exact V3 I1 ea c n l λu' s2 I2 ru=>#[v,H1,I2,ru,q]
def Zh(ha:PE X o ta)(hv:PE X value tv)(hs:swapsWith value (BJ (.Attribute o f pos')) pos.line X.env=pure BM):PS X (.Assign [.Attribute o f pos'] value pos) (zgI X.K ta tv f):=by intros D I h;refine Az (thn (hv BN s σ H _ I h) λu s1=>el5 λy H1 I1 ry q=>thn (ha BN s1 σ H1 _ I1 q) λov s2=>el5 λx H2 I2 rx q_z=>?_) hs;let#[a,C,dx,fs,ex,ea,c,n,l,q2]:=q_z;subst ex;obtain rfl:ov=u9 a:=rx;exact VV I2 ea c n l ry λs3 I3=>#[σ,_,I3,q2]
inductive WK(K:tF)(H:Hp):V->tH->Prop where
 | non:WK K H .non (.type "NoneType")
 | bl (x:Bool):WK K H (.bl x) (.type "bool")
 | int (i:Int):WK K H (.int i) (.type "int")
 | str (x:tK):WK K H (.str x) (.type "str")
 | flt (x:UInt64):WK K H (.flt x) (.type "float")
 | lst {a:tG} {xs:List V} (e:H a=BJ (.lst xs)):WK K H (.ref a) (.type "list")
 | frz {a:tG} {o:Au} {xs:List V} (e:H a=BJ (.frz o (.lst xs))):WK K H (.ref a) (.type "list")
 | tup {a:tG} {xs:List V} (e:H a=BJ (.tup xs)):WK K H (.ref a) (.type "tuple")
 | dK {a:tG} {kvs:List (Key × V)} (e:H a=BJ (.dK kvs)):WK K H (.ref a) (.type "dict")
 | dT {a:tG} {kvs:List (List Key × V)} (e:H a=BJ (.dT kvs)):WK K H (.ref a) (.type "dict")
 | ins {a C dx:tG} {fs:List (tK × V)} (e:H a=BJ (.ins C dx fs)) (cl:Cls K C) (ha:af K (.ref C) "__class__" = BJ (BJ (.builtin "object.__class__")))
   (hn:dc K (.builtin "object.__class__") "__get__" = BJ (BJ (.builtin "getset_descriptor.__get__"))) (htk:ee K (.builtin "object.__class__")=BJ BL)
   (hm:bC K C (.type "object")=BJ BL):WK K H (.ref a) (.ref C)
theorem Jo(I:Inv X BN σ H s)(rx:RelV x u)(ty:WK X.K H x t)(e:aN X.K t c=BJ b)(h:∀tk,Q (.bool b) { s with toks:=tk }) :
  tI (model X.prog X.w) A (call (.builtin "isinstance") [u,c]) Q E s:=by
 cases ty with
 | non=>cases (show u=u6 from rx);exact bi PySem.W.kitx_none I.kIn True.intro e (λz=>nomatch z) h
 | bl y=>cases (show u=Value.bool y from rx);exact bi PySem.W.kitx_bool I.kIn True.intro e (λz=>nomatch z) h
 | int i=>let#[t,q]:=(show ∃t,u=Value.int i t from rx);cases q;exact bi PySem.W.kitx_int I.kIn True.intro e (λz=>nomatch z) h
 | str y=>let#[t,q]:=(show ∃t,u=Value.str y t from rx);cases q;exact bi PySem.W.kitx_str I.kIn True.intro e (λz=>nomatch z) h
 | flt y=>let#[t,q]:=(show ∃t,u=Value.float y t from rx);cases q;exact bi PySem.W.kitx_float I.kIn True.intro e (λz=>nomatch z) h
 | @lst a xs ea =>
  cases (show u=u9 a from rx);let#[_,_,n,_,h1]:=(show ObjOk X.prog X.w H s.heap a (.lst xs)from I.hok a _ ea);exact bi eZ I.kIn #[_,h1,rfl] e (λz=>nomatch z) h
 | @frz a ob xs ea =>
  cases (show u=u9 a from rx);let#[_,_,_,n,_,h1]:=(show ObjOk X.prog X.w H s.heap a (.frz ob (.lst xs))from I.hok a _ ea);exact bi eZ I.kIn #[_,h1,rfl] e (λz=>nomatch z) h
 | @tup a xs ea =>
  cases (show u=u9 a from rx);let#[_,_,_,p]:=(show ObjOk X.prog X.w H s.heap a (.tup xs)from I.hok a _ ea);let#[o,h1,h2,_]:=p;exact bi gm I.kIn #[o,h1,h2] e (λz=>nomatch z) h
 | @dK a kvs ea =>
  cases (show u=u9 a from rx);let#[_,_,vs,_,p]:=(show ObjOk X.prog X.w H s.heap a (.dK kvs)from I.hok a _ ea);let#[o,es,ep,h1,h2,_]:=p;exact bi gr I.kIn #[o,h1,h2.1] e (λz=>nomatch z) h
 | @dT a kvs ea =>
  cases (show u=u9 a from rx);let#[_,_,xs,_,o,es,ep,h1,h2,_]:=(show ObjOk X.prog X.w H s.heap a (.dT kvs)from I.hok a _ ea);exact bi gr I.kIn #[o,h1,h2.1] e (λz=>nomatch z) h
 | @ins a C dx fs ea cl ha hn htk hm =>
  cases (show u=u9 a from rx);let#[mA,O,_]:=Zx I.hok ea;let#[od,J,_]:=O.look;exact bi (PySem.W.kitx_own (cl.get _) cl.hd ha hn htk hm) I.kIn J e (λz=>nomatch z) h
structure Room(k:Nat)(A:Af):Prop where
 hd:A.handled=BK
 dp:A.depth+3 * k+5<Ba
 un:A.units+16 * k+200<cLine
def Room.mono(r:Room k A)(h:j<=k):Room j A:=#[r.hd,by have:=r.dp;lia,by have:=r.un;lia]
def Room.deeper(r:Room (k+1) A)(env:BB):Room k (A.deeper env) :=
 #[r.hd,by have:=r.dp;show A.depth+1+3 * k+5<_;lia,by have:=r.un;show A.units+3+16 * k+200<_;lia]
def Room.in1(r:Room (k+1) A):Room k A.in1 :=
 #[r.hd,by have:=r.dp;show A.depth+3 * k+5<_;lia,by have:=r.un;show A.units+1+16 * k+200<_;lia]
def VT{A:Af}:(A.under (.builtin "type.__call__" #[.ref C::us,kw])).depth=A.depth+1:=by first | rfl | simp [Around.under,Code.weight,Code.isCreation,Code.isGuard,Code.isCaller,Code.frames,Code.isFrame,guardIds]
def V2{A:Af}:(A.under (.builtin "type.__call__" #[.ref C::us,kw])).units=A.units+1:=by first | rfl | simp [Around.under,Code.cUnits,Code.frames,Code.isFrame]
def Room.make(r:Room (k+1) A)(C:tG)(us:List tH)(kw:List (tK × tH)):Room k (A.under (.builtin "type.__call__" #[.ref C::us,kw])) :=
 #[r.hd,by have:=r.dp;rw[VT];lia,by have:=r.un;rw[V2];lia]
def Room.depth(r:Room k A):A.depth<Ba:=by have:=r.dp;lia
def Room.units(r:Room k A):A.units+64<cLine:=by have:=r.un;lia
def xI:TA:=λZ H Q=>Q [] H
def zO(ta:TE)(tr:TA):TA:=λσ H Q=>ta σ H λx H1=>tr σ H1 λxs H2=>Q (x::xs) H2
def ze:PA X [] xI:=λZ Z Z Z H Q I h=>Calls.spliced_nil #[[],H,I,.nil,h]
def za(ha:PE X e te)(hr:PA X es t)(hs:‹tD (e::es) X.env=(BM,eval e X.env)::tD es X.env›):PA X (e::es) (zO te t):=by intro pos BN s σ H Q I h;rw[hs];show tI _ _ (spliced ((BM,eval e X.env)::tS pos (tD es X.env))) _ _ s;refine Calls.spliced_cons (thn (ha BN s σ H _ I h) λu s1=>el5 λx H1 I1 r1 q1=>?_);exact thn (hr pos BN s1 σ H1 _ I1 q1) λus s2=>el5 λxs H2 I2 r2 q2=>#[x::xs,H2,I2,.cons r1 r2,q2]
def Kg(t:TA):TE:=λσ H Q=>t σ H λxs H1=>xs.length<=tE/\∀p,H1 p=BK->Q (.ref p) (upd H1 p (.tup xs))
def zfB(t:TA):TE:=λσ H Q=>t σ H λxs H1=>xs.length<=tE/\∀p,H1 p=BK->Q (.ref p) (upd H1 p (.lst xs))
def zN{x1}(h:PA X es t):PE X (.Tuple es x1 pos) (Kg t):=by intros Q I hq;refine wpAny_Tuple_spliced (thn (h pos BN s σ H _ I hq) λus s1=>el5 λxs H1 I1 r=>ua2 λz q=>#[by rw[<- r.length];exact z,?_]);have hf:H1 s1⁻¹=BK:=I1.hok.fresh (ak _);refine#[.ref s1⁻¹,upd H1 s1⁻¹ (.tup xs),I1.laid (t':=s1.toks) (λb u e=>ae _ e) (ak _) ?_,rfl,q _ hf];exact#[z,us,r,#[_,aE _ rfl,rfl,_,rfl]]
def yF(h:PA X es t):PE X (.List es pos) (zfB t):=by intros Q I hq;refine wpAny_List_spliced (thn (h pos BN s σ H _ I hq) λus s1=>el5 λxs H1 I1 r=>ua2 λz q=>#[by rw[<- r.length];exact z,?_]);have hf:H1 s1⁻¹=BK:=I1.hok.fresh (ak _);refine#[.ref s1⁻¹,upd H1 s1⁻¹ (.lst xs),I1.laid (t':=s1.toks) (λb u e=>ae _ e) (ak _) ?_,rfl,q _ hf];exact#[z,us,0,r,aE _ rfl]
abbrev Sp:=List V->Hp->VK->XK->Prop
abbrev CXT:=List BB->Hp->tJ->XK->tH->tJ->Prop
structure Env0(P:tL)(w:tP)(K:tF)(mg:tK->Option tH)(base:tT)(A:Af)(outer:List BB)(s:tJ)(H:Hp):Prop where
 frames:A.frames=BJ outer
 mod:Mod K mg base
 bs:∀b o,base.get? b=BJ o->s.heap.get? b=BJ o/\H b=BK
 bsz:base.objs.size<=s⁻¹
 funs:s.heap.FunFrames base outer
 frf:∀b ∈ frs outer,H b=BK
 hok:HOk P w H s.heap
 bare:AE s.gens
def CE(outer:List BB)(P:tL)(w:tP)(H:Hp)(s:tJ)(Q:VK)(u:tH)(s':tJ):Prop :=
 ∃v H',s'.os=s.os/\AE s'.gens/\Un (frs outer) [] H H' s.heap s'.heap/\HOk P w H' s'.heap/\RelV v u/\Q v H'
def CR(CX:CXT)(outer:List BB)(P:tL)(w:tP)(H:Hp)(s:tJ)(Q:VK)(E:XK)(r:Result)(s':tJ):Prop :=
 match r with
 | .ok (.ret u)=>CE outer P w H s Q u s'
 | .ok _=>False
 | .error e=>CX outer H s E e s'
structure zV(P:tL)(w:tP)(K:tF)(mg:tK->Option tH)(base:tT)(CX:CXT)(k:Nat)(f:tG)(fd:An)(ps:List tK)(sp:Sp):Prop where
 len:∀vs H Q E,sp vs H Q E->vs.length=ps.length
 run:∀(A:Af) (outer:List BB) (s:tJ) (H:Hp) (args:Args) (us:List tH) (vs:List V) (Q:VK) (E:XK),Room k A->Env0 P w K mg base A outer s H->Bd s fd args (ps.zip us)->Vals vs us->sp vs H Q E ->
  As (model P w) A (.call (.ref f) args) (CR CX outer P w H s Q E) s
def Env0.make{K:tF}(e:Env0 P w K mg base A outer s H)(C:tG)(us:List tH)(kw:List (tK × tH)) :
  Env0 P w K mg base (A.under (.builtin "type.__call__" #[.ref C::us,kw])) outer s H:=#[by first | exact e.frames | (simpa [Around.under,Code.envs,Code.isFrame,pushEnvs] using e.frames),e.mod,e.bs,e.bsz,e.funs,e.frf,e.hok,e.bare]
def Inv.env0(I:Inv X BN σ H s):Env0 X.prog X.w X.K X.mg X.base X.A X.stack s H :=
 #[I.ok.frames,I.ok.mod,I.bs,aB I.ok.bsz I.sz,I.stack,I.stkFree,I.hok,I.bare]
def Inv.after(I:Inv X BN σ H s)(h:CE X.stack X.prog X.w H s Q u s'):EP X BN σ Q u s':=by let#[v,H',os,bare,un,hok,r,q]:=h;let#[hh,g,d,t,os']:=s';obtain rfl:os'=s.os:=os;exact#[v,H',I.call (h':=hh) (g':=g) (d':=d) (t':=t) (ch:=[]) un hok bare (λb z=>y6 z (by simp)),r,q]
def uZ(sp:Sp)(dvs:List V)(E:XK)(t:TA):TE:=λσ H Q=>t σ H λvs H1=>sp (vs ++ dvs) H1 Q E
def ZG(C:tG)(m:tK)(sp:Sp)(dvs:List V)(E:XK)(ta:TE)(t:TA):TE:=λσ H Q=>ta σ H λx H1=>∃a dx fs,x=.ref a/\H1 a=BJ (.ins C dx fs)/\fs.lookup m=BK /\
 t σ H1 λvs H2=>sp (x::(vs ++ dvs)) H2 Q E
def QP(C:tG)(sp:Sp)(dvs:List V)(E:XK)(t:TA):TE:=λσ H Q=>t σ H λvs H1=>∀x dx,H1 x=BK->H1 dx=BK->dx≠x ->
 sp (.ref x::(vs ++ dvs)) (upd (upd H1 dx (.own x)) x (.ins C dx [])) (λv H2=>v=.non/\Q (.ref x) H2) E
def Binds(K:tF)(fd:An)(ps:List tK)(ds:List tH):Prop :=
 ∀(s:tJ) (us:List tH),K.In s.heap->(us ++ ds).length=ps.length->Bd s fd #[us,[]] (ps.zip (us ++ ds))
def Binds.all{K:tF}(h:∀us:List tH,us.length=ps.length->bindArgs fd #[us,[]]=pure (ps.zip us)):Binds K fd ps []:=λs us Z hl=>by
 rw[aZ]at hl ⊢;exact .of_eq (h us hl)
def qx(CX:CXT)(X:Cx)(E:XK):Prop:=∀(BN:List (tG × Au)) (σ:St) (H:Hp) (s:tJ) (e:tH) (s':tJ),Inv X BN σ H s->CX X.stack H s E e s'->X.xe e s'
theorem kW(F:zV X.prog X.w X.K X.mg X.base CX k f fd ps sp)(hr:Room k X.A)(hb:Binds X.K fd ps ds)(hd:Vals dvs ds)(hx:qx CX X E)(I:Inv X BN σ H s)(r:Vals vs us)(h:sp (vs ++ dvs) H Q E):tI (model X.prog X.w) X.A (call (.ref f) us) (EP X BN σ Q) X.xe s:=by
 have r2:Vals (vs ++ dvs) (us ++ ds):=r.append hd;have hl:(us ++ ds).length=ps.length:=by rw[<- r2.length];exact F.len _ _ _ _ h
 refine Ap (Ar (F.run X.A X.stack s H #[us,[]] (us ++ ds) (vs ++ dvs) Q E hr I.env0 (hb s us I.kIn hl) r2 h) λr s' hq=>?_)
 cases r with
 | error e=>exact hx BN σ H s e s' I hq
 | ok fl =>
  cases fl with
  | ret u=>exact I.after hq
  | next=>exact False.elim hq
  | brk=>exact False.elim hq
  | cont=>exact False.elim hq
def QN(F:zV X.prog X.w X.K X.mg X.base CX k f fd ps sp)(hr:Room k X.A)(hg:Gl X x)(hm:X.mg x=BJ (.ref f))(hk:aK X.K (.ref f)=BL)(hb:Binds X.K fd ps ds)(hd:Vals dvs ds)(hx:qx CX X E)(ha:PA X (e::es) t) (hdb:‹(x ==("__debug__" : tK))=BM›) (he:‹tD (e::es) X.env=(BM,eval e X.env)::tD es X.env›) (hpl:‹(tS pos (tD es X.env)).any (·.1)=BM›) :
  PE X (.Call (.Name x p) (e::es) [] pos) (uZ sp dvs E t):=by intros Q I h;refine tW (vg I hg hm ?_ hdb);refine bZ (h₀:=X.base) I.ok.mod.kin hk (thn (ha pos BN s σ H _ I h) λus s1=>el5 λvs H1 I1 r q=>#[I1.kIn,?_]) he hpl;exact kW F hr hb hd hx I1 r q
def zcs(he:PE X o ta)(c:Cls X.K C)(hm:zfe X.K C m f)(F:zV X.prog X.w X.K X.mg X.base CX k f fd ps sp)(hr:Room k X.A)(hb:Binds X.K fd ps ds)(hd:Vals dvs ds)(hx:qx CX X E)(ha:PA X (e::es) t)(hst:‹tD (e::es) X.env=(BM,eval e X.env)::tD es X.env›)(hpl:‹(tS pos (tD es X.env)).any (·.1)=BM›)(ht:eval (.Call (.Attribute o m apos) (e::es) [] pos) X.env=(do
      let ov <- eval o X.env
      standAt apos.atName
      let (f,first) <- holding [ov] (getMethod ov m pl)
      callWith pos f first (tS pos (tD (e::es) X.env)) (Aa pos (tR [] X.env))):=by rfl) :
    PE X (.Call (.Attribute o m apos) (e::es) [] pos) (ZG C m sp dvs E ta t):=by intros Q I h;refine cD (pl:=pl) (thn (he BN s σ H _ I h) λu s1=>el5 λx H1 I1 rx q_z=>?_) ht;let#[a,dx,fs,ex,ea,l,q]:=q_z;subst ex;obtain rfl:u=u9 a:=rx;refine wn I1 ea c hm l ?_;refine bZ (first:=[.ref a]) (h₀:=X.base) I.ok.mod.kin hm.kp (thn (ha pos BN s1 σ H1 _ I1 q) λus s2=>el5 λvs H2 I2 r q2=>#[I2.kIn,?_]) hst hpl;exact kW (us:=.ref a::us) (vs:=.ref a::vs) F hr hb hd hx I2 (.cons rfl r) q2
def Kp(he:PE X o ta)(c:Cls X.K C)(hm:zfe X.K C m f)(F:zV X.prog X.w X.K X.mg X.base CX k f fd ps sp)(hr:Room k X.A)(hb:Binds X.K fd ps ds)(hd:Vals dvs ds)(hx:qx CX X E)(ht:eval (.Call (.Attribute o m apos) [] [] pos) X.env=(do
      let ov <- eval o X.env
      standAt apos.atName
      let (f,first) <- holding [ov] (getMethod ov m pl)
      callWith pos f first (tS pos (tD [] X.env)) (Aa pos (tR [] X.env))):=by rfl) :
    PE X (.Call (.Attribute o m apos) [] [] pos) (ZG C m sp dvs E ta xI):=by intros Q I h;refine cD (pl:=pl) (thn (he BN s σ H _ I h) λu s1=>el5 λx H1 I1 rx q_z=>?_) ht;let#[a,dx,fs,ex,ea,l,q]:=q_z;subst ex;obtain rfl:u=u9 a:=rx;refine wn I1 ea c hm l ?_;exact gh (first:=[.ref a]) I1.kIn hm.kp (kW (us:=[.ref a]) (vs:=[.ref a]) F hr hb hd hx I1 (.cons rfl .nil) q)
structure Mk(K:tF)(C f:tG):Prop where
 makes:cZ K C=BL
 init:af K (.ref C) "__init__" = BJ (BJ (.ref f))
 fn:aV K (.ref f)=BL
 kp:aK K (.ref C)=BL
theorem K2(M:Mk X.K C f)(F:zV X.prog X.w X.K X.mg X.base CX k f fd ps sp)(hr:Room (k+1) X.A)(hb:Binds X.K fd ps ds)(hd:Vals dvs ds)(hx:qx CX X E)(I:Inv X BN σ H s)(r:Vals vs us)(h:∀x dx,H x=BK->H dx=BK->dx≠x->sp (.ref x::(vs ++ dvs)) (upd (upd H dx (.own x)) x (.ins C dx [])) (λv H2=>v=.non/\Q (.ref x) H2) E) :
  tI (model X.prog X.w) X.A (call (.ref C) us) (EP X BN σ Q) X.xe s:=by
 have hq:=h (s⁻¹+1) s⁻¹ (I.hok.fresh (dq _)) (I.hok.fresh (ak _)) (aA (Nat.lt_succ_self _));have I2:=Inv.made (C:=C) I;have r2:Vals (V.ref (s⁻¹+1)::(vs ++ dvs)) (u9 (s⁻¹+1)::(us ++ ds)):=.cons rfl (r.append hd)
 have hl:(u9 (s⁻¹+1)::us ++ ds).length=ps.length:=by
  have e:=r2.length;rw[F.len _ _ _ _ hq]at e;exact e.symm
 refine Ap (Kl (f:=f) I.kIn M.makes M.init (beq_iff_eq.mp M.fn) (Ar (F.run _ X.stack _ _ #[u9 (s⁻¹+1)::us,[]] (u9 (s⁻¹+1)::(us ++ ds)) _ _ E (hr.make C us [])
  (I2.env0.make C us []) (hb _ (u9 (s⁻¹+1)::us) I2.kIn hl) r2 hq) λr s' hq'=>?_))
 cases r with
 | error e=>exact hx BN σ _ _ e s' I2 hq'
 | ok fl =>
  cases fl with
  | ret u =>
   let#[v,H',I3,rv,ev,q3]:=I2.after hq';subst ev;exact#[rv,#[V.ref (s⁻¹+1),H',I3,rfl,q3]]
  | next=>exact False.elim hq'
  | brk=>exact False.elim hq'
  | cont=>exact False.elim hq'
def Jr(M:Mk X.K C f)(F:zV X.prog X.w X.K X.mg X.base CX k f fd ps sp)(hr:Room (k+1) X.A)(hg:Gl X x)(hm:X.mg x=BJ (.ref C))(hb:Binds X.K fd ps ds)(hd:Vals dvs ds)(hx:qx CX X E)(ha:PA X (e::es) t) (hdb:‹(x ==("__debug__" : tK))=BM›) (he:‹tD (e::es) X.env=(BM,eval e X.env)::tD es X.env›) (hpl:‹(tS pos (tD es X.env)).any (·.1)=BM›) :
  PE X (.Call (.Name x p) (e::es) [] pos) (QP C sp dvs E t):=by intros Q I h;refine tW (vg I hg hm ?_ hdb);refine bZ (h₀:=X.base) I.ok.mod.kin M.kp (thn (ha pos BN s σ H _ I h) λus s1=>el5 λvs H1 I1 r q=>#[I1.kIn,?_]) he hpl;exact K2 M F hr hb hd hx I1 r q
def PK(X:Cx)(kws:List By)(t:TA):Prop :=
 ∀(pos:BD) (BN:List (tG × Au)) (s:tJ) (σ:St) (H:Hp) (Q:List V->Hp->Prop),Inv X BN σ H s->t σ H Q->tI (model X.prog X.w) X.A (evalAll ((Aa pos (tR kws X.env)).map (·.2))) (AP X BN σ Q) X.xe s
end
section
variable{X:Cx}{CX:CXT}{k:Nat}{f C:tG}{fd:An}{ps ks:List tK}{sp:Sp}{E:XK}{x m:tK}{p pos apos kpos:BD}{e o:Aq}{es:List Aq}{kws:List By}{te ta:TE}{t tk:TA}{nm:Option tK}
def zbE:PK X [] xI:=λZ Z Z Z H Q I h=>wpAny_evalAll_nil #[[],H,I,.nil,h]
def Jb(ha:PE X e te)(hr:PK X kws t):PK X (#[nm,e,kpos]::kws) (zO te t):=by intro pos BN s σ H Q I h;show tI _ _ (evalAll ((do let v <- eval e X.env;standAt pos;pure v)::(Aa pos (tR kws X.env)).map (·.2))) _ _ s;refine wpAny_evalAll_cons (tw (thn (ha BN s σ H _ I h) λu s1=>el5 λx H1 I1 r1 q1=>tw (Ab (tz ?_))));exact thn (hr pos BN s1 σ H1 _ I1 q1) λus s2=>el5 λxs H2 I2 r2 q2=>#[x::xs,H2,I2,.cons r1 r2,q2]
variable{g:List tH->List tH->List tH}{gV:List V->List V->List V}
end
mutual section
structure zl(N P:List tK)(sc:AF):Prop where
 kind:sc.kind=.function
 co:sc.isCoroutine=BM
 gen:sc.isGenerator=BM
 nd:N.Nodup
 pre:N.take P.length=P
 par:∀x ∈ P,sc.names.lookup x=BJ .local\/sc.names.lookup x=BJ .cell
 nofree:∀y ∈ sc.names,y.2≠.free
theorem Xs{kindOf:tK->Option AC}:∀{binds:List (tK × tH)} {m:tK->Option tH},(∀v,(x,v) ∉ binds)->bindL kindOf binds m x=m x
  | [],_,_=>rfl
  | (n,v)::r,m,h=>by
    unfold bindL;rw[Xs λw hw=>h w (aw _ hw)];split
    . have:x≠n:=by rintro rfl;exact h v aC
      simp [this]
    . rfl
theorem YF{kindOf:tK->Option AC}:∀{binds:List (tK × tH)} {m:tK->Option tH},(∀v,(x,v) ∉ binds)->bindC kindOf binds m x=m x
  | [],_,_=>rfl
  | (n,v)::r,m,h=>by
    unfold bindC;rw[YF λw hw=>h w (aw _ hw)];split
    . rfl
    . have:x≠n:=by rintro rfl;exact h v aC
      simp [this]
theorem Xf{kindOf:tK->Option AC}:∀{P:List tK} {vs:List tH} {i:Nat} {m:tK->Option tH},P.Nodup->P[i]? = BJ x->vs[i]? = BJ v->kindOf x=BJ .local ->
  bindL kindOf (P.zip vs) m x=BJ v
 | [],_,_,_,_,h,_,_=>by simp at h
 | _::_,[],_,_,_,_,h,_=>by simp at h
 | p::P,w::vs,0,m,nd,h1,h2,hk=>by
  simp at h1 h2;subst h1;subst h2;show bindL kindOf ((p,w)::P.zip vs) m p=_;unfold bindL;rw[Xs λv hv=>(Cb.mp nd).1 (dH hv).1,y9 hk];simp
 | p::P,w::vs,i+1,m,nd,h1,h2,hk=>by
  show bindL kindOf ((p,w)::P.zip vs) m x=_;unfold bindL;exact Xf (i:=i) (Cb.mp nd).2 ↥h1 ↥h2 hk
theorem Xv{kindOf:tK->Option AC}:∀{P:List tK} {vs:List tH} {i:Nat} {m:tK->Option tH},P.Nodup->P[i]? = BJ x->vs[i]? = BJ v->kindOf x≠BJ .local ->
  bindC kindOf (P.zip vs) m x=BJ v
 | [],_,_,_,_,h,_,_=>by simp at h
 | _::_,[],_,_,_,_,h,_=>by simp at h
 | p::P,w::vs,0,m,nd,h1,h2,hk=>by
  simp at h1 h2;subst h1;subst h2;show bindC kindOf ((p,w)::P.zip vs) m p=_;unfold bindC;rw[YF λv hv=>(Cb.mp nd).1 (dH hv).1,z9 hk];simp
 | p::P,w::vs,i+1,m,nd,h1,h2,hk=>by
  show bindC kindOf ((p,w)::P.zip vs) m x=_;unfold bindC;exact Xv (i:=i) (Cb.mp nd).2 ↥h1 ↥h2 hk
def start(N:List tK)(vs:List V):St:=vs.map BJ ++ ay (N.length - vs.length) BK
def qH(CX:CXT)(P:tL)(w:tP)(K:tF)(mg:tK->Option tH)(base:tT)(N:List tK)(qual:tK)(scope:AF)(f:tG)(cd:tH)(A:Af)(outer:List BB)(s:tJ)(H:Hp)(E:XK):Cx where
 prog:=P
 w:=w
 K:=K
 mg:=mg
 base:=base
 A:=A.deeper (AD qual scope s⁻¹ f cd)
 N:=N
 s₀:=s
 H₀:=H
 env:=AD qual scope s⁻¹ f cd
 outer:=outer
 stack:=AD qual scope s⁻¹ f cd::outer
 ex:=[]
 calm:=BL
 fn:=λZ=>BL
 pn:=[]
 xe:=λe s'=>tI (model P w) (A.deeper (AD qual scope s⁻¹ f cd)) (leaving (AD qual scope s⁻¹ f cd) e) (λZ s''=>CX outer H s E e s'') (λe' s''=>CX outer H s E e' s'') s'
def WW{sc:AF}(h:sc.names.lookup x=BJ .cell):∃c,(cellsFrom n sc.names []).lookup x=BJ c:=by have q:=fL sc.names n [] (.inl h);exact Cc.mp q
def Qa{K:tF}(S:zl N ps scope)(hd:A.handled=BK)(e0:Env0 P w K mg base A outer s H)(hl:vs.length=ps.length)(r:Vals vs us)(x:InCallC s s⁻¹ (bindL (AD qual scope s⁻¹ f cd).kindOf (ps.zip us) λZ=>BK) (cellsFrom (s⁻¹+1) scope.names []) (bindC (AD qual scope s⁻¹ f cd).kindOf (ps.zip us) λZ=>BK) s1) :
  Inv (qH CX P w K mg base N qual scope f cd A outer s H E) [] (start N vs) H s1:=by
 have hpl:ps.length<=N.length:=by have:=congrArg gu S.pre;rw[aL]at this;lia
 let#[h1,tk,rfl,hk]:=x.done;have noA:∀b:tG,b ∉ (qH CX P w K mg base N qual scope f cd A outer s H E).ex:=λb z=>y6 (show b ∈ ([]:List tG)from z) (by simp)
 refine#[#[e0.mod,S.kind,rfl,rfl,ak _,λy z c h1 h2=>?_,λy hy=>?_,λy c Z h=>?_,λZ=>hd,Around.frames_deeper e0.frames,.inr #[rfl,rfl],λb z=>y6 z (noA b),e0.bs,e0.bsz,λb Z Z=>noA b,λb z=>y6 z (noA b),e0.funs,e0.frf],
  rfl,e0.bare,Un.kept hk,#[_,x.toInCall.ns,λi y v h1 h2 h3=>?_],λy c h=>#[_,x.cell y c h],e0.hok.fresh (ak _),λy c h=>?_,λp hp=>y6 (show p ∈ ([]:List (tG × Au))from hp) (by simp),e0.hok.kept hk,?_]
 ·exact name_of_addr x.apart (cy h1) (cy h2)
 ·have hy:scope.names.lookup y=BJ .cell\/scope.names.lookup y=BJ .free:=hy;rcases hy with hy | hy
  ·exact WW hy
  ·exact y6 rfl (S.nofree _ (cy hy))
 ·exact cA (x.above y c (cy h))
 ·have hi:i<vs.length:=by
   unfold start at h2;by_cases hi:i<vs.length
   ·exact hi
   ·rw[bN ↥hi]at h2;rw[fF]at h2;split at h2 <;> cases h2
  have ha:vs[i]? = BJ v:=by
   unfold start at h2;rw[cG ↥hi,au]at h2
   cases e:vs[i]? with
   | none=>rw[e]at h2;cases h2
   | some a=>rw[e]at h2;cases h2;rfl
  let#[u,hu,rv]:=r.get ha
  have hp:ps[i]? = BJ y:=by
   rw[<- S.pre,dh ⋯];exact h1
  have ndP:ps.Nodup:=by rw[<- S.pre];exact S.nd.sublist (List.take_sublist _ _)
  refine#[u,rv,?_];rcases S.par y (ag hp)with k | k
  ·exact .inl #[k,Xf ndP hp hu k]
  ·let#[c,e]:=WW (n:=s⁻¹+1) k;refine .inr #[.inl k,c,e,?_];have q:=x.cell y c e;rw[Xv ndP hp hu (by show scope.names.lookup y≠_;rw[k];decide)]at q;exact q
 ·exact e0.hok.fresh (cA (x.above y c (cy h)))
 ·unfold start;show _=N.length;rw[am,aa,bj];lia
theorem zaq{K:tF}{dV kV doc pm cdv ct oc:tH}(lk:K.lookup f=BJ #[oc,od,.func (bv name qual params body scope dV kV doc pm an cdv ct),osl])(hcd:cp K cdv qual=BL)(S:zl N ps scope)(len:∀vs H Q E,sp vs H Q E->vs.length=ps.length)(hbody:∀(A:Af) (outer:List BB) (s:tJ) (H:Hp) (vs:List V) (Q:VK) (E:XK),Room k (A.deeper (AD qual scope s⁻¹ f cdv))->sp vs H Q E ->
   ∃t,PSs (qH CX P w K mg base N qual scope f cdv A outer s H E) body t/\t { nx:=λZ H'=>Q .non H',rt:=Q } (start N vs) H) :
  zV P w K mg base CX (k+1) f (bv name qual params body scope dV kV doc pm an cdv ct) ps sp:=by
 refine#[len,λA outer s H args us vs Q E hr e0 hb r hsp=>?_];have hl:=len _ _ _ _ hsp;have KX:K.In s.heap:=e0.mod.kin.keeps λb o e=>(e0.bs b o e).1;have lim:s.heap.NoLimit:=e0.mod.nolimit.keeps λb o e=>(e0.bs b o e).1
 have hkind:∀y ∈ ps.zip us,scope.names.lookup y.1=BJ .local\/(scope.names.lookup y.1=BJ .cell/\((cellsFrom (s⁻¹+1) scope.names []).lookup y.1).isSome=BL):=λ⟨n,v⟩ hy=>by
  rcases S.par n (dH hy).1 with q | q
  ·exact .inl q
  ·exact .inr #[q,fL _ _ _ (.inl q)]
 refine codeAny_call_function hr.depth (KX _ _ lk) rfl S.co S.gen rfl (PySem.W.codeRec_of KX hcd) (hb _ _ _ _ ?_);refine wpAny_newFunctionEnv_cells S.kind hkind λenv he s1 x=>?_;subst he;refine#[lim.keeps x.toInCall.keep,codeAny_func ?_];let#[t,ht,hq]:=hbody A outer s H vs Q E (hr.deeper _) hsp;have I:Inv (qH CX P w K mg base N qual scope f cdv A outer s H E) [] (start N vs) H s1:=Qa S hr.hd e0 hl r x;refine Am (ht [] s1 (start N vs) H _ I hq) (λfl s' hs=>?_) λe s' hs=>hs
 have fin:∀{σ':St} {H':Hp} {v:V} {u:tH},Inv (qH CX P w K mg base N qual scope f cdv A outer s H E) [] σ' H' s'->RelV v u->Q v H'->CE outer P w H s Q u s' :=
  λ{σ' H' v u} J rv q=>#[v,H',J.os,J.bare,J.base,J.hok,rv,q]
 cases fl with
 | ret u =>
  let#[v,σ',H',J,rv,q]:=hs;exact fin J rv q
 | next =>
  let#[σ',H',J,q]:=hs;exact fin (v:=V.non) (u:=u6) J rfl q
 | brk =>
  let#[_,_,_,q]:=hs;exact False.elim q
 | cont =>
  let#[_,_,_,q]:=hs;exact False.elim q
def tCB(r:List V->Hp->VK->Prop)(t:TA):TE:=λσ H Q=>t σ H λvs H1=>r vs H1 Q
def xg{X:Cx}{x:tK}{p:BD}{pos:BD}{e:Aq}{es:List Aq}{t:TA}{id:String}{r:List V->Hp->VK->Prop}(hc:uf X (.builtin id) r)(hg:Gl X x)(hm:X.mg x=BK)(hv:tY x=BJ (.builtin id))(ha:PA X (e::es) t)(hn:‹x≠"__name__"›)(hdb:‹(x ==("__debug__" : tK))=BM›)(he:‹tD (e::es) X.env=(BM,eval e X.env)::tD es X.env›) (hpl:‹(tS pos (tD es X.env)).any (·.1)=BM›):PE X (.Call (.Name x p) (e::es) [] pos) (tCB r t):=by intros Q I h;refine tW (vq I hg hm hv ?_ hn hdb);exact PyProof.Rows.callWith_builtin1 (thn (ha pos BN s σ H _ I h) λus s1=>el5 λvs H1 I1 r1 q1=>hc BN s1 σ H1 vs us Q I1 r1 q1) he hpl
def xl(hc:uf X (.type T) r)(hg:Gl X x)(hm:X.mg x=BK)(hv:tY x=BJ (.type T))(ha:PA X (e::es) t)(hn:‹x≠"__name__"›)(hdb:‹(x ==("__debug__" : tK))=BM›)(he:‹tD (e::es) X.env=(BM,eval e X.env)::tD es X.env›) (hpl:‹(tS pos (tD es X.env)).any (·.1)=BM›):PE X (.Call (.Name x p) (e::es) [] pos) (tCB r t):=by intros Q I h;refine tW (vq I hg hm hv ?_ hn hdb);exact bz (thn (ha pos BN s σ H _ I h) λus s1=>el5 λvs H1 I1 r1 q1=>hc BN s1 σ H1 vs us Q I1 r1 q1) he hpl
end
end L2
namespace HT
open PySem PyProof.Rows
section
open PySem.SeqAt
open PySem.AutoSeq1 (wpAny_loadPart')
open PySem.MeetsSeq PySem.MeetsSeq2 PySem.MeetsSeq3
end
end in def sIx(n d:Nat):Option Int->Nat
 | none=>d
 | some v=>if v<0 then (v+(n:Int)).toNat else min v.toNat n
def sIx_none(n d:Nat):sIx n d BK=d:=rfl
def sIx_nat(n d k:Nat):sIx n d (BJ (k:Int))=min k n:=by show (if (k:Int)<0 then ((k:Int)+(n:Int)).toNat else min (k:Int).toNat n)=min k n;rw[z9 ⋯,aO]
theorem sIx_le(n d:Nat)(hd:d<=n)(o:Option Int):sIx n d o<=n:=by
 cases o with
 | none=>exact hd
 | some v =>
  show (if v<0 then (v+(n:Int)).toNat else min v.toNat n)<=n;by_cases hv:v<0
  ·rw[y9 hv];lia
  ·rw[z9 hv];exact Nat.min_le_right _ _
end HT
namespace L2
end in abbrev TO:=St->Hp->(Option Int->Hp->Prop)->Prop
def PO(X:Cx)(e:Option Aq)(t:TO):Prop :=
 ∀(BN:List (tG × Au)) (s:tJ) (σ:St) (H:Hp) (Q:Option Int->Hp->Prop),Inv X BN σ H s->t σ H Q ->
  tI (model X.prog X.w) X.A (evalPart e X.env) (λu s'=>∃o H',Inv X BN σ H' s'/\IsPart u o/\Q o H') X.xe s
def ZB:TO:=λZ H Q=>Q BK H
def YS(t:TE):TO:=λσ H Q=>t σ H λx H1=>onInt x λi=>Q (BJ i) H1
section
variable{X:Cx}{e:Aq}{te:TE}{lo hi:Option Aq}{tl th:TO}{pos p2:BD}
def xS:PO X BK ZB:=by intros Q I h;rw[evalPart_none];exact tz #[BK,H,I,.none,h]
def yc(h:PE X e te):PO X (BJ e) (YS te):=by intros Q I hw;rw[evalPart_some];refine thn (h BN s σ H _ I hw) λu s1=>el5 λx H1 I1 r1 q1=>?_;let#[i,rfl,q]:=onInt.of q1;let#[t,rfl]:=r1;exact#[BJ i,H1,I1,.int i t,q]
def SlR(X:Cx)(r:V->Option Int->Option Int->Hp->VK->Prop):Prop :=
 ∀(BN:List (tG × Au)) (s:tJ) (σ:St) (H:Hp) (x:V) (v vl vu:tH) (lo hi:Option Int) (sl:tG) (Q:VK),Inv X BN σ H s->RelV x v->s.heap.IsSliceOf sl vl vu .none->IsPart vl lo->IsPart vu hi->r x lo hi H Q ->
  ∃T id,typeLookup (.type T) "__getitem__" = pure (BJ (.builtin id))/\s.TypeIs v T/\tI (model X.prog X.w) X.A (getItem v (.ref sl)) (EP X BN σ Q) X.xe s
def tSl(r:V->Option Int->Option Int->Hp->VK->Prop)(te:TE)(tl th:TO):TE:=λσ H Q=>te σ H λx H1=>tl σ H1 λl H2=>th σ H2 λu H3=>r x l u H3 Q
def yk(hr:SlR X r)(he:PE X e te)(hl:PO X lo tl)(hu:PO X hi th):PE X (.Subscript e (.Slice lo hi BK p2) pos) (tSl r te tl th):=by intros Q I h;refine BA (thn (he BN s σ H _ I h) λv s1=>el5 λx H1 I1 r1 q1=>?_);refine wpAny_Slice (thn (hl BN s1 σ H1 _ I1 q1) λvl s2=>el5 λl H2 I2 pl q2=>thn (hu BN s2 σ H2 _ I2 q2) λvu s3=>el5 λu H3 I3 pu q3=>?_);rw[evalPart_none];refine tz ?_;have I4:Inv X BN σ H3 { s3 with heap:=s3.heap.push { cls:=.type "slice",data:=.fields (w4 [vl,vu,.none]) } }:=I3.kept (t':=s3.toks) λb ob q=>ae _ q;let#[T,id,hT,ht,hg]:=hr BN { s3 with heap:=s3.heap.push { cls:=.type "slice",data:=.fields (w4 [vl,vu,.none]) } } σ H3 x v vl vu l u s3⁻¹ Q I4 r1 (Heap.IsSliceOf.new ..) pl pu q3;show tI (model X.prog X.w) X.A (Bh e (.Slice lo hi BK p2) v (.ref s3⁻¹)) (EP X BN σ Q) X.xe { s3 with heap:=s3.heap.push { cls:=.type "slice",data:=.fields (w4 [vl,vu,.none]) } };exact tail_any (ops:=[.ref s3⁻¹,v]) ht hT hg (by with_unfolding_all rfl)
end in def zay(xs:List V)(lo hi:Option Int):List V:=(xs.drop (HT.sIx xs.length 0 lo)).take (HT.sIx xs.length xs.length hi - HT.sIx xs.length 0 lo)
theorem Ww(xs:List V)(lo hi:Option Int):(zay xs lo hi).length<=xs.length:=by unfold zay;rw[aL,bq];lia
end
end in def ixN(n:Nat)(i:Int):Option Nat:=if 0<=i then (if i<n then BJ i.toNat else BK)else if -(n:Int)<=i then BJ (i+n).toNat else BK
end in def atI{α:Type}(xs:List α)(i:Int):Option α:=(ixN xs.length i).bind λj=>xs[j]?
def Q7(h:ixN n i=BJ j):seqIndex? i n=BJ j/\j<n/\-(n:Int)<=i/\i<n:=by
 unfold ixN at h;by_cases h0:0<=i
 ·rw[y9 h0]at h;by_cases h1:i<n
  ·rw[y9 h1]at h;have e:i.toNat=j:=Option.some.inj h;exact#[by rw[seqIndex_of h0 h1,e],⋯,⋯,h1]
  ·rw[z9 h1]at h;cases h
 ·rw[z9 h0]at h;by_cases h1:-(n:Int)<=i
  ·rw[y9 h1]at h;have e:(i+n).toNat=j:=Option.some.inj h;exact#[by rw[seqIndex_neg ⋯ h1,e],⋯,h1,⋯]
  ·rw[z9 h1]at h;cases h
theorem WC(h:atI xs i=BJ v):∃j,seqIndex? i xs.length=BJ j/\xs[j]? = BJ v/\j<xs.length/\-(xs.length:Int)<=i/\i<xs.length:=by
 unfold atI at h
 cases e:ixN xs.length i with
 | none=>rw[e]at h;cases h
 | some j =>
  rw[e]at h;let#[h1,h2,h3,h4]:=Q7 e;exact#[j,h1,h,h2,h3,h4]
def vW{xs:List α}{j:Nat}{v:α}(h:xs[j]? = BJ v):atI xs (j:Int)=BJ v:=by
 have hj:j<xs.length:=(BP.mp h).1
 have e:ixN xs.length (j:Int)=BJ j:=by
  unfold ixN;rw[y9 ⋯,y9 ⋯];simp
 unfold atI;rw[e];exact h
def U9(b:Aq):Prop:=∀o i,subscripted b BM o i=operate [o,i] (getItem o i)
def IxR(X:Cx)(r:R2):Prop :=
 ∀(value slice:Aq) (BN:List (tG × Au)) (s:tJ) (σ:St) (H:Hp) (x y:V) (v u:tH) (Q:VK),Inv X BN σ H s->RelV x v->RelV y u->r x y H Q ->
  subscripted slice BM v u=operate [v,u] (getItem v u)->tI (model X.prog X.w) X.A (Bh value slice v u) (EP X BN σ Q) X.xe s
def MtR(X:Cx)(id:String)(r:V->List V->Hp->VK->Prop):Prop :=
 ∀(BN:List (tG × Au)) (s:tJ) (σ:St) (H:Hp) (x:V) (xs:List V) (v:tH) (us:List tH) (Q:VK),Inv X BN σ H s->RelV x v->Vals xs us->r x xs H Q ->
  tI (model X.prog X.w) X.A (call (.builtin id) (v::us)) (EP X BN σ Q) X.xe s
section
mutual section
variable{X:Cx}{a b:Aq}{ta tb:TE}{pos:BD}
def IxR.or(h:IxR X r)(h':IxR X r'):IxR X (λx y H Q=>r x y H Q\/r' x y H Q):=by
 intro value slice BN s σ H x y v u Q I rx ry q hs;rcases q with q | q
 ·exact h value slice BN s σ H x y v u Q I rx ry q hs
 ·exact h' value slice BN s σ H x y v u Q I rx ry q hs
def zg4(hr:IxR X r)(ha:PE X a ta)(hb:PE X b tb)(hs:U9 b):PE X (.Subscript a b pos) (tOp r ta tb):=by intros Q I h;exact BA (zgs ha hb I h λv u s2 x y H2 I2 rx ry q=>hr a b BN s2 σ H2 x y v u Q I2 rx ry q (hs _ _))
def zft(K:tF):R2:=λx y H Q=>onRef x λp=>onInt y λi=>∃xs,SqL K H p xs/\∃v,atI xs i=BJ v/\Q v H
def jd(K:tF):R2:=λx y H Q=>onRef x λp=>onInt y λi=>∃xs,SqT K H p xs/\∃v,atI xs i=BJ v/\Q v H
def zbd:R2:=λx y H Q=>onStr x λz=>onInt y λi=>z.length<=tE/\∃c,atI z.cps.toList i=BJ c/\Q (.str ⟨#[c]⟩) H
theorem ix_list:IxR X (zft X.K):=by
 intro value slice BN s σ H x y v u Q I rx ry h hs;let#[p,rfl,h2]:=onRef.of h;let#[i,rfl,xs,hq,z,he,q]:=onInt.of h2;cases rx;let#[t,rfl]:=ry;let#[its,r,pl,hz]:=I.list hq;let#[j,h1,h2,h3,h4,h5]:=WC he;let#[w,ew,rw']:=r.get h2;have hl:=r.length;have hn:=k7;have fin:EP X BN σ Q w s:=#[z,H,I,rw',q];by_cases h0:0<=i
 ·have hj:i.toNat=j:=by
   rw[seqIndex_of h0 h5]at h1;exact Option.some.inj h1
  exact item_listR pl.isList h0 ⋯ (by rw[hj];simpa using ew) fin hs
 ·have hj:(i+(its.toArray.size:Int)).toNat=j:=by
   rw[seqIndex_neg ⋯ h4]at h1;rw[aj,<- hl];exact Option.some.inj h1
  exact AR (x:=w) pl.isList.typeIs slot_list_getitem.lookup
   (wpAny_getItem_list_neg (Q:=λr s'=>r=w/\EP X BN σ Q r s') pl.isList ⋯ (by rw[aj] <;> lia) ⋯ (by rw[hj];simpa using ew) #[rfl,fin]) hs
theorem w6:IxR X (jd X.K):=by
 intro value slice BN s σ H x y v u Q I rx ry h hs;let#[p,rfl,h2]:=onRef.of h;let#[i,rfl,xs,hq,z,he,q]:=onInt.of h2;cases rx;let#[t,rfl]:=ry;let#[its,r,pl,hz]:=I.tuple hq;let#[j,h1,h2,h3,h4,h5]:=WC he;let#[w,ew,rw']:=r.get h2;have hl:=r.length;have hn:=k7;have fin:EP X BN σ Q w s:=#[z,H,I,rw',q]
 exact AR (x:=w) pl.typeIs slot_tuple_getitem.lookup
  (getItem_tuple (j:=j) (Q:=λr s'=>r=w/\EP X BN σ Q r s') pl ⋯ ⋯ (by rw[aj,<- hl];exact h1) ↥ew #[rfl,fin]) hs
theorem Zk:IxR X zbd:=by
 intro value slice BN s σ H x y v u Q I rx ry h hs;let#[z,rfl,h2]:=onStr.of h;let#[i,rfl,hz,c,he,q]:=onInt.of h2;let#[t,rfl]:=rx;let#[t',rfl]:=ry;let#[j,h1,h2,h3,h4,h5]:=WC he;have hl:z.cps.toList.length=z.length:=by simp [Str.length]
 rw[hl]at h1 h4 h5;have hn:=k7
 exact tail_any (typeIs_str s z t) slot_str_getitem.lookup (getItem_str (c:=c) (by
  have e1:decide (i < -(2 ^ 63:Int))=BM:=y4 ⋯;have e2:decide (i ≥ 2 ^ 63)=BM:=y4 ⋯
  rw[e1,e2,Bool.or_false]) (by rw[h1];simpa using h2) #[.str ⟨#[c]⟩,H,I.tok _,#[_,rfl],q]) hs
def rIx(K:tF):R2:=λx y H Q=>match x with | .ref p=>onInt y λi=>(∃xs,SqL K H p xs/\∃v,atI xs i=BJ v/\Q v H)\/∃xs,SqT K H p xs/\∃v,atI xs i=BJ v/\Q v H | .str z=>zbd (.str z) y H Q | _=>False
def rIx.of{K:tF}(h:rIx K x y H Q):zft K x y H Q\/jd K x y H Q\/zbd x y H Q:=by unfold rIx at h;cases x <;> first | exact .inr (.inr h) | (let#[i,rfl,h]:=onInt.of h;exact h.elim .inl λh=>.inr (.inl h)) | exact h.elim
def zeH:IxR X (rIx X.K):=λa b BN s σ H x y v u Q I rx ry h hs=>(ix_list.or (w6.or Zk)) a b BN s σ H x y v u Q I rx ry h.of hs
def VW(its:List tH)(n j:Nat)(u:tH):Obj.mapSeq (·.setIfInBounds j u) { cls:=.type "list",data:=.seq its.toArray n }={ cls:=.type "list",data:=.seq (its.set j u).toArray n }:=by simp [Obj.mapSeq]
def Inv.lst{BN:List (tG × Au)}{σ:St}{H:Hp}{s:tJ}{p:tG}{xs:List V}(I:Inv X BN σ H s)(h:H p=BJ (.lst xs)) :
  ∃(its:List tH) (n:Nat),Vals xs its/\s.heap.get? p=BJ { cls:=.type "list",data:=.seq its.toArray n }/\xs.length<=tE:=by let#[z,its,n,r,e]:=I.hok p _ h;exact#[its,n,r,e,z]
def Inv.lstUpd{its its':List tH}(I:Inv X BN σ H s)(h:H p=BJ (.lst xs))(ho:s.heap.get? p=BJ { cls:=.type "list",data:=.seq its.toArray n })(hf:f { cls:=.type "list",data:=.seq its.toArray n }={ cls:=.type "list",data:=.seq its'.toArray n' })(r:Vals ys its')(hz:ys.length<=tE)(t:Nat) :
  Inv X BN σ (upd H p (.lst ys)) { s with heap:=s.heap.update p f,toks:=t }:=by
 have e:(s.heap.update p f).get? p=BJ { cls:=.type "list",data:=.seq its'.toArray n' }:=by
  rw[bU f ho (by rw[hf] <;> rfl),hf]
 refine I.write (x:=p) (e:=p) (by rw[h];trivial) (.inl rfl) (λb u hb q=>(aI _ _ (Ne.symm hb)).trans q) #[_,e] ?_;exact#[hz,its',n',r,e]
def zfM:V->V->V->Hp->(Hp->Prop)->Prop:=λo i v H Q=>∃p xs k j,o=.ref p/\i=.int k/\H p=BJ (.lst xs)/\ixN xs.length k=BJ j/\Q (upd H p (.lst (xs.set j v)))
theorem zaw:zgd X zfM:=by
 intros o i v ov iv u Q I ro ri rv h;let#[p,xs,k,j,rfl,rfl,hp,hj,q]:=h;cases ro;let#[t,rfl]:=ri;let#[its,n,r,ho,hz]:=I.lst hp;let#[h1,h2,h3,h4]:=Q7 hj;have hl:=r.length;have hn:=k7
 have I':Inv X BN σ (upd H p (.lst (xs.set j v))) { s with heap:=s.heap.update p (Obj.mapSeq (·.setIfInBounds j u)) } :=
  I.lstUpd hp ho (VW its n j u) (r.set rv j) (by rw[List.length_set];exact hz) s.toks
 by_cases h0:0<=k
 ·have hk:k.toNat=j:=by
   rw[seqIndex_of h0 h4]at h1;exact Option.some.inj h1
  exact PySem.W.ki_setAt ho h0 ⋯ (by rw[aj,<- hl];exact h4) (by rw[hk];exact#[_,I',q])
 ·have hk:(k+(its.toArray.size:Int)).toNat=j:=by
   rw[seqIndex_neg ⋯ h3]at h1;rw[aj,<- hl];exact Option.some.inj h1
  exact PySem.W.ki_setBack ho ⋯ (by rw[aj,<- hl];exact h3) ⋯ (by rw[hk];exact#[_,I',q])
theorem YR(lo hi:Option Int)(n:Nat):(sliceBounds lo hi BK n).1=((HT.sIx n 0 lo:Nat):Int)/\(sliceBounds lo hi BK n).2.1=((HT.sIx n n hi:Nat):Int)/\(sliceBounds lo hi BK n).2.2=1:=by
 refine#[?_,?_,rfl]
 ·cases lo with
  | none=>simp [sliceBounds,HT.sIx]
  | some i =>
   erw[sliceBounds,HT.sIx,dA,show (1:Int) > 0 by decide,if_true];by_cases h:i<0
   ·erw[h,if_true] <;> lia
   ·erw[h,if_false] <;> lia
 ·cases hi with
  | none=>simp [sliceBounds,HT.sIx]
  | some i =>
   erw[sliceBounds,HT.sIx,dA,show (1:Int) > 0 by decide,if_true];by_cases h:i<0
   ·erw[h,if_true] <;> lia
   ·erw[h,if_false] <;> lia
def Yt(its:List tH)(lo hi:Option Int):slicePick its.toArray lo hi BK=((its.drop (HT.sIx its.length 0 lo)).take (HT.sIx its.length its.length hi - HT.sIx its.length 0 lo)).toArray:=by
 let#[h1,h2,h3]:=YR lo hi its.toArray.size;unfold slicePick;rw[h1,h2,h3];erw[sliceRange_one,pick_run,aj] <;> rfl
def zd7(K:tF):V->Option Int->Option Int->Hp->VK->Prop:=λx lo hi H Q=>onRef x λa=>∃xs,SqL K H a xs/\∀p,H p=BK->Q (.ref p) (upd H p (.lst (zay xs lo hi)))
theorem ZH:SlR X (zd7 X.K):=by intros x v vl vu lo hi sl Q I rx hs pl pu h;let#[a,rfl,xs,hx,q]:=onRef.of h;cases rx;let#[its,r,ht,hz]:=I.list hx;have hlen:=r.length;refine#["list",_,slot_list_getitem.lookup,ht.isList.typeIs,?_];refine wpAny_getItem_list_slice ht.isList hs pl pu .none (by simp) ?_ (by rw[aj] <;> lia);rw[Yt,<- hlen];refine#[.ref s⁻¹,_,I.laid (t':=s.toks) (o:=.lst (zay xs lo hi)) (λb ob q=>ae _ q) (ak _) ?_,rfl,q _ (I.hok.fresh (ak _))];exact#[aB (Ww xs lo hi) hz,_,0,(r.drop (HT.sIx xs.length 0 lo)).take (HT.sIx xs.length xs.length hi - HT.sIx xs.length 0 lo),aE _ rfl]
def zfm:V->Bool
 | .non=>BL
 | .bl _=>BL
 | .int _=>BL
 | .str _=>BL
 | _=>BM
def eqV:V->V->Bool
 | .non,.non=>BL
 | .bl a,.bl b=>a == b
 | .bl a,.int b=>(if a then 1 else 0) == b
 | .int a,.bl b=>a ==(if b then 1 else 0)
 | .int a,.int b=>a == b
 | .str a,.str b=>a == b
 | _,_=>BM
theorem W3(ry:RelV y u)(rx:RelV x v)(fy:zfm y=BL)(fx:zfm x=BL):SeqAt.EqAt A s u v (eqV y x):=by
 cases y with
 | non =>
  cases ry
  cases x with
  | non=>cases rx;exact SeqAt.EqAt.same _
  | bl b=>cases rx;exact SeqAt.EqAt.none_bool b
  | int b=>let#[t,rfl]:=rx;exact SeqAt.EqAt.none_int b t
  | str b=>let#[t,rfl]:=rx;exact SeqAt.EqAt.none_str b t
  | _=>exact y6 (show BM=BL from fx) aD
 | bl a =>
  cases ry
  cases x with
  | non=>cases rx;exact SeqAt.EqAt.bool_none a
  | bl b=>cases rx;exact SeqAt.EqAt.bool_bool a b
  | int b=>let#[t,rfl]:=rx;exact SeqAt.EqAt.bool_int a b t
  | str b=>let#[t,rfl]:=rx;exact SeqAt.EqAt.bool_str a b t
  | _=>exact y6 (show BM=BL from fx) aD
 | int a =>
  let#[t',rfl]:=ry
  cases x with
  | non=>cases rx;exact SeqAt.EqAt.int_none a t'
  | bl b=>cases rx;exact SeqAt.EqAt.int_bool a t' b
  | int b=>let#[t,rfl]:=rx;exact SeqAt.EqAt.int_int a t' b t
  | str b=>let#[t,rfl]:=rx;exact SeqAt.EqAt.int_str a t' b t
  | _=>exact y6 (show BM=BL from fx) aD
 | str a =>
  let#[t',rfl]:=ry
  cases x with
  | non=>cases rx;exact SeqAt.EqAt.str_none a t'
  | bl b=>cases rx;exact SeqAt.EqAt.str_bool a t' b
  | int b=>let#[t,rfl]:=rx;exact SeqAt.EqAt.str_int a t' b t
  | str b=>let#[t,rfl]:=rx;exact SeqAt.EqAt.str_str a t' b t
  | _=>exact y6 (show BM=BL from fx) aD
 | _=>exact y6 (show BM=BL from fy) aD
theorem yT:uf X (.type "list") (λxs H Q=>∃p ys,xs=[.ref p]/\(SqL X.K H p ys\/SqT X.K H p ys)/\∀l,H l=BK->Q (.ref l) (upd H l (.lst ys))):=by
 intros xs us Q I r h;let#[p,ys,rfl,hq,q]:=h;let#[u,rfl,rx]:=vf r;cases rx
 have fin:∀(its:List tH),Vals ys its->ys.length<=tE->∀(h':tT) (c':Nat),(∀b o',s.heap.get? b=BJ o'->h'.get? b=BJ o') ->
   h'.get? s⁻¹=BJ { cls:=.type "list",dict:=BK,data:=.seq its.toArray c',slots:=#[] }->EP X BN σ Q (.ref s⁻¹) { s with heap:=h' }:=λits r' hz h' c' kp e =>
  #[.ref s⁻¹,_,I.laid (t':=s.toks) kp (ak _) (show ObjOk X.prog X.w _ h' _ (.lst ys)from #[hz,its,c',r',e]),rfl,q _ (I.hok.fresh (ak _))]
 rcases hq with hq | hq
 ·let#[its,r',pl,hz]:=I.list hq;have hlen:=r'.length;let#[o,ho,hc,n,hd]:=pl.isList;exact call_list_seq p (.inl rfl) ho hc hd (λh' c' kp e=>fin its r' hz h' c' kp e) (by erw[aj] <;> lia)
 ·let#[its,r',pl,hz]:=I.tuple hq;have hlen:=r'.length;let#[o,ho,hc,n,hd]:=pl;exact call_list_seq p (.inr rfl) ho hc hd (λh' c' kp e=>fin its r' hz h' c' kp e) (by erw[aj] <;> lia)
theorem ZN:uf X (.type "tuple") (λxs H Q=>∃p ys,xs=[.ref p]/\((SqL X.K H p ys/\∀l,H l=BK->Q (.ref l) (upd H l (.tup ys)))\/(SqT X.K H p ys/\Q (.ref p) H))):=by
 intros xs us Q I r h;let#[p,ys,rfl,h]:=h;let#[u,rfl,rx]:=vf r;cases rx;rcases h with ⟨hq,q⟩ | ⟨hq,q⟩
 ·let#[its,r',pl,hz]:=I.list hq;have hlen:=r'.length;refine call_tuple_list pl.isList (λh' kp=>?_) (by erw[aj] <;> lia);have I1:Inv X BN σ H { s with heap:=h' }:=I.kept (t':=s.toks) kp
  have I2:Inv X BN σ (upd H h'.objs.size (.tup ys)) { s with heap:=h'.push { cls:=.type "tuple",data:=.seq its.toArray } } :=
   I1.laid (t':=s.toks) (λb o e=>ae _ e) (ak _) (show ObjOk X.prog X.w _ _ _ (.tup ys)from #[hz,its,r',IsTup.new _ _])
  exact#[.ref h'.objs.size,_,I2,rfl,q _ (I1.hok.fresh (ak _))]
 ·let#[its,r',pl,hz]:=I.tuple hq;exact call_tuple_same pl #[.ref p,H,I,rfl,q]
def tyV(K:tF)(T:String)(x:V)(H:Hp):Prop:=match x with
 | .str _=>T="str"
 | .int _=>T="int"
 | .ref p=>(T="list"/\∃xs,SqL K H p xs)\/(T="tuple"/\∃o,K.lookup p=BJ o/\o.cls=.type "tuple"/\o.dict=BK) \/
   (T="dict"/\((∃kvs,H p=BJ (.dK kvs))\/∃kvs,H p=BJ (.dT kvs)))\/(T="set"/\∃S n,H p=BJ (.set S n))
 | _=>False
theorem zbc(I:Inv X BN σ H s)(r:RelV x v)(ty:tyV X.K T x H) :
  s.TypeIs v T/\∀a,v=.ref a->∃ob,s.heap.get? a=BJ ob/\ob.dict=BK:=by
 cases x with
 | str z =>
  let#[t,rfl]:=r;cases (show T="str" from ty);exact#[typeIs_str s z t,λZ e=>nomatch e]
 | int i =>
  let#[t,rfl]:=r;cases (show T="int" from ty);exact#[typeIs_int s i t,λZ e=>nomatch e]
 | ref p =>
  cases r;rcases ty with ⟨rfl,xs,hq⟩ | ⟨rfl,o,hk,hc,hd⟩ | ⟨rfl,hk⟩ | ⟨rfl,S,n,hk⟩
  ·let#[its,_,pl,_]:=I.list hq;refine#[pl.isList.typeIs,λa e=>?_];cases e;let#[o,n,e,c,hd,_]:=pl;exact#[o,e,hd]
  ·refine#[#[o,I.kIn p o hk,hc],λa e=>?_];cases e;exact#[o,I.kIn _ o hk,hd]
  ·have z:∃o,s.heap.get? p=BJ o/\o.ExactDict:=by
    rcases hk with ⟨kvs,hk⟩ | ⟨kvs,hk⟩
    ·let#[_,_,_,_,o,_,_,e,ex,_]:=I.hok p _ hk;exact#[o,e,ex]
    ·let#[_,_,_,_,o,_,_,e,ex,_]:=I.hok p _ hk;exact#[o,e,ex]
   let#[o,e,ex]:=z;refine#[#[o,e,ex.1],λa e2=>?_];cases e2;exact#[o,e,ex.2.1]
  ·let#[o,_,_,_,e,ex,_]:=I.hok p _ hk;refine#[#[o,e,ex.1],λa e2=>?_];cases e2;exact#[o,e,ex.2.1]
 | _=>exact False.elim ty
def zfW(K:tF)(T:String)(r:V->List V->Hp->VK->Prop)(to:TE):TE:=λσ H Q=>to σ H λx H1=>tyV K T x H1/\r x [] H1 Q
def tBM(K:tF)(T:String)(r:V->List V->Hp->VK->Prop)(to:TE)(t:TA):TE:=λσ H Q=>to σ H λx H1=>tyV K T x H1/\t σ H1 λxs H2=>r x xs H2 Q
variable{o e:Aq}{es:List Aq}{to:TE}{t:TA}{name:tK}{apos cpos:BD}{T id:String}{r:V->List V->Hp->VK->Prop}
def zfb(pa:PlainAttrs T)(slot:Slot T name id)(hty:typeOf (.builtin id)=pure (.type "method_descriptor"))(hm:MtR X id r)(ho:PE X o to)(hbase:‹attributeBase o name X.env (eval o X.env)=eval o X.env›) (hline:‹(apos.endLine == cpos.line)=BL›):PE X (.Call (.Attribute o name apos) [] [] cpos) (zfW X.K T r to):=by intros Q I h;refine wpAny_Call_method0_late hbase hline (thn (ho BN s σ H _ I h) λv s1=>el5 λx H1 I1 r1=>ua2 λty q1=>?_);let#[h1,h2]:=zbc I1 r1 ty;exact#[T,id,pa,slot,hty,h1,h2,Calls.callWith_builtin rfl (PySem.evalArgs_none (hm BN s1 σ H1 x [] v [] Q I1 r1 .nil q1))]
def qz(pa:PlainAttrs T)(slot:Slot T name id)(hty:typeOf (.builtin id)=pure (.type "method_descriptor"))(hm:MtR X id r)(ho:PE X o to)(ha:PA X (e::es) t)(hbase:‹attributeBase o name X.env (eval o X.env)=eval o X.env›)(hfew:((tS cpos (tD (e::es) X.env)).all (λx=>!x.1) && (Aa cpos (tR [] X.env)).all (λx=>x.1.isSome)
   && decide ((e::es).length+([]:List By).length+(if ([]:List By).isEmpty then 0 else 1)<30))=BL:=by rfl)(hline:‹(apos.endLine == cpos.line)=BL›) (hs:‹tD (e::es) X.env=(BM,eval e X.env)::tD es X.env›) (hplain:‹(tS cpos (tD es X.env)).any (·.1)=BM›) :
  PE X (.Call (.Attribute o name apos) (e::es) [] cpos) (tBM X.K T r to t):=by intros Q I h;refine wpAny_Call_method_late hbase hfew hline rfl (thn (ho BN s σ H _ I h) λv s1=>el5 λx H1 I1 r1=>ua2 λty q1=>?_);let#[h1,h2]:=zbc I1 r1 ty;refine#[T,id,pa,slot,hty,h1,h2,?_];have hA:=ha cpos BN s1 σ H1 _ I1 q1;rw[hs]at hA ⊢;refine Calls.callWith_builtin (by show (BM || (tS cpos (tD es X.env)).any (·.1))=BM;rw[hplain] <;> rfl) (Calls.evalArgs_plain ?_);exact thn hA λus s2=>el5 λvs H2 I2 r2 q2=>hm BN s2 σ H2 x vs v us Q I2 r1 r2 q2
/- xs.append(e),list.index on a module's tuple .. are MtR facts of 06m -/
end
end
mutual section
def MtM(X:Cx)(id:String)(r:V->List V->Hp->VK->Prop):Prop :=
 ∀(BN:List (tG × Au)) (s:tJ) (σ:St) (H:Hp) (x:V) (xs:List V) (v:tH) (us:List tH) (Q:VK),Inv X BN σ H s->RelV x v->Vals xs us->r x xs H Q ->
  tI (model X.prog X.w) X.A (call (.builtin id) (v::us)) (EP X BN σ Q) X.xe s
theorem Vals.one(h:Vals [x] us):∃u,us=[u]/\RelV x u:=by
 cases h with
 | cons r t =>
  cases t;exact#[_,rfl,r]
theorem Vals.zero:∀{us:List tH},Vals [] us->us=[]
 | _,.nil=>rfl
theorem Vals.reverse(h:Vals xs us):Vals xs.reverse us.reverse:=by
 induction h with
 | nil=>exact .nil
 | cons r t ih=>rw[List.reverse_cons,List.reverse_cons];exact Vals.append ih (.cons r .nil)
def Inv.lset{its its':List tH}(I:Inv X BN σ H s)(hH:H l=BJ (.lst xs))(e:s.heap.get? l=BJ { cls:=.type "list",data:=.seq its.toArray n })(hf:f its.toArray=its'.toArray)(hv:Vals ys its')(hz:ys.length<=tE) :
  Inv X BN σ (upd H l (.lst ys)) { s with heap:=s.heap.update l (Obj.mapSeq f),toks:=t' }:=by have q:=PySem.IsL.update e f;rw[hf]at q;refine I.write (x:=l) (e:=l) (by rw[hH];exact trivial) (.inl rfl) (λb' u hb hu=>(aI s.heap (Obj.mapSeq f) (Ne.symm hb)).trans hu) #[_,q] ?_;exact#[hz,its',_,hv,q]
def Inv.lnew(I:Inv X BN σ H s)(hv:Vals ys its)(hz:ys.length<=tE) :
  Inv X BN σ (upd H s⁻¹ (.lst ys)) { s with heap:=s.heap.push { cls:=.type "list",data:=.seq its.toArray },toks:=t' } :=
 I.laid (λZ Z q=>ae _ q) (ak _) #[hz,its,0,hv,aE _ rfl]
def Inv.fresh(I:Inv X BN σ H s):H s⁻¹=BK:=I.hok.fresh (ak _)
def Inv.lstM(I:Inv X BN σ H s)(hH:H l=BJ (.lst xs)):xs.length<=tE/\∃(its:List tH) (n:Nat),Vals xs its/\xs.length=its.length/\s.heap.get? l=BJ { cls:=.type "list",data:=.seq its.toArray n }:=by let#[z,its,n,r,e]:=I.hok l _ hH;exact#[z,its,n,r,r.length,e]
def KN(h:n<=tE):Builtin.List.listTooLong n=BM:=by unfold Builtin.List.listTooLong;exact y4 ⋯
def UE:V->List V->Hp->VK->Prop:=λx vs H Q=>onRef x λl=>match vs with | [y]=>∃xs,H l=BJ (.lst xs)/\xs.length<tE/\Q .non (upd H l (.lst (xs ++ [y]))) | _=>False
def xG:MtM X "list.append" UE:=by
 intros x vs v us Q I rx rv h;let#[l,rfl,h2]:=onRef.of h
 obtain⟨y,rfl,xs,hH,hz,q⟩:∃y,vs=[y]/\∃xs,H l=BJ (.lst xs)/\xs.length<tE/\Q .non (upd H l (.lst (xs ++ [y]))):=by
  split at h2
  ·exact#[_,rfl,h2]
  ·exact h2.elim
 cases rx;let#[u,rfl,ru]:=rv.one;let#[z,its,n,r,hl,e]:=I.lstM hH;refine call_meets F.slot_list_append #[_,e,rfl] F.entry_list_append (F.args_list_append_2 _ _) (PySem.list_append l its.toArray n u (by rw[aj];lia)) #[e,?_];refine#[.non,_,I.lset (its':=its ++ [u]) hH e (by simp) (r.append (.cons ru .nil)) ?_,rfl,q];rw[am,fQ];lia
def QO:V->List V->Hp->VK->Prop:=λx vs H Q=>∃l b xs zs,x=.ref l/\vs=[.ref b]/\H l=BJ (.lst xs)/\H b=BJ (.lst zs)/\xs.length+zs.length<=tE/\Q .non (upd H l (.lst (xs ++ zs)))
def JZ:MtM X "list.extend" QO:=by
 intros x vs v us Q I rx rv h;let#[l,b,xs,zs,rfl,rfl,hH,hB,hz,q]:=h;cases rx;let#[u,rfl,ru]:=rv.one;cases ru;let#[z,its,n,r,hl,e]:=I.lstM hH;let#[z2,its2,n2,r2,hl2,e2]:=I.lstM hB;have hsz:its.toArray.size+its2.toArray.size<=tE:=by rw[aj,aj];lia
 have hlong:¬ (!its.toArray.isEmpty && Builtin.List.listTooLong (its.toArray.size+its2.toArray.size))=BL:=by
  rw[KN hsz,eP];exact aD
 refine call_meets F.slot_list_extend #[_,e,rfl] F.entry_list_extend (F.args_list_extend_2 _ _)
  (AutoSeq1.list_extend_list_list_0 l its.toArray n b its2.toArray n2 hlong (by rw[aj];lia) ⋯) #[e,e2,?_]
 refine#[.non,_,I.lset (its':=its ++ its2) hH e (by simp) (r.append r2) ?_,rfl,q];rw[am];lia
def Vo:V->List V->Hp->VK->Prop:=λx vs H Q=>∃l xs,x=.ref l/\vs=[]/\H l=BJ (.lst xs)/\Q .non (upd H l (.lst xs.reverse))
def VX:MtM X "list.reverse" Vo:=by intros x vs v us Q I rx rv h;let#[l,xs,rfl,rfl,hH,q]:=h;cases rx;have hus:=rv.zero;subst hus;let#[z,its,n,r,hl,e]:=I.lstM hH;refine call_meets F.slot_list_reverse #[_,e,rfl] F.entry_list_reverse (F.args_list_reverse_1 _) (AutoSeq1.list_reverse_list_0 l its.toArray n (by rw[aj];lia)) #[e,?_];refine#[.non,_,I.lset (its':=its.reverse) hH e (by simp) r.reverse ?_,rfl,q];rw[di];lia
def zd2:R2:=λx y H Q=>onRef x λl=>onRef y λb=>∃xs,H l=BJ (.lst xs)/\∃zs,H b=BJ (.lst zs)/\xs.length+zs.length<=tE/\∀p,H p=BK->Q (.ref p) (upd H p (.lst (xs ++ zs)))
def WL:OpR X (binaryOp .Add) zd2:=by
 intros x y v u Q I rx ry h;let#[l,rfl,h2]:=onRef.of h;let#[b,rfl,xs,hH,zs,hB,hz,q]:=onRef.of h2;cases rx;cases ry;let#[z,its,n,r,hl,e]:=I.lstM hH;let#[z2,its2,n2,r2,hl2,e2]:=I.lstM hB;refine PySem.P.add_list e e2 ?_ (by rw[aj,aj];lia);have ea:its.toArray ++ its2.toArray=(its ++ its2).toArray:=by simp
 rw[ea];exact#[.ref _,_,I.lnew (t':=s.toks) (r.append r2) (by rw[am];lia),rfl,q _ I.fresh]
theorem len_rep{α:Type}(xs:List α)(k:Nat):(ay k xs).flatten.length=k * xs.length:=by
 induction k with
 | zero=>simp
 | succ k ih=>rw[cz,e7,am,ih,fk,Nat.add_comm]
end
end L2
namespace Att
open PySem PySem.W PySem.Calls PyProof.Rows
theorem kg : ∀(ns:List Int) (vs:List tH),WellAll P h vs (ns.map WData.int)->Bq vs ns:=by
 intro ns
 induction ns with
 | nil =>
  intro vs w;rw[aJ]at w;cases w;exact .nil
 | cons n ns ih =>
  intro vs w;rw[ao]at w
  cases w with
  | cons a b =>
   cases a;exact .cons _ _ (ih _ b)
theorem script_of{l:OpenLaw}(hn:l.most=BJ n)(hpre:l.row.toRowW.claim.pre args=BL)(hwl:WellAll P h vals args) :
  ∃a vs ns,vals=[u9 a]/\args=[WData.list (ns.map WData.int)]/\h.get? a=BJ { cls:=.type "list",data:=.seq vs.toArray }/\Bq vs ns/\ns.length<=n:=by
 have hsh:WShape.hasAll [] args [.list .int]=BL:=(pre_splitW hpre).1;have hc:l.pre.holds [] { args:=args }=BL:=(pre_splitW hpre).2;let#[d,r,rfl,h1,h2]:=hasAllW_cons hsh;obtain rfl:=hasAllW_nil h2;let#[xs,rfl,h3]:=hasW_list h1;let#[ns,rfl]:=items_int h3
 have hlen:ns.length<=n:=by
  unfold OpenLaw.pre at hc
  have h4:(WTm.not (.lt (.lit (.int (n:Int))) (.len (.arg 0)))).holds [] { args:=[.list (ns.map .int)] }=BL:=by
   have h4:=(holds_andW hc).1;rw[hn]at h4;exact h4
  have h5:=condW_of h4 (w_not (w_lt w_lit (w_len_list (w_arg rfl))));rw[aa]at h5;refine bw λq=>?_;have q':(n:Int)<((ns.length:Nat):Int):=⋯
  first
   | (rw[y3 q']at h5;exact y6 h5 ∅)
   | (simp at h5;lia)
 cases hwl with
 | cons w1 w2 =>
  cases w2
  cases w1 with
  | list ho hall=>exact#[_,_,ns,rfl,rfl,ho,kg ns _ hall,hlen]
def post_true(l:OpenLaw)(args:List WData):l.row.toRowW.claim.post args (.bool BL) args=BL :=
 postW_of (r:=l.row.toRowW) (X:=(BL == BL))
  (show WShape.has [] (.bool BL) .bool=BL by first | rfl | decide | simp [WShape.has,WShape.arms,WShape.armsAll])
  (show (WTm.eq .res (.lit (.bool BL))).value [] { args:=args,res:=BJ (.bool BL),after:=args }=BJ (.bool (BL == BL))from w_eq_bool (w_res rfl) w_lit) rfl
end Att
namespace L2
theorem YM:∀{vs:List tH} {ns:List Int},Bq vs ns->Vals (ns.map V.int) vs
 | _,_,.nil=>.nil
 | _,_,.cons n t h=>.cons #[t,rfl] (YM h)
end in def yA(s:tM)(j:Nat):tM:=match s with
 | .ClassDef _ _ _ body _ _ _ _ _ _ _=>body.getD j (.Pass #[0,0,0,0])
 | _=>.Pass #[0,0,0,0]
end in def yW(s:tM):Bv:=match s with
 | .FunctionDef _ a _ _ _ _ _ _ _ _=>a
 | _=>{ posonlyargs:=[],args:=[],vararg:=BK,kwonlyargs:=[],kw_defaults:=[],kwarg:=BK,defaults:=[] }
end in def yt(s:tM):List tM:=match s with
 | .FunctionDef _ _ b _ _ _ _ _ _ _=>b
 | _=>[]
end in def zi(s:tM):AF:=match s with
 | .FunctionDef _ _ _ _ _ _ sc _ _ _=>sc
 | _=>{ kind:=.function,names:=[],isGenerator:=BM,isCoroutine:=BM }
abbrev CX0:CXT:=λZ Z Z Z Z Z=>False
end in abbrev E0:XK:=λZ Z Z=>False
def X6 : qx CX0 X E0:=λZ Z Z Z Z Z Z h=>h.elim
structure Fun(K:tF)(x qual:tK)(st:tM)(f:tG)(fd:An):Prop where
 ex:∃(oc:tH) (od:Option tG) (kV doc pm:tH) (an:Option tG) (cdv ct:tH) (osl:Array (Option tH)),
  fd=bv x qual (yW st) (yt st) (zi st) .none kV doc pm an cdv ct/\K.lookup f=BJ #[oc,od,.func fd,osl]/\cp K cdv qual=BL
 kp:aK K (.ref f)=BL
section
variable{P:tL}{w:tP}{K:tF}{mg:tK->Option tH}{base:tT}
def Fun.ok{st:tM}(F:Fun K x qual st f fd)(S:zl N ps (zi st))(len:∀vs H Q E,sp vs H Q E->vs.length=ps.length)(hbody:∀(cdv:tH) (A:Af) (outer:List BB) (s:tJ) (H:Hp) (vs:List V) (Q:VK) (E:XK),Room k (A.deeper (AD qual (zi st) s⁻¹ f cdv))->sp vs H Q E ->
   ∃t,PSs (qH CX0 P w K mg base N qual (zi st) f cdv A outer s H E).nox (yt st) t/\t { nx:=λZ H'=>Q .non H',rt:=Q } (start N vs) H):zV P w K mg base CX0 (k+1) f fd ps sp:=by let#[oc,od,kV,doc,pm,an,cdv,ct,osl,rfl,lk,hcd]:=F.ex;refine zaq lk hcd S len λA outer s H vs Q E hr hsp=>?_;let#[t,h,q]:=hbody cdv A outer s H vs Q E hr hsp;exact#[t,h.nox,q]
def Fun.binds{x qual:tK}{st:tM}{f:tG}{fd:An}{ps:List tK}(F:Fun K x qual st f fd)(h:∀(kV doc pm:tH) (an:Option tG) (cdv ct:tH) (us:List tH),us.length=ps.length->bindArgs (bv x qual (yW st) (yt st) (zi st) .none kV doc pm an cdv ct) #[us,[]]=pure (ps.zip us)):Binds K fd ps []:=by let#[oc,od,kV,doc,pm,an,cdv,ct,osl,rfl,lk,hcd]:=F.ex;exact .all (h kV doc pm an cdv ct)
def fun_mk{st:tM}{kV doc pm cdv ct:tH}(l:K.lookup f=BJ #[oc,od,.func (bv x qual (yW st) (yt st) (zi st) .none kV doc pm an cdv ct),osl])(c:cp K cdv qual=BL)(k:aK K (.ref f)=BL):Fun K x qual st f (bv x qual (yW st) (yt st) (zi st) .none kV doc pm an cdv ct):=#[#[oc,od,kV,doc,pm,an,cdv,ct,osl,rfl,l,c],k]
end
def pv(i:Nat)(hN:‹X.N[i]? = BJ x›)(hv:‹Vis X.env.scope x›)(hd:‹(x ==("__debug__" : tK))=BM›)(hcd:‹(x ==("__classdict__" : tK))=BM›):PE X (.Name x pos) (ym i):=zeG hN hv hd hcd
def zfl{A B:Prop}(h:A):if BL=BL then A else B:=by rw[y9 rfl];exact h
def yd{c A B:Prop}[Decidable c](h1:c->A)(h2:¬ c->B):if c then A else B:=by
 by_cases h:c
 ·rw[y9 h];exact h1 h
 ·rw[z9 h];exact h2 h
def Same(H H':Hp):Prop:=∀b o,H b=BJ o->H' b=BJ o
def Same.refl(H:Hp):Same H H:=λZ Z h=>h
def Same.trans(a:Same H H1)(b:Same H1 H2):Same H H2:=λc o h=>b c o (a c o h)
theorem Same.free(e:Same H H')(h:H' l=Option.none):H l=Option.none:=by
 cases q:H l with
 | none=>rfl
 | some o =>
  rw[e l o q]at h;cases h
def Same.seq{K:tF}(e:Same H H')(h:SqL K H a xs):SqL K H' a xs:=by
 rcases h with (h | ⟨o,h⟩) | h
 ·exact .inl (.inl (e _ _ h))
 ·exact .inl (.inr #[o,e _ _ h])
 ·exact .inr h
end L2
open L2
namespace L3
mutual section
abbrev St:=L2.St
abbrev cs(x:tK):():=x.cps.toList
abbrev tx(l:()):tK:=⟨l.toArray⟩
def zd8(x:tK):tx (cs x)=x:=by cases x;rfl
def X9(l:()):cs (tx l)=l:=rfl
def VQ(x:tK):x.length=(cs x).length:=by simp [Str.length,cs]
def yj(l:()):(tx l).length=l.length:=by simp [Str.length,tx]
def YG(h:cs x=cs y):x=y:=by rw[<- zd8 x,<- zd8 y,h]
def wu(h:tx l=tx m):l=m:=by rw[<- X9 l,<- X9 m,h]
def zey : tx l=tx m ↔ l=m:=#[wu,λh=>by rw[h]]
def jr(l m:()):tx l ++ tx m=tx (l ++ m):=by apply YG;show (tx l ++ tx m).cps.toList=l ++ m;rw[Str.cps_append];simp
def cut{α:Type}(l:List α)(lo hi:Option Int):List α:=(l.drop (HT.sIx l.length 0 lo)).take (HT.sIx l.length l.length hi - HT.sIx l.length 0 lo)
def vo(l:List α)(lo hi:Option Int):(cut l lo hi).length<=l.length:=by unfold cut;rw[aL,bq];lia
def UV(a b:Nat):sliceRange (a:Int) (b:Int) 1=(aM (b - a)).map (λk=>a+k):=by
 unfold sliceRange
 have e:(if (1:Int) > 0 then (if (a:Int)<b then ((b:Int) - a+1 - 1) / 1 else 0)else (if (a:Int) > b then ((a:Int) - b - 1 - 1) / (-1)else 0)).toNat=b - a:=by
  rw[y9 ∅];by_cases h:(a:Int)<b
  ·rw[y9 h,Int.ediv_one];lia
  ·rw[z9 h];lia
 show (aM ((if (1:Int) > 0 then (if (a:Int)<b then ((b:Int) - a+1 - 1) / 1 else 0)else (if (a:Int) > b then ((a:Int) - b - 1 - 1) / (-1)else 0)).toNat)).map _=_;rw[e];refine bp λk Z=>?_;lia
theorem zbY(lo hi:Option Int)(n:Nat):r9 lo hi 1 n=(aM (HT.sIx n n hi - HT.sIx n 0 lo)).map (λk=>HT.sIx n 0 lo+k):=by
 rw[<- UV]
 have clip:∀(v:Int) (d:Nat),max 0 (min (if v<0 then v+(n:Int)else v) (n:Int))=((HT.sIx n d (BJ v):Nat):Int):=λv d=>by
  show _=(((if v<0 then (v+(n:Int)).toNat else min v.toNat n):Nat):Int);by_cases hv:v<0
  ·erw[y9 hv];lia
  ·erw[z9 hv];lia
 have h1:((1:Int) > 0)=True:=by simp
 unfold r9
 cases lo with
 | none =>
  cases hi with
  | none=>erw[h1,if_true];rfl
  | some j=>erw[h1,if_true,clip j n];rfl
 | some i =>
  cases hi with
  | none=>erw[h1,if_true,clip i 0];rfl
  | some j=>erw[h1,if_true,clip i 0,clip j n]
end
set_option tactic.hygienic true in
mutual section
def QY(x:tK)(lo hi:Option Int):Txt.slice x lo hi=tx (cut (cs x) lo hi):=by
 have hn:x.length=x.cps.toList.length:=VQ x;have hj:HT.sIx x.length x.length hi<=x.length:=HT.sIx_le _ _ (ak _) hi;have hi0:HT.sIx x.length 0 lo<=x.length:=HT.sIx_le _ _ (ax _) lo;unfold Txt.slice;rw[zbY];split
 ·rename_i h;have h':HT.sIx x.length x.length hi - HT.sIx x.length 0 lo=x.length:=by simpa using h
  apply YG;show x.cps.toList=cut x.cps.toList lo hi;unfold cut;rw[<- hn];by_cases z:x.length=0
  ·have:x.cps.toList=[]:=bW ⋯;rw[this];simp
  ·have e0:HT.sIx x.length 0 lo=0:=⋯;rw[e0]at h' ⊢;rw[h',dQ,hn,aP]
 ·apply YG;have h:=StrLaws.picks x.cps.toList (HT.sIx x.length x.length hi - HT.sIx x.length 0 lo) (HT.sIx x.length 0 lo) ⋯;show (List.filterMap (λk=>x.cps[k]?) _).toArray.toList=cut x.cps.toList lo hi;unfold cut;rw[<- hn];simpa using h
theorem UZ(p:IsPart v o):∃l:Option (Int × AV),v=partValue l/\l.map (·.1)=o:=by
 cases p with
 | none=>exact#[BK,rfl,rfl]
 | int i t=>exact#[BJ (i,t),rfl,rfl]
def zfd:V->Option Int->Option Int->Hp->VK->Prop:=λx lo hi H Q=>onStr x λz=>z.length<=tE/\Q ⇑(cut (cs z) lo hi) H
def wM:SlR X zfd:=by
 intros x v vl vu lo hi sl Q I rx hs pl pu h;let#[z,rfl,hz,q]:=onStr.of h;let#[t,rfl]:=rx;let#[l,rfl,el]:=UZ pl;let#[u,rfl,eu]:=UZ pu;refine#["str",_,slot_str_getitem.lookup,typeIs_str s z t,?_];refine AJ (l:=l) (u:=u) (st:=BK) hs rfl ?_;have e:Txt.slice z lo hi=tx (cut (cs z) lo hi):=QY z lo hi;have hl:(tx (cut (cs z) lo hi)).length<=tE:=by rw[yj];have:=vo (cs z) lo hi;rw[<- VQ]at this;lia
 unfold sliceMade slicePicked;rw[el,eu];unfold Txt.slice at e;by_cases hc:((1:Int) == 1 && (r9 lo hi 1 z.length).length == z.length)=BL
 ·rw[y9 hc]at e;have hc':(((BK:Option (Int × AV)).map (·.1)).getD 1 == 1 && (r9 lo hi (((BK:Option (Int × AV)).map (·.1)).getD 1) z.length).length == z.length)=BL:=hc;rw[y9 hc'];exact#[⇑(cut (cs z) lo hi),H,I,#[t,by rw[<- e]],q]
 ·rw[z9 hc]at e;have hc':¬ (((BK:Option (Int × AV)).map (·.1)).getD 1 == 1 && (r9 lo hi (((BK:Option (Int × AV)).map (·.1)).getD 1) z.length).length == z.length)=BL:=hc;rw[z9 hc'];show (Str.mk ((r9 lo hi 1 z.length).filterMap (z.cps[·]?)).toArray).length<=tE/\_;rw[e];refine#[hl,?_]
  exact#[⇑(cut (cs z) lo hi),H,I.tok _,#[_,by
   show Value.str (Str.mk ((r9 lo hi 1 z.length).filterMap (z.cps[·]?)).toArray) _=_
   rw[e]],q]
theorem Vu(l:()):∀(k:Nat) (acc:Array Nat),((ay k l.toArray).foldl (· ++ ·) acc).toList=acc.toList ++ (ay k l).flatten
 | 0,acc=>by simp
 | k+1,acc=>by
  rw[cz,List.foldl_cons,Vu l k,cz,e7];simp
def V7:OpR X (binaryOp .Mult) (λx y H Q=>∃z n,x=.str z/\y=.int n/\0<=n/\n<=1000/\z.length<=1000/\Q ⇑(ay n.toNat (cs z)).flatten H):=by
 intros x y v u Q I rx ry h;let#[z,n,rfl,rfl,h0,h1,hz,q]:=h;let#[t,rfl]:=rx;let#[t',rfl]:=ry;have hs:tE=16777216:=tZ;have hmul:z.length * n.toNat<=1000 * 1000:=fR hz ⋯;have fl:((ay n.toNat (cs z)).flatten).length=n.toNat * z.length:=by rw[L2.len_rep,<- VQ]
 refine PySem.P.mul_str ?_ (λZ Z=>?_) (λZ Z=>?_) ?_
 ·rw[y4 ⋯,y4 ⋯];rfl
 ·have:(1000:Int)<=(2 ^ 63 - 1) / n:=by
   apply Int.le_ediv_of_mul_le ⋯;lia
  lia
 ·unfold Builtin.Str.tooLong;exact y4 ⋯
 ·by_cases c1:n<1
  ·rw[y9 c1];have e:n.toNat=0:=⋯;rw[e]at q;exact#[∅,⇑[],H,I.tok _,#[_,rfl],q]
  ·rw[z9 c1];by_cases c2:(n == 1 || z.length == 0)=BL
   ·rw[y9 c2]
    have e:tx (ay n.toNat (cs z)).flatten=z:=by
     rw[Bool.or_eq_true]at c2;rcases c2 with c | c
     ·have:n.toNat=1:=by have:=eq_of_beq c;lia
      rw[this];erw[List.replicate_one,List.flatten_singleton]
     ·have c0:z.length=0:=eq_of_beq c;have:cs z=[]:=bW (by rw[<- VQ];exact c0);apply YG;rw[this];show (ay n.toNat ([]:())).flatten=[];erw[List.flatten_replicate_nil]
    rw[e]at q;exact#[.str z,H,I,#[_,rfl],q]
   ·rw[z9 c2]
    have e:(⟨(ay n.toNat z.cps).foldl (· ++ ·) #[]⟩:tK)=tx (ay n.toNat (cs z)).flatten:=by
     apply YG;have:=Vu (cs z) n.toNat #[];have e2:(cs z).toArray=z.cps:=by cases z;rfl
     rw[e2]at this;show (List.foldl (· ++ ·) #[] (ay n.toNat z.cps)).toList=(ay n.toNat (cs z)).flatten;rw[this];rfl
    rw[e];refine#[by rw[yj,fl,Nat.mul_comm];lia,.str _,H,I.tok _,#[_,rfl],q]
def U2:OpR X (tN .LtE) (λx y H Q=>∃i j,x=.str i/\y=.str j/\Q (.bl (!(decide (cs j<cs i)))) H):=by intros x y v u Q I rx ry h;let#[i,j,rfl,rfl,q]:=h;let#[t,rfl]:=rx;let#[t',rfl]:=ry;exact PySem.P.le_str #[.bl _,H,I,rfl,q]
def op_lt_str':OpR X (tN .Lt) (λx y H Q=>∃i j,x=.str i/\y=.str j/\Q (.bl (decide (cs i<cs j))) H):=Ka
def zan:MtR X "str.count" (λx xs H Q=>∃z y,x=.str z/\xs=[.str y]/\Q (.int (Txt.count z y)) H):=by intros x xs v us Q I rx rv h;let#[z,y,rfl,rfl,q]:=h;let#[t,rfl]:=rx;let#[u,rfl,t',rfl]:=vf rv;exact PySem.SC.count #[.int _,H,I.tok _,#[_,rfl],q]
def Inv.turns{X:Cx}{BN:List (tG × Au)}{σ:St}{H:Hp}{s:tJ}{fp:List tG}{h':tT}{t':Nat}(I:Inv X BN σ H s)(k:∀b o,b ∉ fp->s.heap.get? b=BJ o->h'.get? b=BJ o)(hf:∀b ∈ fp,wf X BN H b):Inv X BN σ H { s with heap:=h',toks:=t' }:=by
 have nit:∀b u,H b=BJ u->b ∉ fp:=λb u e z=>by rw[(hf b z).1]at e;cases e
 refine I.step (g':=s.gens) (d':=s.drawn) (ch:=fp) (λb hb=>?_) (λb o Z Z hc e Z=>k b o hc e) (λb o Z Z hc e Z=>#[o.slots,k b o hc e]) (λZ Z Z Z n=>n)
  (λb o hc e=>#[o,k b o hc e]) (λZ Z e=>e) (λZ Z Z e=>e) (λb ps e=>#[#[],by rw[e];simp]) (λm hm=>?_) (λb u e=>?_) I.bare
 ·let#[_,a1,_,a3,a4,a5]:=hf b hb;exact#[a3,a1,a4,a5]
 ·let#[o,es,ep,ho,r]:=hm;exact#[o,es,ep,k _ o (λz=>(hf _ z).2.1 rfl) ho,r]
 ·refine (I.hok b u e).stay (λc v hc q=>k c v ?_ q) (λZ q=>q) λZ Z q=>q;rcases hc with z | z
  ·rw[z];exact nit b u e
  ·exact nit c _ z
def Inv.track(I:Inv X BN σ H s)(fa:wf X BN H a)(new:ObjOk X.prog X.w (upd H a o) s.heap a o):Inv X BN σ (upd H a o) s:=by
 let#[a0,a1,a2,a3,a4,a5]:=fa;have e:s={ s with heap:=s.heap,gens:=s.gens,drawn:=s.drawn,toks:=s.toks }:=rfl;rw[e]
 refine I.step (g':=s.gens) (d':=s.drawn) (ch:=[a]) (λb hb=>?_) (λb o Z Z Z e Z=>e) (λb o Z Z Z e Z=>#[o.slots,e]) (λb o hc Z n=>?_)
  (λb o Z e=>#[o,e]) (λb xs e=>?_) (λb u xs e=>?_) (λb ps e=>?_) (λm hm=>hm) (λb u e=>?_) I.bare
 ·have eb:b=a:=by simpa using hb
  subst eb;exact#[a3,a1,a4,a5]
 ·rw[zo ↥hc];exact n
 ·rw[zo (zE e a0)];exact e
 ·rw[zo (zE e a0)];exact e
 ·exact#[#[],by rw[zo (zE e a0),e];simp]
 ·by_cases hb:b=a
  ·subst hb;rw[zd]at e;cases e;exact new
  ·rw[zo hb]at e;exact (I.hok b u e).stay (λc v Z q=>q) (λc q=>by rw[zo (zE q a0)];exact q) λc xs q=>by rw[zo (zE q a0)];exact q
def Its(x:tK):It:=#[λi Z=>i<(cs x).length,λi H v H'=>H'=H/\∃c,(cs x)[i]? = BJ c/\v=⇑[c],λi Z=>i=(cs x).length]
def KY{K:tF}(hty:["enumerate","zip","dict_itemiterator","dict_reverseitemiterator","odict_iterator","itertools.zip_longest","itertools.pairwise"].contains ty=BM)(it:tG)(x:tK)(t:AV)(W:∀A:Af,A.handled=BK->Walks P w A it [it] [it] x.cps.size (SignAt x) λi h=>h.IsStrIter it ty x t i)(S:∀(A:Af) (i:Nat) (s:tJ) (Q:tH->tJ->Prop) (E:tH->tJ->Prop),s.heap.IsStrIter it ty x t i->Q (.ref it) s->tI (model P w) A (pyIter (.ref it)) Q E s) :
  Kh P w K tg (Its x) [it] it (λi h=>h.IsStrIter it ty x t i) where
 mem:=by simp
 obj:=λi h st b hb=>by
  have e:b=it:=by simpa using hb
  subst e;let#[o,e,c,d]:=st;exact#[o,e,λv z=>by rw[d]at z;cases z]
 keep:=λi h h' st k=>let #[o,e,r]:=st; #[o,k it (by simp) o e,r]
 item:=by
  intro X hP hw hK hc i BN s σ H E I hf st hg;subst hP hw hK;let#[f0,f1,f2,f3,f4,f5]:=hf it (by simp);have hg':i<x.cps.size:=by have:i<x.cps.toList.length:=hg;simpa using this
  refine (W X.A (I.ok.hd hc)).item i s _ _ hg' st λv h' tk hv st' kk=>?_;let#[c,u,hcc,rfl]:=hv;have I1:Inv X BN σ H { s with heap:=h',toks:=tk }:=I.turned (λb o hb e=>kk b o ↥hb e) f0 f1 f3 f4 f5;let#[o,e,cl,d]:=id st';refine#[_,rfl,Uq (s:={ s with heap:=h',toks:=tk }) e cl d hty #[⇑[c],H,I1,#[u,rfl],#[rfl,c,?_,rfl],st',λb hb=>(hf b hb).1]];show x.cps.toList[i]? = BJ c;simpa using hcc
 done:=by
  intro X hP hw hK hc i BN s σ H E I hf st hg;subst hP hw hK;let#[f0,f1,f2,f3,f4,f5]:=hf it (by simp);have hi:i=x.cps.size:=by have:i=x.cps.toList.length:=hg;simpa using this
  rw[hi]at st;exact (W X.A (I.ok.hd hc)).done s _ _ st λh' tk kk=>#[rfl,I.turned (λb o hb e=>kk b o ↥hb e) f0 f1 f3 f4 f5]
 self:=λA i s Q E st h=>S A i s Q E st h
def zgY(tl:TE):TI:=λσ H R=>tl σ H λv H1=>∃x,v=.str x/\R (Its x) H1
def Ve(hl:PE X l tl):PI X tg l (zgY tl):=by
 intros R I h;refine thn (hl BN s σ H _ I h) λv s1=>el5 λy H1 I1 r1 q1=>?_;let#[x,e,q]:=q1;subst e;let#[t,rfl]:=r1
 have fin:∀(ty:String) (hty:["enumerate","zip","dict_itemiterator","dict_reverseitemiterator","odict_iterator","itertools.zip_longest","itertools.pairwise"].contains ty=BM)
   (W:∀A:Af,A.handled=BK->Walks X.prog X.w A s1⁻¹ [s1⁻¹] [s1⁻¹] x.cps.size (SignAt x) λi h=>h.IsStrIter s1⁻¹ ty x t i)
   (S:∀(A:Af) (i:Nat) (s:tJ) (Q:tH->tJ->Prop) (E:tH->tJ->Prop),s.heap.IsStrIter s1⁻¹ ty x t i->Q (.ref s1⁻¹) s->tI (model X.prog X.w) A (pyIter (.ref s1⁻¹)) Q E s),
   PIE X BN σ tg R (.ref s1⁻¹) { s1 with heap:=s1.heap.push { cls:=.type ty,data:=.fields (w4 [.str x t,.int 0 0]) } }:=λty hty W S=>by
  refine#[s1⁻¹,[s1⁻¹],_,_,H1,rfl,I1.kept (t':=s1.toks) λb o e=>ae _ e,KY hty _ x t W S,#[_,aE _ rfl,rfl,rfl],λb hb=>?_,q];have e:b=s1⁻¹:=by simpa using hb
  subst e;exact I1.fpOk (ak _) (I1.hok.fresh (ak _))
 cases ha:x.cps.all (· < 128)
 ·exact wpAny_pyIter_wide ha (fin "str_iterator" ∅ (λA hA=>Walks.strWide hA _ x t) λA i s Q E st h=>wpAny_pyIter_striter_wide st h)
 ·exact wpAny_pyIter_ascii ha (fin "str_ascii_iterator" ∅ (λA hA=>Walks.strAscii hA _ x t) λA i s Q E st h=>wpAny_pyIter_striter_ascii st h)
def zdI{g:TG}{tb:TS}{D:kT}(Pv:Nat->St->Hp->Prop)(h0:Pv 0 σ H)(hs:∀i c σ H,(cs x)[i]? = BJ c->Pv i σ H->g ⇑[c] σ H λσ2 H2=>tb { D with nx:=Pv (i+1),ct:=Pv (i+1),bk:=D.nx } σ2 H2)(hd:∀σ H,Pv (cs x).length σ H->D.nx σ H) :
  ∃W:Nat->Nat->St->Hp->Prop,(∃m,W 0 m σ H)/\∀i m σ H,W i m σ H ->
   ((Its x).stop i H/\D.nx σ H)\/((Its x).go i H/\∃N:St->Hp->Prop,(∀σ' H',N σ' H'->∃m',m'<m/\W (i+1) m' σ' H')/\∀v H',(Its x).yld i H v H'->g v σ H' λσ2 H2=>tb { D with nx:=N,ct:=N,bk:=D.nx } σ2 H2):=by
 refine#[λi m σ H=>m=(cs x).length - i/\i<=(cs x).length/\Pv i σ H,#[(cs x).length,by simp,ax _,h0],?_];rintro i m σ H ⟨rfl,hi,p⟩;by_cases hlt:i<(cs x).length
 ·refine .inr #[hlt,Pv (i+1),λσ' H' p'=>#[(cs x).length - (i+1),⋯,rfl,hlt,p'],λv H' y=>?_];let#[e,c,hc,ev]:=y;subst e ev;exact hs i c σ _ hc p
 ·have e:i=(cs x).length:=⋯;subst e;exact .inl #[rfl,hd σ H p]
def Ite(x:tK):It:=#[λi Z=>i<(cs x).length,λi H v H'=>∃p c,H p=BK/\(cs x)[i]? = BJ c/\v=.ref p/\H'=upd H p (.tup [.int (i:Nat),⇑[c]]),λi Z=>i=(cs x).length]
def zg2(ta:TA):TI:=λσ H R=>ta σ H λvs H1=>∃x,vs=[.str x]/\R (Ite x) H1
theorem uX : ∀(names:List (tK × AC)) (acc:List (tK × tG)),
    (∀y,(y,NameKind.free) ∈ names->∃c,env.cells.lookup y=BJ c)->(∀y c,acc.lookup y=BJ c->env.cells.lookup y=BJ c) ->
    ∃cl,(forIn names acc λ(x:tK × AC) (cs:List (tK × tG))=>if (x.2 == NameKind.free)=BL then (do let a <- cellOf env x.1;pure (ForInStep.yield ((x.1,a)::cs)))else pure (ForInStep.yield cs):Sem (List (tK × tG)))=pure cl /\
      (∀y c,cl.lookup y=BJ c->env.cells.lookup y=BJ c)/\(∀y,(y,NameKind.free) ∈ names\/(acc.lookup y).isSome=BL->∃c,cl.lookup y=BJ c)
  | [],acc,_,ha=>#[acc,rfl,ha,λy h=>by
      rcases h with h | h
      . cases h
      . exact Cc.mp h]
  | (n,k)::r,acc,hn,ha=>by
    by_cases hk:k=NameKind.free
    . subst hk
      let#[c,hc]:=hn n (by simp)
      have ha':∀y d,((n,c)::acc).lookup y=BJ d->env.cells.lookup y=BJ d:=λy d e=>by
        rw[aY]at e;by_cases hy:(y == n)=BL
        . rw[hy]at e
          have:y=n:=eq_of_beq hy;subst this;cases e;exact hc
        . have hy':(y == n)=BM:=by simpa using hy
          rw[hy']at e;exact ha y d e
      let#[cl,e,h1,h2]:=uX r ((n,c)::acc) (λy hy=>hn y (aw _ hy)) ha';refine#[cl,?_,h1,λy hy=>h2 y ?_]
      . rw[dI]
        have ec:cellOf env n=pure c:=by unfold cellOf;rw[hc]
        erw[beq_self_eq_true,if_true,ec,pure_bind];exact e
      . rcases hy with hy | hy
        . rcases BR.mp hy with q | q
          . cases q
            exact .inr (by simp)
          . exact .inl q
        . refine .inr ?_
          rw[aY];by_cases hyn:(y == n)=BL
          . rw[hyn];rfl
          . have hy':(y == n)=BM:=by simpa using hyn
            rw[hy'];exact hy
    . let#[cl,e,h1,h2]:=uX r acc (λy hy=>hn y (aw _ hy)) ha
      refine#[cl,?_,h1,λy hy=>h2 y ?_]
      . rw[dI]
        have ek:(k == NameKind.free)=BM:=by simpa using hk
        erw[ek,be,if_false,pure_bind];exact e
      . rcases hy with hy | hy
        . rcases BR.mp hy with q | q
          . cases q;exact y6 rfl hk
          . exact .inl q
        . exact .inr hy
def uz(hn:∀y,(y,NameKind.free) ∈ scope.names->∃c,env.cells.lookup y=BJ c) :
  ∃cl,closureFor scope env=pure cl/\(∀y c,cl.lookup y=BJ c->env.cells.lookup y=BJ c)/\(∀y,(y,NameKind.free) ∈ scope.names->∃c,cl.lookup y=BJ c):=by
 let#[cl,e,h1,h2]:=uX scope.names [] hn (λy c h=>by cases h);refine#[cl,?_,h1,λy hy=>h2 y (.inl hy)];unfold closureFor;erw[bind_pure];exact e
abbrev Jn(ifs:List Aq)(env:BB):Sem Bool :=
 forIn ifs BL λc r=>if r=BL then (do let ok <- isTrue c env (eval c env);pure (ForInStep.yield ok))else pure (ForInStep.yield r)
theorem Jw(I:Nat->tJ->Prop)(hEE:EE=notedBy (model prog w) A env λe s'=>R (.error e) s')(turn:∀n s,I n s->tI (model prog w) A (pyNext it) (λr s1=>match r with
   | none=>R (.ok .next) s1
   | some v=>tI (model prog w) A (letOwnedTupleGo tg it v) (λZ s2=>tI (model prog w) A (assign tg env v) (λ_ s3 =>
     tI (model prog w) A (Jn ifs env) (λok s4=>if ok=BL then
      tI (model prog w) A (eval elt env) (λx s5=>tI (model prog w) A (call (.builtin "list.append") [acc,x]) (λZ s6=>∃m,m<n/\I m s6) EE s5) EE s4
      else ∃m,m<n/\I m s4) EE s3) EE s2) EE s1) EE s) (n:Nat) (h:I n s) :
  As (model prog w) A (.compLoop (.ListComp elt [#[tg,iter,ifs,0]] scope pos) 0 it acc env) R s:=by
 subst hEE;refine codeAny_loop rfl I (λn s hI=>?_) n h;show tI _ A ((compTurn (.ListComp elt [#[tg,iter,ifs,0]] scope pos) 0 it acc env).onRaise (λx=>do noteFrame x env;theTreesLotGoes x)) _ _ s;refine wpAny_noted ?_;rw[compTurn_list];refine tw (Ab (tw (thn (turn n s hI) λr s1 h1=>?_)))
 cases r with
 | none=>exact tz h1
 | some v =>
  refine tw (thn h1 λZ s2 h2=>tw (thn h2 λZ s3 h3=>tw (thn h3 λok s4 h4=>?_)))
  cases ok with
  | false=>exact tz #[rfl,h4]
  | true=>exact tw (tw (thn h4 λx s5 h5=>tw (thn h5 λZ s6 h6=>tz (tz #[rfl,h6]))))
def yG(X:Cx)(scope:AF)(cl:List (tK × tG))(C:tG)(N:List tK)(BN:List (tG × Au))(s3:tJ)(H3:Hp)(fp:List tG)(E:tH->tJ->Prop):Cx :=
 { X with N:=N,s₀:=s3,H₀:=H3,env:=compEnvC scope cl C X.env,outer:=X.stack,ex:=fp,fn:=λZ=>BM,pn:=X.pn ++ BN,xe:=E }
def vM(σ:St)(own:Nat)(ix:()):St:=ay own BK ++ ix.map λi=>(σ[i]?).join
structure Zr(X:Cx)(scope:AF)(own caps:List tK)(ix:()):Prop where
 kind:scope.kind=.function
 nocell:∀y ∈ scope.names,y.2≠.cell
 names:∀y ∈ scope.names,y.2=.local->scope.names.lookup y.1=BJ .local
 free:∀y,(y,NameKind.free) ∈ scope.names->X.env.kindOf y=BJ .cell\/X.env.kindOf y=BJ .free
 hown:∀y ∈ own,scope.names.lookup y=BJ .local
 hcaps:∀y ∈ caps,scope.names.lookup y=BJ .free
 hix:ix.map (λi=>X.N[i]?)=caps.map BJ
theorem wg{α β:Type}[BEq α][LawfulBEq α]{l:List (α × β)}{a:α}{b:β}(h:l.lookup a=BJ b):(a,b) ∈ l:=by
 induction l with
 | nil=>cases h
 | cons p r ih =>
  let#[c,d]:=p;rw[aY]at h;by_cases e:(a == c)=BL
  ·rw[e]at h;cases h;rw[eq_of_beq e];exact aC
  ·have e':(a == c)=BM:=by simpa using e
   rw[e']at h;exact aw _ (ih h)
theorem vL{scope:AF}{env:BB}(hf:env.scope.kind=.function):∀{names:List (tK × AC)} {x:tK} {k:AC},names.lookup x=BJ k ->
    (names.map λ(n,k)=>if (k == NameKind.free && env.scope.kind == .function && env.kindOf n == BJ .cell)then (n,NameKind.cell)else (n,k)).lookup x=BJ (if (k == NameKind.free && env.scope.kind == .function && env.kindOf x == BJ .cell)=BL then .cell else k)
  | [],_,_,h=>by simp at h
  | (n,k')::r,x,k,h=>by
    have ih:=@vL scope env hf r x k;show bn x ((if (k' == NameKind.free && env.scope.kind == .function && env.kindOf n == BJ .cell)=BL then (n,NameKind.cell)else (n,k'))::_)=_;by_cases hx:(x == n)=BL
    . have hxn:x=n:=eq_of_beq hx
      subst hxn;rw[aY,hx]at h;cases h;by_cases c:(k' == NameKind.free && env.scope.kind == .function && env.kindOf x == BJ .cell)=BL
      . rw[y9 c,y9 c,aY,hx]
      . rw[z9 c,z9 c,aY,hx]
    . have hx':(x == n)=BM:=by simpa using hx
      rw[aY,hx']at h;by_cases c:(k' == NameKind.free && env.scope.kind == .function && env.kindOf n == BJ .cell)=BL
      . rw[y9 c,aY,hx'];exact ih h
      . rw[z9 c,aY,hx'];exact ih h
theorem qu{scope:AF}{env:BB}:∀{names:List (tK × AC)} {x:tK},names.lookup x=BK ->
    (names.map λ(n,k)=>if (k == NameKind.free && env.scope.kind == .function && env.kindOf n == BJ .cell)then (n,NameKind.cell)else (n,k)).lookup x=BK
  | [],_,_=>rfl
  | (n,k')::r,x,h=>by
    have ih:=@qu scope env r x;show bn x ((if (k' == NameKind.free && env.scope.kind == .function && env.kindOf n == BJ .cell)=BL then (n,NameKind.cell)else (n,k'))::_)=_;by_cases hx:(x == n)=BL
    . rw[aY,hx]at h;cases h
    . have hx':(x == n)=BM:=by simpa using hx
      rw[aY,hx']at h;by_cases c:(k' == NameKind.free && env.scope.kind == .function && env.kindOf n == BJ .cell)=BL
      . rw[y9 c,aY,hx'];exact ih h
      . rw[z9 c,aY,hx'];exact ih h
def Ul(S:Zr X scope own caps ix)(hcl1:∀y c,cl.lookup y=BJ c->X.env.cells.lookup y=BJ c)(hcl2:∀y,(y,NameKind.free) ∈ scope.names->∃c,cl.lookup y=BJ c)(I:Inv X BN σ H s)(hfp:∀b ∈ fp,wf X BN H b)(hlt:∀b ∈ fp,b<s⁻¹)(hn:h4.Ns s⁻¹ λZ=>BK)(hk:∀b o,s.heap.get? b=BJ o->h4.get? b=BJ o) :
  Inv (yG X scope cl s⁻¹ (own ++ caps) BN s H fp E) [] (vM σ own.length ix) H { s with heap:=h4,toks:=t4 }:=by
 have kf:X.env.scope.kind=.function:=I.ok.kind;have nofp:∀b ∈ fp,b≠s⁻¹:=λb hb=>aA (hlt b hb)
 have cellLt:∀x c,X.env.cells.lookup x=BJ c->c<s⁻¹:=λx c e=>by
  let#[v,o,ho,_]:=I.cell x c e;exact av ho
 have kinds:∀y k,scope.names.lookup y=BJ k->(relabel scope X.env).names.lookup y=BJ (if (k == NameKind.free && X.env.scope.kind == .function && X.env.kindOf y == BJ .cell)=BL then .cell else k):=λy k e=>vL (scope:=scope) kf e
 have back:∀y k,(relabel scope X.env).names.lookup y=BJ k->∃k',scope.names.lookup y=BJ k'/\k=(if (k' == NameKind.free && X.env.scope.kind == .function && X.env.kindOf y == BJ .cell)=BL then .cell else k'):=λy k e=>by
  cases q:scope.names.lookup y with
  | none =>
   have:=qu (scope:=scope) (env:=X.env) q;have e':(scope.names.map λ(n,k)=>if (k == NameKind.free && X.env.scope.kind == .function && X.env.kindOf n == BJ .cell)then (n,NameKind.cell)else (n,k)).lookup y=BJ k:=e;rw[this]at e';cases e'
  | some k' =>
   refine#[k',rfl,?_];have:=kinds y k' q;rw[e]at this;exact Option.some.inj this
 have isCell:∀y,scope.names.lookup y=BJ .free->(relabel scope X.env).names.lookup y=BJ .cell\/(relabel scope X.env).names.lookup y=BJ .free:=λy e=>by
  have:=kinds y _ e;rcases S.free y (wg e)with q | q
  ·refine .inl ?_;rw[this,y9];rw[q,kf];rfl
  ·refine .inr ?_;rw[this,z9];rw[q];simp
 refine#[#[I.ok.mod,?_,I.ok.glob,I.ok.blt,ak _,?_,?_,?_,I.ok.hd,I.ok.frames,.inl rfl,?_,I.bs,aB I.ok.bsz I.sz,?_,?_,I.stack,I.stkFree],rfl,I.bare,Un.kept hk,#[_,hn,?_],?_,?_,?_,?_,I.hok.kept hk,?_]
 ·show (relabel scope X.env).kind=.function;exact S.kind
 ·intro x y c h1 h2;exact I.ok.inj x y c (hcl1 x c h1) (hcl1 y c h2)
 ·intro y hy;have hy':(relabel scope X.env).names.lookup y=BJ .cell\/(relabel scope X.env).names.lookup y=BJ .free:=hy
  have:scope.names.lookup y=BJ .free:=by
   rcases hy' with q | q
   ·let#[k',e,ek]:=back y _ q;by_cases c:(k' == NameKind.free && X.env.scope.kind == .function && X.env.kindOf y == BJ .cell)=BL
    ·rw[aU,aU]at c;rw[e,eq_of_beq c.1.1]
    ·rw[z9 c]at ek;exact y6 ek.symm (S.nocell _ (wg e))
   ·let#[k',e,ek]:=back y _ q;by_cases c:(k' == NameKind.free && X.env.scope.kind == .function && X.env.kindOf y == BJ .cell)=BL
    ·rw[y9 c]at ek;cases ek
    ·rw[z9 c]at ek;rw[e,<- ek]
  exact hcl2 y (wg this)
 ·intro x c h _;exact y6 h (by simp [yG])
 ·intro b hb;refine#[nofp b hb,λx c e=>?_];exact (hfp b hb).2.2.2.2.1 x c (hcl1 x c e)
 ·intro b o e hb;let#[_,_,_,q,_]:=hfp b hb;rcases q with q | q
  ·exact I.ok.noex b o e q
  ·exact y6 (aq (av e) (aB I.ok.bsz q)) (cM _)
 ·intro b hb z;rcases BR.mp (I.stkSub b z)with e | e
  ·exact (hfp b hb).2.1 e
  ·exact (hfp b hb).2.2.1 e
 ·intro i y v h1 h2 h3
  have hi:own.length<=i:=by
   refine bw λhlt'=>?_;unfold vM at h2;rw[cG (by rw[bj];exact hlt'),fF,y9 hlt']at h2;cases h2
  have h1':caps[i - own.length]? = BJ y:=by
   have:(own ++ caps)[i]? = BJ y:=h1;rw[bN hi]at this;exact this
  have h2':(ix.map λi=>(σ[i]?).join)[i - own.length]? = BJ (BJ v):=by
   unfold vM at h2;rw[bN (by rw[bj];exact hi),bj]at h2;exact h2
  rw[au]at h2';have hx:=congrArg (λl=>l[i - own.length]?) S.hix;erw[au,h1',Option.map_some]at hx
  cases q:ix[i - own.length]? with
  | none=>rw[q]at h2';cases h2'
  | some j =>
   rw[q]at h2' hx;have hj:X.N[j]? = BJ y:=Option.some.inj hx;have hv:(σ[j]?).join=BJ v:=Option.some.inj h2'
   have hσ:σ[j]? = BJ (BJ v):=by
    cases r:σ[j]? with
    | none=>rw[r]at hv;cases hv
    | some z=>rw[r]at hv;cases z with
     | none=>cases hv
     | some z=>cases hv;rfl
   have hfree:scope.names.lookup y=BJ .free:=S.hcaps y (ag h1');have hkc:=S.free y (wg hfree);let#[m,hm,hl]:=I.loc;let#[u,ru,l]:=hl j y v hj hσ (.inr hkc);refine#[u,ru,.inr #[isCell y hfree,?_]];rcases l with ⟨k,_⟩ | ⟨_,c,e,z⟩
   ·have:X.env.kindOf y=BJ .local:=k;rcases hkc with q' | q' <;> (rw[q']at this;cases this)
   ·let#[c',e']:=hcl2 y (wg hfree);have:=hcl1 y c' e';rw[e]at this;cases this;let#[o,ho,hd]:=z;exact#[c,e',o,hk c o ho,hd]
 ·intro x c e;let#[v,o,ho,hd]:=I.cell x c (hcl1 x c e);exact#[v,o,hk c o ho,hd]
 ·exact I.hok.fresh (ak _)
 ·intro x c e;exact I.freeC x c (hcl1 x c e)
 ·intro p hp
  have hp':p ∈ X.pn ++ BN:=by
   have:p ∈ (X.pn ++ BN) ++ []:=hp
   rwa [aZ]at this
  let#[e,n,ne,nf,d]:=I.pin p hp';refine#[hk _ _ e,n,?_,λz=>?_,d]
  ·exact aA (av e)
  ·rcases BR.mp (I.stkSub p.1 z)with q | q
   ·exact ne q
   ·exact nf q
 ·show (vM σ own.length ix).length=(own ++ caps).length;have:=congrArg gu S.hix;rw[aa,aa]at this;unfold vM;rw[am,bj,aa,am,this]
def xo(σ σ':St):Prop:=σ.length=σ'.length/\∀(i:Nat) v,σ[i]? = BJ (BJ v)->σ'[i]? = BJ (BJ v)
def PTs(X:Cx)(ifs:List Aq)(t:TT):Prop :=
 ∀(BN:List (tG × Au)) (s:tJ) (σ:St) (H:Hp) (Q:Bool->Hp->Prop),Inv X BN σ H s->t σ H Q->tI (model X.prog X.w) X.A (Jn ifs X.env) (TP X BN σ Q) X.xe s
def wP:TT:=λZ H Q=>Q BL H
def yP : PTs X [] wP:=λZ Z Z H Z I h=>tz #[H,I,h]
def Ql(h:PT X c t):PTs X [c] t:=λBN s σ H Q I hq=>by
 show tI _ _ (forIn [c] BL _) _ _ s;erw[dI,fS,if_true];exact tw (tw (thn (h BN s σ H Q I hq) λb s' hb=>tz (tz hb)))
def kO(wi:TI)(g:TG)(tt:TT)(te:TE)(own:Nat)(ix:()):TE:=λσ H Q=>wi σ H λJ H1=>∀D,H1 D=BK->∃W:Nat->Nat->List V->Hp->Prop,(∃m,W 0 m [] (upd H1 D (.lst []))) /\
 ∀i m acc H',W i m acc H'->(J.stop i H'/\Q (.ref D) H')\/(J.go i H'/\∀x H2,J.yld i H' x H2->g x (vM σ own ix) H2 λσ3 H3=>xo (vM σ own ix) σ3/\tt σ3 H3 λb H4=>if b=BL then
  te σ3 H4 λv H5=>H5 D=BJ (.lst acc)/\acc.length<tE/\∃m',m'<m/\W (i+1) m' (acc ++ [v]) (upd H5 D (.lst (acc ++ [v])))
  else ∃m',m'<m/\W (i+1) m' acc H4)
def HOk.but(ok:HOk P w H h1)(sb:Heap.SameBut a h1 h2)(ha:H a=BK):HOk P w H h2:=λb ob e=>by
 refine (ok b ob e).stay (λc u hc q=>(sb.2 c ?_).trans q) (λZ q=>q) λZ Z q=>q;rintro rfl;rcases hc with rfl | hc
 ·rw[ha]at e;cases e
 ·rw[ha]at hc;cases hc
def Yp(i:Nat)(t:TE):TS:=λD σ H=>t σ H λx H1=>D.nx (σ.set i (BJ x)) H1
def Xk:R2:=λx y H Q=>match x with | .int i=>onInt y λj=>Q (.int (i+j)) H | .str i=>onStr y λj=>i.length+j.length<=tE/\Q (.str (i ++ j)) H | .ref l=>zd2 (.ref l) y H Q | _=>False
theorem zZ:OpR X (binaryOp .Add) Xk:=by
 intros x y v u Q I rx ry h
 cases x with
 | int i=>exact yq BN s σ H (.int i) y v u Q I rx ry h
 | str i=>exact yE BN s σ H (.str i) y v u Q I rx ry (by let#[j,rfl,q]:=onStr.of h;exact#[i,j,rfl,rfl,q])
 | ref l=>exact WL BN s σ H (.ref l) y v u Q I rx ry h
 | _=>exact h.elim
def zap:R2:=λx y H Q=>match x with | .int i=>onInt y λj=>CMul i j/\Q (.int (i * j)) H | .str z=>onInt y λn=>0<=n/\n<=1000/\z.length<=1000/\Q ⇑(ay n.toNat (cs z)).flatten H | _=>False
theorem yN:OpR X (binaryOp .Mult) zap:=by
 intros x y v u Q I rx ry h
 cases x with
 | int i=>exact kQ BN s σ H (.int i) y v u Q I rx ry h
 | str z=>exact V7 BN s σ H (.str z) y v u Q I rx ry (by let#[n,rfl,q]:=onInt.of h;exact#[z,n,rfl,rfl,q])
 | _=>exact h.elim
def zfX:R2:=λx y H Q=>match x with | .int i=>onInt y λj=>Q (.bl (decide (i<j))) H | .str i=>onStr y λj=>Q (.bl (decide (cs i<cs j))) H | _=>False
theorem QF:OpR X (tN .Lt) zfX:=by
 intros x y v u Q I rx ry h
 cases x with
 | int i=>exact V5 BN s σ H (.int i) y v u Q I rx ry h
 | str i=>exact op_lt_str' BN s σ H (.str i) y v u Q I rx ry (by let#[j,rfl,q]:=onStr.of h;exact#[i,j,rfl,rfl,q])
 | _=>exact h.elim
def zfT:R2:=λx y H Q=>match x with | .int i=>onInt y λj=>Q (.bl (decide (i<=j))) H | .str i=>onStr y λj=>Q (.bl (!(decide (cs j<cs i)))) H | _=>False
theorem xu:OpR X (tN .LtE) zfT:=by
 intros x y v u Q I rx ry h
 cases x with
 | int i=>exact zem BN s σ H (.int i) y v u Q I rx ry h
 | str i=>exact U2 BN s σ H (.str i) y v u Q I rx ry (by let#[j,rfl,q]:=onStr.of h;exact#[i,j,rfl,rfl,q])
 | _=>exact h.elim
def U7:OpR X (tN .Gt) (λx y H Q=>∃i j,x=.str i/\y=.str j/\Q (.bl (decide (cs j<cs i))) H):=by intros x y v u Q I rx ry h;let#[i,j,rfl,rfl,q]:=h;let#[t,rfl]:=rx;let#[t',rfl]:=ry;exact PySem.P.gt_str #[.bl _,H,I,rfl,q]
def zfO:R2:=λx y H Q=>match x with | .int i=>onInt y λj=>Q (.bl (decide (j<i))) H | .str i=>onStr y λj=>Q (.bl (decide (cs j<cs i))) H | _=>False
theorem Zn:OpR X (tN .Gt) zfO:=by
 intros x y v u Q I rx ry h
 cases x with
 | int i=>exact Kj BN s σ H (.int i) y v u Q I rx ry h
 | str i=>exact U7 BN s σ H (.str i) y v u Q I rx ry (by let#[j,rfl,q]:=onStr.of h;exact#[i,j,rfl,rfl,q])
 | _=>exact h.elim
def zeh(K:tF):V->Option Int->Option Int->Hp->VK->Prop:=λx lo hi H Q=>match x with | .ref a=>zd7 K (.ref a) lo hi H Q | .str z=>zfd (.str z) lo hi H Q | _=>False
theorem zaZ:SlR X (zeh X.K):=by
 intros x v vl vu lo hi sl Q I rx hs pl pu h
 cases x with
 | ref a=>exact ZH BN s σ H (.ref a) v vl vu lo hi sl Q I rx hs pl pu h
 | str z=>exact wM BN s σ H (.str z) v vl vu lo hi sl Q I rx hs pl pu h
 | _=>exact h.elim
def cV:V->Option tH
 | .ty n=>BJ (.type n)
 | .ref a=>BJ (.ref a)
 | _=>BK
def KU:uf X (.builtin "isinstance") (λxs H Q=>∃x c u t b,xs=[x,c]/\cV c=BJ u/\WK X.K H x t/\aN X.K t u=BJ b/\Q (.bl b) H):=by
 intros xs us Q I r h;let#[x,c,u,t,b,rfl,hc,ty,e,q]:=h;let#[v,w',rfl,rx,rc]:=Qv r
 have:w'=u:=by
  cases c with
  | ty n=>cases hc;exact rc
  | ref a=>cases hc;exact rc
  | _=>cases hc
 subst this;exact Jo I rx ty e λtk=>#[.bl b,H,I.tok tk,rfl,q]
def Iel(K:tF)(a:tG):It:=#[λi H=>∃xs x,SqL K H a xs/\xs[i]? = BJ x,λi H v H'=>∃p x,H p=BK/\(∀xs,SqL K H a xs->xs[i]? = BJ x)/\v=.ref p/\H'=upd H p (.tup [.int (i:Nat),x]),λi H=>∃xs,SqL K H a xs/\i=xs.length]
def VR{K:tF}(e it a:tG)(hei:e≠it) :
  Kh P w K (.Tuple elts x1 tpos) (Iel K a) [e,it] e (λi h=>(∃old,IsEnum h e it i old)/\h.IsListIter it a i) where
 mem:=by simp
 obj:=λi h st b hb=>by
  let#[#[old,he],o,e2,c,d]:=st;rcases BR.mp hb with q | q
  ·subst q;exact#[_,he,λv z=>by have z':Data.fields _=Data.cell v:=z;cases z']
  ·have q':b=it:=by simpa using q
   subst q';exact#[o,e2,λv z=>by rw[d]at z;cases z]
 keep:=λi h h' st k=>by
  let#[#[old,he],st]:=st;exact#[#[old,k e (by simp) _ he],st.at λo q=>k it (by simp) o q]
 item:=by
  intro X hP hw hK hc i BN s σ H E I hf st hg;subst hP hw hK;let#[#[old,he],st]:=st;let#[xs,x,hq,hx]:=hg;let#[its,rv,p,hz]:=I.list hq;let#[u,hu,ru]:=rv.get hx;have hA:X.A.in1.handled=BK:=I.ok.hd hc;have pl:=p.isList
  have hai:a≠it:=λz=>by
   subst z;let#[o1,q1,c1,_]:=st;let#[o2,q2,c2,_]:=pl;rw[q1]at q2;cases q2;rw[c1]at c2;exact y6 (Value.type.inj c2) ∅
  have hea:e≠a:=λz=>by
   subst z;let#[o2,q2,c2,_]:=pl;rw[he]at q2;cases q2;exact y6 (Value.type.inj c2) ∅
  refine wpAny_pyNext_enum_itemD (Draws.list (A:=X.A.in1) hA it a hai its.toArray) he #[st,pl] (by rw[aj];exact (BP.mp hu).1) hei (by simp [hei,hea]) λv h' tk hv ho st' hT hsz kk=>?_
  have ev:v=u:=by
   have hv':its.toArray[i]? = BJ v:=hv;rw[List.getElem?_toArray,hu]at hv';exact (Option.some.inj hv').symm
  subst ev;refine#[_,rfl,wpAny_letOwnedTupleGo_enum ho λh2 he2 sb=>?_];have elt:e<s⁻¹:=av he;have ilt:it<s⁻¹:=by let#[o,q,_]:=st;exact av q
  have I1:Inv X BN σ H { s with heap:=h2,toks:=tk+1 }:=Inv.turns (fp:=[e,it]) I (λb o hb q=>by
   have hb':b≠e/\b≠it:=by simpa using hb
   exact (sb.2 b hb'.1).trans (kk b o hb'.1 hb'.2 q)) hf
  have hp:H s⁻¹=BK:=I.hok.fresh (ak _);have hT2:h2.get? s⁻¹=BJ { cls:=.type "tuple",data:=.seq (w4 [.int (i:Nat) tk,v]) }:=(sb.2 _ (cB elt)).trans hT
  have I2:Inv X BN σ (upd H s⁻¹ (.tup [.int (i:Nat),x])) { s with heap:=h2,toks:=tk+1 } :=
   Inv.track I1 (I.fpOk (ak _) hp) #[by show 2<=tE;decide,[.int (i:Nat) tk,v],.cons #[_,rfl] (.cons ru .nil),#[_,hT2,rfl,_,rfl]]
  refine#[.ref s⁻¹,_,I2,rfl,#[s⁻¹,x,hp,λys hy=>by rw[I.list_inj hy hq];exact hx,rfl,rfl],#[#[_,by simpa using he2],?_],λb hb=>?_]
  ·exact st'.1.at λo q=>(sb.2 it (Ne.symm hei)).trans q
  ·rw[zo]
   ·exact (hf b hb).1
   ·rcases BR.mp hb with q | q
    ·rw[q];exact aA elt
    ·have q':b=it:=by simpa using q
     rw[q'];exact aA ilt
 done:=by
  intro X hP hw hK hc i BN s σ H E I hf st hg;subst hP hw hK;let#[#[old,he],st]:=st;let#[xs,hq,hi]:=hg;let#[its,rv,p,hz]:=I.list hq;have pl:=p.isList
  have hai:a≠it:=λz=>by
   subst z;let#[o1,q1,c1,_]:=st;let#[o2,q2,c2,_]:=pl;rw[q1]at q2;cases q2;rw[c1]at c2;exact y6 (Value.type.inj c2) ∅
  have hA:X.A.in1.handled=BK:=I.ok.hd hc;have hi':i=its.toArray.size:=by rw[aj,<- rv.length];exact hi
  subst hi';refine wpAny_pyNext_enum_endD (Draws.list (A:=X.A.in1) hA it a hai its.toArray) he #[st,pl] λh' hx=>#[rfl,?_];exact Inv.turns (fp:=[e,it]) (t':=s.toks) I (λb o hb q=>hx b o (λz=>hb (by simp [z])) q) hf
 self:=λA i s Q E st h=>by
  let#[#[old,he],_]:=st;exact Bm he h
def JT(K:tF)(ta:TA):TI:=λσ H R=>ta σ H λvs H1=>∃a,vs=[.ref a]/\(∃xs,SqL K H1 a xs)/\R (Iel K a) H1
def wC(hg:Gl X "enumerate")(hm:X.mg "enumerate" = BK)(ha:PA X [a] ta)(hs:‹tD [a] X.env=[(BM,eval a X.env)]›) :
  PI X (.Tuple elts x1 tpos) (.Call (.Name "enumerate" p) [a] [] pos) (JT X.K ta):=by
 intros R I h;refine BF (vq I hg hm PyProof.Rows.boot_enumerate (bz (thn (ha pos BN s σ H _ I h) λus s1=>el5 λvs H1 I1 r1 q1=>?_) hs rfl));let#[l,e,#[xs,hq],q]:=q1;subst e;let#[u,rfl,ru]:=vf r1;cases ru;let#[its,rv,pl,hz]:=I1.list hq;refine call_enumerate_list pl.isList λh' he hit hsz kk=>?_;have I2:Inv X BN σ H1 { s1 with heap:=h' }:=I1.kept (t':=s1.toks) kk;refine Bm (s:={ s1 with heap:=h' }) (i:=0) he ?_;refine#[s1⁻¹+1,[s1⁻¹+1,s1⁻¹],_,_,H1,rfl,I2,VR _ _ l (Nat.succ_ne_self _),#[#[_,he],hit],λb hb=>?_,q]
 have hb':s1⁻¹<=b:=by
  rcases BR.mp hb with e | e
  ·rw[e];exact dq _
  ·have:b=s1⁻¹:=by simpa using e
   rw[this];exact ak _
 exact I1.fpOk hb' (I1.hok.fresh hb')
def ForEL(K:tF)(a:tG)(g:TG)(tb:TS)(D:kT)(σ:St)(H:Hp):Prop:=∃W:Nat->Nat->St->Hp->Prop,(∃m,W 0 m σ H)/\∀i m σ H,W i m σ H ->
 ((Iel K a).stop i H/\D.nx σ H)\/((Iel K a).go i H/\∃N:St->Hp->Prop,(∀σ' H',N σ' H'->∃m',m'<m/\W (i+1) m' σ' H')/\∀x H',(Iel K a).yld i H x H'->g x σ H' λσ2 H2=>tb { D with nx:=N,ct:=N,bk:=D.nx } σ2 H2)
def zef{K:tF}:K6 (JT K ta) g tb D σ H=ta σ H λvs H1=>∃a,vs=[.ref a]/\(∃xs,SqL K H1 a xs)/\ForEL K a g tb D σ H1:=rfl
def ForEL.by{K:tF}(Pv:Nat->St->Hp->Prop)(h0:Pv 0 σ H)(hl:∀i σ H,i<=xs.length->Pv i σ H->SqL K H a xs)(hs:∀i x σ H p,xs[i]? = BJ x->Pv i σ H->H p=BK->g (.ref p) σ (upd H p (.tup [.int (i:Nat),x])) λσ2 H2=>tb { D with nx:=Pv (i+1),ct:=Pv (i+1),bk:=D.nx } σ2 H2)(hd:∀σ H,Pv xs.length σ H->D.nx σ H):ForEL K a g tb D σ H:=by
 refine#[λi m σ H=>m=xs.length - i/\i<=xs.length/\Pv i σ H,#[xs.length,by simp,ax _,h0],?_];rintro i m σ H ⟨rfl,hi,p⟩;have q:=hl i σ H hi p;by_cases hlt:i<xs.length
 ·refine .inr #[#[xs,xs[i],q,by simp [hlt]],Pv (i+1),λσ' H' p'=>#[xs.length - (i+1),⋯,rfl,hlt,p'],λv H' y=>?_];let#[p',x,hp,hx,ev,eH]:=y;subst ev eH;exact hs i x σ H p' (hx xs q) p hp
 ·have e:i=xs.length:=⋯;subst e;exact .inl #[#[xs,q,rfl],hd σ H p]
def ForT(K:tF)(a:tG)(g:TG)(tb:TS)(D:kT)(σ:St)(H:Hp):Prop:=∃W:Nat->Nat->St->Hp->Prop,(∃m,W 0 m σ H)/\∀i m σ H,W i m σ H ->
 ((Itt K a).stop i H/\D.nx σ H)\/((Itt K a).go i H/\∃N:St->Hp->Prop,(∀σ' H',N σ' H'->∃m',m'<m/\W (i+1) m' σ' H')/\∀x H',(Itt K a).yld i H x H'->g x σ H' λσ2 H2=>tb { D with nx:=N,ct:=N,bk:=D.nx } σ2 H2)
def zhs{K:tF}:K6 (zhK K tl) g tb D σ H=tl σ H λx H1=>∃a,x=.ref a/\(∃xs,SqT K H1 a xs)/\ForT K a g tb D σ H1:=rfl
def ForT.by{K:tF}(Pv:Nat->St->Hp->Prop)(h0:Pv 0 σ H)(hl:∀i σ H,i<=xs.length->Pv i σ H->SqT K H a xs)(hs:∀i x σ H,xs[i]? = BJ x->Pv i σ H->g x σ H λσ2 H2=>tb { D with nx:=Pv (i+1),ct:=Pv (i+1),bk:=D.nx } σ2 H2)(hd:∀σ H,Pv xs.length σ H->D.nx σ H):ForT K a g tb D σ H:=zbW Pv h0 hl hs hd
def zgj(K:tF)(x:V)(H:Hp)(p:Bool->Prop):Prop:=match x with | .bl b=>p b | x=>∃k,zfa K x H k/\p k
def tTr(K:tF)(ta:TE):TT:=λσ H Q=>ta σ H λx H'=>zgj K x H' λk=>Q k H'
def zdA{K:tF}:tTr K ta σ H Q=ta σ H λx H'=>zgj K x H' λk=>Q k H':=rfl
def tBl(ta:TE):TT:=λσ H Q=>ta σ H λx H'=>onBl x λk=>Q k H'
def zcg : tBl ta σ H Q=ta σ H λx H'=>onBl x λk=>Q k H':=rfl
def yB(ha:PE X a ta)(he:∀whole,isTrue a X.env whole=(do let v <- whole;standAt a.pos;holding [v] (truthy v))):PT X a (tBl ta):=by intros Q I h;refine isTrue_plain (thn (ha BN s σ H _ I h) λv s1=>el5 λx H1 I1 r1 q1=>?_) (he _);let#[k,rfl,q1]:=onBl.of q1;exact zbx BN s1 σ H1 (.bl k) v Q I1 r1 #[k,rfl,q1]
theorem zeQ(hne:t≠it):∀(n i:Nat) (s:tJ) (Q:List tH->tJ->Prop),s.heap.IsListIter it t i->s.heap.IsList t items->i+n<=items.size ->
  (∀h',h'.IsListIter it t (i+n)->Heap.SameBut it s.heap h'->Q ((items.toList.drop i).take n) { s with heap:=h' })->tI (model prog w) A (draw (.ref it) n) Q E s
 | 0,i,s,Q,hit,_,_,hQ=>by
  show tI _ _ (pure []) Q E s;exact tz (by simpa using hQ s.heap hit (Heap.SameBut.refl ..))
 | n+1,i,s,Q,hit,ht,hle,hQ=>by
  have hlt:i<items.size:=⋯;show tI _ _ (pyNext (.ref it) >>= _) Q E s;refine tw (AO hit ht (x:=items[i]) (by simp [hlt]) λh₁ hit₁ hs₁=>?_);refine tw (tO (zeQ hne n (i+1) _ _ hit₁ (ht.extBut hs₁.extBut hne) ⋯ λh₂ hit₂ hs₂=>tz ?_));have hd:items.toList.drop i=items[i]::items.toList.drop (i+1):=by simp [aT,hlt]
  have:=hQ h₂ (by rw[show i+(n+1)=i+1+n by lia];exact hit₂) (hs₁.trans hs₂);rw[hd,dB]at this;exact this
def zc3(hh:A.handled=BK)(ht:s.heap.IsList t items)(hn:targets.length=items.size)(hstar:targets.findIdx? (·.1)=BK)(h:∀h',Heap.ExtBut s⁻¹ s.heap h'->tI (model prog w) A (assignInOrder (targets.map (·.2)) items.toList) Q E { s with heap:=h' }) :
  tI (model prog w) A (unpack (.ref t) targets) Q E s:=by
 have hlt:t≠s⁻¹:=by let#[o,ho,_]:=ht;exact aA (av ho)
 unfold unpack;rw[hn,hstar];refine tw (tO ?_);unfold unpackItems;refine tw ?_;unfold notIterableAtAll;refine tw (wpAny_specialOf ht.typeIs slot_list_iter.lookup ?_);refine tz ?_;erw[be,if_false];refine tw (tO (Ao ht ?_));refine tw (tO (zeQ hlt items.size 0 _ _ #[_,aE _ rfl,rfl,rfl] (ht.push _) ⋯ λh₁ hit₁ hs₁=>?_))
 have hall:List.take items.size (List.drop 0 items.toList)=items.toList:=by
  rw[dQ];exact bg (by simp)
 rw[hall,z9 (by simp)];have ht₁:h₁.IsList t items:=(ht.push _).extBut hs₁.extBut hlt;refine tw (tO (AT hh hit₁ ht₁ (by simp) λh₂ he₂=>?_));erw[Option.isSome_none,be,if_false];exact tz (h h₂ λb o hb e=>he₂ b o hb (hs₁.extBut b o hb (ae _ e)))
def zel(K:tF)(n:Nat)(t:TGs):TG:=λv σ H Q=>∃a xs,v=.ref a/\SqL K H a xs/\xs.length=n/\t xs σ H Q
def zcc(hc:X.calm=BL)(h:PGs X es t)(hn:‹(assignEach es X.env).length=n›)(hst:‹(assignEach es X.env).findIdx? (·.1)=BK›):PG X (.Tuple es k pos) (zel X.K n t):=by intros v u Q I r hw;let#[a,xs,e1,hq,hl,hw]:=hw;subst e1;cases r;let#[its,rv,#[o,m,ho,hcl,_,hd],hz]:=I.list hq;rw[assign_Tuple];refine tw (Ab (zc3 (I.ok.hd hc) #[o,ho,hcl,m,hd] (by simp [hn,<- hl,rv.length]) hst λh' hx=>?_));have I1:Inv X BN σ H { s with heap:=h' }:=I.kept (t':=s.toks) λb o e=>hx b o (aA (av e)) e;exact h BN _ σ H xs _ Q I1 ↥rv hw
def Irv(K:tF)(a:tG)(n:Nat):It:=#[λi H=>∃xs,SqL K H a xs/\xs.length=n/\i<n,λi H v H'=>H'=H/\∀xs,SqL K H a xs->xs.length=n->xs[n - 1 - i]? = BJ v,λi H=>i=n]
def zaL{K:tF}(a it:tG)(n:Nat):Kh P w K tg (Irv K a n) [it] it (λi h=>i<=n/\h.IsRevIter it a ((n:Int) - 1 - (i:Int))) where
 mem:=by simp
 obj:=λi h st b hb=>by
  have e:b=it:=by simpa using hb
  subst e;let#[_,o,e,c,d]:=st;exact#[o,e,λv z=>by rw[d]at z;cases z]
 keep:=λi h h' st k=>#[st.1,st.2.at λo e=>k it (by simp) o e]
 item:=by
  intro X hP hw hK hc i BN s σ H E I hf st hg;subst hP hw hK;let#[xs,hq,hn,hi]:=hg;let#[its,rv,p,hz]:=I.list hq;let#[f0,f1,f2,f3,f4,f5]:=hf it (by simp);have hx:xs[n - 1 - i]? = BJ (xs[n - 1 - i]'⋯):=ah ⋯;generalize xs[n - 1 - i]'⋯=x at hx;let#[u,hu,ru]:=rv.get hx;have st2:=st.2;have e:(n:Int) - 1 - (i:Int)=((n - 1 - i:Nat):Int):=⋯;rw[e]at st2;refine wpAny_pyNext_rev_item st2 p.isList (x:=u) ↥hu λh' st' sb=>?_;have I1:Inv X BN σ H { s with heap:=h' }:=I.turned (t':=s.toks) (λb o hb e=>(sb.2 b hb).trans e) f0 f1 f3 f4 f5;have e2:((n - 1 - i:Nat):Int) - 1=(n:Int) - 1 - ((i+1:Nat):Int):=⋯;rw[e2]at st';let#[o,e,c,d]:=id st';exact#[u,rfl,Uq (s:={ s with heap:=h' }) e c d ∅ #[x,H,I1,ru,#[rfl,λys hy Z=>by rw[I.list_inj hy hq];exact hx],#[hi,st'],λb hb=>(hf b hb).1]]
 done:=by
  intro X hP hw hK hc i BN s σ H E I hf st hg;subst hP hw hK;let#[f0,f1,f2,f3,f4,f5]:=hf it (by simp);have hi:i=n:=hg;have st2:=st.2;rw[hi,show (n:Int) - 1 - (n:Int)=-1 by lia]at st2;exact wpAny_pyNext_rev_end (I.ok.hd hc) st2 λh' eb=>#[rfl,I.turned (t':=s.toks) (λb o hb e=>eb b o hb e) f0 f1 f3 f4 f5]
 self:=λZ Z Z Z Z st h=>AX st.2 h
def zah:tY "reversed" = BJ (.type "reversed"):=PyProof.Rows.boot_reversed
def zhF(K:tF)(ta:TA):TI:=λσ H R=>ta σ H λvs H1=>∃a xs,vs=[.ref a]/\SqL K H1 a xs/\R (Irv K a xs.length) H1
def zfC(hg:Gl X "reversed")(hm:X.mg "reversed" = BK)(ha:PA X [a] ta)(hs:‹tD [a] X.env=[(BM,eval a X.env)]›) :
  PI X tg (.Call (.Name "reversed" p) [a] [] pos) (zhF X.K ta):=by
 intros R I h;refine BF (vq I hg hm zah (bz (thn (ha pos BN s σ H _ I h) λus s1=>el5 λvs H1 I1 r1 q1=>?_) hs rfl));let#[l,xs,e,hq,q]:=q1;subst e;let#[u,rfl,ru]:=vf r1;cases ru;let#[its,rv,pl,hz]:=I1.list hq;have hn:its.toArray.size=xs.length:=by rw[aj,<- rv.length]
 refine call_reversed_list pl.isList ?_
 have hit:(s1.heap.push (revObj l ((its.toArray.size:Int) - 1))).IsRevIter s1⁻¹ l ((xs.length:Int) - 1 - ((0:Nat):Int)):=by
  refine#[_,aE _ rfl,rfl,?_];rw[hn,show (xs.length:Int) - 1 - ((0:Nat):Int)=(xs.length:Int) - 1 by lia];rfl
 refine AX (s:={ s1 with heap:=s1.heap.push (revObj l ((its.toArray.size:Int) - 1)) }) hit ?_;refine#[s1⁻¹,[s1⁻¹],_,_,H1,rfl,I1.kept (t':=s1.toks) λb o e=>ae _ e,zaL l _ xs.length,#[ax _,hit],λb hb=>?_,q];have e:b=s1⁻¹:=by simpa using hb
 subst e;exact I1.fpOk (ak _) (I1.hok.fresh (ak _))
def zgh(K:tF)(ta:TA):TE:=λσ H Q=>ta σ H λvs H1=>∃a xs,vs=[.ref a]/\SqL K H1 a xs/\∀l,H1 l=BK->Q (.ref l) (upd H1 l (.lst xs.reverse))
def JR{K:tF}:zgh K ta σ H Q=ta σ H λvs H1=>∃a xs,vs=[.ref a]/\SqL K H1 a xs/\∀l,H1 l=BK->Q (.ref l) (upd H1 l (.lst xs.reverse)):=rfl
def Izp(K:tF)(a b:tG):It:=#[λi H=>∃xs ys x y,SqL K H a xs/\SqL K H b ys/\xs[i]? = BJ x/\ys[i]? = BJ y,λi H v H'=>∃p x y,H p=BK/\(∀xs,SqL K H a xs->xs[i]? = BJ x)/\(∀ys,SqL K H b ys->ys[i]? = BJ y)/\v=.ref p/\H'=upd H p (.tup [x,y]),λi H=>∃xs ys,SqL K H a xs/\SqL K H b ys/\(xs.length=i\/ys.length=i)/\i<=xs.length/\i<=ys.length]
def wZ{h:tT}(h1:h.get? a=BJ o1)(c1:o1.cls=.type t)(h2:h.get? b=BJ o2)(c2:o2.cls=.type u)(hne:t≠u):a≠b:=λz=>by
 rw[z,h2]at h1;cases h1;rw[c2]at c1;exact hne (Value.type.inj c1).symm
structure zbb(z TI TO i1 i2:tG):Prop where
 TIz:TI≠z
 TOz:TO≠z
 i1z:i1≠z
 i2z:i2≠z
 TITO:TI≠TO
 TIi1:TI≠i1
 TIi2:TI≠i2
 TOi1:TO≠i1
 TOi2:TO≠i2
 i12:i1≠i2
def ZipAt(z TI TO i1 i2 l1 l2:tG)(i:Nat)(h:tT):Prop:=AG h z TI TO .none/\Ai h TI (.ref i1) (.ref i2)/\(∃a b,Ai h TO a b)/\h.IsListIter i1 l1 i/\h.IsListIter i2 l2 i
def ZipAt.apart{z TI TO i1 i2 l1 l2:tG}(D:zbb z TI TO i1 i2)(st:ZipAt z TI TO i1 i2 l1 l2 i h)(h1:h.IsList l1 xs)(h2:h.IsList l2 ys):ZipApart z TI TO i1 i2 l1 l2:=by let#[hz,hTI,#[a,b,hTO],#[o1,e1,c1,_],#[o2,e2,c2,_]]:=st;let#[p1,q1,k1,_]:=h1;let#[p2,q2,k2,_]:=h2;exact#[D.TIz,D.TOz,D.i1z,D.i2z,D.TITO,D.TIi1,D.TIi2,D.TOi1,D.TOi2,D.i12,wZ q1 k1 hz rfl ∅,wZ q1 k1 hTO rfl ∅,wZ q1 k1 e1 c1 ∅,wZ q1 k1 e2 c2 ∅,wZ q2 k2 hz rfl ∅,wZ q2 k2 hTO rfl ∅,wZ q2 k2 e1 c1 ∅,wZ q2 k2 e2 c2 ∅]
def zhP(K:tF)(ta:TA):TI:=λσ H R=>ta σ H λvs H1=>∃a b,vs=[.ref a,.ref b]/\(∃xs,SqL K H1 a xs)/\(∃ys,SqL K H1 b ys)/\R (Izp K a b) H1
def zh1(K:tF)(a b:tG)(g:TG)(tb:TS)(D:kT)(σ:L2.St)(H:Hp):Prop:=∃W:Nat->Nat->L2.St->Hp->Prop,(∃m,W 0 m σ H)/\∀i m σ H,W i m σ H ->
 ((Izp K a b).stop i H/\D.nx σ H)\/((Izp K a b).go i H/\∃N:L2.St->Hp->Prop,(∀σ' H',N σ' H'->∃m',m'<m/\W (i+1) m' σ' H')/\∀x H',(Izp K a b).yld i H x H'->g x σ H' λσ2 H2=>tb { D with nx:=N,ct:=N,bk:=D.nx } σ2 H2)
def zhv{K:tF}:K6 (zhP K ta) g tb D σ H=ta σ H λvs H1=>∃a b,vs=[.ref a,.ref b]/\(∃xs,SqL K H1 a xs)/\(∃ys,SqL K H1 b ys)/\zh1 K a b g tb D σ H1:=rfl
abbrev xob(C:tG)(dx:Option tG)(t:tG)(tb:tH):Au:={ cls:=.ref C,dict:=dx,data:=.fields (w4 [.ref t,tb,.none,.none,.bool BM,.none]) }
abbrev xog(C:tG)(dx:Option tG)(t:tG)(tb c:tH)(k:Bool):Au:={ cls:=.ref C,dict:=dx,data:=.fields (w4 [.ref t,tb,c,.none,.bool k,.none]) }
def zcE(h:tT)(x:tG)(tb:tH):Prop:=tb=.none\/∃T oT ts,tb=.ref T/\T≠x/\h.get? T=BJ oT/\oT.data=.fields ts/\3<ts.size
def Xd(h:env.frame=env0.frame):eV env=eV env0:=by unfold eV;rw[h]
def ZW(hfr:A.frames=BJ (env0::outer))(hl:s.heap.FunFrames base (env0::outer))(hf:env0.frame=BJ L)(he:env.frame=BJ L)(hx:s.heap.get? x=BJ (xog C dx t tb cx kx))(h:∀h' oT ts,h'.get? x=BJ (xog C dx t (.ref s⁻¹) cx kx)->s⁻¹≠x->h'.get? s⁻¹=BJ oT->oT.data=.fields ts->3<ts.size ->
   (∀b o,b≠x->b ∉ frs (env0::outer)->s.heap.get? b=BJ o->h'.get? b=BJ o)->(∀b o,b≠x->s.heap.get? b=BJ o->∃sl,h'.get? b=BJ { o with slots:=sl })->Q Unit.unit { s with heap:=h' }) :
  tI M A (do let a <- eV env;let pl <- entryPlaceOf L hadNext;let b <- EntryCells.newEntry head a .none (rawInt L) .none pl;setField (.ref x) 1 b) Q E s:=by
 have hxf:x ∉ frs (env0::outer):=λhm=>by
  let#[_,o,ho,hnf]:=hl.mem hm;rw[hx]at ho;cases ho;exact hnf _ rfl
 rw[Xd (he.trans hf.symm)];refine tw (wpAny_frameOf_fun hfr hl hf λh1 hs1=>tw (wpAny_entryPlaceOf λpl hpl=>?_));unfold EntryCells.newEntry newFields;refine tw (Bn ?_ (hpl.sizeOk5 _ _ _ _ _));have hz:h1.objs.size=s⁻¹:=hs1.1;have hx1:h1.get? x=BJ (xog C dx t tb cx kx):=(hs1.2.1 x hxf).trans hx;generalize ho:({ cls:=.type "traceback",dict:=BK,data:=.fields ([head,.ref L,.none,rawInt L,.none] ++ (if pl.isEmpty then ay 6 u6 else pl)).toArray }:Au)=ob;have hx2:(h1.push ob).get? x=BJ (xog C dx t tb cx kx):=ae _ hx1;refine Ah hx2 rfl (by show 1<6;decide) ?_;have hne:h1.objs.size≠x:=cB (av hx1)
 have hx3:((h1.push ob).update x (Obj.mapFields (·.setIfInBounds 1 (u9 h1.objs.size)))).get? x=BJ (xog C dx t (.ref h1.objs.size) cx kx) :=
  bU (Obj.mapFields (·.setIfInBounds 1 (u9 h1.objs.size))) hx2 rfl
 have hT:((h1.push ob).update x (Obj.mapFields (·.setIfInBounds 1 (u9 h1.objs.size)))).get? h1.objs.size=BJ ob :=
  (aI _ _ (Ne.symm hne)).trans (aE h1 (by rw[<- ho];rfl))
 rw[hz]at hx3 hT hne
 have kp:∀b o,b≠x->h1.get? b=BJ o->((h1.push ob).update x (Obj.mapFields (·.setIfInBounds 1 (u9 h1.objs.size)))).get? b=BJ o:=λb o hb e =>
  (aI _ _ (Ne.symm hb)).trans (ae _ e)
 rw[hz]at kp ⊢;refine h _ ob _ hx3 hne hT (by rw[<- ho]) (by erw[aj,am,aF,bH] <;> lia) (λb o hb hbf e=>kp b o hb ((hs1.2.1 b hbf).trans e)) λb o hb e=>?_;let#[sl,q]:=hs1.2.2 b o e;exact#[sl,kp b _ hb q]
def qZ(hfr:A.frames=BJ (env0::outer))(hl:s.heap.FunFrames base (env0::outer))(hf:env0.frame=BJ L)(he:env.frame=BJ L)(hx:s.heap.get? x=BJ (xog C dx t tb cx kx))(htb:zcE s.heap x tb)(h:∀h' T oT ts,h'.get? x=BJ (xog C dx t (.ref T) cx kx)->T≠x->(tb=.ref T\/s⁻¹<=T)->h'.get? T=BJ oT->oT.data=.fields ts->3<ts.size ->
   (∀b o,b≠x->tb≠.ref b->b ∉ frs (env0::outer)->s.heap.get? b=BJ o->h'.get? b=BJ o)->(∀b o,b≠x->tb≠.ref b->s.heap.get? b=BJ o->∃sl,h'.get? b=BJ { o with slots:=sl })->Q Unit.unit { s with heap:=h' }) :
  tI M A (noteFrame (.ref x) env) (λZ s1=>tI M A (setFlight (.ref x) BK) Q E s1) E s:=by
 have land:∀(h1:tT) (T:tG) (oT:Au) (ts:Array tH),h1.get? x=BJ (xog C dx t (.ref T) cx kx)->T≠x->(tb=.ref T\/s⁻¹<=T)->h1.get? T=BJ oT->oT.data=.fields ts->3<ts.size ->
   (∀b o,b≠x->tb≠.ref b->b ∉ frs (env0::outer)->s.heap.get? b=BJ o->h1.get? b=BJ o)->(∀b o,b≠x->tb≠.ref b->s.heap.get? b=BJ o->∃sl,h1.get? b=BJ { o with slots:=sl }) ->
   tI M A (setFlight (.ref x) BK) Q E { s with heap:=h1 }:=λh1 T oT ts e1 nT oldT e2 d2 z2 k1 k2=>by
  unfold setFlight;refine tw (tQ (s:={ s with heap:=h1 }) e1 rfl (x:=.ref T) rfl ?_);rw[y9 (show (u9 T != u6)=BL from by simp)];refine Ah (s:={ s with heap:=h1 }) e2 d2 z2 ?_;have d3:=Obj.data_mapFields d2 (·.setIfInBounds 3 ((BK:Option tG).elim u6 λf=>rawInt f))
  have nb:∀b,b≠x->tb≠.ref b->(∃o,s.heap.get? b=BJ o)->b≠T:=λb hb hbt ⟨o,eo⟩ z=>by
   subst z;rcases oldT with q | q
   ·exact hbt q
   ·exact y6 (av eo) (Nat.not_lt.mpr q)
  refine h _ T _ _ ((aI _ _ nT).trans e1) nT oldT (bU _ e2 (Obj.isFreed_of_fields d3)) d3 ↥z2 (λb o hb hbt hbf e=>?_) λb o hb hbt e=>?_
  ·exact (aI _ _ (Ne.symm (nb b hb hbt #[o,e]))).trans (k1 b o hb hbt hbf e)
  ·let#[sl,q]:=k2 b o hb hbt e;exact#[sl,(aI _ _ (Ne.symm (nb b hb hbt #[o,e]))).trans q]
 unfold noteFrame;erw[he];refine tw (tQ hx rfl (x:=tb) rfl ?_);rcases htb with rfl | ⟨T,oT,ts,rfl,nT,e2,d2,z2⟩
 ·rw[z9 ∅];refine ZW hfr hl hf he hx λh' oT ts e1 ne e2 d2 z2 k1 k2=>land h' _ oT ts e1 ne (.inr (ak _)) e2 d2 z2 (λb o hb Z hbf e=>k1 b o hb hbf e) λb o hb Z e=>k2 b o hb e
 ·rw[y9 (show (u9 T != u6)=BL from by simp)];obtain⟨y,hy⟩:∃y,ts[3]? = BJ y:=#[ts[3],by simp [z2]];refine tw (tQ e2 d2 (x:=y) hy ?_);by_cases c:(y == rawInt L)=BL
  ·rw[y9 c];exact tz (land s.heap T oT ts hx nT (.inl rfl) e2 d2 z2 (λb o Z Z Z e=>e) λb o Z Z e=>#[o.slots,e])
  ·rw[z9 c];refine tw (Ah e2 d2 z2 ?_);have oth:∀b,b≠T->(s.heap.update T (Obj.mapFields (·.setIfInBounds 3 u6))).get? b=s.heap.get? b:=λb hb=>aI _ _ (Ne.symm hb);have hl1:(s.heap.update T (Obj.mapFields (·.setIfInBounds 3 u6))).FunFrames base (env0::outer):=hl.of_keeps λb o hb hnf=>#[o,(oth b λq=>by rw[q,e2]at hb;cases hb;exact hnf ts d2).trans hb,rfl];have hsz:(s.heap.update T (Obj.mapFields (·.setIfInBounds 3 u6))).objs.size=s⁻¹:=d6 ..;refine ZW (s:={ s with heap:=s.heap.update T (Obj.mapFields (·.setIfInBounds 3 u6)) }) hfr hl1 hf he ((oth x (Ne.symm nT)).trans hx) λh' oT' ts' e1 ne e2' d2' z2' k1 k2=>?_;refine land h' _ oT' ts' e1 ne (.inr (by rw[hsz];exact ak _)) e2' d2' z2' (λb o hb hbt hbf e=>k1 b o hb hbf ((oth b λq=>hbt (by rw[q])).trans e)) λb o hb hbt e=>k2 b o hb ((oth b λq=>hbt (by rw[q])).trans e)
def zdn(hfr:A.frames=BJ (env0::outer))(hl:s.heap.FunFrames base (env0::outer))(hf:env0.frame=BJ L)(he:env.frame=BJ L)(hx:s.heap.get? x=BJ (xog C dx t tb cx kx))(htb:zcE s.heap x tb)(h:∀h' T oT ts,h'.get? x=BJ (xog C dx t (.ref T) cx kx)->T≠x->(tb=.ref T\/s⁻¹<=T)->h'.get? T=BJ oT->oT.data=.fields ts->3<ts.size ->
   (∀b o,b≠x->tb≠.ref b->b ∉ frs (env0::outer)->s.heap.get? b=BJ o->h'.get? b=BJ o)->(∀b o,b≠x->tb≠.ref b->s.heap.get? b=BJ o->∃sl,h'.get? b=BJ { o with slots:=sl })->Q Unit.unit { s with heap:=h' }) :
  tI M A (leaving env (.ref x)) Q E s:=tw (qZ hfr hl hf he hx htb h)
def CXx(P:tL)(w:tP):CXT:=λouter H s E e s'=>∃(x C t:tG) (dx:Option tG) (tb:tH) (H':Hp),e=.ref x/\s'.os=s.os/\AE s'.gens/\Un (frs outer) [] H H' s.heap s'.heap/\HOk P w H' s'.heap /\
 s'.heap.get? x=BJ (xob C dx t tb)/\zcE s'.heap x tb/\H' x=BK/\s⁻¹<=x/\(∀T,tb=.ref T->H' T=BK/\s⁻¹<=T)/\E (.ref C) dx H'
def zeN(X:Cx)(E:XK)(e:tH)(s:tJ):Prop:=∃(BN:List (tG × Au)) (σ:St) (H:Hp) (x C t:tG) (dx:Option tG) (tb:tH),e=.ref x/\Inv X BN σ H s /\
 s.heap.get? x=BJ (xob C dx t tb)/\zcE s.heap x tb/\wf X BN H x/\(∀T,tb=.ref T->wf X BN H T)/\E (.ref C) dx H
def XE(X:Cx)(E:XK):Prop:=∀e s,zeN X E e s->X.xe e s
def VF(hx:XE X E):qx (CXx X.prog X.w) X E:=by intro BN σ H s e s' I h;let#[x,C,t,dx,tb,H',rfl,os,bare,un,hok,ob,tr,hn,hsz,hT,q]:=h;have I':Inv X BN σ H' s':=I.call' os un hok bare λb z=>y6 z (by simp);exact hx _ _ #[BN,σ,H',x,C,t,dx,tb,rfl,I',ob,tr,I.fpOk hsz hn,λT e=>I.fpOk (hT T e).2 (hT T e).1,q]
def zfx{K:tF} :
  XE (qH (CXx P w) P w K mg base N qual scope f cd A outer s H E) E:=by
 intro e s1 h;let#[BN,σ,H1,x,C,t,dx,tb,rfl,I,ob,tr,fx,fT,q]:=h;show tI _ _ (leaving _ (.ref x)) _ _ s1;have ff:=I.stack;refine zdn (A:=(qH (CXx P w) P w K mg base N qual scope f cd A outer s H E).A) (env0:=AD qual scope s⁻¹ f cd) (outer:=outer) I.ok.frames ff rfl rfl ob tr λh' T oT ts e1 nT oldT e2 d2 z2 k1 k2=>?_;have szs:s⁻¹<=s1⁻¹:=I.sz
 have hxs:s⁻¹<=x:=by
  rcases fx.2.2.2.1 with z | z
  ·exact y6 z (by simp [qH])
  ·exact z
 have hTs:s⁻¹<=T/\H1 T=BK:=by
  rcases oldT with z | z
  ·let#[a0,_,_,a3,_]:=fT T z;rcases a3 with y | y
   ·exact y6 y (by simp [qH])
   ·exact#[y,a0]
  ·exact#[aB szs z,I.hok.fresh z]
 have tbs:∀b,tb=.ref b->s⁻¹<=b/\H1 b=BK:=λb hb=>by
  let#[a0,_,_,a3,_]:=fT b hb;rcases a3 with y | y
  ·exact y6 y (by simp [qH])
  ·exact#[y,a0]
 have old:∀b o,s.heap.get? b=BJ o->b≠x/\tb≠.ref b:=λb o e=>by
  have hb:=av e;refine#[aA (aq hb hxs),λz=>?_];exact y6 (aq hb (tbs b z).1) (cM _)
 have un:Un (frs outer) [] H H1 s.heap h':=by
  have B:=I.base;refine#[λb o e n hb Z=>?_,λb o e n hb Z=>?_,λb o e n Z=>B.free b o e n (by simp [qH]),λb o e Z=>?_,B.tups,B.frzs,B.tbls]
  ·have e1:=B.keep b o e n hb (by simp [qH]);refine k1 b o (old b o e).1 (old b o e).2 (λz=>?_) e1;have z':=I.stkSub b z;rcases BR.mp z' with q | q
   ·exact y6 q (aA (aq (av e) I.ok.above))
   ·exact hb q
  ·let#[sl,e1]:=B.slot b o e n hb (by simp [qH]);let#[sl',e2]:=k2 b _ (old b o e).1 (old b o e).2 e1;exact#[sl',e2]
  ·let#[o',e1]:=B.there b o e (by simp [qH]);let#[sl',e2]:=k2 b _ (old b o e).1 (old b o e).2 e1;exact#[_,e2]
 have hok:HOk P w H1 h':=λb u e=>by
  refine (I.hok b u e).stay (λc v hc q=>k1 c v ?_ ?_ ?_ q) (λZ q=>q) λZ Z q=>q
  ·rintro rfl;rcases hc with rfl | hc
   ·rw[fx.1]at e;cases e
   ·rw[fx.1]at hc;cases hc
  ·intro z;have:=(tbs c z).2;rcases hc with rfl | hc
   ·rw[this]at e;cases e
   ·rw[this]at hc;cases hc
  ·intro z;have:=I.stkFree c z;rcases hc with rfl | hc
   ·rw[this]at e;cases e
   ·rw[this]at hc;cases hc
 exact#[x,C,t,dx,.ref T,H1,rfl,I.os,I.bare,un,hok,e1,.inr #[T,oT,ts,rfl,nT,e2,d2,z2],fx.1,hxs,λT' z=>by cases z;exact#[hTs.2,hTs.1],q]
def Fun.okX{K:tF}{st:tM}(F:Fun K x qual st f fd)(S:zl N ps (zi st))(len:∀vs H Q E,sp vs H Q E->vs.length=ps.length)(hbody:∀(cdv:tH) (A:Af) (outer:List BB) (s:tJ) (H:Hp) (vs:List V) (Q:VK) (E:XK),Room k (A.deeper (AD qual (zi st) s⁻¹ f cdv))->XE (qH (CXx P w) P w K mg base N qual (zi st) f cdv A outer s H E) E->sp vs H Q E ->
   ∃t,PSs (qH (CXx P w) P w K mg base N qual (zi st) f cdv A outer s H E) (yt st) t/\t { nx:=λZ H'=>Q .non H',rt:=Q } (start N vs) H):zV P w K mg base (CXx P w) (k+1) f fd ps sp:=by let#[oc,od,kV,doc,pm,an,cdv,ct,osl,rfl,lk,hcd]:=F.ex;exact zaq lk hcd S len λA outer s H vs Q E hr hsp=>hbody cdv A outer s H vs Q E hr zfx hsp
def zej(X:Cx)(E:XK)(e:tH)(s:tJ):Prop:=∃(cx:tH) (kx:Bool) (BN:List (tG × Au)) (σ:St) (H:Hp) (x C t:tG) (dx:Option tG) (tb:tH),e=.ref x/\Inv X BN σ H s /\
 s.heap.get? x=BJ (xog C dx t tb cx kx)/\zcE s.heap x tb/\wf X BN H x/\(∀T,tb=.ref T->wf X BN H T)/\E (.ref C) dx H
def XEg(X:Cx)(E:XK):Prop:=∀e s,zej X E e s->X.xe e s
structure RoomH(k:Nat)(A:Af):Prop where
 dp:A.depth+3 * k+5<Ba
 un:A.units+16 * k+200<cLine
def RoomH.mark(r:RoomH k A)(e:Option tH):RoomH k (A.mark e):=#[r.dp,r.un]
def cxH(P:tL)(w:tP)(K:tF)(mg:tK->Option tH)(base:tT)(N:List tK)(qual:tK)(scope:AF)(f:tG)(cd:tH)(A:Af)(outer:List BB)(s:tJ)(H:Hp):Cx :=
 { qH CX0 P w K mg base N qual scope f cd A outer s H E0 with calm:=BM,xe:=λZ Z=>False }
abbrev bmV:List tH:=[.type "ValueError",.type "Exception",.type "BaseException",.type "object"]
def xcC(K:tF)(C:tG)(o:Au)(cd:ClassData):Bool:=decide (cd.mro.head? = BJ (.ref C)/\o.slots.size=6/\o.slots[4]? = BJ (BJ (.builtin "ValueError.__new__"))/\o.cls=.type "type"/\cd.hasDel=BM/\cd.hasDict=BL/\PySem.W.tailIn K bmV cd.mro.tail=BL)
def xcO(K:tF)(C:tG)(o:Au):Data->Bool
 | .cls cd=>xcC K C o cd
 | _=>BM
def kR(K:tF)(C:tG):Bool:=(K.lookup C).any λo=>xcO K C o o.data
theorem zhR{α:Type}:∀{l:List α},l.length=6->∃a b c d e f,l=[a,b,c,d,e,f]
 | [a,b,c,d,e,f],_=>#[a,b,c,d,e,f,rfl]
theorem ZS{K:tF}{G:Prop}(q:kR K C=BL)(f:∀bm N nm qn bs sn sub ab col dd k0 k1 k2 k3 k5,K.lookup C=BJ (Bb nm qn C N bs bm BL sn sub ab col dd k0 k1 k2 k3 k5 "ValueError.__new__")->(∀h:tT,K.In h->OwnTail h bmV bm)->G):G:=by
 let#[#[c,dd,da,sl],ho,h]:=(Option.any_eq_true _ _).mp q
 cases da with
 | cls cd =>
  let#[h1,h2,h3,h4,h5,h6,ht]:=w9 h;let#[nm,bs,mro,ns,qn,hd,sn,sub,ab,col,del]:=cd;let#[l]:=sl;let#[k0,k1,k2,k3,k,k5,e]:=zhR h2
  cases mro with
  | nil=>cases h1
  | cons v bm =>
   cases Option.some.inj h1;subst e;cases Option.some.inj h3;cases h4;cases h5;cases h6;exact f bm ns nm qn bs sn sub ab col dd k0 k1 k2 k3 k5 ho λh X=>PySem.W.tail_of_in X ht
 | _=>cases h
structure XC(K:tF)(C:tG):Prop where
 ok:kR K C=BL
 sa:af K (.ref C) "__setattr__" = BJ (BJ (.builtin "object.__setattr__"))
 ga:af K (.ref C) "__getattribute__" = BJ (BJ (.builtin "BaseException.__getattribute__"))
 gt:af K (.ref C) "__getattr__" = BJ BK
 kp:aK K (.ref C)=BL
def Vy{prog:tL}{w:tP}{A:Af}{R:Result->tJ->Prop}{h:tT}{g:Array GenState}{d:Drawn}{t:Nat}{os:OsState}{K:tF}{C:tG}{rest:List tH}(X:K.In h)(q:kR K C=BL)(hi:af K (.ref C) "__init__" = BJ (BJ init))(hb:∀self,PySem.W.Looks (model prog w) h (bindSpecial init self) (init,[self]))(hrest:rest.length<=tE)(hq:As (model prog w) (A.under (.builtin "type.__call__" #[.ref C::rest,[]])) (.call init #[.ref (h.objs.size+1)::rest,[]]) (PySem.W.InitBack (h.objs.size+1) R) #[(h.push { cls:=.type "tuple",data:=.seq rest.toArray }).push (xob C BK h.objs.size .none),g,d,t,os]) :
  As (model prog w) A (.call (.ref C) #[rest,[]]) R #[h,g,d,t,os]:=by
 refine ZS (q) λbm N nm qn bs sn sub ab col dd k0 k1 k2 k3 k5 lk tl=>?_;have hC:=X _ _ lk;have T:=tl h X;have F:=eW;have f1:=tc_lookup;have f2:=tc_bind (.ref C);have hT:(#[h,g,d,t,os]:tJ).TypeIs (.ref C) "type":=#[_,hC,rfl];refine codeAny_of_tree ?_;show tI _ _ (callAny (.ref C) _) _ _ _
 repeat (any_goals (first | assumption | with_reducible refine Ad hC ?_ | wp_step))
 refine#[rfl,?_];refine codeAny_call_builtin_at (Code.quiet_builtin _ (!0)) entry_typeCall (wpAny_check_type_call_sub hC ?_)
 repeat (first | with_reducible refine Ad hC ?_ | with_reducible refine wpAny_madeBy_exc hC ?_ | wp_step)
 refine codeAny_call_builtin_code (Code.quiet_builtin _ F.quiet) (wpAny_check_new_subT F T hC ?_);refine codeAny_exc_new_subT F T hC ?_ hrest;show tI _ _ _ _ _ _;have k:∀b o,h.get? b=BJ o->((h.push { cls:=.type "tuple",data:=.seq rest.toArray }).push (xob C BK h.objs.size .none)).get? b=BJ o:=λb o e=>ae _ (ae _ e);have hC1:=k _ _ hC;have hget:((h.push { cls:=.type "tuple",data:=.seq rest.toArray }).push (xob C BK h.objs.size .none)).get? (h.objs.size+1)=BJ (xob C BK h.objs.size .none):=by heap_get
 have hcC:(u9 C::bm).contains (.ref C)=BL:=by simp
 unfold isInstance
 repeat (first | with_reducible refine Ad hget ?_ | wp_step)
 refine Av (C:=C) hC1 ?_;rw[hcC]
 repeat wp_step
 show tI _ _ (typeLookup (.ref C) _) _ _ _;refine ((de X hi).keeps k).at ?_;refine tO (tw (((hb _).keeps k).at ?_));refine tw (Ap (Ar hq λr s' z=>?_));rcases r with e | (v | _ | _ | _) <;> first | exact z | exact z.elim | skip;let#[rfl,z]:=z;exact tz (tz z)
def XN(x C:tG)(dx:Option tG):HO:=.ext λh=>∃t,h.get? x=BJ (xob C dx t .none)
def XT(x C:tG)(dx:Option tG):HO:=.ext λh=>∃t tb c k,h.get? x=BJ (xog C dx t tb c k)
def XP(x C:tG)(dx:Option tG):HO:=.ext λh=>∃t tb,h.get? x=BJ (xob C dx t tb)
def zfq(e:h.get? x=BJ (xob C dx t .none)):ObjOk P w H h x (XN x C dx) :=
 #[#[t,e],#[_,e],λh1 h2 ⟨t,q⟩ k=>#[t,k _ q]]
def zcM(e:h.get? x=BJ (xog C dx t tb c k)):ObjOk P w H h x (XT x C dx) :=
 #[#[t,tb,c,k,e],#[_,e],λh1 h2 ⟨t,tb,c,k',q⟩ k=>#[t,tb,c,k',k _ q]]
def zfK(o:ObjOk P w H h x (XN x C dx)):∃t,h.get? x=BJ (xob C dx t .none):=o.1
def zf8(o:ObjOk P w H h x (XT x C dx)):∃t tb c k,h.get? x=BJ (xog C dx t tb c k):=o.1
def Xg{sub:List tH}(hC:h.get? C=BJ (Bb nm q C N bs bm hdct sn sub ab col dd k0 k1 k2 k3 k5 newId))(base:tH):PySem.W.Looks M h (isSubtype (.ref C) base) ((u9 C::bm).contains base):=λA Q E s k z=>by
 let#[hp,g,d,t,os]:=s;exact Av (k _ _ hC) z
def JG{sub:List tH}(hC:h.get? C=BJ (Bb nm q C N bs bm hdct sn sub ab col dd k0 k1 k2 k3 k5 newId)):PySem.W.Looks M h (mroOf (.ref C)) (.ref C::bm):=λA Q E s k z=>by
 let#[hp,g,d,t,os]:=s;exact wpAny_mroOf_exc (k _ _ hC) z
def JY{sub:List tH}(hC:h.get? C=BJ (Bb nm q C N bs bm hdct sn sub ab col dd k0 k1 k2 k3 k5 newId)):PySem.W.Looks M h (classData C) { name:=nm,bases:=bs,mro:=.ref C::bm,ns:=N,qualname:=q,hasDict:=hdct,slotNames:=sn,subclasses:=sub,abstract:=ab,collection:=col,hasDel:=BM }:=λA Q E s k z=>by
 unfold classData;exact tw (wpAny_load (k _ _ hC) (tz z))
theorem X3(T:OwnTail h bmB bm)(self:tH)(hp:refuseLoop self "__setattr__" bmB=pure Unit.unit):refuseLoop self "__setattr__" bm=pure Unit.unit:=by
 induction T with
 | base=>exact hp
 | own _ _ _ _ ih=>rw[refuseLoop_ref];exact ih
def zdD(I:Inv X BN σ H s)(e:H x=BJ (XN x C BK))(xc:XC X.K C)(n:NoAttr X.K C f)(ry:RelV y u)(h:∀s' dx,H dx=BK->Inv X BN σ (upd (upd H dx (.xd [(f,y)])) x (XN x C (BJ dx))) s'->Q Unit.unit s'):tI (model X.prog X.w) A (setAttr (.ref x) f u) Q E s:=by
 let#[t,ob]:=zfK (I.hok x _ e);refine ZS (xc.ok) λbm N nm qn bs sn sub ab col dd k0 k1 k2 k3 k5 lk tl=>?_;have hC:=I.kIn _ _ lk;have T:=tl _ I.kIn;have SF:=PySem.F.store_ValueError;have J:PySem.W.InstAt s.heap x (xob C BK t .none) C BK:=#[ob,rfl,rfl,trivial];have hob:(u9 C::bm).contains (.type "object")=BL:=by rw[dN,T.hasType (show bmV.contains (.type "object")=BL by symm),ef]
 have isO:PySem.W.Looks (model X.prog X.w) s.heap (isInstance (.ref x) (.type "object")) BL:=J.type.andThen (by have:=Xg (M:=model X.prog X.w) hC (.type "object");rw[hob]at this;exact this);refine gq I.kIn J xc.sa ?_;refine AB SF.slot.plain SF.entry (@PySem.W.check_slot (model X.prog X.w) _ _ { s with toks:=s.toks+1 } "object.__setattr__" "object" "__setattr__" (.ref x) [.str f s.toks,u] [] _ SF.kind SF.split isO (SF.args _ _ _) ?_);rw[PySem.W.osa_eq,refuse_eq];refine tw (tw (J.type.here (s:={ s with toks:=s.toks+1 }) (tw ((JG hC).here (s:={ s with toks:=s.toks+1 }) ?_))));rw[refuseLoop_ref,X3 T _ (SF.passes _)];refine tz (tw (J.type.here (s:={ s with toks:=s.toks+1 }) (tw ((de I.kIn n).here (s:={ s with toks:=s.toks+1 }) (tw (tz ?_))))));show tI _ _ (Builtin.ObjectAttr.storeInOwnDict (.ref x) (.ref C) (.str f s.toks) f u BM) _ _ _;have hx1:(s.heap.push { cls:=.type "dict",data:=.dict #[] }).get? x=BJ (xob C BK t .none):=ae _ ob;have hxs:x≠s⁻¹:=aA (av ob);refine tw (tz (tw (tw (AZ ob (tw ((JY hC).here (s:={ s with toks:=s.toks+1 }) ?_))))));rw[z9 (by simp)];show tI _ _ (if (!BL || !typeHasDict (.ref C))=BL then _ else _) _ _ _;rw[z9 (by simp [typeHasDict])]
 have hgd:((s.heap.push { cls:=.type "dict",data:=.dict #[] }).update x λo=>{ cls:=o.cls,dict:=BJ s⁻¹,data:=o.data,slots:=o.slots }).get? s⁻¹=BJ { cls:=.type "dict",data:=.dict #[] } :=
  (aI _ _ hxs).trans (Heap.get?_push_at rfl rfl)
 have hgx:((s.heap.push { cls:=.type "dict",data:=.dict #[] }).update x λo=>{ cls:=o.cls,dict:=BJ s⁻¹,data:=o.data,slots:=o.slots }).get? x=BJ (xob C (BJ s⁻¹) t .none) :=
  bU _ hx1 rfl
 have hnd:((s.heap.push { cls:=.type "dict",data:=.dict #[] }).update x λo=>{ cls:=o.cls,dict:=BJ s⁻¹,data:=o.data,slots:=o.slots }).Ns s⁻¹ (λZ=>BK) :=
  #[_,#[],_,hgd,rfl,λe he=>y6 he (by simp),λZ=>rfl]
 refine tw (wpAny_alloc' (tw (wpAny_update' hx1 (tz ?_))));show tI _ _ (Builtin.ObjectAttr.storeInDict s⁻¹ (.str f s.toks) f u) _ _ _;unfold Builtin.ObjectAttr.storeInDict Builtin.ObjectAttr.newKeyGuard;refine tw (tz (tw (wpAny_nsSet1 (Heap.Ns1.of_empty hnd) λh' hn' hs=>?_)));let#[oD,esD,epD,hoD,hdD,hcD]:=hn'.count (Within.cons f u Within.nil);refine tw (Bs hoD (by rw[hdD];exact pastItsLine_dict (aB hcD (by rw[aF,bH,tZ];lia))) ?_);refine tz ?_;have hx2:h'.get? x=BJ (xob C (BJ s⁻¹) t .none):=(hs.2 x hxs).trans hgx;have hfr:H s⁻¹=BK:=I.hok.fresh (ak _);have hxe:x≠s⁻¹:=hxs;refine h _ s⁻¹ hfr ?_
 have k0:∀b o,b≠x->s.heap.get? b=BJ o->h'.get? b=BJ o:=λb o hb q =>
  (hs.2 b (aA (av q))).trans ((aI _ _ (Ne.symm hb)).trans (ae _ q))
 have I1:Inv X BN σ (upd H x (XN x C (BJ s⁻¹))) { s with heap:=h',toks:=s.toks+1+1 } :=
  I.write (x:=x) (e:=x) (by rw[e];exact True.intro) (.inl rfl) k0 ⟨_,hx2⟩ (zfq hx2)
 have hd2:ObjOk X.prog X.w (upd (upd H x (XN x C (BJ s⁻¹))) s⁻¹ (.xd [(f,y)])) h' s⁻¹ (.xd [(f,y)]):=by
  refine#[_,hn',λg=>?_];show RelO (bn g [(f,y)]) (if g=f then BJ u else BK);by_cases q:g=f
  ·subst q;rw[y9 rfl];simp [bn,RelO,ry]
  ·rw[z9 q];have q':(g == f)=BM:=by simpa using q
   simp [bn,q',RelO]
 have fd:wf X BN (upd H x (XN x C (BJ s⁻¹))) s⁻¹:=I.fpOk (ak _) (by rw[zo (Ne.symm hxe)];exact hfr);have I2:=Inv.track I1 fd hd2
 have eH:upd (upd H x (XN x C (BJ s⁻¹))) s⁻¹ (.xd [(f,y)])=upd (upd H s⁻¹ (.xd [(f,y)])) x (XN x C (BJ s⁻¹)):=by
  funext b;unfold upd;by_cases b1:b=s⁻¹
  ·subst b1;rw[y9 rfl,z9 (Ne.symm hxe),y9 rfl]
  ·by_cases b2:b=x
   ·subst b2;rw[z9 b1,y9 rfl,y9 rfl]
   ·rw[z9 b1,z9 b2,z9 b2,z9 b1]
 rw[eH]at I2;exact I2
def zbV(K:tF)(ta tv:TE)(f:tK):TS:=λD σ H=>tv σ H λy H1=>ta σ H1 λo H2=>∃x C,o=.ref x/\H2 x=BJ (XN x C BK)/\XC K C/\NoAttr K C f/\∀dx,H2 dx=BK->D.nx σ (upd (upd H2 dx (.xd [(f,y)])) x (XN x C (BJ dx)))
def UJ(ha:PE X o ta)(hv:PE X value tv)(hs:swapsWith value (BJ (.Attribute o f pos')) pos.line X.env=pure BM):PS X (.Assign [.Attribute o f pos'] value pos) (zbV X.K ta tv f):=by intros D I h;refine Az (thn (hv BN s σ H _ I h) λu s1=>el5 λy H1 I1 ry q=>thn (ha BN s1 σ H1 _ I1 q) λov s2=>el5 λx' H2 I2 rx q_z=>?_) hs;let#[x,C,ex,e,xc,n,q2]:=q_z;subst ex;obtain rfl:ov=u9 x:=rx;exact zdD I2 e xc n ry λs3 dx hdx I3=>#[σ,_,I3,q2 dx hdx]
def QI{K:tF}(hh:A.handled=BK)(h:tI M A x (λv s1=>∃e C t dx,v=.ref e/\K.In s1.heap/\kR K C=BL/\s1.heap.get? e=BJ (xob C dx t .none)/\E (.ref e) s1) E s):tI M A (raiseStmt env (BJ x) BK) Q E s:=by
 unfold raiseStmt;refine tw (thn h λv s1 h1=>?_);let#[e,C,t,dx,rfl,X,hC,he,hE]:=h1;refine ZS (hC) λbm N nm qn bs sn sub ab col dd k0 k1 k2 k3 k5 lk tl=>?_;have hCo:=X _ _ lk;have T:=tl _ X;have hcB:(u9 C::bm).contains (.type "BaseException")=BL:=by rw[dN,T.hasType (show bmV.contains (.type "BaseException")=BL by symm),ef]
 let#[hp,g,d,tk,os]:=s1
 repeat (first | with_reducible refine Ad he ?_ | with_reducible refine Ad hCo ?_ | (with_reducible refine Av hCo ?_;rw[hcB]) | wp_step)
 exact wpAny_raiseNew_none hh hE
def JH{K:tF}(hh:A.handled=BK)(h:tI M A (eval e env) (λv s1=>∃a C t dx,v=.ref a/\K.In s1.heap/\kR K C=BL/\s1.heap.get? a=BJ (xob C dx t .none)/\E (.ref a) s1) E s):tI M A (exec (.Raise (BJ e) BK pos) env) Q E s:=by
 rw[arm_exec_Raise]
 first
  | exact tw (Ab (QI hh (tw (thn h λv s1 h1=>tw (Ab (tz h1))))))
  | (erw[evalOpt,Option.map];exact tw (Ab (QI hh (tw (thn h λv s1 h1=>tw (Ab (tz h1)))))))
def del(H:Hp)(x:tG):Hp:=λb=>if b=x then BK else H b
def JK(h:b≠x):del H x b=H b:=z9 h
def W6 : del H x x=BK:=y9 rfl
def Inv.untrack(I:Inv X BN σ H s)(e:H x=BJ (.ext φ))(hs:X.s₀.heap.objs.size<=x):Inv X BN σ (del H x) s:=by
 have nx:∀b u,H b=BJ u->(∀ψ,u≠.ext ψ)->b≠x:=λb u q nu z=>by subst z;rw[e]at q;cases q;exact nu _ rfl
 have hn:∀b,b≠x->del H x b=H b:=λb hb=>JK hb;have es:s={ s with heap:=s.heap,gens:=s.gens,drawn:=s.drawn,toks:=s.toks }:=rfl;rw[es]
 refine I.step (g':=s.gens) (d':=s.drawn) (ch:=[x]) (λb hb=>?_) (λb o Z Z Z q Z=>q) (λb o Z Z Z q Z=>#[o.slots,q]) (λb o hc Z n=>?_)
  (λb o Z q=>#[o,q]) (λb xs q=>?_) (λb u xs q=>?_) (λb ps q=>?_) (λm hm=>hm) (λb u q=>?_) I.bare
 ·have eb:b=x:=by simpa using hb
  subst eb;refine#[.inr hs,λz=>?_,λy c q z=>?_,λp hp z=>?_]
  ·rw[z,I.free]at e;cases e
  ·have:=I.freeC y c q;rw[z,e]at this;cases this
  ·have:=(I.pin p hp).2.1;rw[z,e]at this;cases this
 ·rw[hn b ↥hc];exact n
 ·rw[hn b (nx b _ q λZ z=>by cases z)];exact q
 ·rw[hn b (nx b _ q λZ z=>by cases z)];exact q
 ·exact#[#[],by rw[hn b (nx b _ q λZ z=>by cases z),q];simp]
 ·by_cases hb:b=x
  ·subst hb;rw[W6]at q;cases q
  ·rw[hn b hb]at q;exact (I.hok b u q).stay (λc v Z z=>z) (λc z=>by rw[hn c (nx c _ z λZ y=>by cases y)];exact z) λc xs z=>by rw[hn c (nx c _ z λZ y=>by cases y)];exact z
def Ui(I:Inv X BN σ H s)(xc:kR X.K C=BL)(hi:af X.K (.ref C) "__init__" = BJ (BJ (.builtin "ValueError.__init__")))(hl:us.length<=tE)(h:∀s' x t,s⁻¹<=x->Inv X BN σ H s'->s'.heap.get? x=BJ (xob C BK t .none)->Q (.ref x) s'):tI (model X.prog X.w) X.A (call (.ref C) us) Q E s:=by
 have F:=eW;refine ZS (xc) λbm N nm qn bs sn sub ab col dd k0 k1 k2 k3 k5 lk tl=>?_;have hC:=I.kIn _ _ lk;have T:=tl _ I.kIn;let#[hp,g,d,t,os]:=s;have k:∀b o,hp.get? b=BJ o->((hp.push { cls:=.type "tuple",data:=.seq us.toArray }).push (xob C BK hp.objs.size .none)).get? b=BJ o:=λb o e=>ae _ (ae _ e);refine Ap (Vy I.kIn xc hi (λself=>PySem.W.Looks.of_pure (F.init.bind self)) hl ?_);have hget:((hp.push { cls:=.type "tuple",data:=.seq us.toArray }).push (xob C BK hp.objs.size .none)).get? (hp.objs.size+1)=BJ (xob C BK hp.objs.size .none):=by heap_get
 refine AB F.init.plain F.initEntry (wpAny_check_init_subT F (T.keeps k) (k _ _ hC) hget rfl ?_)
 wp_walk
 refine#[rfl,h _ (hp.objs.size+1) ((hp.push { cls:=.type "tuple",data:=.seq us.toArray }).push (xob C BK hp.objs.size .none)).objs.size (dq _) (I.kept (t':=t) λb o e=>?_) ?_]
 ·exact (aI _ _ (cB (du (av e)))).trans (ae _ (k b o e))
 ·exact bU (Obj.mapFields λx=>x.setIfInBounds 0 (u9 ((hp.push { cls:=.type "tuple",data:=.seq us.toArray }).push (xob C BK hp.objs.size .none)).objs.size)) (ae _ hget) rfl
def XJ(E:XK)(C:tG)(t:TA):TS:=λZ σ H=>t σ H λvs H1=>vs.length<=tE/\E (.ref C) BK H1
def yf(hx:XE X E)(hc:X.calm=BL)(xc:XC X.K C)(hi:af X.K (.ref C) "__init__" = BJ (BJ (.builtin "ValueError.__init__")))(hg:Gl X cn)(hm:X.mg cn=BJ (.ref C))(ha:PA X (e::es) t)(hdb:‹(cn ==("__debug__" : tK))=BM›)(he:‹tD (e::es) X.env=(BM,eval e X.env)::tD es X.env›)(hpl:‹(tS cpos (tD es X.env)).any (·.1)=BM›) :
  PS X (.Raise (BJ (.Call (.Name cn np) (e::es) [] cpos)) BK pos) (XJ E C t):=by intros D I h;refine JH (K:=X.K) (I.ok.hd hc) (tW (vg I hg hm ?_ hdb));refine bZ (h₀:=X.base) I.ok.mod.kin xc.kp (thn (ha cpos BN s σ H _ I h) λus s1=>el5 λvs H1 I1 r=>ua2 λz q=>#[I1.kIn,?_]) he hpl;refine Ui (us:=[] ++ us) I1 xc.ok hi (by show us.length<=tE;rw[<- r.length];exact z) λs2 x t hz I2 ob=>#[x,C,t,BK,rfl,I2.kIn,xc.ok,ob,?_];exact hx _ _ #[BN,σ,H1,x,C,t,BK,.none,rfl,I2,ob,.inl rfl,I1.fpOk hz (I1.hok.fresh hz),λT z=>(by cases z),q]
def J0(r:Room (k+1) A):Room k (A.under (.builtin "type.__call__" #[.ref C::us,[]])):=r.make C us []
def WG(E:XK)(C:tG)(sp:Sp)(t:TA):TS:=λZ σ H=>t σ H λvs H1=>vs.length<=tE/\∀x,H1 x=BK->sp (.ref x::vs) (upd H1 x (XN x C BK)) (λv H2=>v=.non/\∃dx,H2 x=BJ (XN x C dx)/\E (.ref C) dx (del H2 x)) E0
theorem Xm(hx:XE X E)(hc:X.calm=BL)(xc:XC X.K C)(hi:af X.K (.ref C) "__init__" = BJ (BJ (.ref f)))(hfn:aV X.K (.ref f)=BL)(F:zV X.prog X.w X.K X.mg X.base CX0 k f fd ps sp)(hr:Room (k+1) X.A)(hb:Binds X.K fd ps [])(hg:Gl X cn)(hm:X.mg cn=BJ (.ref C))(ha:PA X (e::es) t)(hdb:‹(cn ==("__debug__" : tK))=BM›)(he:‹tD (e::es) X.env=(BM,eval e X.env)::tD es X.env›)(hpl:‹(tS cpos (tD es X.env)).any (·.1)=BM›) :
  PS X (.Raise (BJ (.Call (.Name cn np) (e::es) [] cpos)) BK pos) (WG E C sp t):=by
 intros D I h;refine JH (K:=X.K) (I.ok.hd hc) (tW (vg I hg hm ?_ hdb));refine bZ (h₀:=X.base) I.ok.mod.kin xc.kp (thn (ha cpos BN s σ H _ I h) λus s1=>el5 λvs H1 I1 r=>ua2 λz q=>#[I1.kIn,?_]) he hpl;have hl:us.length<=tE:=by rw[<- r.length];exact z
 have ob:((s1.heap.push { cls:=.type "tuple",data:=.seq us.toArray }).push (xob C BK s1⁻¹ .none)).get? (s1⁻¹+1)=BJ (xob C BK s1⁻¹ .none):=by heap_get
 have hfr:H1 (s1⁻¹+1)=BK:=I1.hok.fresh (dq _)
 have I2:Inv X BN σ (upd H1 (s1⁻¹+1) (XN (s1⁻¹+1) C BK)) { s1 with heap:=(s1.heap.push { cls:=.type "tuple",data:=.seq us.toArray }).push (xob C BK s1⁻¹ .none) } :=
  I1.laid (t':=s1.toks) (λb o e=>ae _ (ae _ e)) (dq _) (zfq ob)
 have q1:=q _ hfr;have r2:Vals (V.ref (s1⁻¹+1)::vs) (u9 (s1⁻¹+1)::us):=.cons rfl r
 have hlen:(u9 (s1⁻¹+1)::us ++ ([]:List tH)).length=ps.length:=by
  rw[aZ,<- r2.length];exact F.len _ _ _ _ q1
 have hb2:=hb { s1 with heap:=(s1.heap.push { cls:=.type "tuple",data:=.seq us.toArray }).push (xob C BK s1⁻¹ .none) } (u9 (s1⁻¹+1)::us) I2.kIn hlen;rw[aZ]at hb2;have run:=F.run _ X.stack _ _ #[u9 (s1⁻¹+1)::us,[]] (u9 (s1⁻¹+1)::us) _ _ E0 (J0 (C:=C) (us:=us) hr) (I2.env0.make C us []) hb2 r2 q1;have sz0:X.s₀.heap.objs.size<=s1⁻¹+1:=aB I1.sz (dq _);show tI (model X.prog X.w) X.A (call (.ref C) us) _ X.xe s1;refine Ap ?_;refine Vy (h:=s1.heap) (g:=s1.gens) (d:=s1.drawn) (t:=s1.toks) (os:=s1.os) (rest:=us) I1.kIn xc.ok hi (λself=>gw I1.kIn self (beq_iff_eq.mp hfn)) hl (Ar run λr s' hq=>?_)
 cases r with
 | error e=>exact False.elim hq
 | ok fl =>
  cases fl with
  | ret u =>
   let#[v,H',I3,rv,ev,dx,hx3,q3]:=I2.after hq;subst ev;refine#[rv,?_];let#[t,ob3]:=zfK (I3.hok _ _ hx3);have I4:=Inv.untrack I3 hx3 sz0;refine#[_,C,t,dx,rfl,I3.kIn,xc.ok,ob3,hx _ _ #[BN,σ,_,_,C,t,dx,.none,rfl,I4,ob3,.inl rfl,?_,λT z=>(by cases z),q3]];exact I1.fpOk (dq _) W6
  | next=>exact False.elim hq
  | brk=>exact False.elim hq
  | cont=>exact False.elim hq
def zcW(X:Cx)(BN:List (tG × Au))(σ:St)(E:XK)(e:tH)(s:tJ):Prop:=∃(cx:tH) (kx:Bool) (H:Hp) (x C t:tG) (dx:Option tG) (tb:tH),e=.ref x/\Inv X BN σ H s /\
 s.heap.get? x=BJ (xog C dx t tb cx kx)/\zcE s.heap x tb/\wf X BN H x/\(∀T,tb=.ref T->wf X BN H T)/\E (.ref C) dx H
abbrev TX:=St->Hp->VK->XK->Prop
def PEX(X:Cx)(e:Aq)(t:TX):Prop :=
 ∀(BN:List (tG × Au)) (s:tJ) (σ:St) (H:Hp) (Q:VK) (E:XK),Inv X BN σ H s->t σ H Q E->tI (model X.prog X.w) X.A (eval e X.env) (EP X BN σ Q) (zcW X BN σ E) s
theorem KS(F:zV X.prog X.w X.K X.mg X.base (CXx X.prog X.w) k f fd ps sp)(hr:Room k X.A)(hg:Gl X x)(hm:X.mg x=BJ (.ref f))(hk:aK X.K (.ref f)=BL)(hb:Binds X.K fd ps ds)(hd:Vals dvs ds)(ha:PA X.nox (e::es) t) (hdb:‹(x ==("__debug__" : tK))=BM›) (he:‹tD (e::es) X.env=(BM,eval e X.env)::tD es X.env›) (hpl:‹(tS pos (tD es X.env)).any (·.1)=BM›) :
  PEX X (.Call (.Name x p) (e::es) [] pos) (λσ H Q E=>t σ H λvs H1=>sp (vs ++ dvs) H1 Q E):=by
 intros Q E I h;refine tW (vg I hg hm ?_ hdb);refine bZ (h₀:=X.base) I.ok.mod.kin hk (Ag (thn (ha pos BN s σ H _ (I.wish _) h) λus s1=>el5 λvs H1 I1 r q=>#[I1.kIn,?_])) he hpl;have I1':Inv X BN σ H1 s1:=I1.unwish;have r2:Vals (vs ++ dvs) (us ++ ds):=r.append hd;have hl:(us ++ ds).length=ps.length:=by rw[<- r2.length];exact F.len _ _ _ _ q
 refine Ap (Ar (F.run X.A X.stack s1 H1 #[us,[]] (us ++ ds) (vs ++ dvs) Q E hr I1'.env0 (hb s1 us I1'.kIn hl) r2 q) λr s' hq=>?_)
 cases r with
 | error e =>
  let#[x,C,t,dx,tb,H',rfl,os,bare,un,hok,ob,tr,hn,hsz,hT,q]:=hq;exact#[.none,BM,H',x,C,t,dx,tb,rfl,I1'.call' os un hok bare (λb z=>y6 z (by simp)),ob,tr,I1'.fpOk hsz hn,λT e=>I1'.fpOk (hT T e).2 (hT T e).1,q]
 | ok fl =>
  cases fl with
  | ret u=>exact I1'.after hq
  | next=>exact False.elim hq
  | brk=>exact False.elim hq
  | cont=>exact False.elim hq
abbrev Cx.suite(X:Cx)(e:tH):Cx:={ X with A:=X.A.mark (BJ e),calm:=BM,xe:=λZ Z=>False }
def Inv.suite(I:Inv X BN σ H s)(e:tH):Inv (Cx.suite X e) BN σ H s :=
 #[#[I.ok.mod,I.ok.kind,I.ok.glob,I.ok.blt,I.ok.above,I.ok.inj,I.ok.has,I.ok.cab,λz=>y6 z (by simp [Cx.suite]),I.ok.frames,I.ok.stk,I.ok.exf,I.ok.bs,I.ok.bsz,I.ok.noex,I.ok.exfs,I.ok.funs,I.ok.frf],
  I.os,I.bare,I.base,I.loc,I.cell,I.free,I.freeC,I.pin,I.hok,I.len]
def Inv.unsuite(J:Inv X BN σ' H' s')(I:Inv (Cx.suite X e) BN σ H s):Inv X BN σ H s :=
 #[J.ok,I.os,I.bare,I.base,I.loc,I.cell,I.free,I.freeC,I.pin,I.hok,I.len]
structure Hd where
 D:tG
 i:Nat
 ts:TS
def tHs(K:tF)(C:tG)(dx:Option tG)(x:tG)(Dd:kT)(σ:St)(H:Hp):List Hd->Prop
 | []=>False
 | h::r=>∃b,cN K (.ref C) (.ref h.D)=BJ b/\if b=BL then h.ts { Dd with nx:=λσ' H'=>Dd.nx (σ'.set h.i BK) H',bk:=λσ' H'=>Dd.bk (σ'.set h.i BK) H',ct:=λσ' H'=>Dd.ct (σ'.set h.i BK) H' } (σ.set h.i (BJ (.ref x))) H else tHs K C dx x Dd σ H r
def uG(I:Inv X BN σ H s)(hN:X.N.Nodup)(hi:X.N[i]? = BJ n)(hk:X.env.scope.names.lookup n=BJ .local)(h:∀s',Inv X BN (σ.set i BK) H s'->Q Unit.unit s'):tI M A (do bindName X.env n .none;unbindBehindTheSuite X.env n pos) Q E s:=by
 let#[m,hn,hl]:=id I.loc;have hcls:(X.env.scope.kind == .class || (X.env.scope.kind == .module && X.env.locals != X.env.globals))=BM:=by rw[I.ok.kind];rfl
 have hiσ:i<σ.length:=by rw[I.len];exact (BP.mp hi).1
 have cne:=I.cne;refine wpAny_nameGoes_keeps hk hn hcls λh' v hn' hs=>?_;let#[oL,_,_,hoL,_]:=id hn;refine h _ #[I.ok,I.os,I.bare,#[λb o e n hb hx=>?_,λb o e n hb hx=>?_,I.base.free,λb o e hx=>?_,I.base.tups,I.base.frzs,I.base.tbls],#[_,hn',λj y v' e1 e2 e3=>?_],λy c e=>?_,I.free,I.freeC,λp hp=>?_,?_,by simpa using I.len]
 ·exact (hs.2 b (aA (aq (av e) I.ok.above))).trans (I.base.keep b o e n hb hx)
 ·let#[sl,e1]:=I.base.slot b o e n hb hx;exact#[sl,(hs.2 b (aA (aq (av e) I.ok.above))).trans e1]
 ·let#[o',e1]:=I.base.there b o e hx;exact#[o',(hs.2 b (aA (aq (av e) I.ok.above))).trans e1]
 ·by_cases hj:j=i
  ·subst hj;rw[dY hiσ]at e2;cases e2
  ·rw[d9 (Ne.symm hj)]at e2;let#[u',r',q]:=hl j y v' e1 e2 e3;refine#[u',r',?_];rcases q with ⟨k,e⟩ | ⟨k,c,e,z⟩
   ·refine .inl #[k,?_];have:y≠n:=λe=>hj (ZM hN e1 (e ▸ hi));simp [this,e]
   ·exact .inr #[k,c,e,z.sameBut hs (cne y c e)]
 ·let#[w',z]:=I.cell y c e;exact#[w',z.sameBut hs (cne y c e)]
 ·let#[e,n,ne,nf,d]:=I.pin p hp;exact#[(hs.2 p.1 ne).trans e,n,ne,nf,d]
 ·exact HOk.but I.hok hs I.free
theorem zbS{K:tF}(X:K.In s.heap)(hD:kR K D=BL)(he:s.heap.get? x=BJ (xog C dx t tb cx kx))(hs:cN K (.ref C) (.ref D)=BJ b)(h:Q b s):tI M A (excMatches (.ref x) (.ref D)) Q E s:=by
 refine ZS (hD) λbm N nm qn bs sn sub ab col dd k0 k1 k2 k3 k5 lk tl=>?_;have hDo:=X _ _ lk;have T:=tl _ X;have hcB:(u9 D::bm).contains (.type "BaseException")=BL:=by rw[dN,T.hasType (show bmV.contains (.type "BaseException")=BL by symm),ef]
 have L:=PySem.W.looks_subIn (M:=M) X hs;have f:=tc_notTuple;let#[hp,g,d,tk,os]:=s;unfold excMatches
 repeat (first | with_reducible refine Ad he ?_ | with_reducible refine Ad hDo ?_ | (with_reducible refine Av hDo ?_;rw[hcB]) | (with_reducible refine PySem.W.Looks.at L ?_) | wp_step)
 cases b with
 | false=>exact tz (tz (tz h))
 | true=>exact tz (tz (tz h))
structure zhN(X:Cx)(h:Bj)(d:Hd):Prop where
 ex:∃(cn n:tK) (np pos:BD) (b0:tM) (suite:List tM),h=.ExceptHandler (BJ (.Name cn np)) (BJ n) (b0::suite) pos/\Gl X cn/\X.mg cn=BJ (.ref d.D)/\X.N[d.i]? = BJ n/\X.env.scope.names.lookup n=BJ .local/\(cn ==("__debug__" : tK))=BM /\
  (∀e,PSs (Cx.suite X e) (b0::suite) d.ts)
 xc:kR X.K d.D=BL
inductive X5(X:Cx):List Bj->List Hd->Prop
 | nil {hs}:X5 X hs []
 | cons {h d hs ds}:zhN X h d->X5 X hs ds->X5 X (h::hs) (d::ds)
theorem Y3(hN:X.N.Nodup):∀{hs:List Bj} {ds:List Hd},X5 X hs ds->∀{BN:List (tG × Au)} {s:tJ} {σ:St} {H:Hp} {Dd:kT} {x C T:tG} {dx:Option tG},Inv X BN σ H s->H x=BJ (XT x C dx) ->
  (∃t cx kx,s.heap.get? x=BJ (xog C dx t (.ref T) cx kx))->(∃oT ts,s.heap.get? T=BJ oT/\oT.data=.fields ts/\3<ts.size)->wf X BN H T->tHs X.K C dx x Dd σ H ds ->
  tI (model X.prog X.w) X.A (handleBy (.ref x) X.env hs) (SP X BN Dd) X.xe s
 | _,_,.nil,_,_,_,_,_,_,_,_,_,_,_,_,_,_,h=>h.elim
 | _,_,.cons h1 h2,BN,s,σ,H,Dd,x,C,T,dx,I,hx,ho_,hT_,fT,h=>by
  let#[t,cx,kx,ob]:=ho_;let#[oT,ts,eT,dT,zT]:=hT_;let#[#[cn,n,np,pos,b0,suite,rfl,hg,hm,hi,hk,hdb,hsu],xc]:=h1;let#[b,hb,q]:=h;have I':=Inv.suite I (.ref x);refine Be (AU (vg (X:=Cx.suite X (.ref x)) I' hg hm (zbS I.kIn xc ob hb ?_) hdb)) (by intro q;cases q)
  cases b with
  | false =>
   rw[z9 aD]at q;exact Y3 hN h2 I hx #[t,cx,kx,ob] #[oT,ts,eT,dT,zT] fT q
  | true =>
   rw[y9 rfl]at q;refine codeAny_handlers_suite_as ?_;unfold setFlight;refine tw (tQ ob rfl (x:=.ref T) rfl ?_);rw[y9 (show (u9 T != u6)=BL from by simp)];refine Ah eT dT zT ?_;let#[f0,f1,f2,f3,f4,f5]:=fT
   have I2:Inv X BN σ H { s with heap:=s.heap.update T (Obj.mapFields (·.setIfInBounds 3 ((BK:Option tG).elim u6 λf=>rawInt f))) } :=
    I.turned (t':=s.toks) (λb o hb e=>(aI _ _ (Ne.symm hb)).trans e) f0 f1 f3 f4 f5
   refine uL (X:=Cx.suite X (.ref x)) (v:=.ref x) (Inv.suite I2 (.ref x)) hN hi (.inl hk) rfl (λs3 I3=>?_) (.inr hk);refine Ag (thn (hsu _ BN s3 _ H _ I3 q) λfl s4 q4=>?_)
   cases fl with
   | next =>
    let#[σ4,H4,I4,n4]:=q4;exact uG (Inv.unsuite I I4) hN hi hk λs5 I5=>#[_,_,I5,n4]
   | brk =>
    let#[σ4,H4,I4,n4]:=q4;exact uG (Inv.unsuite I I4) hN hi hk λs5 I5=>#[_,_,I5,n4]
   | cont =>
    let#[σ4,H4,I4,n4]:=q4;exact uG (Inv.unsuite I I4) hN hi hk λs5 I5=>#[_,_,I5,n4]
   | ret v =>
    let#[y,σ4,H4,I4,r4,n4]:=q4;exact uG (Inv.unsuite I I4) hN hi hk λs5 I5=>#[y,_,_,I5,r4,n4]
def tbL:tH->List tG
 | .ref b=>[b]
 | _=>[]
def zfS(K:tF)(i:Nat)(te:TX)(hds:List Hd):TS:=λD σ H=>te σ H (λv H1=>D.nx (σ.set i (BJ v)) H1) λcls dx H1=>∃C,cls=.ref C/\∀x,H1 x=BK->tHs K C dx x D σ (upd H1 x (XT x C dx)) hds
def zeP(hN:X.N.Nodup)(hy:X.N[i]? = BJ y)(hly:Loc X.env.scope y)(hf:X.fn y=BL\/X.env.scope.names.lookup y=BJ .local)(hst:X.stack=X.env::X.outer/\X.env.frame=BJ X.env.locals)(he:PEX X e te)(hh:X5 X (h::hs) hds)(hsw:‹swapsWith e (BJ (.Name y yp)) apos.line X.env=pure BM›) :
    PS X (.Try [.Assign [.Name y yp] e apos] (h::hs) [] [] pos) (zfS X.K i te hds):=by
  intros D I hq;refine AL (Ak (AH (Am (he BN s σ H _ _ I hq) (λv s1=>el5 λz H1 I1 r1 q1=>?_) λe s1 fl=>?_) hsw))
  . exact uL I1 hN hy hly r1 (λs2 I2=>Ae (Ae #[_,H1,I2,q1])) hf
  . let#[cx,kx,H1,x,C,t,dx,tb,rfl,I1,ob,tr,fx,fT,C',ec,q1]:=fl
    cases ec;have fr:X.A.frames=BJ (X.env::X.outer):=by rw[<- hst.1];exact I1.ok.frames
    have ff:s1.heap.FunFrames X.base (X.env::X.outer):=by rw[<- hst.1];exact I1.stack
    refine qZ fr ff hst.2 hst.2 ob tr λh' T oT ts e1 nT oldT e2 d2 z2 k1 k2=>?_
    have fT':wf X BN H1 T:=by
      rcases oldT with z | z
      . exact fT T z
      . exact I1.fpOk z (I1.hok.fresh z)
    have tbs:∀b,tb=.ref b->H1 b=BK:=λb hb=>(fT b hb).1
    have nch:∀b o,s1.heap.get? b=BJ o->b ∉ (x::T::tbL tb)->b≠x/\tb≠.ref b:=λb o Z hb=>by
      refine#[λz=>hb (by simp [z]),λz=>hb ?_];rw[z];simp [tbL]
    have un:Un (frs X.stack) (x::T::tbL tb) H1 H1 s1.heap h':=by
      rw[hst.1];refine#[λb o e n hb hc=>?_,λb o e n hb hc=>?_,λb o e n Z=>n,λb o e hc=>?_,λb xs e=>e,λb o u e=>e,λb ps e=>#[#[],by rw[e];simp]]
      . let#[a1,a2]:=nch b o e hc
        exact k1 b o a1 a2 hb e
      . let#[a1,a2]:=nch b o e hc
        exact k2 b o a1 a2 e
      . let#[a1,a2]:=nch b o e hc
        let#[sl,q]:=k2 b o a1 a2 e;exact#[_,q]
    have hok:HOk X.prog X.w H1 h':=λb u e=>by
      refine (I1.hok b u e).stay (λc v hc q=>k1 c v ?_ ?_ ?_ q) (λZ q=>q) λZ Z q=>q
      . rintro rfl
        rcases hc with rfl | hc
        . rw[fx.1]at e;cases e
        . rw[fx.1]at hc;cases hc
      . intro z
        have:=tbs c z;rcases hc with rfl | hc
        . rw[this]at e;cases e
        . rw[this]at hc;cases hc
      . intro z
        rw[<- hst.1]at z;have:=I1.stkFree c z;rcases hc with rfl | hc
        . rw[this]at e;cases e
        . rw[this]at hc;cases hc
    have I2:Inv X BN σ H1 { s1 with heap:=h' }:=I1.call' (s':={ s1 with heap:=h' }) rfl un hok I1.bare λb hb=>by
      have fb:wf X BN H1 b:=by
        rcases BR.mp hb with z | z
        . rw[z];exact fx
        . rcases BR.mp z with z | z
          . rw[z];exact fT'
          . cases tb with
            | ref b' =>
              have:b=b':=by simpa [tbL] using z
              rw[this];exact fT b' rfl
            | _=>simp [tbL]at z
      let#[_,a1,_,a3,a4,a5]:=fb;exact#[a3,a1,a4,a5]
    have I3:Inv X BN σ (upd H1 x (XT x C dx)) { s1 with heap:=h' }:=Inv.track I2 fx (zcM e1);exact Y3 hN hh I3 zd #[t,_,_,e1] #[oT,ts,e2,d2,z2] #[by rw[zo nT];exact fT'.1,fT'.2] (q1 x fx.1)
end
section
variable{prog:tL}{w:tP}{A:Af}{E:tH->tJ->Prop}{s:tJ}{K:tF}{x C:tG}{ox:Au}{od:Option Au}{name:tK}{tk:AV}
def zd4{fill expr:Bool}(X:K.In s.heap)(xc:XC K C)(J:PySem.W.InstAt s.heap x ox C od)(h:tI (model prog w) A.in1 (Builtin.«object.__getattribute__» #[[.ref x,.str name tk],[]]) (λfin s'=>match fin with | .done (.ret v)=>tI (model prog w) A (handedOut v) Q E s' | _=>False) (λZ Z=>False) s) :
  tI (model prog w) A (getAttrBy (.ref x) (.str name tk) fill expr) Q E s:=by
 refine ZS (xc.ok) λbm N nm qn bs sn sub ab col dd k0 k1 k2 k3 k5 lk tl=>?_;have hC:=X _ _ lk;have T:=tl _ X;have FB:=PySem.F.attrBase_ValueError;have L0:=J.type (M:=model prog w);have L1:=de (M:=model prog w) X xc.ga;have L2:=de (M:=model prog w) X xc.gt;have hcB:(u9 C::bm).contains (.type "BaseException")=BL:=by rw[dN,T.hasType (show bmV.contains (.type "BaseException")=BL by symm),ef]
 have isB:PySem.W.Looks (model prog w) s.heap (isInstance (.ref x) (.type "BaseException")) BL:=L0.andThen (by have:=Xg (M:=model prog w) hC (.type "BaseException");rw[hcB]at this;exact this);have f3:=FB.ga.bind (.ref x);have hx0:(expr && onTheHeap (Value.builtin "BaseException.__getattribute__"))=BM:=by cases expr <;> rfl
 have hx2:(Value.builtin "BaseException.__getattribute__" == Value.builtin "object.__getattribute__")=BM:=by symm
 have hx1:(onTheHeap (u9 C) && Value.builtin "BaseException.__getattribute__" == Value.builtin "object.__getattribute__")=BM:=by rw[hx2];rfl
 unfold getAttrBy;refine tO (tw (L0.here (tw (L1.here ?_))));show tI _ _ (if (onTheHeap (u9 C) && Value.builtin "BaseException.__getattribute__" == Value.builtin "object.__getattribute__")=BL then _ else _) _ _ _;rw[hx1,z9 aD];unfold getAttrByItsOwn hookBefore;rw[y9 (by rfl)];refine tw (L2.here (tw (AA (tO ?_))));unfold callGetattribute;rw[hx0,z9 aD];unfold boundAndCalled;rw[f3];refine tw (tz ?_);show tI (model prog w) A (call (.builtin "BaseException.__getattribute__") [.ref x,.str name tk]) _ _ s;refine Ap (AB FB.ga.plain PySem.F.entry_bexc_ga (@PySem.W.check_slot (model prog w) _ _ s "BaseException.__getattribute__" "BaseException" "__getattribute__" (.ref x) [.str name tk] [] _ (!0) (!0) isB (PySem.F.args_bexc_ga _ _) ?_));refine Am h (λfin s' z=>?_) λZ Z z=>z.elim;rcases fin with (_ | _ | _ | v) | _ <;> first | exact z | exact z.elim
def zbG(X:K.In s.heap)(xc:XC K C)(J:PySem.W.InstAt s.heap x ox C od)(ha:af K (.ref C) "__class__" = BJ (BJ (.builtin "object.__class__")))(hn:dc K (.builtin "object.__class__") "__get__" = BJ (BJ (.builtin "getset_descriptor.__get__")))(htk:ee K (.builtin "object.__class__")=BJ BL)(hm:bC K C (.type "object")=BJ BL)(h:Q (BJ (.ref C)) { s with toks:=s.toks+1 }):tI (model prog w) A (getAttr? (.ref x) "__class__") Q E s:=by
 have hf:gx K C od "__class__" = BJ (.bind (.builtin "getset_descriptor.__get__") (.builtin "object.__class__")):=by
  refine ZS (xc.ok) λbm N nm qn bs sn sub ab col dd k0 k1 k2 k3 k5 lk tl=>?_;have hcl:(PySem.W.clsIn K C).isSome=BL:=by unfold PySem.W.clsIn;rw[lk];rfl
  let#[cd,hc]:=Cc.mp hcl;unfold gx;rw[hc,cC,ha,cC];simp [hn,htk]
 unfold getAttr? getAttrBy?;refine tw (wpAny_mkText (tw (AA (zd4 (s:={ s with toks:=s.toks+1 }) X xc J ?_))));have L0:=J.type (M:=model prog w);have L1:=PySem.W.looks_find (M:=model prog w) X J hf;unfold Builtin.«object.__getattribute__»;refine tw (tz (tw (tz (tw (L0.here (s:={ s with toks:=s.toks+1 }) (tw (L1.here (s:={ s with toks:=s.toks+1 }) ?_)))))));show tI _ _ (holding [.builtin "object.__class__"] (call (.builtin "getset_descriptor.__get__") [.builtin "object.__class__",.ref x,.ref C]) >>= ret) _ _ _;refine tw (tO (Ap (PySem.W.class_get (s:={ s with toks:=s.toks+1 }) X J hm ?_)));refine tz ?_;show tI _ _ (handedOut (.ref C)) _ _ _;rw[PySem.W.handedOut_of rfl];exact tz (tz h)
end
mutual section
structure XI(K:tF)(C:tG):Prop extends XC K C where
 ca:af K (.ref C) "__class__" = BJ (BJ (.builtin "object.__class__"))
 cg:dc K (.builtin "object.__class__") "__get__" = BJ (BJ (.builtin "getset_descriptor.__get__"))
 ct:ee K (.builtin "object.__class__")=BJ BL
 mo:bC K C (.type "object")=BJ BL
def ze5(ob:h.get? x=BJ (xog C BK t tb c k)):PySem.W.InstAt h x (xog C BK t tb c k) C BK:=#[ob,rfl,rfl,trivial]
def zgE{K:tF}(xi:XI K C):PySem.W.KitX K (.ref x) (.ref C) (λh=>(∃t tb c k,h.get? x=BJ (xog C dx t tb c k))/\∀d,dx=BJ d->∃o,h.get? d=BJ o) where
 ty:=λM h X ⟨⟨t,tb,c,k',ob⟩,_⟩=>(PySem.W.Looks.ld ob).andThen .now
 it:=λM h X Z=>by
  refine ZS (xi.ok) λbm N nm qn bs sn sub ab col dd k0 k1 k2 k3 k5 lk tl=>?_;intro A' Q' E' s' k q;unfold isType loadHead;exact tw (AZ (k _ _ (X _ _ lk)) (tz q))
 ne:=λh tp dd its n sl X htp=>by
  refine ZS (xi.ok) λbm N nm qn bs sn sub ab col dd k0 k1 k2 k3 k5 lk tl=>?_;refine Bool.eq_false_iff.mpr λq=>?_;have e:C=tp:=Value.ref.inj (beq_iff_eq.mp q);subst e;have z:=congrArg (λo:Option Au=>o.map λo=>match o.data with | .cls _=>BL | _=>BM) ((X _ _ lk).symm.trans htp);exact y6 (show BL=BM from Option.some.inj z) ∅
 ca:=λ{prog w A E Q s} X ⟨⟨t,tb,c,k',ob⟩,hd⟩ k=>by
  cases dx with
  | none=>exact zbG X xi.toXC (ze5 ob) xi.ca xi.cg xi.ct xi.mo k
  | some d =>
   let#[o,e]:=hd d rfl;exact zbG (od:=BJ o) X xi.toXC #[ob,rfl,rfl,e] xi.ca xi.cg xi.ct xi.mo k
def XAt(H:Hp)(x C:tG)(dx:Option tG)(fs:List (tK × V)):Prop:=H x=BJ (XT x C dx)/\((dx=BK/\fs=[])\/∃d,dx=BJ d/\H d=BJ (.xd fs))
def Qu:uf X (.builtin "isinstance") (λxs H Q=>∃x C dx fs c u b,xs=[.ref x,c]/\cV c=BJ u/\XAt H x C dx fs/\XI X.K C/\aN X.K (.ref C) u=BJ b/\Q (.bl b) H):=by
 intros xs us Q I r h;let#[x,C,dx,fs,c,u,b,rfl,hc,#[hx,hd],xi,e,q]:=h;let#[v,w',rfl,rx,rc]:=Qv r;cases rx
 have:w'=u:=by
  cases c with
  | ty n=>cases hc;exact rc
  | ref a=>cases hc;exact rc
  | _=>cases hc
 subst this;refine bi (zgE (dx:=dx) xi) I.kIn #[zf8 (I.hok _ _ hx),λd z=>?_] e (λz=>nomatch z) λtk=>#[.bl b,H,I.tok tk,rfl,q];rcases hd with ⟨z',_⟩ | ⟨d',z',hd'⟩
 ·rw[z']at z;cases z
 ·rw[z']at z;cases z;let#[mA,#[o,es,ep,ho,_],_]:=I.hok _ _ hd';exact#[o,ho]
structure Df(P:tL)(w:tP)(K:tF)(mg:tK->Option tH)(base:tT)(CX:CXT)(k:Nat)(nm:tK)(ps:List tK)(ds:List tH)(sp:Sp):Prop where
 ex:∃f fd,zV P w K mg base CX k f fd ps sp/\mg nm=BJ (.ref f)/\aK K (.ref f)=BL/\Binds K fd ps ds
structure Bt(mg:tK->Option tH):Prop where
 len:mg "len" = BK
 range:mg "range" = BK
 isi:mg "isinstance" = BK
 str:mg "str" = BK
 int:mg "int" = BK
 tuple:mg "tuple" = BK
 list:mg "list" = BK
 bool:mg "bool" = BK
 enum:mg "enumerate" = BK
 all:mg "all" = BK
 verr:mg "ValueError" = BK
 max:mg "max" = BK
 rev:mg "reversed" = BK
 zip:mg "zip" = BK
 sum:mg "sum" = BK
 sorted:mg "sorted" = BK
def cl0(D:Df X.prog X.w X.K X.mg X.base CX0 k x ps ds sp)(hr:Room j X.A)(hd:Vals dvs ds)(hg:Gl X x)(ha:PA X (e::es) t)(hdb:‹(x ==("__debug__" : tK))=BM›)(he:‹tD (e::es) X.env=(BM,eval e X.env)::tD es X.env›)(hpl:‹(tS pos (tD es X.env)).any (·.1)=BM›)(hj:‹k<=j›):PE X (.Call (.Name x p) (e::es) [] pos) (uZ sp dvs E0 t):=by let#[f,fd,F,hm,hk,hb]:=D.ex;exact QN F (hr.mono hj) hg hm hk hb hd X6 ha hdb he hpl
def clX(D:Df X.prog X.w X.K X.mg X.base (CXx X.prog X.w) k x ps ds sp)(hr:Room j X.A)(hd:Vals dvs ds)(hg:Gl X x)(ha:PA X.nox (e::es) t)(hdb:‹(x ==("__debug__" : tK))=BM›)(he:‹tD (e::es) X.env=(BM,eval e X.env)::tD es X.env›)(hpl:‹(tS pos (tD es X.env)).any (·.1)=BM›)(hj:‹k<=j›):PEX X (.Call (.Name x p) (e::es) [] pos) (λσ H Q E=>t σ H λvs H1=>sp (vs ++ dvs) H1 Q E):=by let#[f,fd,F,hm,hk,hb]:=D.ex;exact KS F (hr.mono hj) hg hm hk hb hd ha hdb he hpl
def clP(hx:XE X E)(D:Df X.prog X.w X.K X.mg X.base (CXx X.prog X.w) k x ps ds sp)(hr:Room j X.A)(hd:Vals dvs ds)(hg:Gl X x)(ha:PA X (e::es) t)(hdb:‹(x ==("__debug__" : tK))=BM›)(he:‹tD (e::es) X.env=(BM,eval e X.env)::tD es X.env›)(hpl:‹(tS pos (tD es X.env)).any (·.1)=BM›)(hj:‹k<=j›):PE X (.Call (.Name x p) (e::es) [] pos) (uZ sp dvs E t):=by let#[f,fd,F,hm,hk,hb]:=D.ex;exact QN F (hr.mono hj) hg hm hk hb hd (VF hx) ha hdb he hpl
def zb2(i:Nat)(hsu:∀e,PSs (Cx.suite X e) (b0::suite) ts)(hg:Gl X cn)(hm:X.mg cn=BJ (.ref D))(hi:X.N[i]? = BJ n)(hk:X.env.scope.names.lookup n=BJ .local)(xc:kR X.K D=BL)(r:X5 X hs ds)(hdb:‹(cn ==("__debug__" : tK))=BM›):X5 X (.ExceptHandler (BJ (.Name cn np)) (BJ n) (b0::suite) pos::hs) (#[D,i,ts]::ds) :=
 .cons #[#[cn,n,np,pos,b0,suite,rfl,hg,hm,hi,hk,hdb,hsu],xc] r
def TyX(K:tF)(H:Hp)(x:V)(t:tH):Prop:=WK K H x t\/(∃a C dx fs,x=.ref a/\t=.ref C/\XAt H a C dx fs/\XI K C)\/(∃a xs,x=.ref a/\t=.type "list"/\SqL K H a xs)\/∃a xs,x=.ref a/\t=.type "tuple"/\SqT K H a xs
def zcF(K:tF):List V->Hp->VK->Prop:=λxs H Q=>∃x c u t b,xs=[x,c]/\cV c=BJ u/\TyX K H x t/\aN K t u=BJ b/\Q (.bl b) H
def zeM : uf X (.builtin "isinstance") (zcF X.K):=by
 intros xs us Q I r h;let#[x,c,u,t,b,rfl,hc,ty,e,q]:=h;rcases ty with ty | ⟨a,C,dx,fs,rfl,rfl,ha,xi⟩ | ⟨a,ys,rfl,rfl,hq⟩ | ⟨a,ys,rfl,rfl,hq⟩
 ·exact KU BN s σ H _ us Q I r #[x,c,u,t,b,rfl,hc,ty,e,q]
 ·exact Qu BN s σ H _ us Q I r #[a,C,dx,fs,c,u,b,rfl,hc,ha,xi,e,q]
 all_goals
  let#[v,w',rfl,rx,rc]:=Qv r
  have:w'=u:=by
   cases c with
   | ty n=>cases hc;exact rc
   | ref a=>cases hc;exact rc
   | _=>cases hc
  subst this;cases rx
 ·let#[its,_,p,_]:=I.list hq;let#[o,h1,h2,_]:=p.isList;exact bi eZ I.kIn #[o,h1,h2] e (λz=>nomatch z) λtk=>#[.bl b,H,I.tok tk,rfl,q]
 ·let#[its,_,p,_]:=I.tuple hq;let#[o,h1,h2,_]:=p;exact bi gm I.kIn #[o,h1,h2] e (λz=>nomatch z) λtk=>#[.bl b,H,I.tok tk,rfl,q]
def zaT(h1:Gl X "isinstance")(h2:X.mg "isinstance" = BK)(he:PE X e te)(hg:Gl X c)(hm:X.mg c=BJ (.ref C))(hd:‹(c ==("__debug__" : tK))=BM›)(hs1:‹tD [e,.Name c q] X.env=(BM,eval e X.env)::tD [.Name c q] X.env›)(hs3:‹tD [.Name c q] X.env=(BM,eval (.Name c q) X.env)::tD [] X.env›)(hs2:‹(tS pos (tD [.Name c q] X.env)).any (·.1)=BM›):PE X (.Call (.Name "isinstance" p) [e,.Name c q] [] pos) (tCB (zcF X.K) (zO te (zO (tC (.ref C)) xI))) :=
 xg zeM h1 h2 boot_isinstance (za he (za (yy hg hm rfl hd) ze hs3) hs1) (he:=hs1) (hpl:=hs2)
def yR(h1:Gl X "isinstance")(h2:X.mg "isinstance" = BK)(he:PE X e te)(hg:Gl X c)(hm:X.mg c=BK)(hv:tY c=BJ (.type n))(hn:‹c≠"__name__"›)(hd:‹(c ==("__debug__" : tK))=BM›)(hs1:‹tD [e,.Name c q] X.env=(BM,eval e X.env)::tD [.Name c q] X.env›)(hs3:‹tD [.Name c q] X.env=(BM,eval (.Name c q) X.env)::tD [] X.env›)(hs2:‹(tS pos (tD [.Name c q] X.env)).any (·.1)=BM›):PE X (.Call (.Name "isinstance" p) [e,.Name c q] [] pos) (tCB (zcF X.K) (zO te (zO (tC (.ty n)) xI))) :=
 xg zeM h1 h2 boot_isinstance (za he (za (zc1 hg hm hv rfl hn hd) ze hs3) hs1) (he:=hs1) (hpl:=hs2)
def za0 : cV (.ref a)=BJ (.ref a):=rfl
def zes : cV (.ty n)=BJ (.type n):=rfl
def zge{P w K mg base N q sc f cd A o s H}:(cxH P w K mg base N q sc f cd A o s H).K=K:=rfl
def VG:V->List V->Hp->VK->Prop:=λx xs H Q=>∃z y,x=.str z/\xs=[.str y]/\Q (.int (Txt.count z y)) H
def UY : MtR X "str.count" VG:=zan
def WB(l:())(c:Nat):Txt.count (tx l) (tx [c])=(l.count c:Int):=by
 have h:∀l:(),cnt c l=(l.count c:Int):=λl=>by
  induction l with
  | nil=>rfl
  | cons n r ih =>
   rw[cnt_cons,ih,eg];by_cases e:n=c
   ·subst e;simp;lia
   ·have:(n == c)=BM:=by simpa using e
    simp [e,this]
 exact (PyProof.Rows.count_is (tx l) c).trans (h l)
def lt1 :([a]:()) < [b] ↔ a<b:=by rw[List.cons_lt_cons_iff];exact#[λh=>h.elim id λ⟨_,q⟩=>y6 q (List.not_lt_nil _),.inl]
def Jh{k v:Nat}(h:l[k]? = BJ v):(v::(l.take k ++ l.drop (k+1))).Perm l:=by
 let#[hk,e]:=BP.mp h
 have e2:l.take k ++ (v::l.drop (k+1))=l:=by
  rw[<- e,<- aT hk,bV]
 exact (List.perm_middle.symm.trans (by rw[e2]))
def Uf(K:tF):List V->Hp->VK->Prop:=λxs H Q=>match xs with
 | [.str z]=>z.length<=tE/\Q (.int z.length) H
 | [.ref a]=>∃n:Nat,((∃xs,SqL K H a xs/\n=xs.length)\/∃xs,SqT K H a xs/\n=xs.length)/\Q (.int n) H
 | xs=>∃x n,xs=[x]/\zfz K x H n/\Q (.int n) H
def rLen_is{K:tF}:Uf K xs H Q=∃x n,xs=[x]/\zfz K x H n/\Q (.int n) H:=by
 unfold Uf;split
 ·exact propext #[λh=>#[_,_,rfl,#[h.1,rfl],h.2],λ⟨_,_,e,h,q⟩=>by cases e;let#[h,rfl]:=h;exact#[h,q]]
 ·exact propext #[λ⟨n,h,q⟩=>#[_,n,rfl,h,q],λ⟨_,n,e,h,q⟩=>by cases e;exact#[n,h,q]]
 ·rfl
def zgG : uf X (.builtin "len") (Uf X.K):=λBN s σ H xs us Q I r h=>zaQ BN s σ H xs us Q I r (rLen_is.mp h)
def ForR(lo:Int)(n:Nat)(g:TG)(tb:TS)(D:kT)(σ:St)(H:Hp):Prop:=∃W:Nat->Nat->St->Hp->Prop,(∃m,W 0 m σ H)/\∀i m σ H,W i m σ H ->
 ((Itr lo n).stop i H/\D.nx σ H)\/((Itr lo n).go i H/\∃N:St->Hp->Prop,(∀σ' H',N σ' H'->∃m',m'<m/\W (i+1) m' σ' H')/\∀x H',(Itr lo n).yld i H x H'->g x σ H' λσ2 H2=>tb { D with nx:=N,ct:=N,bk:=D.nx } σ2 H2)
def zfF : K6 (zcG ta) g tb D σ H=ta σ H λvs H1=>∃j:Int,vs=[.int j]/\-(2 ^ 62)<=j/\j<2 ^ 62/\ForR 0 j.toNat g tb D σ H1:=rfl
def zfg : K6 (zen ta) g tb D σ H=ta σ H λvs H1=>∃i j:Int,vs=[.int i,.int j]/\(-(2 ^ 62)<=i/\i<2 ^ 62/\-(2 ^ 62)<=j/\j<2 ^ 62)/\ForR i (j - i).toNat g tb D σ H1:=rfl
def ForR.by{lo:Int}(Pv:Nat->St->Hp->Prop)(h0:Pv 0 σ H)(hs:∀i σ H,i<n->Pv i σ H->g (.int (lo+i)) σ H λσ2 H2=>tb { D with nx:=Pv (i+1),ct:=Pv (i+1),bk:=D.nx } σ2 H2)(hd:∀σ H,Pv n σ H->D.nx σ H):ForR lo n g tb D σ H:=Qj Pv h0 hs hd
def ForL(K:tF)(a:tG)(g:TG)(tb:TS)(D:kT)(σ:St)(H:Hp):Prop:=∃W:Nat->Nat->St->Hp->Prop,(∃m,W 0 m σ H)/\∀i m σ H,W i m σ H ->
 ((Itl K a).stop i H/\D.nx σ H)\/((Itl K a).go i H/\∃N:St->Hp->Prop,(∀σ' H',N σ' H'->∃m',m'<m/\W (i+1) m' σ' H')/\∀x H',(Itl K a).yld i H x H'->g x σ H' λσ2 H2=>tb { D with nx:=N,ct:=N,bk:=D.nx } σ2 H2)
def zhD{K:tF}:K6 (zdb K tl) g tb D σ H=tl σ H λx H1=>∃a,x=.ref a/\(∃xs,SqL K H1 a xs)/\ForL K a g tb D σ H1:=rfl
def ForS(x:tK)(g:TG)(tb:TS)(D:kT)(σ:St)(H:Hp):Prop:=∃W:Nat->Nat->St->Hp->Prop,(∃m,W 0 m σ H)/\∀i m σ H,W i m σ H ->
 ((Its x).stop i H/\D.nx σ H)\/((Its x).go i H/\∃N:St->Hp->Prop,(∀σ' H',N σ' H'->∃m',m'<m/\W (i+1) m' σ' H')/\∀v H',(Its x).yld i H v H'->g v σ H' λσ2 H2=>tb { D with nx:=N,ct:=N,bk:=D.nx } σ2 H2)
def zhn : K6 (zgY tl) g tb D σ H=tl σ H λv H1=>∃x,v=.str x/\ForS x g tb D σ H1:=rfl
def ForS.by(Pv:Nat->St->Hp->Prop)(h0:Pv 0 σ H)(hs:∀i c σ H,l[i]? = BJ c->Pv i σ H->g ⇑[c] σ H λσ2 H2=>tb { D with nx:=Pv (i+1),ct:=Pv (i+1),bk:=D.nx } σ2 H2)(hd:∀σ H,Pv l.length σ H->D.nx σ H):ForS (tx l) g tb D σ H:=zdI Pv h0 hs hd
def zh2(x:tK)(g:TG)(tb:TS)(D:kT)(σ:St)(H:Hp):Prop:=∃W:Nat->Nat->St->Hp->Prop,(∃m,W 0 m σ H)/\∀i m σ H,W i m σ H ->
 ((Ite x).stop i H/\D.nx σ H)\/((Ite x).go i H/\∃N:St->Hp->Prop,(∀σ' H',N σ' H'->∃m',m'<m/\W (i+1) m' σ' H')/\∀v H',(Ite x).yld i H v H'->g v σ H' λσ2 H2=>tb { D with nx:=N,ct:=N,bk:=D.nx } σ2 H2)
def zhj : K6 (zg2 ta) g tb D σ H=ta σ H λvs H1=>∃x,vs=[.str x]/\zh2 x g tb D σ H1:=rfl
def YC(l:List α)(h:0<=k):cut l BK (BJ k)=l.take k.toNat:=by
 let#[n,rfl]:=br h;unfold cut;rw[HT.sIx_none,HT.sIx_nat,dQ,Nat.sub_zero];by_cases q:n<=l.length
 ·rw[dJ q];rfl
 ·rw[d7 ⋯,aP,bg (by simp;lia)]
def qL(l:List α)(h:0<=k):cut l (BJ k) BK=l.drop k.toNat:=by
 let#[n,rfl]:=br h;unfold cut;rw[HT.sIx_none,HT.sIx_nat];by_cases q:n<=l.length
 ·rw[dJ q];rw[bg (by rw[bq] <;> lia)];rfl
 ·rw[d7 ⋯,fm,bh (by simp;lia)];simp
def qv(h0:0<=i)(h1:i<xs.length):∃v,atI xs i=BJ v/\xs[i.toNat]? = BJ v:=by let#[n,rfl]:=br h0;have hn:n<xs.length:=⋯;exact#[xs[n],vW (ah hn),ah hn]
def alpha:():=[97,98,99,100,101,102,103,104,105,106,107,108,109,110,111,112,113,114,115,116,117,118,119,120,121,122]
def Ja:(("abcdefghijklmnopqrstuvwxyz" : tK))=tx alpha:=by symm
def zU:(tE:Nat)=16777216:=tZ
def cxK{CX P w K mg base N q sc f cd A o s H E}:(qH CX P w K mg base N q sc f cd A o s H E).K=K:=rfl
def cxP{CX P w K mg base N q sc f cd A o s H E}:(qH CX P w K mg base N q sc f cd A o s H E).prog=P:=rfl
def cxW{CX P w K mg base N q sc f cd A o s H E}:(qH CX P w K mg base N q sc f cd A o s H E).w=w:=rfl
def zeL : Kf (.int a) (.int b)=BL:=rfl
def zfi : Kf (.str a) (.str b)=BL:=rfl
def zeb : Kf (.bl a) (.bl b)=BL:=rfl
def zeq : Kf .non (.str b)=BL:=rfl
def zet : Kf (.str b) .non=BL:=rfl
def zf(h:H p=BK):Same H (upd H p o):=λb u e=>by
 rw[zo (zE e h)];exact e
def yb{α:Type}{l:List α}{c:α}(h:l[i]? = BJ c):l.take (i+1)=l.take i ++ [c]:=by rw[List.take_add_one,h];rfl
structure FunD(K:tF)(x qual:tK)(st:tM)(dV:tH)(f:tG)(fd:An):Prop where
 ex:∃(oc:tH) (od:Option tG) (kV doc pm:tH) (an:Option tG) (cdv ct:tH) (osl:Array (Option tH)),
  fd=bv x qual (yW st) (yt st) (zi st) dV kV doc pm an cdv ct/\K.lookup f=BJ #[oc,od,.func fd,osl]/\cp K cdv qual=BL
def FunD.okX{K:tF}{st:tM}(F:FunD K x qual st dV f fd)(S:zl N ps (zi st))(len:∀vs H Q E,sp vs H Q E->vs.length=ps.length)(hbody:∀(cdv:tH) (A:Af) (outer:List BB) (s:tJ) (H:Hp) (vs:List V) (Q:VK) (E:XK),Room k (A.deeper (AD qual (zi st) s⁻¹ f cdv))->XE (qH (CXx P w) P w K mg base N qual (zi st) f cdv A outer s H E) E->sp vs H Q E ->
   ∃t,PSs (qH (CXx P w) P w K mg base N qual (zi st) f cdv A outer s H E) (yt st) t/\t { nx:=λZ H'=>Q .non H',rt:=Q } (start N vs) H):zV P w K mg base (CXx P w) (k+1) f fd ps sp:=by let#[oc,od,kV,doc,pm,an,cdv,ct,osl,rfl,lk,hcd]:=F.ex;exact zaq lk hcd S len λA outer s H vs Q E hr hsp=>hbody cdv A outer s H vs Q E hr zfx hsp
def uN(C:tG)(f:tK):Sp:=λvs H Q Z=>∃x v,vs=[.ref x,v]/\H x=BJ (XN x C BK)/\∀dx,H dx=BK->Q .non (upd (upd H dx (.xd [(f,v)])) x (XN x C (BJ dx)))
def zgw(H:Hp)(d:tG)(f:tK)(v:V)(H':Hp):Prop:=H d=BK/\Same H H'/\H' d=BJ (.xd [(f,v)])
def Js{E:XK}(h:∀d H',zgw H d f v H'->E (.ref C) (BJ d) H'):∀x,H x=BK->uN C f [.ref x,v] (upd H x (XN x C BK)) (λu H2=>u=.non/\∃dx,H2 x=BJ (XN x C dx)/\E (.ref C) dx (del H2 x)) E0:=by
 intro x hx;refine#[x,v,rfl,zd,λdx hd=>#[rfl,BJ dx,zd,h dx _ #[?_,?_,?_]]]
 ·by_cases e:dx=x
  ·rw[e];exact hx
  ·rw[zo e]at hd;exact hd
 ·have hne:dx≠x:=λe=>by rw[e,zd]at hd;cases hd
  rw[zo hne]at hd;intro b o q;have b1:b≠x:=zE q hx;have b2:b≠dx:=zE q hd;rw[JK b1,zo b1,zo b2,zo b1];exact q
 ·have hne:dx≠x:=λe=>by rw[e,zd]at hd;cases hd
  rw[JK hne,zo hne,zd]
def zht:R2:=λx y H Q=>match y with | .non=>Q (.bl (decide (x=.non))) H | _=>False
theorem op_isN':OpR X (tN .Is) zht:=λBN s σ H x y v u Q I rx ry h=>by
 cases y with
 | non=>exact zeB BN s σ H x .non v u Q I rx ry #[rfl,h]
 | _=>exact h.elim
def zek:R2:=λx y H Q=>match y with | .non=>Q (.bl (!decide (x=.non))) H | _=>False
theorem op_notN':OpR X (tN .IsNot) zek:=λBN s σ H x y v u Q I rx ry h=>by
 cases y with
 | non=>exact zdK BN s σ H x .non v u Q I rx ry #[rfl,h]
 | _=>exact h.elim
def zac:List V->Hp->VK->Prop:=λxs H Q=>match xs with | [.int i,.int j]=>Q (.int (if j > i then j else i)) H | _=>False
def UC(hc:X.calm=BL):uf X (.builtin "max") zac:=λBN s σ H xs us Q I r h=>by
 unfold zac at h;split at h
 ·exact QW hc BN s σ H _ us Q I r #[_,_,rfl,h]
 ·exact h.elim
def rGe:R2:=λx y H Q=>onInt x λi=>onInt y λj=>Q (.bl (decide (j<=i))) H
def op_ge':OpR X (tN .GtE) rGe:=zgr
def qJ:tY "max" = BJ (.builtin "max"):=by symm
def zdt(ls l:())(m:Int)(k:Nat):Prop:=∃c,l[k]? = BJ c/\(m<=k\/c ∉ ls)
def FB(ls l:())(m:Int)(k:Nat):Prop:=zdt ls l m k/\∀j<k,¬ zdt ls l m j
def NB(ls l:())(m:Int):Prop:=∀j,¬ zdt ls l m j
def FB.nb(h:FB ls l m k)(n:NB ls l m):False:=n k h.1
inductive D where
 | non | bl (b:Bool) | int (i:Int) | str (x:tK) | lst (l:List D) | tup (l:List D)
end
mutual
def Is(K:tF)(H:Hp):D->V->Prop
 | .non,v=>v=.non
 | .bl b,v=>v=.bl b
 | .int i,v=>v=.int i
 | .str x,v=>v=.str x
 | .lst l,v=>∃a xs,v=.ref a/\SqL K H a xs/\Iss K H l xs
 | .tup l,v=>∃a xs,v=.ref a/\SqT K H a xs/\Iss K H l xs
def Iss(K:tF)(H:Hp):List D->List V->Prop
 | [],vs=>vs=[]
 | d::l,vs=>∃v r,vs=v::r/\Is K H d v/\Iss K H l r
end
mutual
noncomputable def eqD:D->D->Bool
 | .non,e=>match e with | .non=>BL | _=>BM
 | .bl a,e=>match e with | .bl b=>a == b | .int b=>(if a then 1 else 0) == b | _=>BM
 | .int a,e=>match e with | .bl b=>a ==(if b then 1 else 0) | .int b=>a == b | _=>BM
 | .str a,e=>match e with | .str b=>a == b | _=>BM
 | .lst l,e=>match e with | .lst m=>uI l m | _=>BM
 | .tup l,e=>match e with | .tup m=>uI l m | _=>BM
noncomputable def uI:List D->List D->Bool
 | [],m=>match m with | []=>BL | _::_=>BM
 | d::l,m=>match m with | e::m=>eqD d e && uI l m | []=>BM
end
mutual
noncomputable def dpD:D->Nat
 | .lst l=>ui l+1
 | .tup l=>ui l+1
 | _=>0
noncomputable def ui:List D->Nat
 | []=>0
 | d::l=>max (dpD d) (ui l)
end
theorem zcy:∀{l:List D} {j:Nat} {d:D},l[j]? = BJ d->dpD d<=ui l
 | d::l,0,_,h=>by
  cases h;erw[ui];lia
 | d::l,j+1,e,h=>by
  have:=zcy (l:=l) (j:=j) (d:=e) h;erw[ui];lia
mutual
theorem Zv:∀d:D,eqD d d=BL
 | .non=>rfl
 | .bl b=>by simp [eqD]
 | .int i=>by simp [eqD]
 | .str x=>by simp [eqD]
 | .lst l=>by erw[eqD];exact xm l
 | .tup l=>by erw[eqD];exact xm l
theorem xm:∀l:List D,uI l l=BL
 | []=>rfl
 | d::l=>by erw[uI,Zv d,xm l,Bool.and_self]
end
theorem Iss.len{K:tF}:∀{l:List D} {vs:List V},Iss K H l vs->vs.length=l.length
 | [],vs,h=>by erw[Iss]at h;rw[h];rfl
 | d::l,vs,h=>by
  erw[Iss]at h;let#[v,r,rfl,_,h2]:=h;erw[aF,Iss.len h2]
theorem Iss.at{K:tF}:∀{l:List D} {vs:List V} {j:Nat} {d:D},Iss K H l vs->l[j]? = BJ d->∃v,vs[j]? = BJ v/\Is K H d v
 | d::l,vs,0,_,h,q=>by
  cases q;erw[Iss]at h;let#[v,r,rfl,h1,_]:=h;exact#[v,rfl,h1]
 | d::l,vs,j+1,e,h,q=>by
  erw[Iss]at h;let#[v,r,rfl,_,h2]:=h;exact Iss.at (j:=j) h2 q
theorem Iss.append{K:tF}:∀{l m:List D} {vs us:List V},Iss K H l vs->Iss K H m us->Iss K H (l ++ m) (vs ++ us)
 | [],m,vs,us,h,g=>by erw[Iss]at h;rw[h];exact g
 | d::l,m,vs,us,h,g=>by
  erw[Iss]at h;let#[v,r,rfl,h1,h2]:=h;erw[bx,Iss];exact#[v,r ++ us,rfl,h1,Iss.append h2 g]
theorem Iss.ints{K:tF}:∀(l:List Int),Iss K H (l.map D.int) (l.map V.int)
 | []=>by erw[aJ,Iss]
 | i::l=>by
  erw[ao,Iss,Is];exact#[_,_,rfl,rfl,Iss.ints l]
def zy{K:tF}(e:Same H H')(h:SqT K H a xs):SqT K H' a xs:=by
 rcases h with (h | ⟨o,h⟩) | h
 ·exact .inl (.inl (e _ _ h))
 ·exact .inl (.inr #[o,e _ _ h])
 ·exact .inr h
mutual
theorem Is.same{K:tF}{H H':Hp}(e:Same H H'):∀(d:D) (v:V),Is K H d v->Is K H' d v
 | .non,v,h=>by erw[Is]at h ⊢;exact h
 | .bl b,v,h=>by erw[Is]at h ⊢;exact h
 | .int b,v,h=>by erw[Is]at h ⊢;exact h
 | .str b,v,h=>by erw[Is]at h ⊢;exact h
 | .lst l,v,h=>by
  erw[Is]at h ⊢;let#[a,xs,e1,e2,e3]:=h;exact#[a,xs,e1,e.seq e2,Iss.same e l xs e3]
 | .tup l,v,h=>by
  erw[Is]at h ⊢;let#[a,xs,e1,e2,e3]:=h;exact#[a,xs,e1,zy e e2,Iss.same e l xs e3]
theorem Iss.same{K:tF}{H H':Hp}(e:Same H H'):∀(l:List D) (vs:List V),Iss K H l vs->Iss K H' l vs
 | [],vs,h=>by erw[Iss]at h ⊢;exact h
 | d::l,vs,h=>by
  erw[Iss]at h ⊢;let#[v,r,e1,e2,e3]:=h;exact#[v,r,e1,Is.same e d v e2,Iss.same e l r e3]
end
theorem xZ:∀(l m:List D),uI l m=((aM (min l.length m.length)).all (λj=>eqD (l.getD j .non) (m.getD j .non)) && l.length == m.length)
 | [],[]=>rfl
 | [],e::m=>by simp [uI]
 | d::l,[]=>by simp [uI]
 | d::l,e::m=>by
  erw[uI,xZ l m,aF];have h1:min (l.length+1) (m.length+1)=min l.length m.length+1:=⋯;rw[h1,cU,gc,List.all_map]
  have h2:(l.length+1 == m.length+1)=(l.length == m.length):=by
   rw[dF,beq_iff_eq,beq_iff_eq];lia
  rw[h2];erw[List.getD_cons_zero,Bool.and_assoc];rfl
section
variable{X:Cx}{BN:List (tG × Au)}{σ:St}{H:Hp}{s:tJ}
def Xq(I:Inv X BN σ H s)(h:SqL X.K H a xs)(g:SqT X.K H a ys):False:=by let#[its,r,#[o,n,e,c,_,d],_]:=I.list h;let#[its',r',#[o',e',c',n',d'],_]:=I.tuple g;rw[e]at e';cases e';rw[c]at c';exact y6 (Value.type.inj c') ∅
mutual
theorem JE(I:Inv X BN σ H s):∀(d e:D) (v:V),Is X.K H d v->Is X.K H e v->d=e
 | .lst l,.lst m,v,h,g=>by
  erw[Is]at h g;let#[a,xs,rfl,h1,h2]:=h;let#[b,ys,e,g1,g2]:=g;cases e;have:=I.list_inj h1 g1;subst this;rw[XX I l m xs h2 g2]
 | .tup l,.tup m,v,h,g=>by
  erw[Is]at h g;let#[a,xs,rfl,h1,h2]:=h;let#[b,ys,e,g1,g2]:=g;cases e;have:=I.tuple_inj h1 g1;subst this;rw[XX I l m xs h2 g2]
 | .lst l,.tup m,v,h,g=>by
  erw[Is]at h g;let#[a,xs,rfl,h1,h2]:=h;let#[b,ys,e,g1,g2]:=g;cases e;exact (Xq I h1 g1).elim
 | .tup l,.lst m,v,h,g=>by
  erw[Is]at h g;let#[a,xs,rfl,h1,h2]:=h;let#[b,ys,e,g1,g2]:=g;cases e;exact (Xq I g1 h1).elim
 | .lst l,.non,v,h,g=>by erw[Is]at h g;let#[a,xs,rfl,_]:=h;cases g
 | .lst l,.bl _,v,h,g=>by erw[Is]at h g;let#[a,xs,rfl,_]:=h;cases g
 | .lst l,.int _,v,h,g=>by erw[Is]at h g;let#[a,xs,rfl,_]:=h;cases g
 | .lst l,.str _,v,h,g=>by erw[Is]at h g;let#[a,xs,rfl,_]:=h;cases g
 | .tup l,.non,v,h,g=>by erw[Is]at h g;let#[a,xs,rfl,_]:=h;cases g
 | .tup l,.bl _,v,h,g=>by erw[Is]at h g;let#[a,xs,rfl,_]:=h;cases g
 | .tup l,.int _,v,h,g=>by erw[Is]at h g;let#[a,xs,rfl,_]:=h;cases g
 | .tup l,.str _,v,h,g=>by erw[Is]at h g;let#[a,xs,rfl,_]:=h;cases g
 | .non,e,v,h,g=>by
  erw[Is]at h;subst h;cases e <;> erw[Is]at g
  all_goals first | rfl | (let#[a,xs,q,_]:=g;cases q) | cases g
 | .bl _,e,v,h,g=>by
  erw[Is]at h;subst h;cases e <;> erw[Is]at g
  all_goals first | (cases g;rfl) | (let#[a,xs,q,_]:=g;cases q) | cases g
 | .int _,e,v,h,g=>by
  erw[Is]at h;subst h;cases e <;> erw[Is]at g
  all_goals first | (cases g;rfl) | (let#[a,xs,q,_]:=g;cases q) | cases g
 | .str _,e,v,h,g=>by
  erw[Is]at h;subst h;cases e <;> erw[Is]at g
  all_goals first | (cases g;rfl) | (let#[a,xs,q,_]:=g;cases q) | cases g
theorem XX(I:Inv X BN σ H s):∀(l m:List D) (vs:List V),Iss X.K H l vs->Iss X.K H m vs->l=m
 | [],[],_,_,_=>rfl
 | [],e::m,vs,h,g=>by
  erw[Iss]at h g;subst h;let#[_,_,q,_]:=g;cases q
 | d::l,[],vs,h,g=>by
  erw[Iss]at h g;subst g;let#[_,_,q,_]:=h;cases q
 | d::l,e::m,vs,h,g=>by
  erw[Iss]at h g;let#[v,r,rfl,h1,h2]:=h;let#[v',r',q,g1,g2]:=g;cases q;rw[JE I d e v h1 g1,XX I l m r h2 g2]
end
theorem we:∀{xs:List V} {us:List tH} {j:Nat} {x:V},Vals xs us->xs[j]? = BJ x->∃u,us[j]? = BJ u/\RelV x u
 | _,_,0,_,.cons r t,h=>by cases h;exact#[_,rfl,r]
 | _,_,j+1,_,.cons r t,h=>we (j:=j) t h
theorem xK(hl:Iss X.K H l xs)(hm:Iss X.K H m ys)(r:Vals xs its)(r':Vals ys its')(hn:ui l<n)(ih:∀(d e:D) (x y:V) (u v:tH),dpD d<n->Is X.K H d x->Is X.K H e y->RelV x u->RelV y v->SeqAt.EqAt A s u v (eqD d e)) :
  ∀j (h1:j<its.toArray.size) (h2:j<its'.toArray.size),SeqAt.EqAt A s its.toArray[j] its'.toArray[j] (eqD (l.getD j .non) (m.getD j .non)):=by
 intro j h1 h2;rw[aj]at h1 h2;have e1:=hl.len;have e2:=hm.len;have e3:=r.length;have e4:=r'.length;have g1:l[j]? = BJ l[j]:=ah ⋯;have g2:m[j]? = BJ m[j]:=ah ⋯;generalize l[j]=d at g1;generalize m[j]=e at g2;let#[x,hx,ix]:=hl.at g1;let#[y,hy,iy]:=hm.at g2;let#[u,hu,ru]:=we r hx;let#[v,hv,rv]:=we r' hy
 have q1:its.toArray[j]=u:=by
  have:=(BP.mp hu).2;simpa using this
 have q2:its'.toArray[j]=v:=by
  have:=(BP.mp hv).2;simpa using this
 rw[q1,q2,ac,ac,g1,g2];exact ih d e x y u v (ba (zcy g1) hn) ix iy ru rv
theorem jV(I:Inv X BN σ H s):∀(n:Nat) (A:Af) (d e:D) (x y:V) (u v:tH),A.units+n<cLine->dpD d<n->Is X.K H d x->Is X.K H e y->RelV x u->RelV y v->SeqAt.EqAt A s u v (eqD d e):=by
 intro n
 induction n with
 | zero=>intro A d e x y u v _ h;exact y6 h (bI _)
 | succ n ih =>
  intro A d e x y u v hu hd hx hy rx ry;have hu1:A.units<cLine:=⋯;have huA:A.in1.units+n<cLine:=by show A.units+1+n<cLine;lia
  cases d with
  | lst l =>
   erw[Is]at hx;let#[a,xs,rfl,h1,h2]:=hx;cases rx;let#[its,r,p,_]:=I.list h1
   cases e with
   | non=>erw[Is]at hy;subst hy;cases ry;exact SeqAt.EqAt.list_none p.isList hu1
   | bl b=>erw[Is]at hy;subst hy;cases ry;exact SeqAt.EqAt.list_bool b p.isList hu1
   | int b=>erw[Is]at hy;subst hy;let#[t,rfl]:=ry;exact SeqAt.EqAt.list_int b t p.isList hu1
   | str b=>erw[Is]at hy;subst hy;let#[t,rfl]:=ry;exact SeqAt.EqAt.list_str b t p.isList hu1
   | tup m =>
    erw[Is]at hy;let#[b,ys,rfl,g1,g2]:=hy;cases ry;let#[its',r',p',_]:=I.tuple g1;exact SeqAt.EqAt.list_tuple p.isList p' hu1
   | lst m =>
    have hy':=hy;erw[Is]at hy;let#[b,ys,rfl,g1,g2]:=hy;cases ry;let#[its',r',p',_]:=I.list g1;erw[dpD]at hd;by_cases hab:a=b
    ·subst hab;have:=JE I (.lst l) (.lst m) (.ref a) (by erw[Is];exact#[a,xs,rfl,h1,h2]) hy';rw[this,Zv];exact SeqAt.EqAt.same _
    ·refine .of_refs hab ?_;erw[eqD];have L1:=h2.len;have L2:=g2.len;have L3:=r.length;have L4:=r'.length;by_cases hl:l.length=m.length
     ·have:=SeqAt.RcAt.lists (A:=A) p.isList p'.isList (by erw[aj];lia) hu1 (xK h2 g2 r r' (n:=n) ⋯ λd e x y u v q1 q2 q3 q4 q5=>ih A.in1 d e x y u v huA q1 q2 q3 q4 q5);rw[xZ,hl,eh,beq_self_eq_true,gd];have e1:its.toArray.size=m.length:=by erw[aj];lia
      rw[e1]at this;exact this
     ·rw[xZ,beq_eq_false_iff_ne.mpr hl,eP];exact SeqAt.RcAt.lists_lengths p.isList p'.isList (by rw[bne_iff_ne];erw[aj];lia) hu1
  | tup l =>
   erw[Is]at hx;let#[a,xs,rfl,h1,h2]:=hx;cases rx;let#[its,r,p,_]:=I.tuple h1
   cases e with
   | non=>erw[Is]at hy;subst hy;cases ry;exact SeqAt.EqAt.tuple_none p hu1
   | bl b=>erw[Is]at hy;subst hy;cases ry;exact SeqAt.EqAt.tuple_bool b p hu1
   | int b=>erw[Is]at hy;subst hy;let#[t,rfl]:=ry;exact SeqAt.EqAt.tuple_int b t p hu1
   | str b=>erw[Is]at hy;subst hy;let#[t,rfl]:=ry;exact SeqAt.EqAt.tuple_str b t p hu1
   | lst m =>
    erw[Is]at hy;let#[b,ys,rfl,g1,g2]:=hy;cases ry;let#[its',r',p',_]:=I.list g1;exact SeqAt.EqAt.tuple_list p p'.isList hu1
   | tup m =>
    have hy':=hy;erw[Is]at hy;let#[b,ys,rfl,g1,g2]:=hy;cases ry;let#[its',r',p',_]:=I.tuple g1;erw[dpD]at hd;by_cases hab:a=b
    ·subst hab;have:=JE I (.tup l) (.tup m) (.ref a) (by erw[Is];exact#[a,xs,rfl,h1,h2]) hy';rw[this,Zv];exact SeqAt.EqAt.same _
    ·refine .of_refs hab ?_;erw[eqD];have L1:=h2.len;have L2:=g2.len;have L3:=r.length;have L4:=r'.length;have:=SeqAt.RcAt.tuples (A:=A) p p' hu1 (xK h2 g2 r r' (n:=n) ⋯ λd e x y u v q1 q2 q3 q4 q5=>ih A.in1 d e x y u v huA q1 q2 q3 q4 q5);rw[xZ];erw[aj]at this;rw[<- L1,<- L2,L3,L4];exact this
  | non =>
   erw[Is]at hx;subst hx
   cases e with
   | lst m =>
    erw[Is]at hy;let#[b,ys,rfl,g1,g2]:=hy;cases rx;cases ry;let#[its',r',p',_]:=I.list g1;exact SeqAt.EqAt.none_list p'.isList hu1
   | tup m =>
    erw[Is]at hy;let#[b,ys,rfl,g1,g2]:=hy;cases rx;cases ry;let#[its',r',p',_]:=I.tuple g1;exact SeqAt.EqAt.none_tuple p' hu1
   | _=>erw[Is]at hy;subst hy;exact W3 rx ry rfl rfl
  | bl c =>
   erw[Is]at hx;subst hx
   cases e with
   | lst m =>
    erw[Is]at hy;let#[b,ys,rfl,g1,g2]:=hy;cases rx;cases ry;let#[its',r',p',_]:=I.list g1;exact SeqAt.EqAt.bool_list _ p'.isList hu1
   | tup m =>
    erw[Is]at hy;let#[b,ys,rfl,g1,g2]:=hy;cases rx;cases ry;let#[its',r',p',_]:=I.tuple g1;exact SeqAt.EqAt.bool_tuple _ p' hu1
   | _=>erw[Is]at hy;subst hy;exact W3 rx ry rfl rfl
  | int c =>
   erw[Is]at hx;subst hx
   cases e with
   | lst m =>
    erw[Is]at hy;let#[b,ys,rfl,g1,g2]:=hy;let#[t,rfl]:=rx;cases ry;let#[its',r',p',_]:=I.list g1;exact SeqAt.EqAt.int_list _ _ p'.isList hu1
   | tup m =>
    erw[Is]at hy;let#[b,ys,rfl,g1,g2]:=hy;let#[t,rfl]:=rx;cases ry;let#[its',r',p',_]:=I.tuple g1;exact SeqAt.EqAt.int_tuple _ _ p' hu1
   | _=>erw[Is]at hy;subst hy;exact W3 rx ry rfl rfl
  | str c =>
   erw[Is]at hx;subst hx
   cases e with
   | lst m =>
    erw[Is]at hy;let#[b,ys,rfl,g1,g2]:=hy;let#[t,rfl]:=rx;cases ry;let#[its',r',p',_]:=I.list g1;exact SeqAt.EqAt.str_list _ _ p'.isList hu1
   | tup m =>
    erw[Is]at hy;let#[b,ys,rfl,g1,g2]:=hy;let#[t,rfl]:=rx;cases ry;let#[its',r',p',_]:=I.tuple g1;exact SeqAt.EqAt.str_tuple _ _ p' hu1
   | _=>erw[Is]at hy;subst hy;exact W3 rx ry rfl rfl
def zhp(K:tF):R2:=λx y H Q=>∃l m,((Is K H (.lst l) x/\Is K H (.lst m) y)\/(Is K H (.tup l) x/\Is K H (.tup m) y))/\ui l<50/\Q (.bl (uI l m)) H
def zhg(K:tF):R2:=λx y H Q=>∃l m,((Is K H (.lst l) x/\Is K H (.lst m) y)\/(Is K H (.tup l) x/\Is K H (.tup m) y))/\ui l<50/\Q (.bl (!uI l m)) H
theorem YY(hu:X.A.units+100<cLine):OpR X (tN .Eq) (zhp X.K):=by
 intros x y v u Q I rx ry h;let#[l,m,hh,hd,q]:=h;have hu1:X.A.units<cLine:=⋯;have huA:X.A.in1.units+50<cLine:=by show X.A.units+1+50<cLine;lia
 rcases hh with ⟨hx,hy⟩ | ⟨hx,hy⟩
 ·erw[Is]at hx hy;let#[a,xs,rfl,h1,h2]:=hx;let#[b,ys,rfl,g1,g2]:=hy;cases rx;cases ry;let#[its,r,p,_]:=I.list h1;let#[its',r',p',_]:=I.list g1;have L1:=h2.len;have L2:=g2.len;have L3:=r.length;have L4:=r'.length;by_cases hl:l.length=m.length
  ·have:=SeqAt.RcAt.lists (A:=X.A) p.isList p'.isList (by erw[aj];lia) hu1 (xK h2 g2 r r' (n:=50) hd λd e x y u v q1 q2 q3 q4 q5=>jV I 50 X.A.in1 d e x y u v huA q1 q2 q3 q4 q5);have e1:its.toArray.size=m.length:=by erw[aj];lia
   rw[e1]at this;rw[xZ,hl,eh,beq_self_eq_true,gd]at q;exact this X.prog X.w X.xe _ #[.bl _,H,I,rfl,q]
  ·rw[xZ,beq_eq_false_iff_ne.mpr hl,eP]at q;exact SeqAt.RcAt.lists_lengths p.isList p'.isList (by rw[bne_iff_ne];erw[aj];lia) hu1 X.prog X.w X.xe _ #[.bl _,H,I,rfl,q]
 ·erw[Is]at hx hy;let#[a,xs,rfl,h1,h2]:=hx;let#[b,ys,rfl,g1,g2]:=hy;cases rx;cases ry;let#[its,r,p,_]:=I.tuple h1;let#[its',r',p',_]:=I.tuple g1;have L1:=h2.len;have L2:=g2.len;have L3:=r.length;have L4:=r'.length;have:=SeqAt.RcAt.tuples (A:=X.A) p p' hu1 (xK h2 g2 r r' (n:=50) hd λd e x y u v q1 q2 q3 q4 q5=>jV I 50 X.A.in1 d e x y u v huA q1 q2 q3 q4 q5);erw[aj]at this;rw[xZ,<- L1,<- L2,L3,L4]at q;exact this X.prog X.w X.xe _ #[.bl _,H,I,rfl,q]
theorem zeA(hu:X.A.units+100<cLine):OpR X (tN .NotEq) (zhg X.K):=by
 intros x y v u Q I rx ry h;let#[l,m,hh,hd,q]:=h;have hu1:X.A.units<cLine:=⋯;have huA:X.A.in1.units+50<cLine:=by show X.A.units+1+50<cLine;lia
 rcases hh with ⟨hx,hy⟩ | ⟨hx,hy⟩
 ·erw[Is]at hx hy;let#[a,xs,rfl,h1,h2]:=hx;let#[b,ys,rfl,g1,g2]:=hy;cases rx;cases ry;let#[its,r,p,_]:=I.list h1;let#[its',r',p',_]:=I.list g1;have L1:=h2.len;have L2:=g2.len;have L3:=r.length;have L4:=r'.length;by_cases hl:l.length=m.length
  ·have:=SeqAt.RcNeAt.lists (A:=X.A) p.isList p'.isList (by erw[aj];lia) hu1 (xK h2 g2 r r' (n:=50) hd λd e x y u v q1 q2 q3 q4 q5=>jV I 50 X.A.in1 d e x y u v huA q1 q2 q3 q4 q5);have e1:its.toArray.size=m.length:=by erw[aj];lia
   rw[e1]at this;rw[xZ,hl,eh,beq_self_eq_true,gd]at q;exact this X.prog X.w X.xe _ #[.bl _,H,I,rfl,q]
  ·rw[xZ,beq_eq_false_iff_ne.mpr hl,eP]at q;exact SeqAt.RcNeAt.lists_lengths p.isList p'.isList (by rw[bne_iff_ne];erw[aj];lia) hu1 X.prog X.w X.xe _ #[.bl _,H,I,rfl,q]
 ·erw[Is]at hx hy;let#[a,xs,rfl,h1,h2]:=hx;let#[b,ys,rfl,g1,g2]:=hy;cases rx;cases ry;let#[its,r,p,_]:=I.tuple h1;let#[its',r',p',_]:=I.tuple g1;have L1:=h2.len;have L2:=g2.len;have L3:=r.length;have L4:=r'.length;have:=SeqAt.RcNeAt.tuples (A:=X.A) p p' hu1 (xK h2 g2 r r' (n:=50) hd λd e x y u v q1 q2 q3 q4 q5=>jV I 50 X.A.in1 d e x y u v huA q1 q2 q3 q4 q5);erw[aj]at this;rw[xZ,<- L1,<- L2,L3,L4]at q;exact this X.prog X.w X.xe _ #[.bl _,H,I,rfl,q]
end
theorem Xu(l m:List Int):uI (l.map D.int) (m.map D.int)=decide (l=m):=by
 induction l generalizing m with
 | nil=>cases m <;> simp [uI]
 | cons a l ih =>
  cases m with
  | nil=>simp [uI]
  | cons b m =>
   erw[ao,uI,eqD,ih m];by_cases h1:a=b
   ·subst h1;by_cases h2:l=m
    ·simp [h2]
    ·simp [h2]
   ·simp [h1]
theorem XQ(l:List Int):ui (l.map D.int)=0:=by
 induction l with
 | nil=>rfl
 | cons a l ih=>erw[ao,ui,dpD,ih];rfl
abbrev CNx(n i:Nat)(Pv:Nat->List V->Hp->Prop)(acc:List V)(H:Hp):Prop:=∃m',m'<n - i/\(m'=n - (i+1)/\i+1<=n/\Pv (i+1) acc H)
def CNx.mk(hi:i<n)(h:Pv (i+1) acc H):CNx n i Pv acc H:=#[n - (i+1),⋯,rfl,hi,h]
def X8(J:It)(g:TG)(tt:TT)(te:TE)(own:Nat)(ix:())(σ:St)(H1:Hp)(Q:VK)(D:tG):Prop:=∃W:Nat->Nat->List V->Hp->Prop,(∃m,W 0 m [] (upd H1 D (.lst []))) /\
 ∀i m acc H',W i m acc H'->(J.stop i H'/\Q (.ref D) H')\/(J.go i H'/\∀x H2,J.yld i H' x H2->g x (vM σ own ix) H2 λσ3 H3=>xo (vM σ own ix) σ3/\tt σ3 H3 λb H4=>if b=BL then
  te σ3 H4 λv H5=>H5 D=BJ (.lst acc)/\acc.length<tE/\∃m',m'<m/\W (i+1) m' (acc ++ [v]) (upd H5 D (.lst (acc ++ [v])))
  else ∃m',m'<m/\W (i+1) m' acc H4)
def CompR(lo:Int)(n:Nat)(g:TG)(tt:TT)(te:TE)(own:Nat)(ix:())(σ:St)(H1:Hp)(Q:VK)(D:tG):Prop:=X8 (Itr lo n) g tt te own ix σ H1 Q D
def CompL(K:tF)(a:tG)(g:TG)(tt:TT)(te:TE)(own:Nat)(ix:())(σ:St)(H1:Hp)(Q:VK)(D:tG):Prop:=X8 (Itl K a) g tt te own ix σ H1 Q D
def CompS(x:tK)(g:TG)(tt:TT)(te:TE)(own:Nat)(ix:())(σ:St)(H1:Hp)(Q:VK)(D:tG):Prop:=X8 (Its x) g tt te own ix σ H1 Q D
def zbQ : kO (zcG ta) g tt te own ix σ H Q=ta σ H λvs H1=>∃j:Int,vs=[.int j]/\-(2 ^ 62)<=j/\j<2 ^ 62/\∀D,H1 D=BK->CompR 0 j.toNat g tt te own ix σ H1 Q D:=rfl
def zfs{K:tF}:kO (zdb K tl) g tt te own ix σ H Q=tl σ H λx H1=>∃a,x=.ref a/\(∃xs,SqL K H1 a xs)/\∀D,H1 D=BK->CompL K a g tt te own ix σ H1 Q D:=rfl
def zd6 : kO (zgY tl) g tt te own ix σ H Q=tl σ H λv H1=>∃x,v=.str x/\∀D,H1 D=BK->CompS x g tt te own ix σ H1 Q D:=rfl
section
variable{g:TG}{tt:TT}{te:TE}{own:Nat}{ix:()}{σ:St}{H1:Hp}{Q:VK}{D:tG}
theorem CompR.by{lo:Int}(Pv:Nat->List V->Hp->Prop)(h0:Pv 0 [] (upd H1 D (.lst [])))(hs:∀i acc H',i<n->Pv i acc H'->g (.int (lo+i)) (vM σ own ix) H' λσ3 H3=>xo (vM σ own ix) σ3/\tt σ3 H3 λb H4=>if b=BL then
   te σ3 H4 λv H5=>H5 D=BJ (.lst acc)/\acc.length<tE/\CNx n i Pv (acc ++ [v]) (upd H5 D (.lst (acc ++ [v])))else CNx n i Pv acc H4) (hd:∀acc H',Pv n acc H'->Q (.ref D) H'):CompR lo n g tt te own ix σ H1 Q D:=by
 refine#[λi m acc H=>m=n - i/\i<=n/\Pv i acc H,#[n,by simp,ax _,h0],?_];rintro i m acc H' ⟨rfl,hi,p⟩;by_cases hlt:i<n
 ·refine .inr #[hlt,λx H2 y=>?_];let#[e,y]:=y;subst e y;exact hs i acc _ hlt p
 ·have e:i=n:=⋯;subst e;exact .inl #[ak _,hd acc H' p]
theorem CompL.by{K:tF}(Pv:Nat->List V->Hp->Prop)(h0:Pv 0 [] (upd H1 D (.lst [])))(hl:∀i acc H',i<=xs.length->Pv i acc H'->SqL K H' a xs)(hs:∀i x acc H',xs[i]? = BJ x->Pv i acc H'->g x (vM σ own ix) H' λσ3 H3=>xo (vM σ own ix) σ3/\tt σ3 H3 λb H4=>if b=BL then
   te σ3 H4 λv H5=>H5 D=BJ (.lst acc)/\acc.length<tE/\CNx xs.length i Pv (acc ++ [v]) (upd H5 D (.lst (acc ++ [v])))else CNx xs.length i Pv acc H4) (hd:∀acc H',Pv xs.length acc H'->Q (.ref D) H'):CompL K a g tt te own ix σ H1 Q D:=by
 refine#[λi m acc H=>m=xs.length - i/\i<=xs.length/\Pv i acc H,#[xs.length,by simp,ax _,h0],?_];rintro i m acc H' ⟨rfl,hi,p⟩;have q:=hl i acc H' hi p;by_cases hlt:i<xs.length
 ·refine .inr #[#[xs,xs[i],q,by simp [hlt]],λx H2 y=>?_];let#[e,y]:=y;subst e;exact hs i x acc _ (y xs q) p
 ·have e:i=xs.length:=⋯;subst e;exact .inl #[#[xs,q,ak _],hd acc H' p]
theorem CompS.by(Pv:Nat->List V->Hp->Prop)(h0:Pv 0 [] (upd H1 D (.lst [])))(hs:∀i c acc H',l[i]? = BJ c->Pv i acc H'->g ⇑[c] (vM σ own ix) H' λσ3 H3=>xo (vM σ own ix) σ3/\tt σ3 H3 λb H4=>if b=BL then
   te σ3 H4 λv H5=>H5 D=BJ (.lst acc)/\acc.length<tE/\CNx l.length i Pv (acc ++ [v]) (upd H5 D (.lst (acc ++ [v])))else CNx l.length i Pv acc H4) (hd:∀acc H',Pv l.length acc H'->Q (.ref D) H'):CompS (tx l) g tt te own ix σ H1 Q D:=by
 refine#[λi m acc H=>m=l.length - i/\i<=l.length/\Pv i acc H,#[l.length,by simp,ax _,h0],?_];rintro i m acc H' ⟨rfl,hi,p⟩;by_cases hlt:i<l.length
 ·refine .inr #[hlt,λv H2 y=>?_];let#[e,c,hc,ev]:=y;subst e ev;exact hs i c acc _ hc p
 ·have e:i=l.length:=⋯;subst e;exact .inl #[rfl,hd acc H' p]
end
mutual section
theorem xH : xo (BK::r) (BJ x::r):=#[rfl,λi v h=>by
 cases i with
 | zero=>cases h
 | succ i=>exact h]
def zS(h1:scope.kind=.function)(h2:scope.names.all (λy=>y.2 != .cell)=BL)(h3:scope.names.all (λy=>y.2 != .local || scope.names.lookup y.1 == BJ .local)=BL)(h4:scope.names.all (λy=>y.2 != .free || sc.names.lookup y.1 == BJ .cell)=BL)(hsc:X.env.scope=sc)(h5:own.all (λy=>scope.names.lookup y == BJ .local)=BL)(h6:caps.all (λy=>scope.names.lookup y == BJ .free)=BL)(h7:ix.map (λi=>X.N[i]?)=caps.map BJ):Zr X scope own caps ix:=by
 refine#[h1,λy hy=>?_,λy hy e=>?_,λy hy=>?_,λy hy=>?_,λy hy=>?_,h7]
 ·have:=BZ.mp h2 y hy;simpa using this
 ·have:=BZ.mp h3 y hy;rw[e]at this;simpa using this
 ·have:=BZ.mp h4 _ hy;have:=by simpa using this
  refine .inl ?_;show X.env.scope.names.lookup y=BJ .cell;rw[hsc];exact this
 ·have:=BZ.mp h5 y hy;simpa using this
 ·have:=BZ.mp h6 y hy;simpa using this
def Zt(l:List α){a b:Int}(h0:0<=a)(h1:a<=b)(h2:b<=l.length):cut l (BJ a) (BJ b)=(l.drop a.toNat).take (b - a).toNat:=by let#[m,rfl]:=br h0;let#[n,rfl]:=br (by lia:0<=b);unfold cut;rw[HT.sIx_nat,HT.sIx_nat,dJ ⋯,dJ ⋯];have:((n:Int) - (m:Int)).toNat=n - m:=⋯;rw[this];rfl
def ud(r:Room k A):A.units+100<cLine:=by have:=r.un;lia
def jP{K:tF}(h:(Is K H (.lst l) x/\Is K H (.lst m) y)\/(Is K H (.tup l) x/\Is K H (.tup m) y))(hd:ui l<50)(q:Q (.bl (uI l m)) H):zhp K x y H Q:=#[l,m,h,hd,q]
def zcp{K:tF}(h:(Is K H (.lst l) x/\Is K H (.lst m) y)\/(Is K H (.tup l) x/\Is K H (.tup m) y))(hd:ui l<50)(q:Q (.bl (!uI l m)) H):zhg K x y H Q:=#[l,m,h,hd,q]
def zgf(t u:TS):TS:=λD σ H=>∃R:St->Hp->Prop,t { D with nx:=R } σ H/\∀σ' H',R σ' H'->u D σ' H'
theorem zh{st:tM}{rest:List tM}(h1:PS X st t)(h2:PSs X rest u):PSs X (st::rest) (zgf t u):=by
 intros D I h;let#[R,h,hr]:=h;refine Ak (thn (h1 BN s σ H { D with nx:=R } I h) λf s1 q=>?_)
 cases f with
 | next =>
  let#[σ',H',I',q]:=q;exact h2 BN s1 σ' H' D I' (hr _ _ q)
 | ret v=>exact q
 | brk=>exact q
 | cont=>exact q
def kX{D:kT}(R:St->Hp->Prop)(h:t { D with nx:=R } σ H)(hr:∀σ' H',R σ' H'->u D σ' H'):zgf t u D σ H:=#[R,h,hr]
def zj{D:kT}(R:St->Hp->Prop)(h:t { D with nx:=R } σ H)(hr:∀G:St->Hp->Prop,G=u D->∀σ' H',R σ' H'->G σ' H'):zgf t u D σ H:=#[R,h,hr _ rfl]
def nm4{α β γ δ:Type}{P R:α->β->γ->δ->Prop}{B:α->β->γ->δ->Prop}(h:∀G:α->β->γ->δ->Prop,G=B->∀a b c d,P a b c d->R a b c d->G a b c d):∀a b c d,P a b c d->R a b c d->B a b c d:=h _ rfl
def nm3{α β γ:Type}{P R:α->β->γ->Prop}{B:α->β->γ->Prop}(h:∀G:α->β->γ->Prop,G=B->∀a b c,P a b c->R a b c->G a b c):∀a b c,P a b c->R a b c->B a b c:=h _ rfl
def zI(h:Same H H')(e:H a=BK):Same H (upd H' a o):=λb u q=>by
 rw[zo (zE q e)];exact h b u q
def ForL.by{K:tF}{D:kT}(Pv:Nat->St->Hp->Prop)(h0:Pv 0 σ H)(hl:∀i σ H,i<=xs.length->Pv i σ H->SqL K H a xs)(hs:∀i x σ H,xs[i]? = BJ x->Pv i σ H->g x σ H λσ2 H2=>tb { D with nx:=Pv (i+1),ct:=Pv (i+1),bk:=D.nx } σ2 H2)(hd:∀σ H,Pv xs.length σ H->D.nx σ H):ForL K a g tb D σ H:=KQ Pv h0 hl hs hd
def kG{A B:Prop}(h:B):if BL=BM then A else B:=by rw[z9 ∅];exact h
def CompV(K:tF)(a:tG)(n:Nat)(g:TG)(tt:TT)(te:TE)(own:Nat)(ix:())(σ:L2.St)(H1:Hp)(Q:VK)(D:tG):Prop:=X8 (Irv K a n) g tt te own ix σ H1 Q D
def zfH{K:tF}:kO (zhF K ta) g tt te own ix σ H Q=ta σ H λvs H1=>∃a xs,vs=[.ref a]/\SqL K H1 a xs/\∀D,H1 D=BK->CompV K a xs.length g tt te own ix σ H1 Q D:=rfl
def CompV.by{K:tF}{D:tG}(Pv:Nat->List V->Hp->Prop)(h0:Pv 0 [] (upd H1 D (.lst [])))(hl:∀i acc H',i<=xs.length->Pv i acc H'->SqL K H' a xs)(hs:∀i x acc H',xs.reverse[i]? = BJ x->Pv i acc H'->g x (vM σ own ix) H' λσ3 H3=>xo (vM σ own ix) σ3/\tt σ3 H3 λb H4=>if b=BL then
   te σ3 H4 λv H5=>H5 D=BJ (.lst acc)/\acc.length<tE/\CNx xs.length i Pv (acc ++ [v]) (upd H5 D (.lst (acc ++ [v])))else CNx xs.length i Pv acc H4) (hd:∀acc H',Pv xs.length acc H'->Q (.ref D) H'):CompV K a xs.length g tt te own ix σ H1 Q D:=by
 refine#[λi m acc H=>m=xs.length - i/\i<=xs.length/\Pv i acc H,#[xs.length,by simp,ax _,h0],?_];rintro i m acc H' ⟨rfl,hi,p⟩;have q:=hl i acc H' hi p;by_cases hlt:i<xs.length
 ·refine .inr #[#[xs,q,rfl,hlt],λx H2 y=>?_];let#[e,y]:=y;subst e;refine hs i x acc _ ?_ p;rw[bG hlt];exact y xs q rfl
 ·have e:i=xs.length:=⋯;subst e;exact .inl #[rfl,hd acc H' p]
def zgZ : ym 0 (BJ v::σ) H Q=Q v H:=rfl
def zg7 : ym 1 (a0::BJ v::σ) H Q=Q v H:=rfl
def zgc : ym 2 (a0::a1::BJ v::σ) H Q=Q v H:=rfl
def zgX : ym 3 (a0::a1::a2::BJ v::σ) H Q=Q v H:=rfl
def zg6 : ym 4 (a0::a1::a2::a3::BJ v::σ) H Q=Q v H:=rfl
def zgR : ym 5 (a0::a1::a2::a3::a4::BJ v::σ) H Q=Q v H:=rfl
def zf4 : ym 6 (a0::a1::a2::a3::a4::a5::BJ v::σ) H Q=Q v H:=rfl
def zgQ : ym 7 (a0::a1::a2::a3::a4::a5::a6::BJ v::σ) H Q=Q v H:=rfl
def zf5 : ym 8 (a0::a1::a2::a3::a4::a5::a6::a7::BJ v::σ) H Q=Q v H:=rfl
def zf7 : ym 9 (a0::a1::a2::a3::a4::a5::a6::a7::a8::BJ v::σ) H Q=Q v H:=rfl
def zdP : ym 10 (a0::a1::a2::a3::a4::a5::a6::a7::a8::a9::BJ v::σ) H Q=Q v H:=rfl
def zdR : ym 11 (a0::a1::a2::a3::a4::a5::a6::a7::a8::a9::a10::BJ v::σ) H Q=Q v H:=rfl
def zdc : ym 12 (a0::a1::a2::a3::a4::a5::a6::a7::a8::a9::a10::a11::BJ v::σ) H Q=Q v H:=rfl
def zcU : ym 13 (a0::a1::a2::a3::a4::a5::a6::a7::a8::a9::a10::a11::a12::BJ v::σ) H Q=Q v H:=rfl
def zdC : ym 14 (a0::a1::a2::a3::a4::a5::a6::a7::a8::a9::a10::a11::a12::a13::BJ v::σ) H Q=Q v H:=rfl
def zeE{p:Bool->Prop}:(∃k,V.bl b=V.bl k/\p k)=p b:=propext #[λ⟨_,h,q⟩=>by cases h;exact q,λq=>#[_,rfl,q]]
def zbg{p:Int->Prop}:(∃k,V.int b=V.int k/\p k)=p b:=propext #[λ⟨_,h,q⟩=>by cases h;exact q,λq=>#[_,rfl,q]]
def za3{p:tK->Prop}:(∃k,V.str b=V.str k/\p k)=p b:=propext #[λ⟨_,h,q⟩=>by cases h;exact q,λq=>#[_,rfl,q]]
def zbj{p:tG->Prop}:(∃k,V.ref b=V.ref k/\p k)=p b:=propext #[λ⟨_,h,q⟩=>by cases h;exact q,λq=>#[_,rfl,q]]
def zgD : onInt (.int i) p=p i:=rfl
def zgO : onStr (.str i) p=p i:=rfl
def zgg : onBl (.bl i) p=p i:=rfl
def zgH : onRef (.ref i) p=p i:=rfl
def zgL{K:tF}:zgj K (.bl b) H p=p b:=rfl
def zbJ : onInt x p=∃k,x=.int k/\p k:=propext #[onInt.of,onInt.to]
def zbr : onStr x p=∃k,x=.str k/\p k:=propext #[onStr.of,onStr.to]
def za2 : onBl x p=∃k,x=.bl k/\p k:=propext #[onBl.of,onBl.to]
def zbn : onRef x p=∃k,x=.ref k/\p k:=propext #[onRef.of,onRef.to]
def Kb : ym i σ H Q=∃v,σ[i]? = BJ (BJ v)/\Q v H:=propext #[onSl.of,λ⟨v,h,q⟩=>by erw[ym,onSl,h];exact q]
def zdu : rEq (.int a) (.int b) H Q=Q (.bl (decide (a=b))) H:=rfl
def zdF : rEq (.str a) (.str b) H Q=Q (.bl (decide (a=b))) H:=rfl
def zdJ : rNe (.int a) (.int b) H Q=Q (.bl (!decide (a=b))) H:=rfl
def zcV : rNe (.str a) (.str b) H Q=Q (.bl (!decide (a=b))) H:=rfl
def zcd : Xk (.int a) y H Q=onInt y λj=>Q (.int (a+j)) H:=rfl
def zcu : Xk (.str a) y H Q=onStr y λj=>a.length+j.length<=tE/\Q (.str (a ++ j)) H:=rfl
def zdy : Xk (.ref a) y H Q=zd2 (.ref a) y H Q:=rfl
def zbZ : zap (.int a) y H Q=onInt y λj=>CMul a j/\Q (.int (a * j)) H:=rfl
def zc2 : zap (.str z) y H Q=onInt y λn=>0<=n/\n<=1000/\z.length<=1000/\Q ⇑(ay n.toNat (cs z)).flatten H:=rfl
def zg5 : zfX (.int a) y H Q=onInt y λj=>Q (.bl (decide (a<j))) H:=rfl
def zgn : zfX (.str a) y H Q=onStr y λj=>Q (.bl (decide (cs a<cs j))) H:=rfl
def zgz : zfT (.int a) y H Q=onInt y λj=>Q (.bl (decide (a<=j))) H:=rfl
def zgT : zfT (.str a) y H Q=onStr y λj=>Q (.bl (!(decide (cs j<cs a)))) H:=rfl
def zgv : zfO (.int a) y H Q=onInt y λj=>Q (.bl (decide (j<a))) H:=rfl
def zgN : zfO (.str a) y H Q=onStr y λj=>Q (.bl (decide (cs j<cs a))) H:=rfl
def zgx{K:tF}:rIx K (.ref a) y H Q=onInt y λi=>(∃xs,SqL K H a xs/\∃v,atI xs i=BJ v/\Q v H)\/∃xs,SqT K H a xs/\∃v,atI xs i=BJ v/\Q v H:=rfl
def zgb{K:tF}:rIx K (.str z) y H Q=zbd (.str z) y H Q:=rfl
def zcA{K:tF}{lo hi:Option Int}:zeh K (.str z) lo hi H Q=(z.length<=tE/\Q ⇑(cut (cs z) lo hi) H):=rfl
def zcf{K:tF}{lo hi:Option Int}:zeh K (.ref a) lo hi H Q=(∃xs,SqL K H a xs/\∀p,H p=BK->Q (.ref p) (upd H p (.lst (zay xs lo hi)))):=rfl
def zcq{K:tF}:Uf K [.str z] H Q=(z.length<=tE/\Q (.int z.length) H):=rfl
def zci{K:tF}:Uf K [.ref a] H Q=(∃n:Nat,((∃xs,SqL K H a xs/\n=xs.length)\/∃xs,SqT K H a xs/\n=xs.length)/\Q (.int n) H):=rfl
def zdM : zht x .non H Q=Q (.bl (decide (x=.non))) H:=rfl
def zcH : zek x .non H Q=Q (.bl (!decide (x=.non))) H:=rfl
def zdd : zac [.int i,.int j] H Q=Q (.int (if j > i then j else i)) H:=rfl
def zc5 : UE (.ref a) [y] H Q=(∃xs,H a=BJ (.lst xs)/\xs.length<tE/\Q .non (upd H a (.lst (xs ++ [y])))):=rfl
def zhx{K:tF}:(tyV K "str" (.str z) H/\p)=p:=propext #[λh=>h.2,λh=>#[rfl,h]]
def zB(i:Nat)(hN:X.N.Nodup)(he:PE X e te)(hi:‹X.N[i]? = BJ x›)(hx:‹Loc X.env.scope x›)(hs:‹swapsWith e (BJ (.Name x pos')) pos.line X.env=pure BM›)(hf:‹X.fn x=BL\/X.env.scope.names.lookup x=BJ .local›) :
  PS X (.Assign [.Name x pos'] e pos) (zde te (yH i)):=jH hN hi hx he hs hf
def zm(hr:IxR X r)(ha:PE X a ta)(hb:PE X b tb)(hs:U9 b:=by exact λZ Z=>rfl):PE X (.Subscript a b pos) (tOp r ta tb):=zg4 hr ha hb hs
def zF(hm:X.mg "len" = BK)(he:PE X e te)(hg:‹Gl X "len"›)(h1:‹tD [e] X.env=(BM,eval e X.env)::tD [] X.env›)(h2:‹(tS pos (tD [] X.env)).any (·.1)=BM›):PE X (.Call (.Name "len" p) [e] [] pos) (tCB (Uf X.K) (zO te xI)) :=
 xg zgG hg hm PySem.boot_len (za he ze h1) (he:=h1) (hpl:=h2)
theorem Z6:∀{bs:List Bool} {its:List tH} {i:Nat} {v:tH},Vals (bs.map V.bl) its->its[i]? = BJ v->v=.bool (bs.getD i BM)
 | [],_,_,_,.nil,h=>by cases h
 | b::bs,_,0,v,.cons r t,h=>by
  cases r;cases h;rfl
 | b::bs,_,i+1,v,.cons r t,h=>Z6 (bs:=bs) (i:=i) t h
theorem Q0(bs:List Bool):(aM bs.length).all (λi=>bs.getD i BM)=bs.all id:=by
 induction bs with
 | nil=>rfl
 | cons b bs ih =>
  rw[aF,cU,gc,List.all_map,gc,<- ih];rfl
def zhX(K:tF):List V->Hp->VK->Prop:=λxs H Q=>∃(p:tG) (bs:List Bool),xs=[.ref p]/\SqL K H p (bs.map V.bl)/\Q (.bl (bs.all id)) H
def zg3(hc:X.calm=BL):uf X (.builtin "all") (zhX X.K):=by
 intros xs us Q I r h;let#[p,bs,rfl,hS,q]:=h;let#[u,rfl,ru]:=vf r;cases ru;let#[its,rv,pl,hz]:=I.list hS
 have hlen:its.length=bs.length:=by
  have:=rv.length;rw[aa]at this;exact this.symm
 have hh:X.A.in1.handled=BK:=I.ok.hd hc
 have hne:p≠s⁻¹:=by
  let#[o,n,e,_]:=pl;exact aA (av e)
 let#[f0,f1,f2,f3,f4,f5]:=I.fpOk (H':=H) (ak _) (I.hok.fresh (ak _));have I1:=I.kept (t':=s.toks) (h':=s.heap.push { cls:=.type "list_iterator",data:=.fields (w4 [.ref p,.int 0 0]) }) λb o e=>ae _ e;refine call_all_walk (Ao pl.isList ?_);refine#[s⁻¹,_,_,_,_,_,λi=>bs.getD i BM,rfl,Walks.list hh s⁻¹ p hne its.toArray,#[#[_,aE _ rfl,rfl,rfl],?_],?_,?_]
 ·let#[o,n,e,c,d,dt]:=pl;exact#[o,ae _ e,c,n,dt]
 ·intro i v s' Q' E' hv hq;have:=Z6 rv (i:=i) (v:=v) ↥hv;rw[this];exact tU hq
 ·intro h' tk hk
  have e:(aM its.toArray.size).all (λi=>bs.getD i BM)=bs.all id:=by
   rw[aj,hlen,Q0]
  rw[e];refine#[.bl _,H,?_,rfl,q];exact I1.turned (t':=tk) (it:=s⁻¹) (λb o hb q=>hk b o ↥hb q) f0 f1 f3 f4 f5
def zeF(hfr:A.frames=BJ (env0::outer))(hl:s.heap.FunFrames base (env0::outer))(hf:env0.frame=BJ L)(he:env.frame=BJ L)(hx:s.heap.get? x=BJ (xob C dx t tb))(htb:zcE s.heap x tb)(h:∀h' T oT ts,h'.get? x=BJ (xob C dx t (.ref T))->T≠x->(tb=.ref T\/s⁻¹<=T)->h'.get? T=BJ oT->oT.data=.fields ts->3<ts.size ->
   (∀b o,b≠x->tb≠.ref b->b ∉ frs (env0::outer)->s.heap.get? b=BJ o->h'.get? b=BJ o)->(∀b o,b≠x->tb≠.ref b->s.heap.get? b=BJ o->∃sl,h'.get? b=BJ { o with slots:=sl })->Q Unit.unit { s with heap:=h' }) :
  tI M A (noteFrame (.ref x) env) Q E s:=by
 have land:∀(h1:tT) (T:tG) (oT:Au) (ts:Array tH),h1.get? x=BJ (xob C dx t (.ref T))->T≠x->(tb=.ref T\/s⁻¹<=T)->h1.get? T=BJ oT->oT.data=.fields ts->3<ts.size ->
   (∀b o,b≠x->tb≠.ref b->b ∉ frs (env0::outer)->s.heap.get? b=BJ o->h1.get? b=BJ o)->(∀b o,b≠x->tb≠.ref b->s.heap.get? b=BJ o->∃sl,h1.get? b=BJ { o with slots:=sl }) ->
   Q Unit.unit { s with heap:=h1 }:=λh1 T oT ts e1 nT oldT e2 d2 z2 k1 k2=>h h1 T oT ts e1 nT oldT e2 d2 z2 k1 k2
 unfold noteFrame;erw[he];refine tw (tQ hx rfl (x:=tb) rfl ?_);rcases htb with rfl | ⟨T,oT,ts,rfl,nT,e2,d2,z2⟩
 ·rw[z9 ∅];refine ZW hfr hl hf he hx λh' oT ts e1 ne e2 d2 z2 k1 k2=>land h' _ oT ts e1 ne (.inr (ak _)) e2 d2 z2 (λb o hb Z hbf e=>k1 b o hb hbf e) λb o hb Z e=>k2 b o hb e
 ·rw[y9 (show (u9 T != u6)=BL from by simp)];obtain⟨y,hy⟩:∃y,ts[3]? = BJ y:=#[ts[3],by simp [z2]];refine tw (tQ e2 d2 (x:=y) hy ?_);by_cases c:(y == rawInt L)=BL
  ·rw[y9 c];exact tz (land s.heap T oT ts hx nT (.inl rfl) e2 d2 z2 (λb o Z Z Z e=>e) λb o Z Z e=>#[o.slots,e])
  ·rw[z9 c];refine tw (Ah e2 d2 z2 ?_);have oth:∀b,b≠T->(s.heap.update T (Obj.mapFields (·.setIfInBounds 3 u6))).get? b=s.heap.get? b:=λb hb=>aI _ _ (Ne.symm hb);have hl1:(s.heap.update T (Obj.mapFields (·.setIfInBounds 3 u6))).FunFrames base (env0::outer):=hl.of_keeps λb o hb hnf=>#[o,(oth b λq=>by rw[q,e2]at hb;cases hb;exact hnf ts d2).trans hb,rfl];have hsz:(s.heap.update T (Obj.mapFields (·.setIfInBounds 3 u6))).objs.size=s⁻¹:=d6 ..;refine ZW (s:={ s with heap:=s.heap.update T (Obj.mapFields (·.setIfInBounds 3 u6)) }) hfr hl1 hf he ((oth x (Ne.symm nT)).trans hx) λh' oT' ts' e1 ne e2' d2' z2' k1 k2=>?_;refine land h' _ oT' ts' e1 ne (.inr (by rw[hsz];exact ak _)) e2' d2' z2' (λb o hb hbt hbf e=>k1 b o hb hbf ((oth b λq=>hbt (by rw[q])).trans e)) λb o hb hbt e=>k2 b o hb ((oth b λq=>hbt (by rw[q])).trans e)
def Inv.noted{tb:tH}(I1:Inv X BN σ H1 s1)(hst:X.stack=X.env::X.outer)(fx:wf X BN H1 x)(fT:∀T,tb=.ref T->wf X BN H1 T)(fT':wf X BN H1 T)(k1:∀b o,b≠x->tb≠.ref b->b ∉ frs (X.env::X.outer)->s1.heap.get? b=BJ o->h'.get? b=BJ o)(k2:∀b o,b≠x->tb≠.ref b->s1.heap.get? b=BJ o->∃sl,h'.get? b=BJ { o with slots:=sl }):Inv X BN σ H1 { s1 with heap:=h' }:=by
 have tbs:∀b,tb=.ref b->H1 b=BK:=λb hb=>(fT b hb).1
 have nch:∀b o,s1.heap.get? b=BJ o->b ∉ (x::T::tbL tb)->b≠x/\tb≠.ref b:=λb o Z hb=>by
  refine#[λz=>hb (by simp [z]),λz=>hb ?_];rw[z];simp [tbL]
 have un:Un (frs X.stack) (x::T::tbL tb) H1 H1 s1.heap h':=by
  rw[hst];refine#[λb o e n hb hc=>?_,λb o e n hb hc=>?_,λb o e n Z=>n,λb o e hc=>?_,λb xs e=>e,λb o u e=>e,λb ps e=>#[#[],by rw[e];simp]]
  ·let#[a1,a2]:=nch b o e hc;exact k1 b o a1 a2 hb e
  ·let#[a1,a2]:=nch b o e hc;exact k2 b o a1 a2 e
  ·let#[a1,a2]:=nch b o e hc;let#[sl,q]:=k2 b o a1 a2 e;exact#[_,q]
 have hok:HOk X.prog X.w H1 h':=λb u e=>by
  refine (I1.hok b u e).stay (λc v hc q=>k1 c v ?_ ?_ ?_ q) (λZ q=>q) λZ Z q=>q
  ·rintro rfl;rcases hc with rfl | hc
   ·rw[fx.1]at e;cases e
   ·rw[fx.1]at hc;cases hc
  ·intro z;have:=tbs c z;rcases hc with rfl | hc
   ·rw[this]at e;cases e
   ·rw[this]at hc;cases hc
  ·intro z;rw[<- hst]at z;have:=I1.stkFree c z;rcases hc with rfl | hc
   ·rw[this]at e;cases e
   ·rw[this]at hc;cases hc
 exact I1.call' (s':={ s1 with heap:=h' }) rfl un hok I1.bare λb hb=>by
  have fb:wf X BN H1 b:=by
   rcases BR.mp hb with z | z
   ·rw[z];exact fx
   ·rcases BR.mp z with z | z
    ·rw[z];exact fT'
    ·cases tb with
     | ref b' =>
      have:b=b':=by simpa [tbL] using z
      rw[this];exact fT b' rfl
     | _=>simp [tbL]at z
  let#[_,a1,_,a3,a4,a5]:=fb;exact#[a3,a1,a4,a5]
def UL(hst:X.stack=X.env::X.outer/\X.env.frame=BJ X.env.locals)(hxe:XE X EX)(hc1:∀y c,cl.lookup y=BJ c->X.env.cells.lookup y=BJ c)(I3:Inv X BN σ H3 s3)(f3:∀b ∈ fp,wf X BN H3 b)(fl:zeN (yG X scope cl s3⁻¹ N BN s3 H3 fp xe) EX e s1)(hRE:∀m s' x,s'.heap.Ns s3⁻¹ m->(∀h',Heap.SameBut s3⁻¹ s'.heap h'->∀cenv:BB,cenv.locals=s3⁻¹->tI (model X.prog X.w) X.A (gn "comprehension.variables-let-go" x cenv:Sem tH) (λZ Z=>False) X.xe { s' with heap:=h' })->RE x s') :
  notedBy (model X.prog X.w) X.A (compEnvC scope cl s3⁻¹ X.env) RE e s1:=by
 let#[pins',σ',H1,x,C,t,dx,tb,rfl,I1,ob,tr,fx,fT,q]:=fl
 have IX:Inv X BN σ H1 s1:=I3.call' (s':=s1) I1.os I1.base I1.hok I1.bare λb hb=>by
  let#[_,a1,a2,a3,a4,a5]:=f3 b hb;exact#[a3,a1,a4,a5]
 have up:∀b,wf (yG X scope cl s3⁻¹ N BN s3 H3 fp xe) pins' H1 b->wf X BN H1 b:=λb hb=>by
  let#[a0,a1,a2,a3,a4,a5]:=hb;rcases a3 with a3 | a3
  ·exact#[a0,(f3 b a3).2]
  ·exact I3.fpOk a3 a0
 have fx':=up x fx;have fT':∀T,tb=.ref T->wf X BN H1 T:=λT h=>up T (fT T h);have fr:X.A.frames=BJ (X.env::X.outer):=by rw[<- hst.1];exact IX.ok.frames
 have ff:s1.heap.FunFrames X.base (X.env::X.outer):=by rw[<- hst.1];exact IX.stack
 let#[m,hm,_]:=I1.loc;have fC:wf X BN H1 s3⁻¹:=I3.fpOk (ak _) I1.free;refine zeF fr ff hst.2 hst.2 ob tr λh' T oT ts e1 nT oldT e2 d2 z2 k1 k2=>?_
 have fT2:wf X BN H1 T:=by
  rcases oldT with z | z
  ·exact fT' T z
  ·exact IX.fpOk z (IX.hok.fresh z)
 have I2:Inv X BN σ H1 { s1 with heap:=h' }:=Inv.noted IX hst.1 fx' fT' fT2 k1 k2;have hCx:s3⁻¹≠x:=λz=>fx.2.1 z.symm;have hCtb:tb≠.ref s3⁻¹:=λz=>(fT _ z).2.1 rfl;let#[oC,es,ep,hoC,rC]:=hm
 have hCT:T≠s3⁻¹:=by
  rcases oldT with z | z
  ·exact (fT T z).2.1
  ·exact cB (aq (av hoC) z)
 have hCf:s3⁻¹ ∉ frs (X.env::X.outer):=λz=>by
  rw[<- hst.1]at z;rcases BR.mp (IX.stkSub _ z)with y | y
  ·exact fC.2.1 y
  ·exact fC.2.2.1 y
 refine hRE m _ _ #[oC,es,ep,k1 _ _ hCx hCtb hCf hoC,rC] λh2 sb cenv hcenv=>?_;have I3':Inv X BN σ H1 { s1 with heap:=h2 }:=I2.turned (t':=s1.toks) (λb o hb e=>(sb.2 b hb).trans e) fC.1 fC.2.1 fC.2.2.2.1 fC.2.2.2.2.1 fC.2.2.2.2.2;have ob2:h2.get? x=BJ (xob C dx t (.ref T)):=(sb.2 x (Ne.symm hCx)).trans e1;have oT2:h2.get? T=BJ oT:=(sb.2 T hCT).trans e2;unfold gn;refine tw (tQ (s:={ s1 with heap:=h2 }) ob2 rfl (x:=.ref T) rfl ?_);rw[z9 (show ¬ (u9 T == u6)=BL from by simp)];unfold setFlight;refine tw (tw (tQ (s:={ s1 with heap:=h2 }) ob2 rfl (x:=.ref T) rfl ?_));rw[y9 (show (u9 T != u6)=BL from by simp)];refine Ah (s:={ s1 with heap:=h2 }) oT2 d2 z2 (wpAny_throw (hxe _ _ ?_));have d3:=Obj.data_mapFields d2 (·.setIfInBounds 3 (cenv.frame.elim u6 λf=>rawInt f))
 have I4:Inv X BN σ H1 { s1 with heap:=h2.update T (Obj.mapFields (·.setIfInBounds 3 (cenv.frame.elim u6 λf=>rawInt f))) } :=
  I3'.turned (t':=s1.toks) (λb o hb e=>(aI _ _ (Ne.symm hb)).trans e) fT2.1 fT2.2.1 fT2.2.2.2.1 fT2.2.2.2.2.1 fT2.2.2.2.2.2
 exact#[BN,σ,H1,x,C,t,dx,.ref T,rfl,I4,(aI _ _ nT).trans ob2,.inr #[T,_,_,rfl,nT,bU _ oT2 (Obj.isFreed_of_fields d3),d3,by simpa using z2],fx',λT' z=>by cases z;exact fT2,q]
end
open PySem.AutoSeq1 (wpAny_loadPart')
open MeetsSeq MeetsSeq2 MeetsSeq3 SeqRoads2 SeqAt
mutual section
def ja(op:Bx)(A:Af)(s:tJ)(y x:tH)(b:Bool):Prop :=
 ∀(prog:tL) (w:tP) (E:tH->tJ->Prop) (Q:tH->tJ->Prop),Q (.bool b) s->tI (model prog w) A (richCompare op y x) Q E s
abbrev LtAt:=ja .Lt
def zfA:Bx->Nat->Nat->Bool
 | .Gt,m,n=>decide (n<m)
 | _,m,n=>decide (m<n)
def zho:Bx->Int
 | .Gt=>4
 | _=>0
def LG(op:Bx):Prop:=op=.Lt\/op=.Gt
def uo(op:Bx)(e t r:Nat->Bool)(m n:Nat):Prop:=∀i,i<=m->i<=n->r i=if i<m/\i<n then (if e i=BL then r (i+1)else t i)else zfA op m n
abbrev zgW:=uo .Lt
variable{op:Bx}
theorem Jv(ho:LG op)(l b:tG)(items BO:Array tH)(n n2:Nat)(dd dd2:Option tG)(sl sl2:Array (Option tH))(e t r:Nat->Bool)(hr:uo op e t r items.size BO.size)(k:Nat) :
  ∀i:Nat,i<=items.size->i<=BO.size->items.size - i=k->Meets (Builtin.«list.__eq__.loop» #[[.ref l,.ref b,rawInt i,rawInt (zho op)],[]]) (λA R s=>s.heap.get? l=BJ { cls:=.type "list",dict:=dd,data:=.seq items n,slots:=sl }/\s.heap.get? b=BJ { cls:=.type "list",dict:=dd2,data:=.seq BO n2,slots:=sl2 } /\
    (∀j (h1:j<items.size) (h2:j<BO.size),EqAt A.in1 s items[j] BO[j] (e j))/\(∀j (h1:j<items.size) (h2:j<BO.size),e j=BM->ja op A.in1 s items[j] BO[j] (t j)) /\
    R (.ok (.ret (.bool (r i)))) s):=by
 rcases ho with rfl | rfl <;> erw[zho] <;> erw[uo,zfA]at hr
 all_goals
  induction k with
  | zero =>
   intro i b1 b2 hk prog w A R s h;let#[hp,g,d,tk,os]:=s;let#[hl,hb,he,ht,h]:=h;have hri:=hr i b1 b2;rw[z9 ⋯]at hri;rw[hri]at h
   wp_walk using wpAny_loadPart' hl,wpAny_loadPart' hb
   have hi1:items[((i:Nat):Int).toNat]? = BK:=by simp;lia
   rw[hi1]
   wp_walk using wpAny_loadPart' hl,wpAny_loadPart' hb
   exact h
  | succ k ih =>
   intro i b1 b2 hk prog w A R s h;let#[hp,g,d,tk,os]:=s;let#[hl,hb,he,ht,h]:=h;have hlt:i<items.size:=⋯;have hi1:items[((i:Nat):Int).toNat]? = BJ items[i]:=by simp [hlt]
   have hc:((i:Int)+1)=((i+1:Nat):Int):=by push_cast;rfl
   have hri:=hr i b1 b2;by_cases hlt2:i<BO.size
   ·rw[y9 #[hlt,hlt2]]at hri;rw[hri]at h;have hi2:BO[((i:Nat):Int).toNat]? = BJ BO[i]:=by simp [hlt2]
    wp_walk using wpAny_loadPart' hl,wpAny_loadPart' hb
    rw[hi1,hi2];refine tw (he i hlt hlt2 prog w _ _ ?_)
    cases hb':e i with
    | true =>
     rw[hb',y9 rfl]at h
     wp_walk
     rw[hc]
     exact#[plainId_quiet plain_eq_loop _,Aw entry_eq_loop (by
      rw[Around.under_plainId plain_eq_loop _]
      exact ih (i+1) ⋯ ⋯ ⋯ prog w A R _ #[hl,hb,he,ht,h])]
    | false =>
     rw[hb',z9 aD]at h
     wp_walk using wpAny_loadPart' hl,wpAny_loadPart' hb
     rw[hi1,hi2];refine tw (ht i hlt hlt2 hb' prog w _ _ ?_)
     wp_walk
     exact h
   ·rw[z9 ⋯]at hri;rw[hri]at h;have hi2:BO[((i:Nat):Int).toNat]? = BK:=by simp;lia
    wp_walk using wpAny_loadPart' hl,wpAny_loadPart' hb
    rw[hi1,hi2]
    wp_walk using wpAny_loadPart' hl,wpAny_loadPart' hb
    exact h
def Y4(ho:LG op)(l b:tG)(items BO:Array tH)(n n2:Nat)(dd dd2:Option tG)(sl sl2:Array (Option tH))(e t r:Nat->Bool)(hr:uo op e t r items.size BO.size) :
  Meets ((match op with | .Gt=>Builtin.«list.__gt__» | _=>Builtin.«list.__lt__») ⟨[.ref l,.ref b],[]⟩) (λA R s=>s.heap.get? l=BJ { cls:=.type "list",dict:=dd,data:=.seq items n,slots:=sl }/\s.heap.get? b=BJ { cls:=.type "list",dict:=dd2,data:=.seq BO n2,slots:=sl2 } /\
    (∀j (h1:j<items.size) (h2:j<BO.size),EqAt A.in1 s items[j] BO[j] (e j))/\(∀j (h1:j<items.size) (h2:j<BO.size),e j=BM->ja op A.in1 s items[j] BO[j] (t j)) /\
    R (.ok (.ret (.bool (r 0)))) s):=by
 rcases id ho with rfl | rfl
 all_goals
  intro prog w A R s h;let#[hp,g,d,tk,os]:=s;let#[hl,hb,he,ht,h]:=h;have f3:=AutoSeq1.sub_list_list
  wp_walk using wpAny_loadPart' hl,wpAny_loadPart' hb
  exact#[plainId_quiet plain_eq_loop _,Aw entry_eq_loop (by
   rw[Around.under_plainId plain_eq_loop _]
   exact Jv ho l b items BO n n2 dd dd2 sl sl2 e t r hr _ 0 (ax _) (ax _) rfl prog w A R _ #[hl,hb,he,ht,h])]
theorem Zc(ho:LG op)(l b:tG)(items BO:Array tH)(n n2:Nat)(dd dd2:Option tG)(sl sl2:Array (Option tH))(e t r:Nat->Bool)(hr:uo op e t r items.size BO.size) :
  Meets ((match op with | .Gt=>Builtin.«tuple.__gt__» | _=>Builtin.«tuple.__lt__») ⟨[.ref l,.ref b],[]⟩) (λA R s=>s.heap.get? l=BJ { cls:=.type "tuple",dict:=dd,data:=.seq items n,slots:=sl }/\s.heap.get? b=BJ { cls:=.type "tuple",dict:=dd2,data:=.seq BO n2,slots:=sl2 } /\
    (∀j (h1:j<items.size) (h2:j<BO.size),EqAt A.in1 s items[j] BO[j] (e j))/\(∀j (h1:j<items.size) (h2:j<BO.size),e j=BM->ja op A.in1 s items[j] BO[j] (t j)) /\
    R (.ok (.ret (.bool (r 0)))) s):=by
 rcases ho with rfl | rfl <;> erw[uo,zfA]at hr
 all_goals
  refine .of_wp λprog w A R s h=>?_;let#[hp,g,d,tk,os]:=s;let#[hl,hb,he,ht,h]:=h;have f2:=AutoSeq1.sub_tuple_tuple;have hZ:(items.toList.zip BO.toList).length=min items.size BO.size:=by simp
  wp_walk using wpAny_loadPart' hl,wpAny_loadPart' hb,wpAny_forIn_list _ (λrest b s'=>b.1=BK/\s'=#[hp,g,d,tk,os]/\∃i,i<=min items.size BO.size/\rest=(items.toList.zip BO.toList).drop i /\
   R (.ok (.ret (.bool (r i)))) #[hp,g,d,tk,os]) _
  case turn =>
   rintro⟨y,x⟩ rest b s' ⟨hb',rfl,i,hi,hz,hR⟩
   have hlt:i<(items.toList.zip BO.toList).length:=by
    rcases et i (items.toList.zip BO.toList).length with h' | h'
    ·exact h'
    ·rw[bh h']at hz;cases hz
   have hm:i<min items.size BO.size:=hZ ▸ hlt;have h1:i<items.size:=aq hm (eC _ _);have h2:i<BO.size:=aq hm (Nat.min_le_right _ _);rw[aT hlt]at hz;injection hz with hyx hrest;have hy:y=items[i]:=by have:=congrArg Prod.fst hyx;simpa using this
   have hx:x=BO[i]:=by have:=congrArg Prod.snd hyx;simpa using this
   subst hy hx;have hri:=hr i ⋯ ⋯;rw[y9 #[h1,h2]]at hri;rw[hri]at hR;refine tw (he i h1 h2 prog w _ _ ?_)
   cases hy:e i with
   | true =>
    rw[hy,y9 rfl]at hR
    wp_walk
    exact#[rfl,rfl,i+1,⋯,hrest,hR]
   | false =>
    rw[hy,z9 aD]at hR;erw[fV,if_true];refine tw (AM ?_);refine tw (ht i h1 h2 hy prog w _ _ ?_)
    wp_walk
    exact#[_,rfl,hR]
  case fin =>
   rintro⟨b1,b2⟩ s' ⟨hb',rfl,i,hi,hz,hR⟩;simp only at hb';subst hb'
   have hge:min items.size BO.size<=i:=by
    rcases et i (items.toList.zip BO.toList).length with h' | h'
    ·rw[aT h']at hz;cases hz
    ·exact hZ ▸ h'
   have hri:=hr i ⋯ ⋯;rw[z9 ⋯]at hri;rw[hri]at hR
   wp_walk
   exact#[_,rfl,hR]
  case h =>
   exact#[rfl,rfl,0,ax _,rfl,h]
def LtAt.lists(ho:LG op)(hl:s.heap.IsList l items)(hb:s.heap.IsList b BO)(hr:uo op e t r items.size BO.size)(hu:A.units<cLine)(he:∀j (h1:j<items.size) (h2:j<BO.size),EqAt A.in1 s items[j] BO[j] (e j))(ht:∀j (h1:j<items.size) (h2:j<BO.size),e j=BM->ja op A.in1 s items[j] BO[j] (t j)):ja op A s (.ref l) (.ref b) (r 0):=λprog w E Q h=>by
 let#[#[cls,dd,data,sl],h1,hc,n,hd]:=id hl;let#[#[cls2,dd2,data2,sl2],h2,hc2,n2,hd2]:=id hb;simp only at hc hd hc2 hd2;subst hc hd hc2 hd2;have z:Value.bool (r 0)≠Value.notImplemented/\Q (.bool (r 0)) s:=#[(λx=>nomatch x),h];rcases id ho with rfl | rfl
 ·exact richCompare_meets_room #[_,h1,rfl] #[_,h2,rfl] F.slot_list_lt F.entry_list_lt (F.args_list_lt_2 _ _) (Y4 ho l b items BO n n2 dd dd2 sl sl2 e t r hr) #[h1,h2,he,ht,z] hu
 ·exact richCompare_meets_room #[_,h1,rfl] #[_,h2,rfl] F.slot_list_gt F.entry_list_gt (F.args_list_gt_2 _ _) (Y4 ho l b items BO n n2 dd dd2 sl sl2 e t r hr) #[h1,h2,he,ht,z] hu
def LtAt.tuples(ho:LG op)(hl:s.heap.IsTuple l items)(hb:s.heap.IsTuple b BO)(hr:uo op e t r items.size BO.size)(hu:A.units<cLine)(he:∀j (h1:j<items.size) (h2:j<BO.size),EqAt A.in1 s items[j] BO[j] (e j))(ht:∀j (h1:j<items.size) (h2:j<BO.size),e j=BM->ja op A.in1 s items[j] BO[j] (t j)):ja op A s (.ref l) (.ref b) (r 0):=λprog w E Q h=>by
 let#[#[cls,dd,data,sl],h1,hc,n,hd]:=id hl;let#[#[cls2,dd2,data2,sl2],h2,hc2,n2,hd2]:=id hb;simp only at hc hd hc2 hd2;subst hc hd hc2 hd2;have z:Value.bool (r 0)≠Value.notImplemented/\Q (.bool (r 0)) s:=#[(λx=>nomatch x),h];rcases id ho with rfl | rfl
 ·exact richCompare_meets_room #[_,h1,rfl] #[_,h2,rfl] F.slot_tuple_lt F.entry_tuple_lt (F.args_tuple_lt_2 _ _) (Zc ho l b items BO n n2 dd dd2 sl sl2 e t r hr) #[h1,h2,he,ht,z] hu
 ·exact richCompare_meets_room #[_,h1,rfl] #[_,h2,rfl] F.slot_tuple_gt F.entry_tuple_gt (F.args_tuple_gt_2 _ _) (Zc ho l b items BO n n2 dd dd2 sl sl2 e t r hr) #[h1,h2,he,ht,z] hu
end
mutual
def okD:D->D->Prop
 | .int _,e=>match e with | .int _=>True | _=>False
 | .lst l,e=>match e with | .lst m=>Yz l m | _=>False
 | .tup l,e=>match e with | .tup m=>Yz l m | _=>False
 | _,_=>False
def Yz:List D->List D->Prop
 | d::l,m=>match m with | e::m=>okD d e/\Yz l m | []=>True
 | [],_=>True
end
mutual
noncomputable def ltD:D->D->Bool
 | .int a,e=>match e with | .int b=>decide (a<b) | _=>BM
 | .lst l,e=>match e with | .lst m=>uh l m | _=>BM
 | .tup l,e=>match e with | .tup m=>uh l m | _=>BM
 | _,_=>BM
noncomputable def uh:List D->List D->Bool
 | d::l,m=>match m with | e::m=>if eqD d e=BL then uh l m else ltD d e | []=>BM
 | [],m=>match m with | []=>BM | _::_=>BL
end
theorem Qr(l m:List D):zgW (λj=>eqD (l.getD j .non) (m.getD j .non)) (λj=>ltD (l.getD j .non) (m.getD j .non)) (λi=>uh (l.drop i) (m.drop i)) l.length m.length:=by
 intro i b1 b2;erw[zfA];by_cases h:i<l.length/\i<m.length
 ·rw[y9 h,aT h.1,aT h.2,uh];rw[ac,ac,ah h.1,ah h.2];rfl
 ·rw[z9 h];by_cases h1:i<l.length
  ·have h2:¬ i<m.length:=λz=>h #[h1,z];rw[aT h1,bh (bw h2),uh]
   ·simp;lia
   all_goals simp
  ·rw[bh (bw h1)];by_cases h2:i<m.length
   ·rw[aT h2,uh];simp;lia
   ·rw[bh (bw h2),uh]
    ·simp;lia
    all_goals simp
mutual
theorem WQ:∀d e:D,eqD d e=eqD e d
 | .lst l,e=>by cases e <;> erw[eqD];exact jQ l _
 | .tup l,e=>by cases e <;> erw[eqD];exact jQ l _
 | .int _,e=>by cases e <;> erw[eqD] <;> exact ge
 | .str _,e=>by cases e <;> erw[eqD] <;> exact ge
 | .bl _,e=>by cases e <;> erw[eqD] <;> exact ge
 | .non,e=>by cases e <;> erw[eqD]
theorem jQ:∀l m:List D,uI l m=uI m l
 | [],[]=>rfl
 | [],_::_=>by erw[uI]
 | _::_,[]=>by erw[uI]
 | d::l,e::m=>by erw[uI,WQ d e,jQ l m]
end
mutual section
def cm:Bx->D->D->Bool
 | .Gt,d,e=>ltD e d
 | _,d,e=>ltD d e
def cms:Bx->List D->List D->Bool
 | .Gt,d,e=>uh e d
 | _,d,e=>uh d e
def UO(ho:LG op)(l m:List D):uo op (λj=>eqD (l.getD j .non) (m.getD j .non)) (λj=>cm op (l.getD j .non) (m.getD j .non)) (λi=>cms op (l.drop i) (m.drop i)) l.length m.length:=by
 rcases ho with rfl | rfl
 ·exact Qr l m
 ·intro i b1 b2;have h:=Qr m l i b2 b1;erw[zfA,cm,cms]at h ⊢;rw[h,WQ (m.getD i .non)];by_cases q:i<l.length/\i<m.length
  ·rw[y9 q,y9 q.symm]
  ·rw[z9 q,z9 λz=>q z.symm]
theorem zfo:∀{l m:List D} {j:Nat} {d e:D},Yz l m->l[j]? = BJ d->m[j]? = BJ e->okD d e
 | d::l,e::m,0,_,_,h,q1,q2=>by
  cases q1;cases q2;erw[Yz]at h;exact h.1
 | d::l,e::m,j+1,_,_,h,q1,q2=>by
  erw[Yz]at h;exact zfo (j:=j) h.2 q1 q2
theorem Vt{X:Cx}{H:Hp}{s:tJ}(hl:Iss X.K H l xs)(hm:Iss X.K H m ys)(r:Vals xs its)(r':Vals ys its')(hn:ui l<n)(ok:Yz l m)(ih:∀(d e:D) (x y:V) (u v:tH),dpD d<n->okD d e->Is X.K H d x->Is X.K H e y->RelV x u->RelV y v->ja op A s u v (cm op d e)) :
  ∀j (h1:j<its.toArray.size) (h2:j<its'.toArray.size),ja op A s its.toArray[j] its'.toArray[j] (cm op (l.getD j .non) (m.getD j .non)):=by
 intro j h1 h2;rw[aj]at h1 h2;have e1:=hl.len;have e2:=hm.len;have e3:=r.length;have e4:=r'.length;have g1:l[j]? = BJ l[j]:=ah ⋯;have g2:m[j]? = BJ m[j]:=ah ⋯;generalize l[j]=d at g1;generalize m[j]=e at g2;let#[x,hx,ix]:=hl.at g1;let#[y,hy,iy]:=hm.at g2;let#[u,hu,ru]:=we r hx;let#[v,hv,rv]:=we r' hy
 have q1:its.toArray[j]=u:=by
  have:=(BP.mp hu).2;simpa using this
 have q2:its'.toArray[j]=v:=by
  have:=(BP.mp hv).2;simpa using this
 rw[q1,q2,ac,ac,g1,g2];exact ih d e x y u v (ba (zcy g1) hn) (zfo ok g1 g2) ix iy ru rv
theorem zb9(ho:LG op)(I:Inv X BN σ H s):∀(n:Nat) (A:Af) (d e:D) (x y:V) (u v:tH),A.units+n<cLine->dpD d<n->okD d e->Is X.K H d x->Is X.K H e y->RelV x u->RelV y v->ja op A s u v (cm op d e):=by
 intro n
 induction n with
 | zero=>intro A d e x y u v _ h;exact y6 h (bI _)
 | succ n ih =>
  intro A d e x y u v hu hd ok hx hy rx ry;have hu1:A.units<cLine:=⋯;have huA:A.in1.units+n<cLine:=by show A.units+1+n<cLine;lia
  cases d with
  | int a =>
   cases e with
   | int b =>
    erw[Is]at hx hy;subst hx hy;let#[t,rfl]:=rx;let#[t',rfl]:=ry;rcases ho with rfl | rfl
    ·exact λprog w E Q h=>lt_int h
    ·exact λprog w E Q h=>gt_int h
   | _=>erw[okD]at ok
  | lst l =>
   cases e with
   | lst m =>
    erw[Is]at hx hy;let#[a,xs,rfl,h1,h2]:=hx;let#[b,ys,rfl,g1,g2]:=hy;cases rx;cases ry;let#[its,r,p,_]:=I.list h1;let#[its',r',p',_]:=I.list g1;erw[dpD]at hd;erw[okD]at ok;have L1:=h2.len;have L2:=g2.len;have L3:=r.length;have L4:=r'.length;have st:=UO ho l m;rw[show l.length=its.toArray.size by erw[aj];lia,show m.length=its'.toArray.size by erw[aj];lia]at st
    have r0:=LtAt.lists ho (A:=A) p.isList p'.isList st hu1 (xK h2 g2 r r' (n:=n) ⋯ λd e x y u v q1 q2 q3 q4 q5=>jV I n A.in1 d e x y u v huA q1 q2 q3 q4 q5)
     (λj h1 h2 Z=>Vt (n:=n) (A:=A.in1) (by assumption) g2 r r' ⋯ ok (λd e x y u v q1 q2 q3 q4 q5 q6=>ih A.in1 d e x y u v huA q1 q2 q3 q4 q5 q6) j h1 h2)
    rcases id ho with rfl | rfl <;> exact r0
   | _=>erw[okD]at ok
  | tup l =>
   cases e with
   | tup m =>
    erw[Is]at hx hy;let#[a,xs,rfl,h1,h2]:=hx;let#[b,ys,rfl,g1,g2]:=hy;cases rx;cases ry;let#[its,r,p,_]:=I.tuple h1;let#[its',r',p',_]:=I.tuple g1;erw[dpD]at hd;erw[okD]at ok;have L1:=h2.len;have L2:=g2.len;have L3:=r.length;have L4:=r'.length;have st:=UO ho l m;rw[show l.length=its.toArray.size by erw[aj];lia,show m.length=its'.toArray.size by erw[aj];lia]at st
    have r0:=LtAt.tuples ho (A:=A) p p' st hu1 (xK h2 g2 r r' (n:=n) ⋯ λd e x y u v q1 q2 q3 q4 q5=>jV I n A.in1 d e x y u v huA q1 q2 q3 q4 q5)
     (λj h1 h2 Z=>Vt (n:=n) (A:=A.in1) (by assumption) g2 r r' ⋯ ok (λd e x y u v q1 q2 q3 q4 q5 q6=>ih A.in1 d e x y u v huA q1 q2 q3 q4 q5 q6) j h1 h2)
    rcases id ho with rfl | rfl <;> exact r0
   | _=>erw[okD]at ok
  | non=>cases e <;> erw[okD]at ok
  | bl _=>cases e <;> erw[okD]at ok
  | str _=>cases e <;> erw[okD]at ok
def zaW(I:Inv X BN σ H s):∀(n:Nat) (A:Af) (d e:D) (x y:V) (u v:tH),A.units+n<cLine->dpD d<n->okD d e->Is X.K H d x->Is X.K H e y->RelV x u->RelV y v->LtAt A s u v (ltD d e):=zb9 (.inl rfl) I
def zhe(K:tF):R2:=λx y H Q=>∃d e,Is K H d x/\Is K H e y/\dpD d<50/\okD d e/\Q (.bl (ltD d e)) H
theorem zeD(hu:X.A.units+100<cLine):OpR X (tN .Lt) (zhe X.K):=by intros x y v u Q I rx ry h;let#[d,e,hx,hy,hd,ok,q]:=h;exact zaW I 50 X.A d e x y v u ⋯ hd ok hx hy rx ry X.prog X.w X.xe _ #[.bl _,H,I,rfl,q]
def zdE{K:tF}(h1:Is K H d x)(h2:Is K H e y)(h3:dpD d<50)(h4:okD d e)(q:Q (.bl (ltD d e)) H):zhe K x y H Q:=#[d,e,h1,h2,h3,h4,q]
def ltI:List Int->List Int->Bool
 | a::l,m=>match m with | b::m=>if a=b then ltI l m else decide (a<b) | []=>BM
 | [],m=>match m with | []=>BM | _::_=>BL
theorem j9:∀(l m:List Int),Yz (l.map D.int) (m.map D.int)
 | [],_=>by erw[aJ,Yz]
 | _::_,[]=>by erw[aJ,ao,Yz]
 | a::l,b::m=>by erw[ao,Yz,okD,true_and];exact j9 l m
theorem Xn:∀(l m:List Int),uh (l.map D.int) (m.map D.int)=ltI l m
 | [],[]=>by erw[aJ,uh,ltI]
 | [],_::_=>by erw[aJ,ao,uh,ltI]
 | _::_,[]=>by erw[aJ,ao,uh,ltI]
 | a::l,b::m=>by
  erw[ao,uh,ltI,eqD,ltD,Xn l m,beq_iff_eq]
end
mutual
def xw:D->Prop
 | .lst _=>False
 | .tup l=>z8 l
 | _=>True
def z8:List D->Prop
 | []=>True
 | d::l=>xw d/\z8 l
end
def Yx{K:tF}(hp:H p=BJ (.lst ys))(h:SqT K H a xs):SqT K (upd H p (.lst zs)) a xs:=by
 rcases h with (h | ⟨o,h⟩) | h
 ·refine .inl (.inl ?_);rw[zo (λe=>by rw[e,hp]at h;cases h)];exact h
 ·refine .inl (.inr #[o,?_]);rw[zo (λe=>by rw[e,hp]at h;cases h)];exact h
 ·exact .inr h
mutual
theorem Is.updL{K:tF}(hp:H p=BJ (.lst ys)):∀(d:D) (v:V),xw d->Is K H d v->Is K (upd H p (.lst zs)) d v
 | .non,v,_,h=>by erw[Is]at h ⊢;exact h
 | .bl b,v,_,h=>by erw[Is]at h ⊢;exact h
 | .int b,v,_,h=>by erw[Is]at h ⊢;exact h
 | .str b,v,_,h=>by erw[Is]at h ⊢;exact h
 | .lst l,v,f,h=>by erw[xw]at f
 | .tup l,v,f,h=>by
  erw[Is]at h ⊢;erw[xw]at f;let#[a,xs,e1,e2,e3]:=h;exact#[a,xs,e1,Yx hp e2,Iss.updL hp l xs f e3]
theorem Iss.updL{K:tF}(hp:H p=BJ (.lst ys)):∀(l:List D) (vs:List V),z8 l->Iss K H l vs->Iss K (upd H p (.lst zs)) l vs
 | [],vs,_,h=>by erw[Iss]at h ⊢;exact h
 | d::l,vs,f,h=>by
  erw[Iss]at h ⊢;erw[z8]at f;let#[v,r,e1,e2,e3]:=h;exact#[v,r,e1,Is.updL hp d v f.1 e2,Iss.updL hp l r f.2 e3]
end
mutual section
theorem vc:∀{l:List D},(∀d ∈ l,xw d)->z8 l
 | [],_=>by erw[z8]
 | d::l,h=>by erw[z8];exact#[h d (by simp),vc λe he=>h e (by simp [he])]
theorem Wh : ∀{l:List D},(∀d ∈ l,dpD d<=n)->ui l<=n
 | [],_=>by erw[ui];lia
 | d::l,h=>by
  have h1:=h d (by simp);have h2:=Wh (n:=n) (l:=l) λe he=>h e (by simp [he]);erw[ui];lia
def LsA(K:tF)(H:Hp)(a:tG)(ds:List D):Prop:=∃xs,H a=BJ (.lst xs)/\Iss K H ds xs
def LsA.same{K:tF}{H H':Hp}{a:tG}{ds:List D}(h:LsA K H a ds)(e:Same H H'):LsA K H' a ds:=let #[xs,h1,h2]:=h; #[xs,e _ _ h1,Iss.same e _ _ h2]
def LsA.is{K:tF}(h:LsA K H a ds):Is K H (.lst ds) (.ref a):=by
 let#[xs,h1,h2]:=h;erw[Is];exact#[a,xs,rfl,SqL.of h1,h2]
def LsA.nil{K:tF}:LsA K (upd H a (.lst [])) a []:=#[[],zd,by erw[Iss]]
def LsA.snoc{K:tF}(h1:H a=BJ (.lst xs))(h2:Iss K H ds xs)(f:z8 ds)(fd:xw d)(hv:Is K H d v):LsA K (upd H a (.lst (xs ++ [v]))) a (ds ++ [d]) :=
 #[_,zd,Iss.append (Iss.updL h1 _ _ f h2) (by erw[Iss];exact#[v,[],rfl,Is.updL h1 _ _ fd hv,rfl])]
def Is.tup{K:tF}{H:Hp}{p:tG}{vs:List V}{ds:List D}(hp:H p=BK)(h:Iss K H ds vs):Is K (upd H p (.tup vs)) (.tup ds) (.ref p):=by
 erw[Is];exact#[p,vs,rfl,SqT.of zd,Iss.same (zf hp) _ _ h]
abbrev dS(l:()):D:=⇑l
abbrev zK:=() × ()
def dR(r:zK):D:=.tup [dS r.1,dS r.2]
def zeK{K:tF}(h:Is K H (dR r) v):∃p,v=.ref p/\SqT K H p [⇑r.1,⇑r.2]:=by
 erw[dR,Is,Iss]at h;let#[a,xs,e,hs,v1,r1,rfl,rfl,v2,r2,rfl,rfl,rfl]:=h;exact#[a,e,hs]
def zgm{K:tF}(h:SqT K H p [⇑l,⇑m]):Is K H (dR (l,m)) (.ref p):=by
 erw[dR,Is,Iss];exact#[p,_,rfl,h,_,_,rfl,rfl,_,_,rfl,rfl,rfl]
def zdg(r:zK):xw (dR r):=by erw[dR,xw,z8,and_self]
theorem zgk(r:zK):dpD (dR r)<=1:=by erw[dR,dpD,ui];lia
def WJ(rs:List zK):z8 (rs.map dR):=vc λd h=>by let#[r,_,rfl]:=BQ.mp h;exact zdg r
def Jy(rs:List zK):ui (rs.map dR)<=1:=Wh λd h=>by let#[r,_,rfl]:=BQ.mp h;exact zgk r
abbrev N3:=Nat × Nat × Nat
def d3(t:N3):D:=.tup [.int (t.1:Nat),.int (t.2.1:Nat),.int (t.2.2:Nat)]
def zg9{K:tF}(h:Is K H (d3 t) v):∃p,v=.ref p/\SqT K H p [.int (t.1:Nat),.int (t.2.1:Nat),.int (t.2.2:Nat)]:=by
 erw[d3,Is,Iss]at h;let#[a,xs,e,hs,v1,r1,rfl,rfl,v2,r2,rfl,rfl,v3,r3,rfl,rfl,rfl]:=h;exact#[a,e,hs]
def zfE{K:tF}:Iss K H [.int (i:Nat),.int (j:Nat),.int (k:Nat)] [.int (i:Nat),.int (j:Nat),.int (k:Nat)]:=by
 erw[Iss,Is];exact#[_,_,rfl,rfl,_,_,rfl,rfl,_,_,rfl,rfl,rfl]
def zcN(t:N3):xw (d3 t):=by erw[d3,xw,z8,and_self]
def W9(rs:List N3):z8 (rs.map d3):=vc λd h=>by let#[r,_,rfl]:=BQ.mp h;exact zcN r
theorem Iss.get{K:tF}{j:Nat}(h:Iss K H l vs)(q:vs[j]? = BJ v):∃d,l[j]? = BJ d/\Is K H d v:=by have hj:=(BP.mp q).1;have hl:=h.len;have g1:l[j]? = BJ l[j]:=ah ⋯;let#[x,hx,ix]:=h.at g1;rw[q]at hx;cases hx;exact#[_,g1,ix]
def Iss.getR{K:tF}{rs:List zK}{j:Nat}(h:Iss K H (rs.map dR) vs)(q:vs[j]? = BJ v):∃r p,rs[j]? = BJ r/\v=.ref p/\SqT K H p [⇑r.1,⇑r.2]:=by let#[d,e,i]:=h.get q;rw[au]at e;let#[r,hr,rfl]:=BW.mp e;let#[p,e1,e2]:=zeK i;exact#[r,p,hr,e1,e2]
def Iss.get3{K:tF}{rs:List N3}{j:Nat}(h:Iss K H (rs.map d3) vs)(q:vs[j]? = BJ v):∃r p,rs[j]? = BJ r/\v=.ref p/\SqT K H p [.int (r.1:Nat),.int (r.2.1:Nat),.int (r.2.2:Nat)]:=by let#[d,e,i]:=h.get q;rw[au]at e;let#[r,hr,rfl]:=BW.mp e;let#[p,e1,e2]:=zg9 i;exact#[r,p,hr,e1,e2]
theorem za5(l:List α)(h0:0<=a)(h1:a<=b):cut l (BJ a) (BJ b)=(l.drop a.toNat).take (b - a).toNat:=by
 by_cases h2:b<=l.length
 ·exact Zt l h0 h1 h2
 ·let#[m,rfl]:=br h0;let#[n,rfl]:=br (by lia:0<=b);unfold cut;rw[HT.sIx_nat,HT.sIx_nat,d7 (by lia:l.length<=n)];have e:(((n:Nat):Int) - ((m:Nat):Int)).toNat=n - m:=⋯;have e2:((m:Nat):Int).toNat=m:=rfl;rw[e,e2,bg (l:=l.drop m) (by rw[bq];lia)];by_cases hm:m<=l.length
  ·rw[dJ hm,bg (by rw[bq];lia)]
  ·rw[d7 ⋯,bh (ak _),bh ⋯,List.take_nil]
def Y7(ns:List Int)(h0:0<=a)(h1:a<=b):zay (ns.map V.int) (BJ a) (BJ b)=((ns.drop a.toNat).take (b - a).toNat).map V.int:=by have e:zay (ns.map V.int) (BJ a) (BJ b)=cut (ns.map V.int) (BJ a) (BJ b):=rfl;rw[e,za5 _ h0 h1,d4,d5]
end
open Classical in
section
variable{X:Cx}{BN:List (tG × Au)}{σ:L2.St}{H:Hp}{s:tJ}
open Classical in
end
mutual section
structure DM(P:tL)(w:tP)(K:tF)(mg:tK->Option tH)(base:tT)(CX:CXT)(k:Nat)(C:tG)(m:tK)(ps:List tK)(sp:Sp):Prop where
 ex:∃f fd,zfe K C m f/\zV P w K mg base CX k f fd ps sp/\Binds K fd ps []
structure DMk(P:tL)(w:tP)(K:tF)(mg:tK->Option tH)(base:tT)(CX:CXT)(k:Nat)(C:tG)(ps:List tK)(sp:Sp):Prop where
 ex:∃f fd,Mk K C f/\zV P w K mg base CX k f fd ps sp/\Binds K fd ps []
def me0(D:DM X.prog X.w X.K X.mg X.base CX0 k C m ps sp)(c:Cls X.K C)(hr:Room j X.A)(he:PE X o ta)(ht:eval (.Call (.Attribute o m apos) [] [] pos) X.env=(do
      let ov <- eval o X.env
      standAt apos.atName
      let (f,first) <- holding [ov] (getMethod ov m pl)
      callWith pos f first (tS pos (tD [] X.env)) (Aa pos (tR [] X.env))):=by rfl) (hj:‹k<=j›):PE X (.Call (.Attribute o m apos) [] [] pos) (ZG C m sp [] E0 ta xI):=by let#[f,fd,hm,F,hb]:=D.ex;exact Kp he c hm F (hr.mono hj) hb .nil X6 ht
def me1(D:DM X.prog X.w X.K X.mg X.base CX0 k C m ps sp)(c:Cls X.K C)(hr:Room j X.A)(he:PE X o ta)(ha:PA X (e::es) t)(hst:‹tD (e::es) X.env=(BM,eval e X.env)::tD es X.env›)(hpl:‹(tS pos (tD es X.env)).any (·.1)=BM›)(ht:eval (.Call (.Attribute o m apos) (e::es) [] pos) X.env=(do
      let ov <- eval o X.env
      standAt apos.atName
      let (f,first) <- holding [ov] (getMethod ov m pl)
      callWith pos f first (tS pos (tD (e::es) X.env)) (Aa pos (tR [] X.env))):=by rfl) (hj:‹k<=j›):PE X (.Call (.Attribute o m apos) (e::es) [] pos) (ZG C m sp [] E0 ta t):=by let#[f,fd,hm,F,hb]:=D.ex;exact zcs he c hm F (hr.mono hj) hb .nil X6 ha hst hpl ht
def mkC(D:DMk X.prog X.w X.K X.mg X.base CX0 k C ps sp)(hr:Room j X.A)(hg:Gl X x)(hm:X.mg x=BJ (.ref C))(ha:PA X (e::es) t)(hdb:‹(x ==("__debug__" : tK))=BM›)(he:‹tD (e::es) X.env=(BM,eval e X.env)::tD es X.env›)(hpl:‹(tS pos (tD es X.env)).any (·.1)=BM›) (hj:‹k+1<=j›):PE X (.Call (.Name x p) (e::es) [] pos) (QP C sp [] E0 t):=by let#[f,fd,M,F,hb]:=D.ex;exact Jr M F (hr.mono hj) hg hm hb .nil X6 ha hdb he hpl
def zw(Fam:tG->Prop)(m:tK)(sp:tG->Sp)(dvs:List V)(E:XK)(ta:TE)(t:TA):TE:=λσ H Q=>ta σ H λx H1=>∃C a dx fs,Fam C/\x=.ref a/\H1 a=BJ (.ins C dx fs)/\fs.lookup m=BK /\
 t σ H1 λvs H2=>sp C (x::(vs ++ dvs)) H2 Q E
structure DMF(P:tL)(w:tP)(K:tF)(mg:tK->Option tH)(base:tT)(CX:CXT)(k:Nat)(Fam:tG->Prop)(m:tK)(ps:List tK)(sp:tG->Sp):Prop where
 ex:∀C,Fam C->Cls K C/\DM P w K mg base CX k C m ps (sp C)
def zdX(D:DMF X.prog X.w X.K X.mg X.base CX0 k Fam m ps sp)(hr:Room j X.A)(he:PE X o ta)(ha:PA X (e::es) t)(hst:‹tD (e::es) X.env=(BM,eval e X.env)::tD es X.env›)(hpl:‹(tS pos (tD es X.env)).any (·.1)=BM›)(ht:eval (.Call (.Attribute o m apos) (e::es) [] pos) X.env=(do
      let ov <- eval o X.env
      standAt apos.atName
      let (f,first) <- holding [ov] (getMethod ov m pl)
      callWith pos f first (tS pos (tD (e::es) X.env)) (Aa pos (tR [] X.env))):=by rfl) (hj:‹k<=j›):PE X (.Call (.Attribute o m apos) (e::es) [] pos) (zw Fam m sp [] E0 ta t):=by intros Q I h;refine cD (pl:=pl) (thn (he BN s σ H _ I h) λu s1=>el5 λx H1 I1 rx q_z=>?_) ht;let#[C,a,dx,fs,fam,ex,ea,l,q]:=q_z;subst ex;obtain rfl:u=u9 a:=rx;let#[c,#[f,fd,hm,F,hb]]:=D.ex C fam;refine wn I1 ea c hm l ?_;refine bZ (first:=[.ref a]) (h₀:=X.base) I.ok.mod.kin hm.kp (thn (ha pos BN s1 σ H1 _ I1 q) λus s2=>el5 λvs H2 I2 r q2=>#[I2.kIn,?_]) hst hpl;exact kW (us:=.ref a::us) (vs:=.ref a::vs) F (hr.mono hj) hb .nil X6 I2 (.cons rfl r) q2
theorem W8:∀{ns:List Int} {its:List tH},Vals (ns.map V.int) its->Bq its ns
 | [],_,.nil=>.nil
 | n::ns,_,.cons r t=>by
  let#[tk,rfl]:=r;exact .cons n tk (W8 t)
def yo(K:tF):List V->Hp->VK->Prop:=λxs H Q=>∃(p:tG) (ns:List Int),xs=[.ref p]/\SqL K H p (ns.map V.int)/\Q (.int ns.sum) H
def zfj(hc:X.calm=BL):uf X (.builtin "sum") (yo X.K):=by
 intros xs us Q I r h;let#[p,ns,rfl,hS,q]:=h;let#[u,rfl,ru]:=vf r;cases ru;let#[its,rv,pl,hz]:=I.list hS;have hh:X.A.handled=BK:=I.ok.hd hc;have ia:=W8 rv;let#[ps,e]:=ia.allInts.items
 have en:ps.toList.map (·.1)=ns:=by
  rw[<- nums_intItems,<- e];exact ia.numsOf
 refine sum_intListG hh (by rw[<- e];exact pl.isList) λh' tk t' hk=>?_;rw[preSum_eq,bg (by simp),en];exact#[.int ns.sum,H,I.kept hk,#[_,rfl],q]
theorem V8(l:()):((r9 BK BK (-1) (tx l).length).filterMap ((tx l).cps[·]?))=l.reverse:=by
 rw[yj,picked_rev];have e:(tx l).cps=l.toArray:=rfl;rw[e];apply List.ext_getElem?;intro i
 have h:((aM l.length).map λk=>l.length - 1 - k).filterMap (l.toArray[·]?)=(aM l.length).map λk=>l.getD (l.length - 1 - k) 0:=by
  rw[filterMap_get,bc]
  ·refine bp λk Z=>?_;show l.toArray.getD (l.length - 1 - k) 0=_;simp [fZ,List.getD];split <;> simp_all
  ·intro i hi;let#[k,hk,rfl]:=BQ.mp hi;have:=BX.mp hk;show _<l.toArray.size;rw[aj];lia
 rw[h];by_cases hi:i<l.length
 ·rw[bG hi,au,eM hi];show BJ (l.getD (l.length - 1 - i) 0)=_;rw[ac,ah ⋯];rfl
 ·rw[cE (by simp;lia),cE (by simp;lia)]
def yn(te ts:TE):TE:=λσ H Q=>te σ H λx H1=>ts σ H1 λy H2=>y=.int (-1)/\∃l:(),x=⇑l/\l.length<=tE/\Q ⇑l.reverse H2
end
section
variable{X:Cx}{e st:Aq}{te ts:TE}{pos p2:BD}
def zda(he:PE X e te)(hs:PE X st ts):PE X (.Subscript e (.Slice BK BK (BJ st) p2) pos) (yn te ts):=by
 intros Q I h;refine BA (thn (he BN s σ H _ I h) λv s1=>el5 λx H1 I1 r1 q1=>?_);refine wpAny_Slice ?_;rw[evalPart_none];refine tz (tz ?_);rw[evalPart_some];refine thn (hs BN s1 σ H1 _ I1 q1) λu s2=>el5 λy H2 I2 r2 q_z=>?_;let#[ey,l,ex,hl,q2]:=q_z;subst ey ex;let#[t,rfl]:=r1;let#[tk,rfl]:=r2;have I4:Inv X BN σ H2 { s2 with heap:=s2.heap.push { cls:=.type "slice",data:=.fields (w4 [.none,.none,.int (-1) tk]) } }:=I2.kept (t':=s2.toks) λb ob q=>ae _ q;show tI (model X.prog X.w) X.A (Bh e (.Slice BK BK (BJ st) p2) (.str (tx l) t) (.ref s2⁻¹)) (EP X BN σ Q) X.xe { s2 with heap:=s2.heap.push { cls:=.type "slice",data:=.fields (w4 [.none,.none,.int (-1) tk]) } };refine tail_any (ops:=[.ref s2⁻¹,.str (tx l) t]) (typeIs_str _ (tx l) t) slot_str_getitem.lookup ?_ (by with_unfolding_all rfl);refine AJ (l:=BK) (u:=BK) (st:=BJ (-1,tk)) (Heap.IsSliceOf.new ..) rfl ?_;unfold sliceMade slicePicked
 have hc':¬ (((BJ ((-1:Int),tk)).map (·.1)).getD 1 == 1 && (r9 ((BK:Option (Int × AV)).map (·.1)) ((BK:Option (Int × AV)).map (·.1)) (((BJ ((-1:Int),tk)).map (·.1)).getD 1) (tx l).length).length ==(tx l).length)=BL:=by
  have:(((BJ ((-1:Int),tk)).map (·.1)).getD 1 == 1)=BM:=rfl;rw[this];simp
 rw[z9 hc']
 have e:Str.mk ((r9 BK BK (-1) (tx l).length).filterMap ((tx l).cps[·]?)).toArray=tx l.reverse:=by
  rw[V8]
 show (Str.mk ((r9 BK BK (-1) (tx l).length).filterMap ((tx l).cps[·]?)).toArray).length<=tE/\_;rw[e];refine#[by rw[yj,di];exact hl,?_]
 exact#[⇑l.reverse,H2,I4.tok _,#[_,by
  show Value.str (Str.mk ((r9 BK BK (-1) (tx l).length).filterMap ((tx l).cps[·]?)).toArray) _=_
  rw[e]],q2]
end
mutual section
structure zhQ(K:tF)(C:tG)(m:tK)(f:tG):Prop where
 sg:dc K (.ref C) "__getattribute__" = BJ (BJ (.builtin "type.__getattribute__"))
 rd:gy K C (.type "type")=BL
 fc:gz K (.ref C) (.type "type") m=BJ (.val (.ref f))
 kp:aK K (.ref f)=BL
structure DC(P:tL)(w:tP)(K:tF)(mg:tK->Option tH)(base:tT)(CX:CXT)(k:Nat)(C:tG)(m:tK)(ps:List tK)(sp:Sp):Prop where
 ex:∃f fd,zhQ K C m f/\zV P w K mg base CX k f fd ps sp/\Binds K fd ps []
def zco(D:DC X.prog X.w X.K X.mg X.base CX0 k C m ps sp)(hr:Room j X.A)(hg:Gl X x)(hm:X.mg x=BJ (.ref C))(ha:PA X (e::es) t)(hdb:‹(x ==("__debug__" : tK))=BM›)(hst:‹tD (e::es) X.env=(BM,eval e X.env)::tD es X.env›)(hpl:‹(tS pos (tD es X.env)).any (·.1)=BM›)(ht:eval (.Call (.Attribute (.Name x p) m apos) (e::es) [] pos) X.env=(do
      let ov <- eval (.Name x p) X.env
      standAt apos.atName
      let (f,first) <- holding [ov] (getMethod ov m pl)
      callWith pos f first (tS pos (tD (e::es) X.env)) (Aa pos (tR [] X.env))):=by rfl) (hj:‹k<=j›):PE X (.Call (.Attribute (.Name x p) m apos) (e::es) [] pos) (uZ sp [] E0 t):=by let#[f,fd,cm,F,hb]:=D.ex;have hn:PE X (.Name x p) (tC (.ref C)):=yy hg hm rfl hdb;intros Q I h;refine cD (pl:=pl) (thn (hn BN s σ H (λy H1=>y=.ref C/\H1=H) I #[rfl,rfl]) λu s1=>el5 λy H1 I1 ry q_z=>?_) ht;let#[ey,eH]:=q_z;subst ey eH;obtain rfl:u=u9 C:=ry;refine PySem.W.method_cls I1.kIn cm.sg (PySem.W.cls_value I1.kIn cm.rd cm.fc rfl ?_);refine bZ (first:=[]) (h₀:=X.base) I.ok.mod.kin cm.kp (thn (ha pos BN _ σ H1 _ (I1.tok _) h) λus s2=>el5 λvs H2 I2 r q2=>#[I2.kIn,?_]) hst hpl;exact kW (us:=us) (vs:=vs) F (hr.mono hj) hb .nil X6 I2 r q2
def zx:V->List V->Hp->VK->Prop:=λx xs H Q=>∃(z y:tK) (i:Nat),x=.str z/\xs=[.str y]/\PySem.Txt.find z y=(i:Int)/\Q (.int (i:Nat)) H
theorem QX:MtR X "str.index" zx:=by
 intros x xs v us Q I rx rv h;let#[z,y,i,rfl,rfl,hf,q]:=h;let#[t,rfl]:=rx;let#[u,rfl,t',rfl]:=vf rv;unfold PySem.Txt.find at hf
 cases ho:Builtin.Str.occurrences z y 0 z.length 1 with
 | nil=>rw[ho]at hf;dsimp only at hf;lia
 | cons a r =>
  rw[ho]at hf;have:a=i:=by dsimp only at hf;lia
  subst this;exact PySem.SC.index ho #[.int _,H,I.tok _,#[_,rfl],q]
def vz{h h':tT}(y:h.IsStrIter a ty x t i)(e:∀o,h.get? a=BJ o->h'.get? a=BJ o):h'.IsStrIter a ty x t i:=let #[o,ho,r]:=y; #[o,e o ho,r]
def uw{h h':tT}(y:h.IsTupleIter a t i)(e:∀o,h.get? a=BJ o->h'.get? a=BJ o):h'.IsTupleIter a t i:=let #[o,ho,r]:=y; #[o,e o ho,r]
def za9{h h':tT}(y:h.IsTuple a xs)(e:∀o,h.get? a=BJ o->h'.get? a=BJ o):h'.IsTuple a xs:=let #[o,ho,r]:=y; #[o,e o ho,r]
def sit(x:tK):tV x="str_ascii_iterator"\/tV x="str_iterator":=by
 unfold tV;split
 ·exact .inl rfl
 ·exact .inr rfl
def jZ(hit:s.heap.IsStrIter it (tV x) x t i)(hx:x.cps[i]? = BJ c)(hQ:∀h',h'.IsStrIter it (tV x) x t (i+1)->Heap.SameBut it s.heap h'->Q (.str ⟨#[c]⟩ s.toks) { s with heap:=h',toks:=s.toks+1 }) :
  tI (model prog w) A (Builtin.SmallTypes.nextOf (.ref it)) Q E s:=by
 rcases sit x with e | e
 ·rw[e]at hit hQ;exact wpAny_nextOf_ascii_item hit hx hQ
 ·rw[e]at hit hQ;exact wpAny_nextOf_wide_item hit hx hQ
def ky(hh:A.handled=BK)(hit:s.heap.IsStrIter it (tV x) x t i)(hx:x.cps[i]? = BK)(hE:∀h' e,Heap.ExtBut it s.heap h'->(∃o,h'.get? e=BJ o/\o.cls=.type "StopIteration")->E (.ref e) { s with heap:=h' }) :
  tI (model prog w) A (Builtin.SmallTypes.nextOf (.ref it)) Q E s:=by
 rcases sit x with e | e
 ·rw[e]at hit;exact wpAny_nextOf_ascii_end hh hit hx hE
 ·rw[e]at hit;exact wpAny_nextOf_wide_end hh hit hx hE
def j6(hit:s.heap.IsTupleIter it t i)(ht:s.heap.IsTuple t items)(hx:items[i]? = BJ x)(hQ:∀h',h'.IsTupleIter it t (i+1)->Heap.SameBut it s.heap h'->Q x { s with heap:=h' }) :
  tI (model prog w) A (Builtin.SmallTypes.nextOf (.ref it)) Q E s:=by
 let#[o,ho,hc,hd]:=id hit;let#[ol,hol,_,nl,hdl]:=ht;unfold Builtin.SmallTypes.nextOf
 refine tw (wpAny_callSpecial?_slot (name:=bO "__next__") hit.typeIs F.slot_tuple_iterator_next
  (AK F.slot_tuple_iterator_next hit.typeIs F.entry_tuple_iterator_next ?_ (F.args_tuple_iterator_next_1 _)))
 show tI _ _ (field (.ref it) 0 >>= _) _ _ s;refine tw (tQ ho hd (x:=.ref t) rfl ?_);show tI _ _ (if (u9 t == u6)=BL then _ else _) _ _ s;rw[z9 (show ¬ ((u9 t == u6)=BL)from aD)];show tI _ _ (field (.ref it) 1 >>= _) _ _ s;refine tw (tQ ho hd (x:=.int i 0) rfl ?_);show tI _ _ (seqItems? (.ref t) >>= _) _ _ s;refine tw (Ac hol hdl ?_);erw[aO,hx];refine tw (Ah ho hd (by simp) (tz #[x,rfl,tz (hQ _ ?_ (Heap.SameBut.update ..))]))
 exact#[_,bU _ ho (Obj.isFreed_of_fields (Obj.data_mapFields hd _)),(Obj.cls_mapFields ..).trans hc,by
  rw[Obj.data_mapFields hd];simp [rawInt]]
structure zeV(z TI TO i1 i2 l2:tG):Prop extends zbb z TI TO i1 i2 where
 l2z:l2≠z
 l2TO:l2≠TO
 l2i1:l2≠i1
 l2i2:l2≠i2
def KP{z TI TO i1 i2 l2:tG}{tx:AV}{Q:tH->tJ->Prop}(D:zeV z TI TO i1 i2 l2)(hz:AG s.heap z TI TO .none)(hTI:Ai s.heap TI (.ref i1) (.ref i2))(hTO:Ai s.heap TO a b)(h1:s.heap.IsStrIter i1 (tV X) X tx k)(h2:s.heap.IsTupleIter i2 l2 k)(hl2:s.heap.IsTuple l2 ys)(hx:X.cps[k]? = BJ c)(hy:ys[k]? = BJ y)(hQ:∀h' t',AG h' z TI TO (rawInt s⁻¹)->Ai h' TO (.str ⟨#[c]⟩ t') y->h'.IsStrIter i1 (tV X) X tx (k+1)->h'.IsTupleIter i2 l2 (k+1)->Ai h' s⁻¹ (.str ⟨#[c]⟩ t') y->h'.objs.size=s⁻¹+1 ->
   (∀c o,c≠z->c≠TO->c≠i1->c≠i2->s.heap.get? c=BJ o->h'.get? c=BJ o)->Q (.ref s⁻¹) { s with heap:=h',toks:=s.toks+1 }) :
  tI (model prog w) A (Builtin.«zip.__next__» #[[.ref z],[]]) (λfin s'=>∃v,fin=.done (.ret v)/\Q v s') E s:=by
 show tI _ _ (field (.ref z) 2 >>= _) _ _ _;refine tw (tQ hz rfl (x:=.bool BM) rfl ?_);show tI _ _ (field (.ref z) 3 >>= _) _ _ _;refine tw (tQ hz rfl (x:=.ref TI) rfl ?_);refine tw (Ac hTI rfl ?_);show tI _ _ (Builtin.SmallTypes.ownedTupleIsFree (.ref z) >>= _) _ _ _;refine tw ?_;unfold Builtin.SmallTypes.ownedTupleIsFree;refine tw (tQ hz rfl (x:=.none) rfl (tz ?_));erw[if_true];refine tw (AM ?_);refine tw (tQ hz rfl (x:=.ref TO) rfl ?_);refine tw (Al hz (by simp) λh₁ hz₁ hs₁=>?_)
 replace hz₁:AG h₁ z TI TO .ellipsis:=hz₁
 refine tw ?_;erw[List.zipIdx_cons,List.zipIdx_nil,dI,fS];refine tw (tw (Bf ?_));show tI _ _ (Builtin.SmallTypes.nextOf (.ref i1) >>= _) _ _ _;refine tw (jZ (s:={ s with heap:=h₁ }) (vz h1 λo e=>hs₁.extBut _ _ D.i1z e) hx λh₂ h1₂ hs₂=>tz ?_);have hTO₂:Ai h₂ TO a b:=hs₂.extBut _ _ D.TOi1 (hs₁.extBut _ _ D.TOz hTO);refine tw (Ac hTO₂ rfl ?_);refine tw (AW hTO₂ λh₃ hTO₃ hs₃=>?_)
 replace hTO₃:Ai h₃ TO (.str ⟨#[c]⟩ s.toks) b:=hTO₃
 refine tw (Ax (tz ?_));refine tw (tw (Bf ?_));show tI _ _ (Builtin.SmallTypes.nextOf (.ref i2) >>= _) _ _ _;have up3:∀d o,d≠z->d≠i1->d≠TO->s.heap.get? d=BJ o->h₃.get? d=BJ o:=λd o d1 d2 d3 e=>hs₃.extBut _ _ d3 (hs₂.extBut _ _ d2 (hs₁.extBut _ _ d1 e));refine tw (j6 (uw h2 λo e=>up3 _ o D.i2z D.i12.symm D.TOi2.symm e) (za9 hl2 λo e=>up3 _ o D.l2z D.l2i1 D.l2TO e) hy λh₄ h2₄ hs₄=>tz ?_);have hTO₄:Ai h₄ TO (.str ⟨#[c]⟩ s.toks) b:=hs₄.extBut _ _ D.TOi2 hTO₃;refine tw (Ac hTO₄ rfl ?_);refine tw (AW hTO₄ λh₅ hTO₅ hs₅=>?_)
 replace hTO₅:Ai h₅ TO (.str ⟨#[c]⟩ s.toks) y:=hTO₅
 refine tw (Ax (tz (tz ?_)));refine tw (Ac hTO₅ rfl ?_);refine tw (wpAny_newTuple ?_);have hsz:h₅.objs.size=s⁻¹:=by rw[hs₅.1,hs₄.1,hs₃.1,hs₂.1,hs₁.1]
 have hz₅:AG h₅ z TI TO .ellipsis:=hs₅.extBut _ _ D.TOz.symm (hs₄.extBut _ _ D.i2z.symm (hs₃.extBut _ _ D.TOz.symm (hs₂.extBut _ _ D.i1z.symm hz₁)))
 have hk₅:∀c o,c≠z->c≠TO->c≠i1->c≠i2->s.heap.get? c=BJ o->h₅.get? c=BJ o:=λc o c1 c2 c3 c4 e =>
  hs₅.extBut _ _ c2 (hs₄.extBut _ _ c4 (up3 _ _ c1 c3 c2 e))
 have h1₅:h₅.IsStrIter i1 (tV X) X tx (k+1):=vz h1₂ λo e=>hs₅.extBut _ _ D.TOi1.symm (hs₄.extBut _ _ D.i12 (hs₃.extBut _ _ D.TOi1.symm e));have h2₅:h₅.IsTupleIter i2 l2 (k+1):=uw h2₄ λo e=>hs₅.extBut _ _ D.TOi2.symm e;have hzlt:z<h₅.objs.size:=av hz₅;show tI _ _ (Builtin.SmallTypes.ownedTupleHandOut (.ref z) (.ref h₅.objs.size) >>= _) _ _ _;refine tw ?_;unfold Builtin.SmallTypes.ownedTupleHandOut;have hz₆:AG (h₅.push { cls:=.type "tuple",data:=.seq (w4 [.str ⟨#[c]⟩ s.toks,y]) }) z TI TO .ellipsis:=ae _ hz₅;refine tw (Al hz₆ (by simp) λh₇ hz₇ hs₇=>?_)
 replace hz₇:AG h₇ z TI TO (rawInt h₅.objs.size):=hz₇
 refine Al hz₇ (by simp) λh₈ hz₈ hs₈=>?_
 replace hz₈:AG h₈ z TI TO (rawInt h₅.objs.size):=hz₈
 have up:∀c o,c≠z->h₅.get? c=BJ o->h₈.get? c=BJ o:=λc o c1 e=>hs₈.extBut _ _ c1 (hs₇.extBut _ _ c1 (ae _ e));have hT₈:Ai h₈ h₅.objs.size (.str ⟨#[c]⟩ s.toks) y:=hs₈.extBut _ _ (cB hzlt) (hs₇.extBut _ _ (cB hzlt) (aE _ rfl));have hz8:h₈.objs.size=h₅.objs.size+1:=by rw[hs₈.1,hs₇.1,cj]
 rw[hsz]at hz₈ hT₈ hz8;refine tz #[_,rfl,?_];show Q (.ref h₅.objs.size) _;rw[hsz];exact hQ h₈ s.toks hz₈ (up _ _ D.TOz hTO₅) (vz h1₅ λo e=>up _ o D.i1z e) (uw h2₅ λo e=>up _ o D.i2z e) hT₈ hz8 λc o c1 c2 c3 c4 e=>up c o c1 (hk₅ c o c1 c2 c3 c4 e)
def zc6{z TI TO i1 i2 l2:tG}{tx:AV}(hh:A.handled=BK)(D:zeV z TI TO i1 i2 l2)(hz:AG s.heap z TI TO .none)(hTI:Ai s.heap TI (.ref i1) (.ref i2))(hTO:Ai s.heap TO a b)(h1:s.heap.IsStrIter i1 (tV X) X tx k)(hx:X.cps[k]? = BK)(hE:∀h' e,(∀c o,c≠z->c≠TO->c≠i1->c≠i2->s.heap.get? c=BJ o->h'.get? c=BJ o)->(∃o,h'.get? e=BJ o/\o.cls=.type "StopIteration")->E (.ref e) { s with heap:=h' }) :
  tI (model prog w) A (Builtin.«zip.__next__» #[[.ref z],[]]) Q E s:=by
 show tI _ _ (field (.ref z) 2 >>= _) _ _ _;refine tw (tQ hz rfl (x:=.bool BM) rfl ?_);show tI _ _ (field (.ref z) 3 >>= _) _ _ _;refine tw (tQ hz rfl (x:=.ref TI) rfl ?_);refine tw (Ac hTI rfl ?_);show tI _ _ (Builtin.SmallTypes.ownedTupleIsFree (.ref z) >>= _) _ _ _;refine tw ?_;unfold Builtin.SmallTypes.ownedTupleIsFree;refine tw (tQ hz rfl (x:=.none) rfl (tz ?_));erw[if_true];refine tw (AM ?_);refine tw (tQ hz rfl (x:=.ref TO) rfl ?_);refine tw (Al hz (by simp) λh₁ hz₁ hs₁=>?_)
 replace hz₁:AG h₁ z TI TO .ellipsis:=hz₁
 refine tw ?_;erw[List.zipIdx_cons,List.zipIdx_nil,dI,fS];refine tw (tw (Bf ?_));show tI _ _ (Builtin.SmallTypes.nextOf (.ref i1) >>= _) _ _ _;refine tw (ky (s:={ s with heap:=h₁ }) hh (vz h1 λo e=>hs₁.extBut _ _ D.i1z e) hx λh₂ e hs₂ he=>?_);let#[oe,hoe,hce]:=he;have hz₂:AG h₂ z TI TO .ellipsis:=hs₂ _ _ D.i1z.symm hz₁;have hez:e≠z:=λx=>by subst x;rw[hz₂]at hoe;cases hoe;simp at hce
 refine Al hz₂ (by simp) λh₃ Z hs₃=>hE h₃ e (λc o c1 Z c3 Z x=>hs₃.extBut _ _ c1 (hs₂ _ _ c3 (hs₁.extBut _ _ c1 x))) #[oe,hs₃.extBut _ _ hez hoe,hce]
def jk{z TI TO i1 i2 l2:tG}{tx:AV}(D:zeV z TI TO i1 i2 l2)(hz:AG s.heap z TI TO .none)(hTI:Ai s.heap TI (.ref i1) (.ref i2))(hTO:Ai s.heap TO a b)(h1:s.heap.IsStrIter i1 (tV X) X tx k)(h2:s.heap.IsTupleIter i2 l2 k)(hl2:s.heap.IsTuple l2 ys)(hx:X.cps[k]? = BJ c)(hy:ys[k]? = BJ y)(hQ:∀h' t',AG h' z TI TO (rawInt s⁻¹)->Ai h' TO (.str ⟨#[c]⟩ t') y->h'.IsStrIter i1 (tV X) X tx (k+1)->h'.IsTupleIter i2 l2 (k+1)->Ai h' s⁻¹ (.str ⟨#[c]⟩ t') y->h'.objs.size=s⁻¹+1 ->
   (∀c o,c≠z->c≠TO->c≠i1->c≠i2->s.heap.get? c=BJ o->h'.get? c=BJ o)->Q (BJ (.ref s⁻¹)) { s with heap:=h',toks:=s.toks+1 }) :
  tI (model prog w) A (pyNext (.ref z)) Q E s:=by
 have hT:s.TypeIs (.ref z) "zip":=#[_,hz,rfl];unfold pyNext
 exact tw (AA (wpAny_callSpecial?_slot (name:=bO "__next__") hT F.slot_zip_next
  (AK F.slot_zip_next hT F.entry_zip_next
   (KP D hz hTI hTO h1 h2 hl2 hx hy λh' t' a1 a2 a3 a4 a5 a6 a7=>tz (hQ h' t' a1 a2 a3 a4 a5 a6 a7)) (F.args_zip_next_1 _))))
def kK{z TI TO i1 i2 l2:tG}{tx:AV}(hh:A.handled=BK)(D:zeV z TI TO i1 i2 l2)(hz:AG s.heap z TI TO .none)(hTI:Ai s.heap TI (.ref i1) (.ref i2))(hTO:Ai s.heap TO a b)(h1:s.heap.IsStrIter i1 (tV X) X tx k)(hx:X.cps[k]? = BK)(hQ:∀h',(∀c o,c≠z->c≠TO->c≠i1->c≠i2->s.heap.get? c=BJ o->h'.get? c=BJ o)->Q BK { s with heap:=h' }):tI (model prog w) A (pyNext (.ref z)) Q E s:=by
 have hT:s.TypeIs (.ref z) "zip":=#[_,hz,rfl];unfold pyNext
 refine tw (AA (wpAny_callSpecial?_slot (name:=bO "__next__") hT F.slot_zip_next
  (AK F.slot_zip_next hT F.entry_zip_next (zc6 hh D hz hTI hTO h1 hx λh' e hk he=>?_) (F.args_zip_next_1 _))))
 let#[o,ho,hc]:=he;refine tw (wpAny_isInstance (T:="StopIteration") (b:=BL) #[o,ho,hc] isSubtype_stop ?_);exact tz (hQ _ hk)
abbrev zfY(h:tT)(x:tK)(t:AV):tT:=h.push { cls:=.type (tV x),data:=.fields (w4 [.str x t,.int 0 0]) }
abbrev zfP(h:tT)(x:tK)(t:AV)(l2:tG):tT:=(zfY h x t).push { cls:=.type "tuple_iterator",data:=.fields (w4 [.ref l2,.int 0 0]) }
abbrev zfR(h:tT)(x:tK)(t:AV)(l2:tG):tT:=(zfP h x t l2).push { cls:=.type "tuple",data:=.seq (w4 [.ref h.objs.size,.ref (zfY h x t).objs.size]) }
abbrev zfV(h:tT)(x:tK)(t:AV)(l2:tG):tT:=(zfR h x t l2).push { cls:=.type "tuple",data:=.seq (w4 [.none,.none]) }
abbrev zcb(h:tT)(x:tK)(t:AV)(l2:tG):tT:=(zfV h x t l2).push { cls:=.type "zip",data:=.fields (w4 [.none,.bool BM,.bool BM,.ref (zfP h x t l2).objs.size,.ref (zfR h x t l2).objs.size]) }
def Z0(x:tK)(t:AV)(l2:tG)(ys:Array tH) :
  Meets (Builtin.«zip.__new__» #[[.type "zip",.str x t,.ref l2],[]]) (λZ R s=>s.heap.IsTuple l2 ys /\
   R (.ok (.ret (.ref (zfV s.heap x t l2).objs.size))) { s with heap:=zcb s.heap x t l2 }) :=
 .of_wp λprog w A R s h=>by
  let#[hp,g,d,tk,os]:=s;let#[hl2,h]:=h;have hsub:=sub_zip;have hL2:Heap.IsTuple (Shared.heap #[hp.push { cls:=.type (tV x),data:=.fields (w4 [.str x t,.int 0 0]) },g,d,tk,os]) l2 ys:=za9 hl2 λo e=>ae _ e
  wp_walk using wpAny_pyIter_strU (s:=#[hp,g,d,tk,os]) (x:=x) (t:=t),Bk hL2
  exact#[_,rfl,h]
def KT(hl2:s.heap.IsTuple l2 ys)(h:∀h',AG h' (s⁻¹+4) (s⁻¹+2) (s⁻¹+3) .none->Ai h' (s⁻¹+2) (.ref s⁻¹) (.ref (s⁻¹+1)) ->
   Ai h' (s⁻¹+3) .none .none->h'.IsStrIter s⁻¹ (tV x) x t 0->h'.IsTupleIter (s⁻¹+1) l2 0->h'.objs.size=s⁻¹+5 ->
   (∀c o,s.heap.get? c=BJ o->h'.get? c=BJ o)->Q (.ref (s⁻¹+4)) { s with heap:=h' }) :
  tI (model prog w) A (call (.type "zip") [.str x t,.ref l2]) Q E s:=by
 refine callType_new F.called_zip ∅ (F.typeCall_zip_2 _ _) (F.newCall_zip_2 _ _) (λobj=>F.args_object_init_3 obj _ _) F.entry_zip_new
  (Z0 x t l2 ys) #[hl2,?_]
 have z1:(zfY s.heap x t).objs.size=s⁻¹+1:=cj ..;have z2:(zfP s.heap x t l2).objs.size=s⁻¹+2:=by rw[cj,z1]
 have z3:(zfR s.heap x t l2).objs.size=s⁻¹+3:=by rw[cj,z2]
 have z4:(zfV s.heap x t l2).objs.size=s⁻¹+4:=by rw[cj,z3]
 have z5:(zcb s.heap x t l2).objs.size=s⁻¹+5:=by rw[cj,z4]
 have g5:(zcb s.heap x t l2).get? (zfV s.heap x t l2).objs.size=BJ _:=aE _ rfl;have g4:(zcb s.heap x t l2).get? (zfR s.heap x t l2).objs.size=BJ _:=ae _ (aE _ rfl);have g3:(zcb s.heap x t l2).get? (zfP s.heap x t l2).objs.size=BJ _:=ae _ (ae _ (aE _ rfl));have g2:(zcb s.heap x t l2).get? (zfY s.heap x t).objs.size=BJ _:=ae _ (ae _ (ae _ (aE _ rfl)));have g1:(zcb s.heap x t l2).get? s⁻¹=BJ _:=ae _ (ae _ (ae _ (ae _ (aE _ rfl))));show _/\_;rw[z2,z3,z4]at g5;rw[z1,z2]at g3;rw[z3]at g4;rw[z1]at g2;rw[z4]
 exact#[#[_,g5,rfl],h _ g5 g3 g4 #[_,g1,rfl,rfl] #[_,g2,rfl,rfl] z5 λc o x =>
  ae _ (ae _ (ae _ (ae _ (ae _ x))))]
def Izs(K:tF)(l:())(b:tG):It:=#[λi H=>∃ys y,SqT K H b ys/\i<l.length/\ys[i]? = BJ y,λi H v H'=>∃p c y,H p=BK/\l[i]? = BJ c/\(∀ys,SqT K H b ys->ys[i]? = BJ y)/\v=.ref p/\H'=upd H p (.tup [⇑[c],y]),λi H=>i=l.length]
def ZSt(z TI TO i1 i2:tG)(X:tK)(t:AV)(l2:tG)(i:Nat)(h:tT):Prop:=AG h z TI TO .none/\Ai h TI (.ref i1) (.ref i2)/\(∃a b,Ai h TO a b)/\h.IsStrIter i1 (tV X) X t i/\h.IsTupleIter i2 l2 i
theorem Kz{K:tF}(z TI TO i1 i2 l2:tG)(l:())(t:AV)(D:zeV z TI TO i1 i2 l2) :
  Kh P w K (.Tuple elts x1 tpos) (Izs K l l2) [z,TI,TO,i1,i2] z (λi h=>ZSt z TI TO i1 i2 (tx l) t l2 i h) where
 mem:=by simp
 obj:=λi h st b hb=>by
  let#[hz,hTI,#[a,c,hTO],#[o1,e1,c1,d1],#[o2,e2,c2,d2]]:=st;erw[bF,fo,or_false]at hb;rcases hb with rfl | rfl | rfl | rfl | rfl
  ·exact#[_,hz,λv q=>by have q':Data.fields _=Data.cell v:=q;cases q']
  ·exact#[_,hTI,λv q=>by have q':Data.seq _ _=Data.cell v:=q;cases q']
  ·exact#[_,hTO,λv q=>by have q':Data.seq _ _=Data.cell v:=q;cases q']
  ·exact#[o1,e1,λv q=>by rw[d1]at q;cases q]
  ·exact#[o2,e2,λv q=>by rw[d2]at q;cases q]
 keep:=λi h h' st k=>by
  let#[hz,hTI,#[a,c,hTO],h1,h2]:=st;exact#[k z (by simp) _ hz,k TI (by simp) _ hTI,#[a,c,k TO (by simp) _ hTO],vz h1 λo e=>k i1 (by simp) o e,uw h2 λo e=>k i2 (by simp) o e]
 item:=by
  intro X hP hw hK hc i BN s σ H E I hf st hg;subst hP hw hK;let#[ys,y,hqy,hi,hy]:=hg;let#[its2,rv2,p2,_]:=I.tuple hqy;let#[u2,hu2,ru2]:=rv2.get hy;let#[hz,hTI,#[a,b,hTO],h1,h2]:=st;have hl2:s.heap.IsTuple l2 its2.toArray:=p2
  have hx:(tx l).cps[i]? = BJ l[i]:=by
   show l.toArray[i]? = _;simp [hi]
  refine jk D hz hTI hTO h1 h2 hl2 hx (y:=u2) ↥hu2 λh' t' a1 a2 a3 a4 a5 a6 hk=>?_;refine#[_,rfl,wpAny_letOwnedTupleGo_zip (s:={ s with heap:=h',toks:=s.toks+1 }) a1 λh2' hz2 sb=>?_];have zlt:z<s⁻¹:=av hz;have TIlt:TI<s⁻¹:=av hTI;have TOlt:TO<s⁻¹:=av hTO;have i1lt:i1<s⁻¹:=by let#[o,e,_]:=h1;exact av e
  have i2lt:i2<s⁻¹:=by let#[o,e,_]:=h2;exact av e
  have I1:Inv X BN σ H { s with heap:=h2',toks:=s.toks+1 }:=Inv.turns (fp:=[z,TI,TO,i1,i2]) I (λb o hb q=>by
   have hb':b≠z/\b≠TI/\b≠TO/\b≠i1/\b≠i2:=by simpa using hb
   exact (sb.2 b hb'.1).trans (hk b o hb'.1 hb'.2.2.1 hb'.2.2.2.1 hb'.2.2.2.2 q)) hf
  have hp:H s⁻¹=BK:=I.hok.fresh (ak _);have hT2:h2'.get? s⁻¹=BJ { cls:=.type "tuple",data:=.seq (w4 [.str ⟨#[l[i]]⟩ t',u2]) }:=(sb.2 _ (cB zlt)).trans a5;have ru1:RelV ⇑[l[i]] (.str ⟨#[l[i]]⟩ t'):=#[t',rfl]
  have I2:Inv X BN σ (upd H s⁻¹ (.tup [⇑[l[i]],y])) { s with heap:=h2',toks:=s.toks+1 } :=
   Inv.track I1 (I.fpOk (ak _) hp) #[by show 2<=tE;decide,[.str ⟨#[l[i]]⟩ t',u2],.cons ru1 (.cons ru2 .nil),#[_,hT2,rfl,_,rfl]]
  refine#[.ref s⁻¹,_,I2,rfl,#[s⁻¹,l[i],y,hp,by simp [hi],λzs hz'=>by rw[I.tuple_inj hz' hqy];exact hy,rfl,rfl],#[hz2,(sb.2 _ D.TIz).trans (hk _ _ D.TIz D.TITO D.TIi1 D.TIi2 hTI),#[_,_,(sb.2 _ D.TOz).trans a2],vz a3 λo e=>(sb.2 _ D.i1z).trans e,uw a4 λo e=>(sb.2 _ D.i2z).trans e],λb hb=>?_];rw[zo]
  ·exact (hf b hb).1
  ·erw[bF,fo,or_false]at hb;rcases hb with rfl | rfl | rfl | rfl | rfl <;> exact aA (by assumption)
 done:=by
  intro X hP hw hK hc i BN s σ H E I hf st hg;subst hP hw hK;have hi:i=l.length:=hg;let#[hz,hTI,#[a,b,hTO],h1,h2]:=st;refine kK (I.ok.hd hc) D hz hTI hTO h1 ?_ λh' hk=>#[rfl,?_]
  ·show l.toArray[i]? = BK;simp [hi]
  ·exact Inv.turns (fp:=[z,TI,TO,i1,i2]) (t':=s.toks) I (λb o hb q=>by
    have hb':b≠z/\b≠TI/\b≠TO/\b≠i1/\b≠i2:=by simpa using hb
    exact hk b o hb'.1 hb'.2.2.1 hb'.2.2.2.1 hb'.2.2.2.2 q) hf
 self:=λA i s Q E st h=>Br st.1 h
def iZs(K:tF)(ta:TA):TI:=λσ H R=>ta σ H λvs H1=>∃l b,vs=[⇑l,.ref b]/\(∃ys,SqT K H1 b ys)/\R (Izs K l b) H1
def zev(hg:Gl X "zip")(hm:X.mg "zip" = BK)(ha:PA X [a,b] ta)(hs:‹tD [a,b] X.env=(BM,eval a X.env)::tD [b] X.env›)(hpl:‹(tS pos (tD [b] X.env)).any (·.1)=BM›):PI X (.Tuple elts x1 tpos) (.Call (.Name "zip" p) [a,b] [] pos) (iZs X.K ta):=by
 intros R I h;refine BF (vq I hg hm PyProof.Rows.boot_zip (bz (thn (ha pos BN s σ H _ I h) λus s1=>el5 λvs H1 I1 r1 q1=>?_) hs hpl));let#[l,l2,e,#[ys,hqy],q]:=q1;subst e;let#[u1,u2,rfl,ru1,ru2]:=Qv r1;let#[t,rfl]:=ru1;cases ru2;let#[its2,rv2,p2,_]:=I1.tuple hqy;have hl2:s1.heap.IsTuple l2 its2.toArray:=p2;have l2lt:l2<s1⁻¹:=by let#[o,e,_]:=hl2;exact av e
 have ne:∀a b:Nat,a≠b->s1⁻¹+a≠s1⁻¹+b:=λa b h e=>h (Nat.add_left_cancel e);have nl:∀a:Nat,l2≠s1⁻¹+a:=λa=>aA (aq l2lt (cb _ _));refine KT hl2 λh' hz hTI hTO h1 h2 hsz kk=>?_;have I2:Inv X BN σ H1 { s1 with heap:=h' }:=I1.kept (t':=s1.toks) kk;refine Br (s:={ s1 with heap:=h' }) hz ?_;refine#[s1⁻¹+4,[s1⁻¹+4,s1⁻¹+2,s1⁻¹+3,s1⁻¹,s1⁻¹+1],_,_,H1,rfl,I2,Kz (s1⁻¹+4) (s1⁻¹+2) (s1⁻¹+3) s1⁻¹ (s1⁻¹+1) l2 l t #[#[ne 2 4 ∅,ne 3 4 ∅,ne 0 4 ∅,ne 1 4 ∅,ne 2 3 ∅,ne 2 0 ∅,ne 2 1 ∅,ne 3 0 ∅,ne 3 1 ∅,ne 0 1 ∅],nl 4,nl 3,nl 0,nl 1],#[hz,hTI,#[_,_,hTO],h1,h2],λb hb=>?_,q]
 have hb':s1⁻¹<=b:=by
  erw[bF,fo,or_false]at hb;rcases hb with e | e | e | e | e
  ·rw[e];exact cb _ _
  ·rw[e];exact cb _ _
  ·rw[e];exact cb _ _
  ·rw[e];exact ak _
  ·rw[e];exact cb _ _
 exact I1.fpOk hb' (I1.hok.fresh hb')
def CompZ(K:tF)(l:())(b:tG)(g:TG)(tt:TT)(te:TE)(own:Nat)(ix:())(σ:L2.St)(H1:Hp)(Q:VK)(D:tG):Prop:=X8 (Izs K l b) g tt te own ix σ H1 Q D
def zH{K:tF}:kO (iZs K ta) g tt te own ix σ H Q=ta σ H λvs H1=>∃l b,vs=[⇑l,.ref b]/\(∃ys,SqT K H1 b ys)/\∀D,H1 D=BK->CompZ K l b g tt te own ix σ H1 Q D:=rfl
theorem CompZ.by{g:TG}{tt:TT}{te:TE}{own:Nat}{ix:()}{σ:L2.St}{H1:Hp}{Q:VK}{D:tG}{K:tF}(Pv:Nat->List V->Hp->Prop)(hlen:l.length=ys.length)(h0:Pv 0 [] (upd H1 D (.lst [])))(hl:∀i acc H',i<=l.length->Pv i acc H'->SqT K H' b ys)(hs:∀i c y acc H' p,l[i]? = BJ c->ys[i]? = BJ y->Pv i acc H'->H' p=BK->g (.ref p) (vM σ own ix) (upd H' p (.tup [⇑[c],y])) λσ3 H3=>xo (vM σ own ix) σ3/\tt σ3 H3 λb H4=>if b=BL then
   te σ3 H4 λv H5=>H5 D=BJ (.lst acc)/\acc.length<tE/\CNx l.length i Pv (acc ++ [v]) (upd H5 D (.lst (acc ++ [v])))else CNx l.length i Pv acc H4) (hd:∀acc H',Pv l.length acc H'->Q (.ref D) H'):CompZ K l b g tt te own ix σ H1 Q D:=by
 refine#[λi m acc H=>m=l.length - i/\i<=l.length/\Pv i acc H,#[l.length,by simp,ax _,h0],?_];rintro i m acc H' ⟨rfl,hi,p⟩;have q:=hl i acc H' hi p;by_cases hlt:i<l.length
 ·refine .inr #[#[ys,ys[i],q,hlt,by simp [<- hlen,hlt]],λx H2 y=>?_];let#[p',c,y,hp,hc,hy,ev,eH]:=y;subst ev eH;exact hs i c y acc H' p' hc (hy ys q) p hp
 ·have e:i=l.length:=⋯;subst e;exact .inl #[rfl,hd acc H' p]
def yl(t1 t2:TE):TE:=λσ H Q=>t1 σ H Q\/t2 σ H Q
def zbu(h1:PE X e t1)(h2:PE X e t2):PE X e (yl t1 t2):=by
 intros Q I h;rcases h with h | h
 ·exact h1 BN s σ H Q I h
 ·exact h2 BN s σ H Q I h
def zfL(D1:DM X.prog X.w X.K X.mg X.base CX0 k1 C1 m ps s1)(D2:DM X.prog X.w X.K X.mg X.base CX0 k2 C2 m ps s2)(D3:DM X.prog X.w X.K X.mg X.base CX0 k3 C3 m ps s3)(c1:Cls X.K C1)(c2:Cls X.K C2)(c3:Cls X.K C3)(hr:Room j X.A)(he:PE X o ta)(ha:PA X (e::es) t)(hst:‹tD (e::es) X.env=(BM,eval e X.env)::tD es X.env›)(hpl:‹(tS pos (tD es X.env)).any (·.1)=BM›)(ht:eval (.Call (.Attribute o m apos) (e::es) [] pos) X.env=(do
      let ov <- eval o X.env
      standAt apos.atName
      let (f,first) <- holding [ov] (getMethod ov m pl)
      callWith pos f first (tS pos (tD (e::es) X.env)) (Aa pos (tR [] X.env))):=by rfl) (h1:‹k1<=j›) (h2:‹k2<=j›) (h3:‹k3<=j›) :
    PE X (.Call (.Attribute o m apos) (e::es) [] pos) (yl (ZG C1 m s1 [] E0 ta t) (yl (ZG C2 m s2 [] E0 ta t) (ZG C3 m s3 [] E0 ta t))) :=
  zbu (me1 (pl:=pl) D1 c1 hr he ha hst hpl ht h1) (zbu (me1 (pl:=pl) D2 c2 hr he ha hst hpl ht h2) (me1 (pl:=pl) D3 c3 hr he ha hst hpl ht h3))
end
open PySem PySem.Spec PyProof.Rows L2 PySem.W PySem.Calls
mutual section
def vU(n:Int):Prop:=Builtin.Int.intBits n<=1048576
theorem zaV:∀(ns:List Int),WData.weightAll (ns.map WData.int)<=1048576->∀n ∈ ns,vU n
 | [],_,n,h=>nomatch h
 | m::ns,hw,n,h=>by
  rw[ao,WData.weightAll]at hw;rcases BR.mp h with rfl | h
  ·have e:WData.weight (.int n)=Builtin.Int.intBits n:=by
    rw[WData.weight];rfl
   unfold vU;lia
  ·exact zaV ns ⋯ n h
theorem KW(hi:vU i)(hj:vU j):IntMulOk i j:=by unfold IntMulOk Builtin.Int.intTooBig;unfold vU at hi hj;have:(bitsLine:Nat)=134217728:=rfl;simp;intro _ _;lia
def zam:OpR X (binaryOp .Mult) (rI (λi j=>vU i/\vU j) λi j=>.int (i * j)):=opI λZ Z Z Z Z Z Z hc q=>mul_int q (KW hc.1 hc.2)
def YN{l:OpenLaw}{XP:(tK->Option tH)->tT->Prop}(hn:l.most=BJ n)(hdf:d.params.defaults=[])(call:∀(w:tP) (s₀ s₁:tJ) (mg mb:tK->Option tH) (fa:tG) (o:Au) (pm cd doc:tH) (a:tG) (vs:List tH) (ns:List Int),
   Ground q loose [] XP w s₀ mg mb s₁.heap->YP w s₁.heap ->
   s₁.heap.get? fa=BJ o->o.data=.func (docDef d.name d.params d.body d.scope pm cd doc)->s₁.heap.CodeRec cd d.name->mg d.name=BJ (.ref fa) ->
   s₁.heap.get? a=BJ { cls:=.type "list",data:=.seq vs.toArray }->Bq vs ns->ns.length<=n->(∀z ∈ ns,vU z)->s₁.gens=#[] ->
   As (model l.prog w) callerA (.call (.ref fa) #[[.ref a],[]]) (λr s'=>r=.ok (.ret (.bool BL))/\OldK s₁.heap s'.heap/\s'.os=s₁.os/\AE s'.gens) s₁) :
  WalkO q loose XP YP l.row.toRowW d [] (λf vs=>gA f vs):=by
 intro w s₀ s₁ mg mb G Y fa o pm cd doc dV kV ho hd hcd hD hmg hg args vals as hpre hlay hrd hwl hlo;obtain rfl:dV=.none:=Dflts.none hD hdf;obtain rfl:kV=.none:=Dflts.noKw hD;let#[a,vs,ns,rfl,rfl,hobj,hints,hlen]:=Att.script_of hn hpre hwl
 have hb:∀z ∈ ns,vU z:=by
  refine zaV ns ?_
  have h1:WData.layable (WData.list (ns.map WData.int))=BL:=by
   have:=hlay;unfold WData.layableAll at this;simpa using this
  unfold WData.layable at h1;erw[aU,decide_eq_true_eq]at h1;have h2:=h1.2;rw[WData.weight]at h2;exact h2
 refine enter_call (Ar (call w s₀ s₁ mg mb fa o pm cd doc a vs ns G Y ho (fd_plain hd) hcd hmg hobj hints hlen hb hg) λr s' hq=>?_);let#[rfl,h2,h3,h4]:=hq;exact#[.inl #[.bool BL,.bool BL,[],rfl,λZ=>rfl,.bool BL,Att.post_true l _,λZ=>#[List.Pairwise.nil,λZ hm=>(nomatch hm)]],h2,h3,h4]
def XEg.xe(h:XEg X E):XE X E:=λe s hz=>by
 let#[BN,σ,H,x,C,t,dx,tb,q]:=hz;exact h e s #[.none,BM,BN,σ,H,x,C,t,dx,tb,q]
theorem Wx(x y:tK)(i j:Int)(t u v v':AV):Gives (Builtin.«str.find» #[[.str x t,.str y u,.int i v,.int j v'],[]]) (.int (match Builtin.Str.occurrences x y (fromIndex x.length i) (min (fromIndex x.length j) x.length) 1 with | k::_=>(k:Int) | []=>-1)):=by
 show Gives (match Builtin.Str.occurrences x y (fromIndex x.length i) (min (fromIndex x.length j) x.length) 1 with | k::_=>retInt k | []=>(do rule "str.find.not-found";retInt (-1))) _
 cases Builtin.Str.occurrences x y (fromIndex x.length i) (min (fromIndex x.length j) x.length) 1 with
 | nil=>exact .rule (.of_eq rfl)
 | cons k _=>exact .of_eq rfl
theorem Wu(x y:tK)(lo hi:Nat) :
  (Builtin.Str.occurrences x y lo hi 1=[]/\∀i,lo<=i->¬ StrLaws.At x y hi i) \/
  ∃i r,Builtin.Str.occurrences x y lo hi 1=i::r/\lo<=i/\StrLaws.At x y hi i/\∀k,lo<=k->k<i->¬ StrLaws.At x y hi k:=by
 rw[StrLaws.occ_eq];rcases StrLaws.occ_first x y hi 1 (ak 1) (List.range' lo (hi+1 - lo)) lo (λi hm=>(List.mem_range'_1.mp hm).1)with ⟨e,no⟩ | ⟨pre,a,post,e,e0,at_a,no⟩
 ·exact .inl #[by rw[e],λi h1 h2=>no i (by have:=h2.1;rw[List.mem_range'_1];lia) h2]
 ·have sp:=StrLaws.range'_split_from e;generalize (forIn (List.range' lo (hi+1 - lo)) ((#[]:Array Nat),lo) (StrLaws.occBody x y hi 1)).run.fst=z at e0 ⊢;let#[zs]:=z
  cases zs with
  | nil=>simp at e0
  | cons b r =>
   have:b=a:=by simpa using e0
   subst this;exact .inr #[b,r,rfl,sp.1,at_a,λk h1 h2=>no k (sp.2 k h1 h2)]
def zgo(l p:())(hi i:Nat):StrLaws.At (tx l) (tx p) hi i ↔ i+p.length<=hi/\(l.drop i).take p.length=p:=by
 unfold StrLaws.At Builtin.Str.subAt;rw[yj,beq_iff_eq]
 have e1:((tx l).cps.extract i (i+p.length)).toList=(l.drop i).take p.length:=by
  show (l.toArray.extract i (i+p.length)).toList=_;simp [fh]
 have e2:((tx l).cps.extract i (i+p.length)=(tx p).cps) ↔ (l.drop i).take p.length=p:=by
  constructor
  ·intro h;rw[<- e1,h]
  ·intro h;apply Array.toList_inj.mp;rw[e1,h]
 rw[e2]
def zby:V->List V->Hp->VK->Prop:=λx xs H Q=>∃(l p:()) (lo hi:Int),x=⇑l/\xs=[⇑p,.int lo,.int hi]/\0<=lo/\0<=hi/\∀r:Int,((r=-1/\∀q:Nat,lo<=q->(q:Int)+p.length<=hi->q+p.length<=l.length->(l.drop q).take p.length≠p)\/∃k:Nat,r=k/\lo<=k/\(k:Int)+p.length<=hi/\k+p.length<=l.length/\(l.drop k).take p.length=p/\∀q:Nat,lo<=q->q<k->(l.drop q).take p.length≠p)->Q (.int r) H
def Zs(n k:Nat):fromIndex n (k:Int)=k:=by unfold fromIndex;rw[z9 (Int.not_lt.mpr (Int.natCast_nonneg k))];rfl
theorem zb5 : MtR X "str.find" zby:=by
 intros x xs v us Q I rx rv h;let#[l,p,lo,hi,rfl,rfl,h0,h1,q]:=h;let#[lo,rfl]:=br h0;let#[hi,rfl]:=br h1;let#[t,rfl]:=rx
 cases rv with
 | cons r1 r2 =>
  cases r2 with
  | cons r2 r3 =>
   let#[w3,rfl,t3,rfl]:=vf r3;let#[t1,rfl]:=r1;let#[t2,rfl]:=r2;refine call_gives F.slot_str_find (typeIs_str _ _ _) F.entry_str_find (F.args_str_find_4 _ _ _ _) (Wx _ _ (lo:Nat) (hi:Nat) t t1 t2 t3) ?_;refine#[.int _,H,I.tok _,#[_,rfl],q _ ?_];rw[Zs,Zs]
   have hm:∀k:Nat,k+p.length<=min hi (tx l).length ↔ (k:Int)+p.length<=(hi:Nat)/\k+p.length<=l.length:=λk=>by
    rw[yj,Nat.le_min];exact and_congr_left λZ=>(Int.ofNat_le (m:=k+p.length)).symm
   rcases Wu (tx l) (tx p) lo (min hi (tx l).length)with ⟨e,no⟩ | ⟨i,r,e,hl,ha,no⟩
   ·rw[e];exact .inl #[rfl,λk k1 k2 k3 k4=>no k (Ce.mp k1) ((zgo l p _ k).mpr #[(hm k).mpr #[k2,k3],k4])]
   ·rw[e];let#[a1,a2]:=(zgo l p _ i).mp ha;let#[b1,b2]:=(hm i).mp a1;exact .inr #[i,rfl,Ce.mpr hl,b1,b2,a2,λk k1 k2 k4=>no k (Ce.mp k1) k2 ((zgo l p _ k).mpr #[(hm k).mpr #[⋯,⋯],k4])]
end
end L3
set_option linter.unusedVariables false
namespace L3
mutual section
theorem QR(hh:A.handled=BK)(hlI:l≠I)(hSI:S≠I)(hSl:S≠l)(xs:Array tH)(val:Nat->Int)(hv:∀i v,xs[i]? = BJ v->∃t,v=Value.int (val i) t)(d:tH) :
  ∀(k j:Nat) (z:Int) (t:AV) (s:tJ) (c:Nat),xs.size - j=k->j<=xs.size->(∀i,i<j->val i<=z)->s.heap.IsListIter I l j->s.heap.IsList l xs->s.heap.get? S=BJ (tX "list" (w4 [.int z t,.int z t]) c) ->
   (∀z' t' h' tk,(∀i,i<xs.size->val i<=z')->(∀b o,b≠I->b≠S->s.heap.get? b=BJ o->h'.get? b=BJ o)->R (.ok (.ret (.int z' t'))) { s with heap:=h',toks:=tk }) ->
   As (model prog w) A (.builtin "max.loop" #[[.ref I,.none,.ref S],[(bO "default",d)]]) R s:=by
 have nm:(toString "max" ++ toString ".loop" : String)="max.loop":=∅;have W:=Walks.list (prog:=prog) (w:=w) (A:=A.in1) hh I l hlI xs;intro k
 induction k with
 | zero =>
  intro j z t s c hk hj hz hit hl hS hR;have e:j=xs.size:=cw hj (Nat.sub_eq_zero_iff_le.mp hk);refine Aw (b:=Builtin.«max.loop») dZ ?_;rw[Around.under_plainId (id:="max.loop") bQ _];show tI _ A.in1 (seqItems? (u9 S) >>= _) _ _ s;refine tw (Ac (items:=(w4 [.int z t,.int z t])) hS rfl ?_);show tI _ A.in1 (tryCatch (pyNext (u9 I)) _ >>= _) _ _ s;refine tw (Ay (W.done s _ _ #[e ▸ hit,hl] λh' tk kp=>?_));have hS':=kp S _ ↥hSI hS;show tI _ A.in1 (updateSeq S (λZ=>(#[]:Array tH)) >>= _) _ _ _;refine tw (AS hS' rfl (tw (Ax (tz ?_))));exact hR z t _ tk (λi hi=>hz i (ce hi e.symm)) λb o hb hb' q=>(aI _ _ (Ne.symm hb')).trans (kp b o ↥hb q)
 | succ k ih =>
  intro j z t s c hk hj hz hit hl hS hR;have hjx:j<xs.size:=Nat.lt_of_sub_eq_succ hk;have hk1:xs.size - (j+1)=k:=by rw[Nat.sub_succ,hk];rfl
  refine Aw (b:=Builtin.«max.loop») dZ ?_;rw[Around.under_plainId (id:="max.loop") bQ _];show tI _ A.in1 (seqItems? (u9 S) >>= _) _ _ s;refine tw (Ac (items:=(w4 [.int z t,.int z t])) hS rfl ?_);show tI _ A.in1 (tryCatch (pyNext (u9 I)) _ >>= _) _ _ s;refine tw (Ay (W.item j s _ _ hjx #[hit,hl] λv h' tk hP st kp=>?_));let#[t2,rfl]:=hv j v hP;have hS':=kp S _ ↥hSI hS;show tI _ A.in1 (tryCatch (holding [Value.int (val j) t2,Value.int (val j) t2] (richCompare .Gt (.int (val j) t2) (.int z t) >>= _)) _ >>= _) _ _ _;refine tw (Ay (tO (tw (CmpOf.ints_gt (prog:=prog) (w:=w) (A:=A.in1) (P:=λi v=>∃t,v=Value.int (if i=0 then val j else z) t) (λi=>if i=0 then val j else z) (λi v h=>h) 0 1 _ _ _ _ _ #[t2,rfl] #[t,rfl] ?_))));refine tw (tO (tU (tw (Ax (tz ?_)))));by_cases g:val j > z
  ·erw[if_true,Nat.one_ne_zero,if_false,g,decide_true];refine tw (AS hS' rfl (tw (Ax ?_)));rw[nm];refine tz #[plainId_quiet bQ _,ih (j+1) (val j) t2 _ _ hk1 hjx (λi hi=>?_) (W.frame _ _ _ st λb hb o q=>?_).1 (W.frame _ _ _ st λb hb o q=>?_).2 (get?_update_seq hS' _) λz' t' h'' tk'' a1 a2=>hR z' t' h'' tk'' a1 λb o hb hb' q=>a2 b o hb hb' ((aI _ _ (Ne.symm hb')).trans (kp b o ↥hb q))]
   ·by_cases e:i=j
    ·rw[e];exact Int.le_refl _
    ·exact Int.le_of_lt (Int.lt_of_le_of_lt (hz i (bD (bA hi) e)) g)
   all_goals
    refine (aI _ _ (λe:S=b=>?_)).trans q;subst e;rcases BR.mp hb with e | e
    ·exact hSI e
    ·exact hSl (BV.mp e)
  ·erw[if_true,Nat.one_ne_zero,if_false,g,decide_false,be];refine tw (Ax ?_);rw[nm];refine tz #[plainId_quiet bQ _,ih (j+1) z t _ _ hk1 hjx (λi hi=>?_) st.1 st.2 hS' λz' t' h'' tk'' a1 a2=>hR z' t' h'' tk'' a1 λb o hb hb' q=>a2 b o hb hb' (kp b o ↥hb q)];by_cases e:i=j
   ·rw[e];lia
   ·exact hz i ⋯
def QV(a v:tH):argsOk "max" #[[a],[(bO "default",v)]]:=by unfold argsOk;kernel_rfl
def JX(hh:A.handled=BK)(xs:Array tH)(val:Nat->Int)(hv:∀i v,xs[i]? = BJ v->∃t,v=Value.int (val i) t)(hl:s.heap.IsList l xs)(d:tH)(h:∀v h' tk,(xs.size=0->v=d)->(0<xs.size->∃z t,v=Value.int z t/\∀i,i<xs.size->val i<=z)->(∀b o,s.heap.get? b=BJ o->h'.get? b=BJ o)->Q v { s with heap:=h',toks:=tk }) :
  tI (model prog w) A (call (.builtin "max") [.ref l] [(bO "default",d)]) Q E s:=by
 have nm:(toString "max" ++ toString ".loop" : String)="max.loop":=∅;have hlt:l<s⁻¹:=by let#[_,e,_]:=hl;exact av e
 refine kmb_tree PySem.F.kind_max PySem.F.plain_max PySem.F.entry_max (QV _ _) ?_;show tI _ A.in1 (Builtin.Builtins.bindParams "max" ["key","default"] 0 #[[],[(bO "default",d)]] >>= _) _ _ s;refine tw (wpAny_of_eq (show Builtin.Builtins.bindParams "max" ["key","default"] 0 #[[],[(bO "default",d)]]=pure [BK,BJ d]from rfl) (tw (tz ?_)));refine tw (Ao hl (tw (Bg ?_ (ax _))));rw[nm];refine tz #[plainId_quiet bQ _,?_];have gI:(s.heap.push { cls:=.type "list_iterator",data:=.fields (w4 [.ref l,.int 0 0]) }).IsListIter s⁻¹ l 0:=#[_,aE _ rfl,rfl,rfl];have gl:=hl.push { cls:=.type "list_iterator",data:=.fields (w4 [.ref l,.int 0 0]) };have kp0:∀b o,s.heap.get? b=BJ o->(s.heap.push { cls:=.type "list_iterator",data:=.fields (w4 [.ref l,.int 0 0]) }).get? b=BJ o:=λb o q=>ae _ q;have hsz:(s.heap.push { cls:=.type "list_iterator",data:=.fields (w4 [.ref l,.int 0 0]) }).objs.size=s⁻¹+1:=cj _ _;have hold:∀b o,s.heap.get? b=BJ o->b<s⁻¹:=λb o q=>av q;have hlI:l≠s⁻¹:=aA hlt;generalize s.heap.push { cls:=.type "list_iterator",data:=.fields (w4 [.ref l,.int 0 0]) }=h1 at *;generalize hIe:s⁻¹=I at *;have W:=Walks.list (prog:=prog) (w:=w) (A:=A.in1) hh I l hlI xs;have gS:(h1.push { cls:=.type "list",data:=.seq ([]:List tH).toArray }).get? h1.objs.size=BJ (tX "list" #[] 0):=aE _ rfl;have st0:=W.frame 0 _ (h1.push { cls:=.type "list",data:=.seq ([]:List tH).toArray }) #[gI,gl] λb Z o q=>ae _ q;have kp1:∀b o,s.heap.get? b=BJ o->(h1.push { cls:=.type "list",data:=.seq ([]:List tH).toArray }).get? b=BJ o:=λb o q=>ae _ (kp0 b o q);have hSI:h1.objs.size≠I:=by rw[hsz];exact Nat.succ_ne_self I
 have hSl:h1.objs.size≠l:=by rw[hsz];exact cB (du hlt)
 have hSb:∀b o,s.heap.get? b=BJ o->b≠I/\b≠h1.objs.size:=λb o q=>#[aA (hold b o q),by rw[hsz];exact aA (du (hold b o q))];generalize h1.push { cls:=.type "list",data:=.seq ([]:List tH).toArray }=h2 at *;generalize h1.objs.size=S at *;refine Aw (b:=Builtin.«max.loop») dZ ?_;rw[Around.under_plainId (id:="max.loop") bQ _];show tI _ A.in1 (seqItems? (u9 S) >>= _) _ _ _;refine tw (Ac (items:=#[]) gS rfl ?_);show tI _ A.in1 (tryCatch (pyNext (u9 I)) _ >>= _) _ _ _;by_cases hz:xs.size=0
 ·refine tw (Ay (W.done _ _ _ (by rw[hz];exact st0) λh' tk kp=>?_));show tI _ A.in1 (rule _ >>= λZ=>_) _ _ _;refine tw (AM (tz ?_));exact h d h' tk (λZ=>rfl) (λq=>y6 q ⋯) λb o q=>kp b o ↥(hSb b o q).1 (kp1 b o q)
 ·refine tw (Ay (W.item 0 _ _ _ ⋯ st0 λv h' tk hP st kp=>?_));let#[t,rfl]:=hv 0 v hP;have hS':=kp S _ ↥hSI gS;show tI _ A.in1 (updateSeq S (λZ=>(w4 [Value.int (val 0) t,Value.int (val 0) t])) >>= _) _ _ _;refine tw (AS hS' rfl ?_);rw[nm]
  have st':=W.frame _ _ (h'.update S (Obj.mapSeq λZ=>(w4 [Value.int (val 0) t,Value.int (val 0) t]))) st λb hb o q=>by
   refine (aI _ _ (λe:S=b=>?_)).trans q;subst e;rcases BR.mp hb with e | e
   ·exact hSI e
   ·exact hSl (BV.mp e)
  refine tz #[plainId_quiet bQ _,QR hh hlI hSI hSl xs val hv d _ 1 (val 0) t _ _ rfl ⋯ (λi hi=>?_) st'.1 st'.2 (get?_update_seq hS' _) λz' t' h'' tk'' a1 a2=>?_]
  ·have:i=0:=⋯;rw[this];exact Int.le_refl _
  ·exact h _ h'' tk'' (λq=>y6 q hz) (λZ=>#[z',t',rfl,a1]) λb o q=>a2 b o (hSb b o q).1 (hSb b o q).2 ((aI _ _ (Ne.symm (hSb b o q).2)).trans (kp b o ↥(hSb b o q).1 (kp1 b o q)))
def za6(X:Cx)(id:String)(ks:List tK)(r:List V->List V->Hp->VK->Prop):Prop :=
 ∀(BN:List (tG × Au)) (s:tJ) (σ:L2.St) (H:Hp) (vs zs:List V) (us ws:List tH) (Q:VK),Inv X BN σ H s->Vals vs us->Vals zs ws->r vs zs H Q->tI (model X.prog X.w) X.A (call (.builtin id) us (ks.zip ws)) (EP X BN σ Q) X.xe s
def zhC(r:List V->List V->Hp->VK->Prop)(t tk:TA):TE:=λσ H Q=>t σ H λvs H1=>tk σ H1 λzs H2=>r vs zs H2 Q
def UQ{X:Cx}{id:String}{x:tK}{e:Aq}{es:List Aq}{kws:List By}{ks:List tK}{p:BD}{pos:BD}{t:TA}{tk:TA}(hc:za6 X id ks r)(hg:Gl X x)(hm:X.mg x=BK)(hv:tY x=BJ (.builtin id))(ha:PA X (e::es) t)(hk:PK X kws tk)(hks:‹(Aa pos (tR kws X.env)).filterMap (·.1)=ks›)(hn:‹x≠"__name__"›)(hdb:‹(x ==("__debug__" : tK))=BM›)(he:‹tS pos (tD (e::es) X.env)=(BM,eval e X.env)::tS pos (tD es X.env)›)(hpl:‹(tS pos (tD (e::es) X.env)).any (·.1)=BM›)(hall:‹(Aa pos (tR kws X.env)).all (·.1.isSome)=BL›)(hkw:‹(Aa pos (tR kws X.env)).any (·.1.isNone)=BM›):PE X (.Call (.Name x p) (e::es) kws pos) (zhC r t tk):=by intros Q I h;refine tW (vq I hg hm hv ?_ hn hdb);refine callWith_kw (thn (ha pos BN s σ H _ I h) λus s1=>el5 λvs H1 I1 r1 q1=>thn (hk pos BN s1 σ H1 _ I1 q1) λws s2=>el5 λzs H2 I2 r2 q2=>?_) he hpl hall hkw;rw[hks];exact hc BN s2 σ H2 vs zs us ws Q I2 r1 r2 q2
def zhc(K:tF):List V->List V->Hp->VK->Prop:=λvs zs H Q=>∃(a:tG) (ns:List Int) (d:Int),vs=[.ref a]/\zs=[.int d]/\SqL K H a (ns.map V.int)/\∀z:Int,(ns=[]->z=d)->(∀n ∈ ns,n<=z)->Q (.int z) H
def zfk(hc:X.calm=BL):za6 X "max" [bO "default"] (zhc X.K):=by
 intros vs zs us ws Q I r1 r2 h;let#[a,ns,d,rfl,rfl,hS,q]:=h;let#[u,rfl,ru]:=vf r1;cases ru;let#[w',rfl,td,rfl]:=vf r2;let#[its,rv,pl,hz]:=I.list hS;have hlen:=rv.length;rw[aa]at hlen
 have hat:∀(i:Nat) (v:tH),its.toArray[i]? = BJ v->∃t,v=Value.int (ns.getD i 0) t:=λi v hi=>by
  have hi':its[i]? = BJ v:=by simpa using hi
  have hil:=(BP.mp hi').1;let#[u,hu,t,rfl]:=we rv (j:=i) (x:=.int (ns.getD i 0)) (by rw[au,ac,ah ⋯];rfl);rw[hi']at hu;cases hu;exact#[t,rfl]
 refine JX (I.ok.hd hc) its.toArray (λi=>ns.getD i 0) hat pl.isList (.int d td) λv h' tk h0 h1 kp=>?_;by_cases hn:ns=[]
 ·have:=h0 (by rw[aj,<- hlen,hn];rfl);subst this;exact#[.int d,H,I.kept kp,#[_,rfl],q d (λZ=>rfl) (λn hm=>by rw[hn]at hm;cases hm)]
 ·let#[z,t,rfl,hzz]:=h1 (by rw[aj,<- hlen];exact Cd.mpr hn);refine#[.int z,H,I.kept kp,#[_,rfl],q z (λe=>y6 e hn) λn hm=>?_];let#[i,hi,rfl]:=List.getElem_of_mem hm;have:=hzz i (by rw[aj,<- hlen];exact hi);rw[ac,ah hi]at this;exact this
def zg1(y l:())(e:Nat):Prop:=e+y.length<=l.length/\(l.drop e).take y.length=y
instance (y l:()) (e:Nat):Decidable (zg1 y l e):=by unfold zg1;infer_instance
theorem Zm{D:tG}(hg:Gl X cn)(hm:X.mg cn=BJ (.ref D))(hdb:(cn ==("__debug__" : tK))=BM)(xc:kR X.K D=BL)(hsu:∀e,PSs (Cx.suite X e) (b0::suite) th)(I:Inv X BN σ H s)(hob:∃t cx kx,s.heap.get? x=BJ (xog C dx t (.ref T) cx kx))(hoT:∃oT ts,s.heap.get? T=BJ oT/\oT.data=.fields ts/\3<ts.size)(fT:wf X BN H T)(hb:cN X.K (.ref C) (.ref D)=BJ BL)(q:th Dd σ H):tI (model X.prog X.w) X.A (handleBy (.ref x) X.env (.ExceptHandler (BJ (.Name cn np)) BK (b0::suite) hpos::hs)) (SP X BN Dd) X.xe s:=by
 let#[t,cx,kx,ob]:=hob;let#[oT,ts,eT,dT,zT]:=hoT;have I':=Inv.suite I (.ref x);refine Be (AU (vg (X:=Cx.suite X (.ref x)) I' hg hm (zbS I.kIn xc ob hb ?_) hdb)) (by intro q;cases q);refine codeAny_handlers_suite ?_;unfold setFlight;refine tw (tQ ob rfl (x:=.ref T) rfl ?_);rw[y9 (show (u9 T != u6)=BL from by simp)];refine Ah eT dT zT ?_;let#[f0,f1,f2,f3,f4,f5]:=fT
 have I2:Inv X BN σ H { s with heap:=s.heap.update T (Obj.mapFields (·.setIfInBounds 3 ((BK:Option tG).elim u6 λf=>rawInt f))) } :=
  I.turned (t':=s.toks) (λb o hb e=>(aI _ _ (Ne.symm hb)).trans e) f0 f1 f3 f4 f5
 refine Ag (thn (hsu _ BN _ σ H _ (Inv.suite I2 (.ref x)) q) λfl s4 q4=>?_)
 cases fl with
 | next =>
  let#[σ4,H4,I4,n4]:=q4;exact#[_,_,Inv.unsuite I I4,n4]
 | brk =>
  let#[σ4,H4,I4,n4]:=q4;exact#[_,_,Inv.unsuite I I4,n4]
 | cont =>
  let#[σ4,H4,I4,n4]:=q4;exact#[_,_,Inv.unsuite I I4,n4]
 | ret v =>
  let#[y,σ4,H4,I4,r4,n4]:=q4;exact#[y,_,_,Inv.unsuite I I4,r4,n4]
def zbi(K:tF)(i:Nat)(D:tG)(te:TX)(th:TS):TS:=λDd σ H=>te σ H (λv H1=>Dd.nx (σ.set i (BJ v)) H1) λcls dx H1=>∃C,cls=.ref C/\cN K (.ref C) (.ref D)=BJ BL/\∀x,H1 x=BK->th Dd σ (upd H1 x (XT x C dx))
def zab{D:tG}(hN:X.N.Nodup)(hy:X.N[i]? = BJ y)(hly:Loc X.env.scope y)(hf:X.fn y=BL\/X.env.scope.names.lookup y=BJ .local)(hst:X.stack=X.env::X.outer/\X.env.frame=BJ X.env.locals)(he:PEX X e te)(hg:Gl X cn)(hm:X.mg cn=BJ (.ref D))(xc:kR X.K D=BL)(hsu:∀e,PSs (Cx.suite X e) (b0::suite) th)(hdb:‹(cn ==("__debug__" : tK))=BM›)(hsw:‹swapsWith e (BJ (.Name y yp)) apos.line X.env=pure BM›) :
  PS X (.Try [.Assign [.Name y yp] e apos] (.ExceptHandler (BJ (.Name cn np)) BK (b0::suite) hpos::hs) [] [] pos) (zbi X.K i D te th):=by
 intros D I hq;refine AL (Ak (AH (Am (he BN s σ H _ _ I hq) (λv s1=>el5 λz H1 I1 r1 q1=>?_) λe s1 fl=>?_) hsw))
 ·exact uL I1 hN hy hly r1 (λs2 I2=>Ae (Ae #[_,H1,I2,q1])) hf
 ·let#[cx,kx,H1,x,C,t,dx,tb,rfl,I1,ob,tr,fx,fT,C',ec,hsb,q1]:=fl;cases ec;have fr:X.A.frames=BJ (X.env::X.outer):=by rw[<- hst.1];exact I1.ok.frames
  have ff:s1.heap.FunFrames X.base (X.env::X.outer):=by rw[<- hst.1];exact I1.stack
  refine qZ fr ff hst.2 hst.2 ob tr λh' T oT ts e1 nT oldT e2 d2 z2 k1 k2=>?_
  have fT':wf X BN H1 T:=by
   rcases oldT with z | z
   ·exact fT T z
   ·exact I1.fpOk z (I1.hok.fresh z)
  have tbs:∀b,tb=.ref b->H1 b=BK:=λb hb=>(fT b hb).1
  have nch:∀b o,s1.heap.get? b=BJ o->b ∉ (x::T::tbL tb)->b≠x/\tb≠.ref b:=λb o Z hb=>by
   refine#[λz=>hb (by simp [z]),λz=>hb ?_];rw[z];simp [tbL]
  have un:Un (frs X.stack) (x::T::tbL tb) H1 H1 s1.heap h':=by
   rw[hst.1];refine#[λb o e n hb hc=>?_,λb o e n hb hc=>?_,λb o e n Z=>n,λb o e hc=>?_,λb xs e=>e,λb o u e=>e,λb ps e=>#[#[],by rw[e];simp]]
   ·let#[a1,a2]:=nch b o e hc;exact k1 b o a1 a2 hb e
   ·let#[a1,a2]:=nch b o e hc;exact k2 b o a1 a2 e
   ·let#[a1,a2]:=nch b o e hc;let#[sl,q]:=k2 b o a1 a2 e;exact#[_,q]
  have hok:HOk X.prog X.w H1 h':=λb u e=>by
   refine (I1.hok b u e).stay (λc v hc q=>k1 c v ?_ ?_ ?_ q) (λZ q=>q) λZ Z q=>q
   ·rintro rfl;rcases hc with rfl | hc
    ·rw[fx.1]at e;cases e
    ·rw[fx.1]at hc;cases hc
   ·intro z;have:=tbs c z;rcases hc with rfl | hc
    ·rw[this]at e;cases e
    ·rw[this]at hc;cases hc
   ·intro z;rw[<- hst.1]at z;have:=I1.stkFree c z;rcases hc with rfl | hc
    ·rw[this]at e;cases e
    ·rw[this]at hc;cases hc
  have I2:Inv X BN σ H1 { s1 with heap:=h' }:=I1.call' (s':={ s1 with heap:=h' }) rfl un hok I1.bare λb hb=>by
   have fb:wf X BN H1 b:=by
    rcases BR.mp hb with z | z
    ·rw[z];exact fx
    ·rcases BR.mp z with z | z
     ·rw[z];exact fT'
     ·cases tb with
      | ref b' =>
       have:b=b':=by simpa [tbL] using z
       rw[this];exact fT b' rfl
      | _=>simp [tbL]at z
   let#[_,a1,_,a3,a4,a5]:=fb;exact#[a3,a1,a4,a5]
  have I3:Inv X BN σ (upd H1 x (XT x C dx)) { s1 with heap:=h' }:=Inv.track I2 fx (zcM e1);exact Zm hg hm hdb xc hsu I3 #[t,_,_,e1] #[oT,ts,e2,d2,z2] #[by rw[zo nT];exact fT'.1,fT'.2] hsb (q1 x fx.1)
def J6(K:tF)(D:tG)(te:TX)(th:TS):TS:=λDd σ H=>te σ H (λz H1=>Dd.rt z H1) λcls dx H1=>∃C,cls=.ref C/\cN K (.ref C) (.ref D)=BJ BL/\∀x,H1 x=BK->th Dd σ (upd H1 x (XT x C dx))
def Vn{D:tG}(hst:X.stack=X.env::X.outer/\X.env.frame=BJ X.env.locals)(he:PEX X e te)(hg:Gl X cn)(hm:X.mg cn=BJ (.ref D))(xc:kR X.K D=BL)(hsu:∀e,PSs (Cx.suite X e) (b0::suite) th)(hdb:‹(cn ==("__debug__" : tK))=BM›) :
  PS X (.Try [.Return (BJ e) apos] (.ExceptHandler (BJ (.Name cn np)) BK (b0::suite) hpos::hs) [] [] pos) (J6 X.K D te th):=by
 intros D I hq;refine AL (Ak (Bp (Am (he BN s σ H _ _ I hq) (λv s1=>el5 λz H1 I1 r1 q1=>?_) λe s1 fl=>?_)))
 ·exact#[z,σ,H1,I1,r1,q1]
 ·let#[cx,kx,H1,x,C,t,dx,tb,rfl,I1,ob,tr,fx,fT,C',ec,hsb,q1]:=fl;cases ec;have fr:X.A.frames=BJ (X.env::X.outer):=by rw[<- hst.1];exact I1.ok.frames
  have ff:s1.heap.FunFrames X.base (X.env::X.outer):=by rw[<- hst.1];exact I1.stack
  refine qZ fr ff hst.2 hst.2 ob tr λh' T oT ts e1 nT oldT e2 d2 z2 k1 k2=>?_
  have fT':wf X BN H1 T:=by
   rcases oldT with z | z
   ·exact fT T z
   ·exact I1.fpOk z (I1.hok.fresh z)
  have tbs:∀b,tb=.ref b->H1 b=BK:=λb hb=>(fT b hb).1
  have nch:∀b o,s1.heap.get? b=BJ o->b ∉ (x::T::tbL tb)->b≠x/\tb≠.ref b:=λb o Z hb=>by
   refine#[λz=>hb (by simp [z]),λz=>hb ?_];rw[z];simp [tbL]
  have un:Un (frs X.stack) (x::T::tbL tb) H1 H1 s1.heap h':=by
   rw[hst.1];refine#[λb o e n hb hc=>?_,λb o e n hb hc=>?_,λb o e n Z=>n,λb o e hc=>?_,λb xs e=>e,λb o u e=>e,λb ps e=>#[#[],by rw[e];simp]]
   ·let#[a1,a2]:=nch b o e hc;exact k1 b o a1 a2 hb e
   ·let#[a1,a2]:=nch b o e hc;exact k2 b o a1 a2 e
   ·let#[a1,a2]:=nch b o e hc;let#[sl,q]:=k2 b o a1 a2 e;exact#[_,q]
  have hok:HOk X.prog X.w H1 h':=λb u e=>by
   refine (I1.hok b u e).stay (λc v hc q=>k1 c v ?_ ?_ ?_ q) (λZ q=>q) λZ Z q=>q
   ·rintro rfl;rcases hc with rfl | hc
    ·rw[fx.1]at e;cases e
    ·rw[fx.1]at hc;cases hc
   ·intro z;have:=tbs c z;rcases hc with rfl | hc
    ·rw[this]at e;cases e
    ·rw[this]at hc;cases hc
   ·intro z;rw[<- hst.1]at z;have:=I1.stkFree c z;rcases hc with rfl | hc
    ·rw[this]at e;cases e
    ·rw[this]at hc;cases hc
  have I2:Inv X BN σ H1 { s1 with heap:=h' }:=I1.call' (s':={ s1 with heap:=h' }) rfl un hok I1.bare λb hb=>by
   have fb:wf X BN H1 b:=by
    rcases BR.mp hb with z | z
    ·rw[z];exact fx
    ·rcases BR.mp z with z | z
     ·rw[z];exact fT'
     ·cases tb with
      | ref b' =>
       have:b=b':=by simpa [tbL] using z
       rw[this];exact fT b' rfl
      | _=>simp [tbL]at z
   let#[_,a1,_,a3,a4,a5]:=fb;exact#[a3,a1,a4,a5]
  have I3:Inv X BN σ (upd H1 x (XT x C dx)) { s1 with heap:=h' }:=Inv.track I2 fx (zcM e1);exact Zm hg hm hdb xc hsu I3 #[t,_,_,e1] #[oT,ts,e2,d2,z2] #[by rw[zo nT];exact fT'.1,fT'.2] hsb (q1 x fx.1)
theorem Q9(bs:List Bool):(aM bs.length).any (λi=>bs.getD i BM)=bs.any id:=by
 induction bs with
 | nil=>rfl
 | cons b bs ih =>
  rw[aF,cU,List.any_cons,eD,List.any_cons,<- ih];rfl
def zhO(K:tF):List V->Hp->VK->Prop:=λxs H Q=>∃(p:tG) (bs:List Bool),xs=[.ref p]/\SqL K H p (bs.map V.bl)/\Q (.bl (bs.any id)) H
def zhb(hc:X.calm=BL):uf X (.builtin "any") (zhO X.K):=by
 intros xs us Q I r h;let#[p,bs,rfl,hS,q]:=h;let#[u,rfl,ru]:=vf r;cases ru;let#[its,rv,pl,hz]:=I.list hS
 have hlen:its.length=bs.length:=by
  have:=rv.length;rw[aa]at this;exact this.symm
 have hh:X.A.in1.handled=BK:=I.ok.hd hc
 have hne:p≠s⁻¹:=by
  let#[o,n,e,_]:=pl;exact aA (av e)
 let#[f0,f1,f2,f3,f4,f5]:=I.fpOk (H':=H) (ak _) (I.hok.fresh (ak _));have I1:=I.kept (t':=s.toks) (h':=s.heap.push { cls:=.type "list_iterator",data:=.fields (w4 [.ref p,.int 0 0]) }) λb o e=>ae _ e;refine call_any_walk (Ao pl.isList ?_);refine#[s⁻¹,_,_,_,_,_,λi=>bs.getD i BM,rfl,Walks.list hh s⁻¹ p hne its.toArray,#[#[_,aE _ rfl,rfl,rfl],?_],?_,?_]
 ·let#[o,n,e,c,d,dt]:=pl;exact#[o,ae _ e,c,n,dt]
 ·intro i v s' Q' E' hv hq;have:=Z6 rv (i:=i) (v:=v) ↥hv;rw[this];exact tU hq
 ·intro h' tk hk
  have e:(aM its.toArray.size).any (λi=>bs.getD i BM)=bs.any id:=by
   rw[aj,hlen,Q9]
  rw[e];refine#[.bl _,H,?_,rfl,q];exact I1.turned (t':=tk) (it:=s⁻¹) (λb o hb q=>hk b o ↥hb q) f0 f1 f3 f4 f5
def CompEL(K:tF)(a:tG)(g:TG)(tt:TT)(te:TE)(own:Nat)(ix:())(σ:L2.St)(H1:Hp)(Q:VK)(D:tG):Prop:=X8 (Iel K a) g tt te own ix σ H1 Q D
def zfc{K:tF}:kO (JT K ta) g tt te own ix σ H Q=ta σ H λvs H1=>∃a,vs=[.ref a]/\(∃xs,SqL K H1 a xs)/\∀D,H1 D=BK->CompEL K a g tt te own ix σ H1 Q D:=rfl
def CompEL.by{g:TG}{tt:TT}{te:TE}{own:Nat}{ix:()}{σ:L2.St}{H1:Hp}{Q:VK}{D:tG}{K:tF}(Pv:Nat->List V->Hp->Prop)(h0:Pv 0 [] (upd H1 D (.lst [])))(hl:∀i acc H',i<=xs.length->Pv i acc H'->SqL K H' a xs)(hs:∀i x acc H' p,xs[i]? = BJ x->Pv i acc H'->H' p=BK->g (.ref p) (vM σ own ix) (upd H' p (.tup [.int (i:Nat),x])) λσ3 H3=>xo (vM σ own ix) σ3/\tt σ3 H3 λb H4=>if b=BL then
   te σ3 H4 λv H5=>H5 D=BJ (.lst acc)/\acc.length<tE/\CNx xs.length i Pv (acc ++ [v]) (upd H5 D (.lst (acc ++ [v])))else CNx xs.length i Pv acc H4) (hd:∀acc H',Pv xs.length acc H'->Q (.ref D) H'):CompEL K a g tt te own ix σ H1 Q D:=by
 refine#[λi m acc H=>m=xs.length - i/\i<=xs.length/\Pv i acc H,#[xs.length,by simp,ax _,h0],?_];rintro i m acc H' ⟨rfl,hi,p⟩;have q:=hl i acc H' hi p;by_cases hlt:i<xs.length
 ·refine .inr #[#[xs,xs[i],q,by simp [hlt]],λv H2 y=>?_];let#[p',x,hp,hx,ev,eH]:=y;subst ev eH;exact hs i x acc H' p' (hx xs q) p hp
 ·have e:i=xs.length:=⋯;subst e;exact .inl #[#[xs,q,rfl],hd acc H' p]
end
open PySem PySem.W PyProof.Rows
end in def Kd(lt:Nat->Nat->Bool){α:Type}:BH α->α
 | .ret a=>a
 | .ask i j k=>Kd lt (k (lt i j))
def Kok(lt:Nat->Nat->Bool)(n:Nat){α:Type}:BH α->(α->Prop)->Prop
 | .ret a,Q=>Q a
 | .ask i j k,Q=>i<n/\j<n/\Kok lt n (k (lt i j)) Q
section
variable{lt:Nat->Nat->Bool}{n:Nat}{α β:Type}
theorem Kok.mono(hq:∀a,Q a->Q' a):∀(t:BH α),Kok lt n t Q->Kok lt n t Q'
 | .ret a,h=>hq a h
 | .ask _ _ k,h=>#[h.1,h.2.1,Kok.mono hq (k _) h.2.2]
theorem Kok.bind : ∀(t:BH α),Kok lt n t (λa=>Kok lt n (f a) Q)->Kok lt n (t.bind f) Q
 | .ret _,h=>h
 | .ask _ _ k,h=>#[h.1,h.2.1,Kok.bind (k _) h.2.2]
theorem Kok.run : ∀(t:BH α),Kok lt n t Q->Q (Kd lt t)
 | .ret _,h=>h
 | .ask _ _ k,h=>Kok.run (k _) h.2.2
theorem Kok.same{Q:α->Prop}:∀(t:BH α),Kok lt n t Q->Kok lt n t (λa=>a=Kd lt t)
 | .ret _,h=>rfl
 | .ask _ _ k,h=>#[h.1,h.2.1,Kok.same (k _) h.2.2]
theorem Kok.wp{I:tJ->Prop}(hc:∀i j C s,i<n->j<n->I s->(∀s',I s'->C (lt i j) s')->cmp i j C s)(hR:∀a s,Q a->I s->R a s):∀(t:BH α) (s:tJ),I s->Kok lt n t Q->t.kasWp cmp R s
 | .ret a,s,hI,h=>hR a s h hI
 | .ask i j k,s,hI,h=>hc i j _ s h.1 h.2.1 hI λs' hI'=>Kok.wp hc hR (k _) s' hI' h.2.2
end
structure Wk(lt:Nat->Nat->Bool):Prop where
 asym:∀a b,lt a b=BL->lt b a=BM
 ntr:∀a b c,lt b a=BM->lt c b=BM->lt c a=BM
section
mutual section
variable{lt:Nat->Nat->Bool}{n:Nat}
abbrev Lq(lt:Nat->Nat->Bool)(a b:Nat):Prop:=lt b a=BM
theorem Wk.refl(W:Wk lt)(a:Nat):Lq lt a a:=by
 cases h:lt a a with
 | false=>exact h
 | true=>exact y6 h (by rw[W.asym a a h];decide)
abbrev pg(p:Array Nat)(i:Nat):Nat:=p.getD i 0
def VS(p:Array Nat)(i:Nat):pg p i=(p[i]?).getD 0:=by simp [pg,Array.getD_eq_getD_getElem?]
def Up(lt:Nat->Nat->Bool)(p:Array Nat)(m:Nat):Prop:=∀i j,i<j->j<m->Lq lt (pg p i) (pg p j)
def Dn(lt:Nat->Nat->Bool)(p:Array Nat)(m:Nat):Prop:=∀i j,i<j->j<m->Lq lt (pg p j) (pg p i)
def Rg(n:Nat)(p:Array Nat):Prop:=p.toList.Perm (aM n)
def Rg.size(h:Rg n p):p.size=n:=by have:=h.length_eq;simpa using this
theorem Rg.bd(h:Rg n p)(hi:i<n):pg p i<n:=by
 have hs:=h.size;have hi':i<p.size:=⋯;have e:pg p i=p[i]:=by simp [pg,fZ,hi']
 rw[e];have hm:p[i] ∈ p.toList:=Array.mem_toList_iff.mpr (Array.getElem_mem hi');exact BX.mp (h.mem_iff.mp hm)
def vR(hj:j<=p.size)(k:Nat):pg (kas_rev p i j) k=if i<=k/\k<j then pg p (i+j - 1 - k)else pg p k:=by rw[VS,kas_rev,getElem?_mirror_all hj];split <;> rw[VS]
def Rg.rev(h:Rg n p)(i j:Nat):Rg n (kas_rev p i j):=(Array.perm_iff_toList_perm.mp (mirror_perm p i j _)).trans h
def Rg.bub(h:Rg n p)(i j:Nat):Rg n (bubble p i j):=(Array.perm_iff_toList_perm.mp (bubble_perm p i j)).trans h
theorem JI(W:Wk lt)(hp:Rg n p):∀(f k:Nat),1<=k->k+f<=n->Up lt p k->Kok lt n (kas_asc p f k) (λm=>k<=m/\m<=k+f/\Up lt p m/\(m=k+f\/lt (pg p m) (pg p (m - 1))=BL))
 | 0,k,h1,h2,hu=>#[ak _,ak _,hu,Or.inl rfl]
 | f+1,k,h1,h2,hu=>by
  have hkn:k<n:=aq (dU (cI f)) h2;have e1:k+1+f=k+(f+1):=cY k 1 f;refine#[hp.bd hkn,hp.bd (ba (Nat.sub_le _ _) hkn),?_];rcases cJ (lt (pg p k) (pg p (k - 1)))with hc | hc
  ·show Kok lt n (if lt (pg p k) (pg p (k - 1))=BL then .ret k else _) _;rw[y9 hc];exact#[ak _,cb _ _,hu,Or.inr hc]
  ·show Kok lt n (if lt (pg p k) (pg p (k - 1))=BL then .ret k else _) _;rw[z9 (by rw[hc];decide)];refine (JI W hp f (k+1) (cI k) (e1 ▸ h2) λi j hij hj=>?_).mono (λm hm=>#[Nat.le_of_succ_le hm.1,e1 ▸ hm.2.1,hm.2.2.1,?_]) _
   ·by_cases e:j=k
    ·subst e;by_cases e2:i=j - 1
     ·subst e2;exact hc
     ·exact W.ntr _ _ _ (hu i (j - 1) (bD (df hij) e2) (Nat.sub_lt h1 Nat.one_pos)) hc
    ·exact hu i j hij (bD (bA hj) e)
   ·rcases hm.2.2.2 with h | h
    ·exact Or.inl (h.trans e1)
    ·exact Or.inr h
def Ev(lt:Nat->Nat->Bool)(p:Array Nat)(a b:Nat):Prop:=∀i j,a<=i->i<b->a<=j->j<b->Lq lt (pg p i) (pg p j)
theorem mir(h1:a<=k)(h2:k<m):a<=a+m - 1 - k/\a+m - 1 - k<m:=⋯
theorem zh0(h1:i<j)(h2:j<m):a+m - 1 - j<a+m - 1 - i:=⋯
def YZ(h:i<k+1)(e:i≠k):i<k:=bD (bA h) e
def zcY(h:1<=k):k - 1<k:=Nat.sub_lt h Nat.one_pos
end
set_option tactic.hygienic true in
def zbM(hm:m<=p.size)(hd:Dn lt p m)(he:Ev lt p a m):Dn lt (kas_rev p a m) m:=by
 intro i j hij hj;rw[vR hm,vR hm];by_cases h1:a<=i
 ·have hi:=dv hij hj;have h2:=aB h1 (cA hij);rw[y9 #[h2,hj],y9 #[h1,hi]];exact he _ _ (mir h2 hj).1 (mir h2 hj).2 (mir h1 hi).1 (mir h1 hi).2
 ·rw[z9 (show ¬ (a<=i/\i<m)from λz=>h1 z.1)];split
  ·rename_i h;exact hd _ _ (aq (fq h1) (mir h.1 h.2).1) (mir h.1 h.2).2
  ·exact hd _ _ hij hj
set_option tactic.hygienic true in
theorem ZR(W:Wk lt):∀(f:Nat) (p:Array Nat) (k q:Nat),Rg n p->1<=k->k+f<=n->q+1<=k->Dn lt p k->Ev lt p (k - (q+1)) k ->
  Kok lt n (kas_desc f p k q) (λr=>Rg n r.1/\k<=r.2.1/\r.2.1<=k+f/\r.2.2+1<=r.2.1/\Dn lt r.1 r.2.1/\Ev lt r.1 (r.2.1 - (r.2.2+1)) r.2.1)
 | 0,p,k,q,hp,h1,h2,hq,hd,he=>#[hp,ak _,cb _ _,hq,hd,he]
 | f+1,p,k,q,hp,h1,h2,hq,hd,he=>by
  have hkn:k<n:=aq (dU (cI f)) h2;have hkp:k<=p.size:=by rw[hp.size];exact cA hkn
  have k1:=zcY h1;have k1n:=dv k1 hkn;have ha:k - (q+1)<=k - 1:=Nat.sub_le_sub_left (cS (ax q)) k;have h2':k+1+f<=n:=cY k 1 f ▸ h2;refine#[hp.bd hkn,hp.bd k1n,?_]
  have one:∀(p:Array Nat),Ev lt p (k+1 - (0+1)) (k+1):=λp i j a b c d=>by
   rw[cw (bA b) a,cw (bA d) c];exact W.refl _
  have fin:∀r:Array Nat × Nat × Nat,Rg n r.1/\k+1<=r.2.1/\r.2.1<=k+1+f/\r.2.2+1<=r.2.1/\Dn lt r.1 r.2.1/\Ev lt r.1 (r.2.1 - (r.2.2+1)) r.2.1->Rg n r.1/\k<=r.2.1/\r.2.1<=k+(f+1)/\r.2.2+1<=r.2.1/\Dn lt r.1 r.2.1/\Ev lt r.1 (r.2.1 - (r.2.2+1)) r.2.1:=λr hr=>#[hr.1,Nat.le_of_succ_le hr.2.1,aB hr.2.2.1 (bY (cY k 1 f)),hr.2.2.2]
  have grow:Lq lt (pg p k) (pg p (k - 1))->Dn lt p (k+1):=λhle i j hij hj=>by
   by_cases e:j=k
   ·subst e;by_cases e2:i=j - 1
    ·subst e2;exact hle
    ·exact W.ntr _ _ _ hle (hd i (j - 1) (bD (df hij) e2) k1)
   ·exact hd i j hij (YZ hj e)
  rcases cJ (lt (pg p k) (pg p (k - 1)))with hc | hc
  ·show Kok lt n (if lt (pg p k) (pg p (k - 1))=BL then _ else _) _;rw[y9 hc];have hle:Lq lt (pg p k) (pg p (k - 1)):=W.asym _ _ hc;split
   ·refine (ZR W f _ (k+1) 0 (hp.rev _ _) (cI k) h2' (cS (ax _)) (λi j hij hj=>?_) (one _)).mono fin _;by_cases e:j=k
    ·subst e;rw[vR hkp,vR hkp,z9 λz=>cM _ z.2];split
     ·rename_i h;exact W.ntr _ _ _ hle (he _ _ ha k1 (mir h.1 h.2).1 (mir h.1 h.2).2)
     ·rename_i h;exact W.ntr _ _ _ hle (hd _ _ (aq (fq λz=>h #[z,hij]) ha) k1)
    ·exact zbM hkp hd he i j hij (YZ hj e)
   ·exact (ZR W f _ (k+1) 0 hp (cI k) h2' (cS (ax _)) (grow hle) (one _)).mono fin _
  ·show Kok lt n (if lt (pg p k) (pg p (k - 1))=BL then _ else _) _;rw[z9 (by rw[hc];decide)];refine#[hp.bd k1n,hp.bd hkn,?_];rcases cJ (lt (pg p (k - 1)) (pg p k))with hd2 | hd2
   ·show Kok lt n (if lt (pg p (k - 1)) (pg p k)=BL then _ else _) _;rw[y9 hd2];exact#[hp,ak _,cb _ _,hq,hd,he]
   ·show Kok lt n (if lt (pg p (k - 1)) (pg p k)=BL then _ else _) _;rw[z9 (by rw[hd2];decide)];refine (ZR W f _ (k+1) (q+1) hp (cI k) h2' (cS hq) (grow hd2) (λi j a b c d=>?_)).mono fin _;rw[Nat.add_sub_add_right]at a c;have b1:∀i,k - (q+1)<=i->i<k->Lq lt (pg p i) (pg p (k - 1))/\Lq lt (pg p (k - 1)) (pg p i):=λi a b=>#[he _ _ a b ha k1,he _ _ ha k1 a b];by_cases e:j=k
    ·subst e;by_cases e3:i=j
     ·subst e3;exact W.refl _
     ·exact W.ntr _ _ _ (b1 i a (YZ b e3)).1 hc
    ·by_cases e3:i=k
     ·subst e3;exact W.ntr _ _ _ hd2 (b1 j c (YZ d e)).2
     ·exact he _ _ a (YZ b e3) c (YZ d e)
def VA(W:Wk lt)(hp:Rg n p)(h1:1<=m)(hm:m<=n)(hd:Dn lt p m):Kok lt n (kas_tail3 m n p) (λr=>Rg n r.2/\1<=r.1/\r.1<=n/\Up lt r.2 r.1):=by
 have hps:m<=p.size:=by rw[hp.size];exact hm
 have hmn:=bY (dC hm);unfold kas_tail3;refine Kok.bind _ ((JI W (hp.rev 0 m) (n - m) m h1 hmn λi j hij hj=>?_).mono (λk hk=>#[hp.rev 0 m,aB h1 hk.1,aB hk.2.1 hmn,hk.2.2.1]) _);have hi:=dv hij hj;rw[vR hps,vR hps,y9 #[ax _,hi],y9 #[ax _,hj]];exact hd _ _ (zh0 hij hj) (mir (ax _) hi).2
def jL(W:Wk lt)(hp:Rg n p)(h1:1<=m)(hm:m+1<=n)(hd:Dn lt p (m+1)):Kok lt n (kas_descPart m n p) (λr=>Rg n r.2/\1<=r.1/\r.1<=n/\Up lt r.2 r.1):=by
 unfold kas_descPart;have hmn:=bY (dC hm);refine Kok.bind _ ((ZR W (n - (m+1)) p (m+1) 0 hp (cI m) hmn (cS (ax _)) hd λi j a b c d=>?_).mono (λr hr=>?_) _)
 ·rw[cw (bA b) a,cw (bA d) c];exact W.refl _
 ·let#[r1,r2,r3,r4,r5,r6]:=hr;have hs:r.2.1<=r.1.size:=by rw[r1.size];exact aB r3 hmn
  have g1:=aB (cI m) r2;have g2:=aB r3 hmn
  (try dsimp only)
  split
  ·exact VA W (r1.rev _ _) g1 g2 (zbM hs r5 r6)
  ·exact VA W r1 g1 g2 r5
def zaJ(W:Wk lt)(hp:Rg n p)(hn:1<=n):Kok lt n (kas_count n p) (λr=>Rg n r.2/\1<=r.1/\r.1<=n/\Up lt r.2 r.1):=by
 have hps:=hp.size;unfold kas_count;have hn1:=bY (dC hn);refine Kok.bind _ ((JI W hp (n - 1) 1 (ak _) hn1 λi j hij hj=>y6 hij (by rw[Cj.mp hj];exact bI i)).mono (λm hm=>?_) _);let#[m1,m2,mu,ms]:=hm;have m2:=aB m2 hn1;by_cases e:(m == n)=BL
 ·rw[y9 e];exact#[hp,m1,m2,mu]
 ·rw[z9 e];have hne:m≠n:=λh=>e (by rw[h];exact beq_self_eq_true _);have hmn:=bD m2 hne;have hlt:lt (pg p m) (pg p (m - 1))=BL:=ms.resolve_left λh=>hne (h.trans (dC hn));have hle:Lq lt (pg p m) (pg p (m - 1)):=W.asym _ _ hlt;have k1:=zcY m1;by_cases h1:m > 1
  ·rw[y9 h1];refine#[hp.bd hn,hp.bd (dv k1 hmn),?_];rcases cJ (lt (pg p 0) (pg p (m - 1)))with hc | hc
   ·show Kok lt n (if lt (pg p 0) (pg p (m - 1))=BL then _ else _) _;rw[y9 hc];exact#[hp,m1,m2,mu]
   ·show Kok lt n (if lt (pg p 0) (pg p (m - 1))=BL then _ else _) _;rw[z9 (by rw[hc];decide)]
    have u0:∀i,i<m->Lq lt (pg p 0) (pg p i):=λi hi=>by
     by_cases h:i=0
     ·subst h;exact W.refl _
     ·exact mu 0 i (Nat.pos_of_ne_zero h) hi
    have ul:∀i,i<m->Lq lt (pg p i) (pg p (m - 1)):=λi hi=>by
     by_cases h:i=m - 1
     ·subst h;exact W.refl _
     ·exact mu i (m - 1) (bD (df hi) h) k1
    have ev:∀i j,i<m->j<m->Lq lt (pg p i) (pg p j):=λi j hi hj=>W.ntr _ _ _ (ul i hi) (W.ntr _ _ _ hc (u0 j hj));have hmp:m<=p.size:=by rw[hps];exact m2
    refine jL W (hp.rev 0 m) m1 hmn λi j hij hj=>?_;by_cases h:j=m
    ·subst h;rw[vR hmp,vR hmp,z9 (λz=>cM _ z.2),y9 #[ax _,hij]];exact W.ntr _ _ _ hle (ev _ _ k1 (mir (ax _) hij).2)
    ·have hj':=YZ hj h;have hi':=dv hij hj';rw[vR hmp,vR hmp,y9 #[ax _,hj'],y9 #[ax _,hi']];exact ev _ _ (mir (ax _) hj').2 (mir (ax _) hi').2
  ·rw[z9 h1];have e1:m=1:=cw (bw h1) m1;subst e1;refine jL W hp (ak _) hmn λi j hij hj=>?_;have h1:j=1:=cw (bA hj) (ba (ax _) hij);subst h1;rw[Cj.mp hij];exact hle
theorem mid(h:l<r):l<=(l+r) / 2/\(l+r) / 2<r:=⋯
theorem Yw(W:Wk lt)(hp:Rg n p)(hk:k<n)(hu:Up lt p k):∀(f l r:Nat),l<=r->r<=k->r - l<=f->(∀i,i<l->Lq lt (pg p i) (pg p k))->(∀i,r<=i->i<k->Lq lt (pg p k) (pg p i)) ->
  Kok lt n (kas_place p k f l r) (λm=>m<=k/\(∀i,i<m->Lq lt (pg p i) (pg p k))/\(∀i,m<=i->i<k->Lq lt (pg p k) (pg p i)))
 | 0,l,r,hl,hr,hf,h1,h2=>by
  have:l=r:=cw hl (Nat.le_of_sub_eq_zero (Nat.le_zero.mp hf));subst this;exact#[hr,h1,h2]
 | f+1,l,r,hl,hr,hf,h1,h2=>by
  unfold kas_place;by_cases e:l ≥ r
  ·rw[y9 e];have:l=r:=cw hl e;subst this;exact#[hr,h1,h2]
  ·rw[z9 e];have hlr:=fq e;let#[a,b]:=mid hlr;have bk:=aq b hr;refine#[hp.bd hk,hp.bd (dv bk hk),?_];generalize (l+r) / 2=m at *;rcases cJ (lt (pg p k) (pg p m))with hc | hc
   ·show Kok lt n (if lt (pg p k) (pg p m)=BL then _ else _) _;rw[y9 hc];refine Yw W hp hk hu f l m a (cA bk) (bA (aq (gb a b) hf)) h1 λi hi hik=>?_;by_cases e2:i=m
    ·subst e2;exact W.asym _ _ hc
    ·exact W.ntr _ _ _ (W.asym _ _ hc) (hu _ _ (bD hi (Ne.symm e2)) hik)
   ·show Kok lt n (if lt (pg p k) (pg p m)=BL then _ else _) _;rw[z9 (by rw[hc];decide)];refine Yw W hp hk hu f (m+1) r b hr (bA (aq (Nat.sub_lt_sub_left hlr (Nat.lt_succ_of_le a)) hf)) (λi hi=>?_) h2;by_cases e2:i=m
    ·subst e2;exact hc
    ·exact W.ntr _ _ _ (hu i m (YZ hi e2) bk) hc
def zbw(hk:k<p.size)(hl:l<=k)(i:Nat):pg (bubble p k (k - l)) i=if i=l then pg p k else if l<i/\i<=k then pg p (i - 1)else pg p i:=by
 have e:k - (k - l)=l:=Nat.sub_sub_self hl;rw[VS,getElem?_bubble hk (k - l) (Nat.sub_le _ _),e];by_cases h:i=l
 ·rw[y9 h,y9 h];exact (VS p k).symm
 ·rw[z9 h,z9 h];by_cases h':l<i/\i<=k
  ·rw[y9 h',y9 h'];exact (VS p (i - 1)).symm
  ·rw[z9 h',z9 h'];exact (VS p i).symm
theorem zbq(W:Wk lt):∀(f:Nat) (p:Array Nat) (k:Nat),Rg n p->k+f=n->Up lt p k->Kok lt n (kas_bin f p k) (λp'=>Rg n p'/\Up lt p' n)
 | 0,p,k,hp,hk,hu=>by
  have:k=n:=hk;subst this;exact#[hp,hu]
 | f+1,p,k,hp,hk,hu=>by
  have hkn:k<n:=hk ▸ dU (cI f);have hkp:k<p.size:=by rw[hp.size];exact hkn
  refine Kok.bind _ ((Yw W hp hkn hu k 0 k (ax _) (ak _) (Nat.sub_le _ _) (λi hi=>y6 hi (bI i)) (λi h1 h2=>y6 h1 (Nat.not_le_of_lt h2))).mono (λl hl=>?_) _);let#[l1,l2,l3]:=hl;refine zbq W f _ (k+1) (hp.bub _ _) ((cY k 1 f).trans hk) λi j hij hj=>?_;have hjk:=bA hj;have j1:=aq (zcY (ba (ax i) hij)) hjk;rw[zbw hkp l1,zbw hkp l1];by_cases h1:i=l
  ·subst h1;rw[y9 rfl,z9 (cB hij),y9 #[hij,hjk]];exact l3 _ (df hij) j1
  ·rw[z9 h1];by_cases h2:j=l
   ·subst h2;rw[y9 rfl,z9 λz=>Nat.lt_asymm z.1 hij];exact l2 _ hij
   ·rw[z9 h2];by_cases h3:l<i/\i<=k
    ·rw[y9 h3,y9 #[dv h3.1 hij,hjk]];exact hu _ _ (gb (ba (ax l) h3.1) hij) j1
    ·rw[z9 h3];by_cases h4:l<j/\j<=k
     ·rw[y9 h4];have hil:i<l:=bD (bw λz=>h3 #[z,cA (aq hij h4.2)]) h1;exact hu _ _ (aq hil (df h4.1)) j1
     ·rw[z9 h4];exact hu _ _ hij (aq (bD (bw λz=>h4 #[z,hjk]) h2) l1)
theorem Wi(W:Wk lt)(hn:1<=n):Kok lt n (kas_sort n) (λp=>Rg n p/\Up lt p n):=by
 unfold kas_sort;refine Kok.bind _ ((zaJ W (p:=bf (aM n)) (by unfold Rg;exact List.Perm.refl _) hn).mono (λr hr=>?_) _);let#[r1,r2,r3,r4]:=hr
 (try dsimp only)
 split
 ·have:max r.1 1=r.1:=⋯;rw[this];exact zbq W _ _ _ r1 ⋯ r4
 ·have:r.1=n:=⋯;rw[this]at r4;exact#[r1,r4]
end
end in def srt{α:Type}(lt:α->α->Bool)(d:α)(xs:List α):List α :=
 if xs.length<2 then xs else (Kd (λi j=>lt (xs.getD i d) (xs.getD j d)) (kas_sort xs.length)).toList.map λi=>xs.getD i d
structure WkO{α:Type}(lt:α->α->Bool):Prop where
 asym:∀a b,lt a b=BL->lt b a=BM
 ntr:∀a b c,lt b a=BM->lt c b=BM->lt c a=BM
set_option tactic.hygienic true in
def zaj{lt:α->α->Bool}(W:WkO lt)(d:α)(xs:List α):(srt lt d xs).Perm xs/\(srt lt d xs).Pairwise λa b=>lt b a=BM:=by
 unfold srt;split
 ·rename_i h;refine#[List.Perm.refl _,?_]
  match xs,h with
  | [],_=>exact List.Pairwise.nil
  | [a],_=>exact fG _ _
  | _::_::_,h=>exact y6 h (by simp)
 ·rename_i h;have W':Wk (λi j=>lt (xs.getD i d) (xs.getD j d)):=#[λa b=>W.asym _ _,λa b c=>W.ntr _ _ _];let#[h1,h2]:=Kok.run _ (Wi (n:=xs.length) W' ⋯);generalize Kd (λi j=>lt (xs.getD i d) (xs.getD j d)) (kas_sort xs.length)=p at h1 h2
  have e:(aM xs.length).map (λi=>xs.getD i d)=xs:=by
   refine List.ext_getElem (by simp) λi a b=>?_;have hb:i<xs.length:=by simpa using b
   simp [hb]
  refine#[(h1.map (λi=>xs.getD i d)).trans (by rw[e]),?_];rw[List.pairwise_map,List.pairwise_iff_getElem];intro i j hi hj hij;have hs:=h1.size;have hi':i<p.size:=by simpa using hi
  have hj':j<p.size:=by simpa using hj
  have q:=h2 i j hij ⋯;have ei:pg p i=p.toList[i]:=by simp [pg,fZ,hi']
  have ej:pg p j=p.toList[j]:=by simp [pg,fZ,hj']
  rw[ei,ej]at q;exact q
theorem Qz{lt lt':Nat->Nat->Bool}{Q:α->Prop}(h:∀i j,i<n->j<n->lt i j=lt' i j):∀t:BH α,Kok lt n t Q->Kd lt t=Kd lt' t
 | .ret _,_=>rfl
 | .ask i j k,q=>by
  show Kd lt (k (lt i j))=Kd lt' (k (lt' i j));rw[<- h i j q.1 q.2.1];exact Qz h _ q.2.2
set_option tactic.hygienic true in
def zbT{lt lt':α->α->Bool}(W:WkO lt){d d':α}{xs:List α}(h:∀a ∈ xs,∀b ∈ xs,lt a b=lt' a b):srt lt d xs=srt lt' d' xs:=by
 have g:∀i,i<xs.length->∃a ∈ xs,xs.getD i d=a/\xs.getD i d'=a:=λi hi=>#[xs[i],d8 hi,by rw[ac,ah hi];rfl,by rw[ac,ah hi];rfl];unfold srt;split
 ·rfl
 ·rename_i hl;have W':Wk (λi j=>lt (xs.getD i d) (xs.getD j d)):=#[λa b=>W.asym _ _,λa b c=>W.ntr _ _ _];have ok:=Wi (n:=xs.length) W' ⋯
  have e:=Qz (lt':=λi j=>lt' (xs.getD i d') (xs.getD j d')) (λi j hi hj=>by
   let#[a,ha,a1,a2]:=g i hi;let#[b,hb,b1,b2]:=g j hj;show lt (xs.getD i d) (xs.getD j d)=lt' (xs.getD i d') (xs.getD j d');rw[a1,a2,b1,b2]
   exact h a ha b hb) _ ok
  rw[<- e];let#[h1,_]:=Kok.run _ ok;refine bp λi hi=>?_;let#[a,_,a1,a2]:=g i (BX.mp (h1.mem_iff.mp hi));rw[a1,a2]
def Qh{lt:β->β->Bool}(f:α->β)(d:α)(xs:List α):srt lt (f d) (xs.map f)=(srt (λa b=>lt (f a) (f b)) d xs).map f:=by
 have e:∀i,(xs.map f).getD i (f d)=f (xs.getD i d):=λi=>by
  rw[ac,ac,au];cases xs[i]? <;> rfl
 unfold srt;rw[aa];split
 ·rfl
 ·erw[e,bc];rfl
end L3
namespace L3
open PySem PySem.W PyProof.Rows
def Sq(lt:Nat->Nat->Bool)(a b:Nat):Prop:=lt a b=BL\/(lt b a=BM/\a<b)
def DnS(lt:Nat->Nat->Bool)(p:Array Nat)(m:Nat):Prop:=∀i j,i<j->j<m->Sq lt (pg p j) (pg p i)
structure Idp(n:Nat)(p:Array Nat)(m:Nat):Prop where
 r:Rg n p
 lo:∀i,i<m->pg p i<m
 hi:∀i,m<=i->i<n->pg p i=i
def Idp.up(h:Idp n p m)(hk:m<=k)(hn:k<=n):Idp n p k:=#[h.r,λi hi=>by
 by_cases e:i<m
 ·have:=h.lo i e;lia
 ·rw[h.hi i ⋯ ⋯];exact hi,λi a b=>h.hi i ⋯ b]
structure DsI(lt:Nat->Nat->Bool)(n:Nat)(p:Array Nat)(k q:Nat):Prop where
 hq:q+1<=k
 hk:k<=n
 id:Idp n p (k - (q+1))
 dn:DnS lt p (k - (q+1))
 st:∀i j,i<k - (q+1)->k - (q+1)<=j->j<k->lt (pg p j) (pg p i)=BL
 ev:∀i j,k - (q+1)<=i->i<k->k - (q+1)<=j->j<k->lt (pg p i) (pg p j)=BM
def DsI.next{lt:Nat->Nat->Bool}(W:Wk lt)(hk:k+1<=n)(h1:DnS lt p k)(h2:Idp n p k)(h0:∀i,i<k->lt (pg p k) (pg p i)=BL):DsI lt n p (k+1) 0:=by
 have e:k+1 - (0+1)=k:=rfl;refine#[⋯,hk,h2,h1,λi j a b c=>?_,λi j a b c d=>?_]
 ·have:j=k:=⋯;subst this;exact h0 i ⋯
 ·have:i=j:=⋯;subst this;exact W.refl _
end L3
namespace L3
structure KeyFam(α:Type) where
 dec:α->List D
 lt:α->α->Bool
 fst:Bool
 d0:α
structure KeyFam.Ok{α:Type}(F:KeyFam α):Prop where
 w:WkO F.lt
 eq:∀a b,uh (F.dec a) (F.dec b)=F.lt a b
 ok:∀a b,Yz (F.dec a) (F.dec b)
 dp:∀a,ui (F.dec a)<40
 sh:∀a,∃d r,F.dec a=d::r/\((F.fst=BL/\∃n,d=.int n)\/(F.fst=BM/\∃l,d=.tup l))
def okF:List D->List D->Prop
 | d::l,e::m=>if eqD d e=BL then okF l m else okD d e
 | _,_=>True
structure KeyFam.OkF{α:Type}(F:KeyFam α):Prop where
 w:WkO F.lt
 eq:∀a b,uh (F.dec a) (F.dec b)=F.lt a b
 ok:∀a b,okF (F.dec a) (F.dec b)
 dp:∀a,ui (F.dec a)<40
 sh:∀a,∃d r,F.dec a=d::r/\((F.fst=BL/\∃n,d=.int n)\/(F.fst=BM/\∃l,d=.tup l))
theorem zbR:∀{l m:List D},Yz l m->okF l m
 | [],m,_=>by erw[okF]
 | d::l,[],_=>by erw[okF]
 | d::l,e::m,h=>by
  erw[Yz]at h;erw[okF];split
  ·exact zbR h.2
  ·exact h.1
def KeyFam.Ok.f{F:KeyFam α}(h:F.Ok):F.OkF:=#[h.w,h.eq,λa b=>zbR (h.ok a b),h.dp,h.sh]
def Inv.repin(I:Inv X (BN ++ [(b,o)]) σ H s)(hs:X.s₀.heap.objs.size<=b)(hn:∀p ∈ X.pn ++ BN,p.1≠b)(sb:Heap.SameBut b s.heap h')(ho:h'.get? b=BJ o')(hd:∀v,o'.data≠.cell v) :
  Inv X (BN ++ [(b,o')]) σ H { s with heap:=h' }:=by
 have I1:Inv X BN σ H s:=I.unpinned;let#[p1,p2,p3,p4,p5]:=I.pin (b,o) (aH _ (aH _ (BV.mpr rfl)))
 have I2:Inv X BN σ H { s with heap:=h' }:=Inv.turns I1 (fp:=[b]) (t':=s.toks) (λb' u hb e=>(sb.2 b' ↥hb).trans e) λb' hb=>by
  have e:b'=b:=by simpa using hb
  subst e;refine#[p2,p3,p4,.inr hs,λx c e z=>?_,hn];let#[v,o1,ho1,hd1]:=I.cell x c e;subst z;rw[p1]at ho1;cases ho1;exact p5 v hd1
 exact I2.pins_of λp hp=>by
  rcases BS.mp hp with z | z
  ·exact I2.pin p (aH _ z)
  ·have e:p=(b,o'):=by simpa using z
   subst e;exact#[ho,p2,p3,p4,hd]
def Inv.newpin(I:Inv X BN σ H s)(hf:wf X BN H b)(ho:s.heap.get? b=BJ o)(hd:∀v,o.data≠.cell v):Inv X (BN ++ [(b,o)]) σ H s :=
 I.pins_of λp hp=>by
  rcases BS.mp hp with z | z
  ·exact I.pin p (aH _ z)
  ·have e:p=(b,o):=by simpa using z
   subst e;exact#[ho,hf.1,hf.2.1,hf.2.2.1,hd]
set_option tactic.hygienic true in
theorem zd9(I:Inv X BN σ H s)(hu:A.units+50<cLine):∀(l m:List D) (xs ys:List V) (its its':List tH) (i:Nat),Iss X.K H l xs->Iss X.K H m ys->Vals xs its->Vals ys its'->okF l m->ui l<40 ->
  (b=BL->i=0->(∃n r,l=.int n::r)/\∃n r,m=.int n::r)->Q (uh l m) s->PySem.W.KatLex X.prog X.w A b (decide (its.length<its'.length)) Q (its.zip its') i s
 | [],m,xs,ys,its,its',i,h1,h2,r1,r2,ok,hd,hb,q=>by
  erw[Iss]at h1;subst h1;cases r1
  have e:uh [] m=decide (([]:List tH).length<its'.length):=by
   have e1:=h2.len;have e2:=r2.length;have e3:m.length=its'.length:=⋯;rw[<- e3]
   cases m with
   | nil=>simp [uh]
   | cons _ _=>simp [uh]
  rw[e]at q;rw[List.zip_nil_left];exact gB q
 | d::l,[],xs,ys,its,its',i,h1,h2,r1,r2,ok,hd,hb,q=>by
  erw[Iss]at h2;subst h2;cases r2;erw[uh]at q;rw[List.zip_nil_right];exact gB ↥q
 | d::l,e::m,xs,ys,its,its',i,h1,h2,r1,r2,ok,hd,hb,q=>by
  erw[Iss]at h1 h2;let#[x,xr,rfl,hx,hxr]:=h1;let#[y,yr,rfl,hy,hyr]:=h2
  cases r1 with | cons rx rxr =>
  cases r2 with | cons ry ryr =>
  erw[okF]at ok;erw[ui]at hd;rename_i u us v vs;rw[dO];refine PySem.W.kat_cons (jV I 45 A d e x y u v ⋯ ⋯ hx hy rx ry X.prog X.w _ _ ?_)
  cases he:eqD d e with
  | true =>
   refine PySem.W.kat_yes ?_;have:=zd9 I (b:=b) hu l m xr yr us vs (i+1) hxr hyr rxr ryr (by rw[y9 he]at ok;exact ok) ⋯ (λZ z=>y6 z ⋯) (by simpa only[uh,he,if_true] using q);simpa using this
  | false =>
   refine PySem.W.kat_no ?_;have q':Q (ltD d e) s:=by simpa only[uh,he,be,if_false] using q
   by_cases hbi:(b && i == 0)=BL
   ·rw[hbi];erw[aU,beq_iff_eq]at hbi;let#[#[n,r,e1],n',r',e2]:=hb hbi.1 hbi.2;cases e1;cases e2;erw[Is]at hx hy;subst hx hy;let#[t,rfl]:=rx;let#[t',rfl]:=ry;erw[ltD]at q';exact oneLt_int q'
   ·rw[show (b && i == 0)=BM by simpa using hbi];exact PySem.W.kat_one _ _ (zaW I 45 A d e x y u v ⋯ ⋯ (by rw[z9 (by rw[he];decide)]at ok;exact ok) hx hy rx ry X.prog X.w _ _ q')
def zcR(I:Inv X BN σ H s)(hu:A.units+50<cLine)(hx:Is X.K H (.tup l) x)(hy:Is X.K H (.tup m) y)(rx:RelV x u)(ry:RelV y v)(ok:okF l m)(hd:ui l<40)(hb:b=BL->(∃n r,l=.int n::r)/\∃n r,m=.int n::r)(q:Q (uh l m) s):tI (model X.prog X.w) A (keyLt' (tuples' b) u v) Q E s:=by
 erw[Is]at hx hy;let#[a,xs,rfl,h1,h2]:=hx;let#[c,ys,rfl,g1,g2]:=hy;cases rx;cases ry;let#[its,r,#[o,ho,hoc,n,hod],_]:=I.tuple h1;let#[its',r',#[o',ho',hoc',n',hod'],_]:=I.tuple g1;refine PySem.W.kat_lt ho hod ho' hod' ?_;have:=zd9 I (A:=A) (b:=b) (Q:=Q) hu l m xs ys its its' 0 h2 g2 r r' ok hd (λz Z=>hb z) q;simpa using this
set_option tactic.hygienic true in
mutual section
theorem zbL{F:KeyFam α}(FO:F.OkF)(I:Inv X BN σ H s):∀(rs:List α) (acc:List V) (ks:List tH),Iss X.K H (rs.map λa=>.tup (F.dec a)) acc->Vals acc ks ->
  ∃fs,PySem.W.KatTups s.heap ks fs/\fs.length=rs.length/\∀v ∈ fs,PySem.W.Looks M s.heap (typeOf v) (.type (if F.fst=BL then "int" else "tuple"))
 | [],acc,ks,h,r=>by
  erw[aJ,Iss]at h;subst h;cases r;exact#[[],PySem.W.KatTups.nil,rfl,λv hv=>by cases hv]
 | a::rs,acc,ks,h,r=>by
  erw[ao,Iss]at h;let#[x,xr,rfl,hx,hxr]:=h
  cases r with | cons rx rxr =>
  rename_i u us;let#[fs,t1,t2,t3]:=zbL FO I (M:=M) rs xr us hxr rxr;erw[Is]at hx;let#[c,xs,rfl,h1,h2]:=hx;cases rx;let#[its,ri,#[o,ho,hoc,n,hod],_]:=I.tuple h1;let#[d,dr,ed,hsh]:=FO.sh a;rw[ed]at h2;erw[Iss]at h2;let#[y,yr,rfl,hy,_]:=h2
  cases ri with | cons ry rir =>
  rename_i v vs;refine#[v::fs,PySem.W.KatTups.cons ho hoc hod (by simp) t1,by simp [t2],λz hz=>?_];rcases BR.mp hz with e | hz
  ·subst e;rcases hsh with ⟨hf,n',rfl⟩ | ⟨hf,l,rfl⟩
   ·rw[y9 hf];erw[Is]at hy;subst hy;let#[t,rfl]:=ry;exact PySem.W.Looks.of_pure rfl
   ·rw[z9 (by rw[hf];decide)];erw[Is]at hy;let#[c',xs',rfl,g1,_]:=hy;cases ry;let#[its',ri',#[o',ho',hoc',n',hod'],_]:=I.tuple g1;rw[<- hoc'];exact (PySem.W.Looks.ld ho').andThen .now
  ·exact t3 z hz
def Ub{α:Type}(K:tF)(F:KeyFam α)(xs:List V)(Q:VK):List V->Hp->Prop:=λacc H'=>∃rs:List α,Iss K H' (rs.map λa=>.tup (F.dec a)) acc /\
 ∀ys:List (α × V),ys=srt (λp q=>F.lt p.1 q.1) (F.d0,.non) (rs.zip xs)->∀D,H' D=BK->Q (.ref D) (upd H' D (.lst (ys.map (·.2))))
def Inv.fp_of_pin(I:Inv X (BN ++ [(b,o)]) σ H s)(hs:X.s₀.heap.objs.size<=b)(hn:∀p ∈ X.pn ++ BN,p.1≠b):wf X BN H b:=by let#[p1,p2,p3,p4,p5]:=I.pin (b,o) (aH _ (aH _ (BV.mpr rfl)));refine#[p2,p3,p4,.inr hs,λx c e z=>?_,hn];let#[v,o1,ho1,hd1]:=I.cell x c e;subst z;rw[p1]at ho1;cases ho1;exact p5 v hd1
def Inv.at_pin(I:Inv X (BN ++ [(b,o)]) σ H s):s.heap.get? b=BJ o:=(I.pin (b,o) (aH _ (aH _ (BV.mpr rfl)))).1
def wj : ∀v,(tX c xs n).data≠.cell v:=λv z=>by cases z
def zeY{D kS:tG}{st:SortSt}(I:Inv X ((BN ++ [(D,tX "list" #[] e1)]) ++ [(kS,tX "list" (bf ks) e)]) σ H s)(hD:X.s₀.heap.objs.size<=D)(hK:X.s₀.heap.objs.size<=kS)(nD:∀p ∈ X.pn ++ BN,p.1≠D)(nK:∀p ∈ X.pn ++ (BN ++ [(D,tX "list" #[] e1)]),p.1≠kS)(hkz:ks.length<64)(hout:(arrOf st).map (·.2)=bf out)(hoz:out.length<64)(hf:failedOf st=BK)(h:∀s' c,Inv X (BN ++ [(D,tX "list" (bf out) c)]) σ H s'->P (.done (.ret .none)) s') :
  tI (model X.prog X.w) A (ksk_tail D BM e1 (.ref kS) st) P E s:=by
 have pk:=Inv.at_pin I;have s1:=Heap.SameBut.update s.heap kS (Obj.mapSeq λZ=>(#[]:Array tH));obtain⟨ck,hck⟩:∃ck,(s.heap.update kS (Obj.mapSeq λZ=>(#[]:Array tH))).get? kS=BJ (tX "list" #[] ck):=#[_,get?_update_seq pk λZ=>#[]];have I2:=(Inv.repin I hK nK s1 hck wj).unpinned;have pd:=Inv.at_pin I2;have s2:=Heap.SameBut.update (s.heap.update kS (Obj.mapSeq λZ=>(#[]:Array tH))) D (Obj.mapSeq λZ=>bf out);obtain⟨c2,hc2⟩:∃c2,((s.heap.update kS (Obj.mapSeq λZ=>(#[]:Array tH))).update D (Obj.mapSeq λZ=>bf out)).get? D=BJ (tX "list" (bf out) c2):=#[_,get?_update_seq pd λZ=>bf out];have I3:=Inv.repin I2 hD nD s2 hc2 wj;unfold ksk_tail
 (try dsimp only)
 rw[hout];refine tw (listUpdate_at pk rfl ?_ (by rw[aj,tZ];lia) (ax _));refine tw (Ax ?_);refine tw (seqEpoch_at pd rfl ?_);refine tw (listUpdate_at pd rfl ?_ (ax _) (by erw[be,if_false];rw[aj,tZ];lia));rw[hf];erw[bne_self_eq_false,be,if_false];exact tz (h _ c2 I3)
def zg0{F:KeyFam α}(FO:F.OkF){rs:List α}{T:SortSt->Sem PySem.Fin}(hu:A.units+50<cLine)(I:Inv X pz σ H s)(rk:Vals acc ks)(rv:Vals xs its)(hl:ks.length=its.length)(hz:its.length<64)(hR:Iss X.K H (rs.map λa=>.tup (F.dec a)) acc)(h:∀st s' (out:List tH),Vals ((srt (λp q=>F.lt p.1 q.1) (F.d0,V.non) (rs.zip xs)).map (·.2)) out->out.length<64->(arrOf st).map (·.2)=bf out->failedOf st=BK->Inv X pz σ H s'->tI (model X.prog X.w) A (T st) P E s') :
  tI (model X.prog X.w) A (do
   let kind <- if its.toArray.size<2 then pure general' else keyKind' (bf ks)
   let (Unit.unit,st) <- (if its.toArray.size<2 then pure Unit.unit else sortRuns').run (SortSt.mk' kind ((bf ks).zip its.toArray) #[] 7 BK)
   T st) P E s:=by
 have L1:=hR.len;have L2:=rk.length;have L3:=rv.length;rw[aa]at L1;have r1:rs.length=its.length:=(L1.symm.trans L2).trans hl;have lz:(rs.zip xs).length=its.length:=by rw[List.length_zip,r1,L3,eh]
 by_cases h2:its.toArray.size<2
 ·rw[y9 h2,y9 h2];refine tw (tz ?_);dsimp only;rw[StateT.run_pure];refine tw (tz ?_)
  (try dsimp only)
  refine h _ _ its ?_ hz ?_ rfl I
  ·rw[aj]at h2;unfold srt;rw[y9 (by rw[lz];exact h2),List.map_snd_zip (bY (L3.trans r1.symm))];exact rv
  ·show ((bf ks).zip its.toArray).map (·.2)=_;apply Array.toList_inj.mp;rw[Array.toList_map,ksk_zip];exact List.map_snd_zip (bY hl.symm)
 ·rw[z9 h2,z9 h2];rw[aj]at h2;let#[fs,t1,t2,t3]:=zbL FO I (M:=model X.prog X.w) rs acc ks hR rk;refine tw (PySem.W.kat_kind t1 ⋯ t3 (by simp) ?_)
  have hfst:((Value.type (if F.fst=BL then "int" else "tuple"):tH) != Value.type "tuple")=F.fst:=by
   cases hF:F.fst with
   | true=>rfl
   | false=>rfl
  rw[hfst];have W:Wk (λi j=>F.lt (rs.getD i F.d0) (rs.getD j F.d0)):=#[λa b=>FO.w.asym _ _,λa b c=>FO.w.ntr _ _ _];have ok:=Wi (n:=its.length) W (cA (bw h2))
  have lt_eq:(λi j=>F.lt (rs.getD i F.d0) (rs.getD j F.d0))=(λi j=>(λ(p q:α × V)=>F.lt p.1 q.1) ((rs.zip xs).getD i (F.d0,.non)) ((rs.zip xs).getD j (F.d0,.non))):=by
   have one:∀i,((rs.zip xs).getD i (F.d0,V.non)).1=rs.getD i F.d0:=λi=>by
    by_cases hi:i<its.length
    ·have a1:i<rs.length:=ce hi r1.symm;have a2:i<xs.length:=ce hi L3.symm;rw[ac,ac,ah (ce hi lz.symm),ah a1];simp
    ·rw[ac,ac,cE (aB (bY lz) (bw hi)),cE (aB (bY r1) (bw hi))];rfl
   funext i j;erw[one]
  have wp:=Kok.wp (n:=its.length) (cmp:=gC X.prog X.w A (tuples' F.fst) ks) (I:=λs'=>Inv X pz σ H s')
   (R:=λp s'=>p=Kd (λi j=>F.lt (rs.getD i F.d0) (rs.getD j F.d0)) (PySem.W.kas_sort its.length)/\Inv X pz σ H s')
   (λi j C s' hi hj I' hC=>?_) (λp s' hp I'=>#[hp,I']) _ s I (Kok.same _ ok)
  ·have run:=PySem.W.kat_run (E:=E) (vs:=its) (ks:=ks) (Q:=λst' s'=>∃p:Array Nat,p.size=its.length/\arrOf st'=p.map (PySem.W.kas_item (ks.toArray.zip its.toArray))/\failedOf st'=BK/\_) hl (bw h2) hz (λp' st' s' a1 a2 a3 a4=>#[p',a1,a2,a3,a4]) wp;refine tw (Am run ?_ λZ Z e=>e);rintro⟨⟨⟩,st'⟩ s' ⟨p,hp,har,hf,hpk,I'⟩
   (try dsimp only)
   have hout:=PySem.W.kat_snds (ks:=ks) (vs:=its) hl har;have hR1:Rg its.length p:=by rw[hpk];exact (Kok.run _ ok).1
   have g1:(p.toList.map λi=>(rs.zip xs).getD i (F.d0,.non))=srt (λp q=>F.lt p.1 q.1) (F.d0,.non) (rs.zip xs):=by
    unfold srt;rw[z9 (by rw[lz];exact h2),lz,<- lt_eq,<- hpk]
   have olen:(p.toList.map λi=>its.getD i u6).length=its.length:=by rw[aa,eK,hp]
   refine h _ _ (p.toList.map λi=>its.getD i u6) ?_ (ba (bY olen) hz) hout hf I';rw[<- g1,bc]
   have all:∀(js:()),(∀j ∈ js,j<its.length)->Vals (js.map ((λx:α × V=>x.2) ∘ λi=>(rs.zip xs).getD i (F.d0,.non))) (js.map λi=>its.getD i u6):=by
    intro js
    induction js with
    | nil=>intro _;exact .nil
    | cons j js ih =>
     intro hj;refine .cons ?_ (ih λi hi=>hj i (aw _ hi));have hjl:=hj j aC;have a1:j<xs.length:=ce hjl L3.symm;let#[u,hu1,ru]:=we rv (j:=j) (x:=xs[j]) (ah a1)
     have e1:((rs.zip xs).getD j (F.d0,V.non)).2=xs[j]:=by
      rw[ac,ah (ce hjl lz.symm)];simp
     have e2:its.getD j u6=u:=by rw[ac,hu1];rfl
     show RelV ((rs.zip xs).getD j (F.d0,V.non)).2 (its.getD j u6);rw[e1,e2];exact ru
   exact all p.toList λj hj=>BX.mp (hR1.mem_iff.mp hj)
  ·have a1:i<rs.length:=ce hi r1.symm;have a2:j<rs.length:=ce hj r1.symm;have gi:(rs.map λa=>_root_.L3.D.tup (F.dec a))[i]? = BJ (.tup (F.dec rs[i])):=by rw[au,ah a1];rfl
   have gj:(rs.map λa=>_root_.L3.D.tup (F.dec a))[j]? = BJ (.tup (F.dec rs[j])):=by rw[au,ah a2];rfl
   let#[x,hx,ix]:=hR.at gi;let#[y,hy,iy]:=hR.at gj;let#[u,hu1,ru]:=we rk hx;let#[v,hv1,rv1]:=we rk hy;have e1:ks.getD i u6=u:=by rw[ac,hu1];rfl
   have e2:ks.getD j u6=v:=by rw[ac,hv1];rfl
   have e3:rs.getD i F.d0=rs[i]:=by rw[ac,ah a1];rfl
   have e4:rs.getD j F.d0=rs[j]:=by rw[ac,ah a2];rfl
   unfold gC;rw[e1,e2];refine zcR I' hu ix iy ru rv1 (FO.ok _ _) (FO.dp _) (λhb=>?_) ?_
   ·let#[d,r,ed,hd]:=FO.sh rs[i];let#[d',r',ed',hd']:=FO.sh rs[j];rcases hd with ⟨_,n,rfl⟩ | ⟨z,_⟩
    ·rcases hd' with ⟨_,n',rfl⟩ | ⟨z,_⟩
     ·exact#[#[n,r,ed],n',r',ed']
     ·rw[hb]at z;cases z
    ·rw[hb]at z;cases z
   ·rw[FO.eq,<- e3,<- e4];exact hC s' I'
def zgt{F:KeyFam α}(FO:F.OkF){D kS:tG}{rs:List α}(hu:A.units+50<cLine)(I:Inv X ((BN ++ [(D,tX "list" #[] e1)]) ++ [(kS,tX "list" (bf ks) e)]) σ H s)(hD:X.s₀.heap.objs.size<=D)(hK:X.s₀.heap.objs.size<=kS)(nD:∀p ∈ X.pn ++ BN,p.1≠D)(nK:∀p ∈ X.pn ++ (BN ++ [(D,tX "list" #[] e1)]),p.1≠kS)(rk:Vals acc ks)(rv:Vals xs its)(hl:ks.length=its.length)(hz:its.length<64)(hR:Iss X.K H (rs.map λa=>.tup (F.dec a)) acc)(h:∀s' (ys:List (α × V)) (out:List tH) c,ys=srt (λp q=>F.lt p.1 q.1) (F.d0,.non) (rs.zip xs)->Vals (ys.map (·.2)) out->out.length<64->Inv X (BN ++ [(D,tX "list" (bf out) c)]) σ H s'->P (.done (.ret .none)) s') :
  tI (model X.prog X.w) A (ksk_end D BM its.toArray e1 (.ref kS) (bf ks)) P E s:=by
 unfold ksk_end;erw[be,if_false];exact zg0 FO hu I rk rv hl hz hR λst s' out hv ho har hf I'=>zeY I' hD hK nD nK ⋯ har ho hf λs2 c I2=>h s2 _ out c rfl hv ho I2
def qw(kc:V->Hp->VK->Prop):List V->List V->Hp->(List V->Hp->Prop)->Prop
 | [],acc,H,Q=>Q acc H
 | x::xs,acc,H,Q=>kc x H (λk H'=>qw kc xs (acc ++ [k]) H' Q)
def zdk(FO:F.Ok)(hr:Room (k+2) X.A)(hkc:∀(pins':List (tG × Au)) (s:tJ) (H:Hp) (x:V) (u:tH) (Q:VK),Inv X pins' σ H s->RelV x u->kc x H Q->tI (model X.prog X.w) X.A.in1.in1 (call (.ref q) [u]) (EP X pins' σ Q) (λZ Z=>False) s){D kS:tG}(I:Inv X ((BN ++ [(D,tX "list" #[] e1)]) ++ [(kS,tX "list" #[] 0)]) σ H s)(hD:X.s₀.heap.objs.size<=D)(hK:X.s₀.heap.objs.size<=kS)(nD:∀p ∈ X.pn ++ BN,p.1≠D)(nK:∀p ∈ X.pn ++ (BN ++ [(D,tX "list" #[] e1)]),p.1≠kS)(rv:Vals xs its)(hz:its.length<64)(ht:qw kc xs [] H (Ub X.K F xs Q))(hP:∀s',EP X BN σ Q (.ref D) s'->P (.done (.ret .none)) s') :
  tI (model X.prog X.w) X.A.in1.in1 (ksk_rest D (.ref q) BM its.toArray e1 (.ref kS)) P E s:=by
 unfold ksk_rest;refine tw (AM ?_);rw[List.forIn_toArray]
 refine tw (ksk_fold (λj s'=>∃acc ks e H',Inv X ((BN ++ [(D,tX "list" #[] e1)]) ++ [(kS,tX "list" (bf ks) e)]) σ H' s'/\Vals acc ks/\ks.length=j/\qw kc (xs.drop j) acc H' (Ub X.K F xs Q))
  its 0 s #[[],[],0,H,I,.nil,rfl,ht] (λj x s1 hx hJ=>?_) λs1 hJ=>?_)
 ·let#[acc,ks,e,H1,I1,rk,hkl,tk]:=hJ;rw[eE]at hkl tk;have hjl:j<its.length:=(BP.mp hx).1;have L3:=rv.length;let#[u,hu,ru]:=we rv (j:=j) (x:=xs[j]) (ah ⋯);rw[hx]at hu;cases hu;rw[aT ⋯]at tk;refine tw (AA (Am (hkc _ _ _ _ _ _ I1 ru tk) (λkv s2 hk=>?_) λZ Z z=>z.elim));let#[v,H2,I2,rv2,tk2]:=hk;have pk:=Inv.at_pin I2;have sb:=Heap.SameBut.update s2.heap kS (Obj.mapSeq (·.push kv));have ea:(bf ks).push kv=bf (ks ++ [kv]):=by simp
  obtain⟨c2,hc2⟩:∃c2,(s2.heap.update kS (Obj.mapSeq (·.push kv))).get? kS=BJ (tX "list" (bf (ks ++ [kv])) c2):=#[_,by rw[<- ea];exact get?_update_seq pk (·.push kv)];have I3:=Inv.repin I2 hK nK sb hc2 wj
  (try dsimp only)
  refine tw (listUpdate_at pk rfl ?_ (by rw[aj,tZ];lia) (by rw[Array.size_push,aj,tZ];lia));refine tz #[rfl,acc ++ [v],ks ++ [kv],c2,H2,I3,rk.append (.cons rv2 .nil),by rw[am,fQ,hkl];lia,?_];rw[eE];exact tk2
 ·let#[acc,ks,e,H1,I1,rk,hkl,tk]:=hJ;rw[eE]at hkl tk;have L3:=rv.length;rw[<- L3,fm]at tk;let#[rs,hR,hq]:=tk
  (try dsimp only)
  refine tw (listItems_at (Inv.at_pin I1) rfl ?_);refine zgt FO.f (by have:=hr.in1.in1.un;lia) I1 hD hK nD nK rk rv hkl hz hR λs' ys out c p1 p3 p4 I'=>hP s' ?_;have fp:=Inv.fp_of_pin I' hD nD;refine#[.ref D,_,Inv.track I'.unpinned (a:=D) (o:=.lst (ys.map (·.2))) fp #[?_,out,c,p3,Inv.at_pin I'],rfl,hq ys p1 D fp.1];rw[p3.length,tZ];lia
def JW(FO:F.Ok)(hr:Room (k+2) X.A)(hkc:∀(pins':List (tG × Au)) (s:tJ) (H:Hp) (x:V) (u:tH) (Q:VK),Inv X pins' σ H s->RelV x u->kc x H Q->tI (model X.prog X.w) X.A.in1.in1 (call (.ref q) [u]) (EP X pins' σ Q) (λZ Z=>False) s)(I:Inv X BN σ H s)(hS:SqL X.K H l xs)(hz:xs.length<64)(ht:qw kc xs [] H (Ub X.K F xs Q)) :
  tI (model X.prog X.w) X.A (call (.builtin "sorted") [.ref l] [(bO "key",.ref q)]) (EP X BN σ Q) X.xe s:=by
 let#[its,rv,pl,_]:=I.list hS;have hlen:=rv.length;have hsl:its.length<=tE:=by rw[tZ];lia
 refine call_function_entry_kw kind_sorted plain_sorted entry_sorted (ksk_s1 _ _) ?_;unfold Builtin.«sorted»;refine tw (m:=checkCount "sorted" 1 1 _) (tz ?_);refine tw (collect_list pl.isList ?_ hsl);refine tw (Bg ?_ hsl);generalize hh1:((s.heap.push (tX "list" #[] 0)).update s⁻¹ (Obj.mapSeq (· ++ its.toArray)))=h1;have sz1:h1.objs.size=s⁻¹+1:=by rw[<- hh1,d6,size_push']
 have kp1:∀b o,s.heap.get? b=BJ o->h1.get? b=BJ o:=λb o e=>by
  have hlt:b<s⁻¹:=av e;rw[<- hh1,Heap.get?_update_ne _ _ _ _ (aA hlt),Heap.get?_push_ne _ _ _ (aA hlt)];exact e
 have hoL:(h1.push (tX "list" its.toArray 0)).get? h1.objs.size=BJ (tX "list" its.toArray 0):=aE _ rfl;show tI _ _ _ _ _ { s with heap:=h1.push (tX "list" its.toArray 0) };refine tw (tO (wpAny_call_entry_kw slot_list_sort #[_,hoL,rfl] entry_list_sort ?body (ksk_l1 _ _)));show tI _ _ (Builtin.«list.sort» #[[.ref h1.objs.size],[(bO "key",.ref q)]]) _ _ _;rw[ksk_t1];generalize hh2:h1.push (tX "list" its.toArray 0)=h2 at hoL;have sz2:h2.objs.size=h1.objs.size+1:=by rw[<- hh2,size_push']
 have kp2:∀b o,s.heap.get? b=BJ o->h2.get? b=BJ o:=λb o e=>by rw[<- hh2];exact ae _ (kp1 b o e)
 generalize hDD:h1.objs.size=D at hoL;obtain⟨e1,ho1⟩:∃e1,(h2.update D (Obj.mapSeq λZ=>(#[]:Array tH))).get? D=BJ (tX "list" #[] e1):=#[_,get?_update_seq hoL λZ=>#[]];have hDs:s⁻¹<=D:=by rw[<- hDD,sz1];exact dq _
 have sb:=Heap.SameBut.update h2 D (Obj.mapSeq λZ=>(#[]:Array tH));unfold ksk_tree;refine tw (listItems_at hoL rfl ?_);refine tw (listUpdate_at hoL rfl ?_ hsl (ax _));refine tw (seqEpoch_at ho1 rfl ?_);refine tw (wpAny_newTuple ?_ hsl);refine tw (Bg ?_ (ax _));refine tO ?_;generalize hh3:(h2.update D (Obj.mapSeq λZ=>(#[]:Array tH))).push (tX "tuple" its.toArray 0)=h3;have sz3:h3.objs.size=s⁻¹+3:=by rw[<- hh3,size_push',d6,sz2,sz1]
 have hoK:(h3.push (tX "list" #[] 0)).get? h3.objs.size=BJ (tX "list" #[] 0):=aE _ rfl;have hoD:(h3.push (tX "list" #[] 0)).get? D=BJ (tX "list" #[] e1):=ae _ (by rw[<- hh3];exact ae _ ho1)
 have kp3:∀b o,s.heap.get? b=BJ o->(h3.push (tX "list" #[] 0)).get? b=BJ o:=λb o e=>by
  have hlt:b<s⁻¹:=av e;refine ae _ ?_;rw[<- hh3];exact ae _ ((sb.2 b (aA (aq hlt hDs))).trans (kp2 b o e))
 have I1:Inv X BN σ H { s with heap:=h3.push (tX "list" #[] 0) }:=I.kept (t':=s.toks) kp3;have hsK:s⁻¹<=h3.objs.size:=by rw[sz3];exact cb _ _
 have fD:wf X BN H D:=I.fpOk hDs (I.hok.fresh hDs);have fK:wf X BN H h3.objs.size:=I.fpOk hsK (I.hok.fresh hsK);have I2:=Inv.newpin I1 fD hoD wj
 have nK:∀p ∈ X.pn ++ (BN ++ [(D,tX "list" #[] e1)]),p.1≠h3.objs.size:=λp hp=>by
  rcases BS.mp hp with z | z
  ·exact fK.2.2.2.2.2 p (bL _ z)
  ·rcases BS.mp z with z | z
   ·exact fK.2.2.2.2.2 p (aH _ z)
   ·have e:p=(D,tX "list" #[] e1):=by simpa using z
    subst e;show D≠_;lia
 have I3:=Inv.newpin I2 (b:=h3.objs.size) #[fK.1,fK.2.1,fK.2.2.1,fK.2.2.2.1,fK.2.2.2.2.1,nK] hoK wj;have hsz:=I.sz;have hK0:X.s₀.heap.objs.size<=h3.objs.size:=aB hsz hsK;exact zdk FO hr hkc I3 (aB hsz hDs) hK0 fD.2.2.2.2.2 nK rv (ba (bY hlen.symm) hz) ht λs' hE=>#[_,rfl,tz #[_,rfl,hE]]
def Jm(X:Cx)(N:List tK)(s:tJ)(H:Hp)(qual:tK)(scope:AF)(f:tG)(cd:tH)(cl:List (tK × tG)):Cx where
 prog:=X.prog
 w:=X.w
 K:=X.K
 mg:=X.mg
 base:=X.base
 A:=X.A.in1.in1.deeper (ft qual scope s⁻¹ f cd cl)
 N:=N
 s₀:=s
 H₀:=H
 env:=ft qual scope s⁻¹ f cd cl
 outer:=X.stack
 stack:=ft qual scope s⁻¹ f cd cl::X.stack
 ex:=[]
 calm:=BL
 fn:=λZ=>BM
 pn:=[]
 xe:=λZ Z=>False
structure zcj(p y:tK)(scope:AF):Prop where
 kind:scope.kind=.function
 co:scope.isCoroutine=BM
 gen:scope.isGenerator=BM
 nocell:∀z ∈ scope.names,z.2≠.cell
 par:scope.names.lookup p=BJ .local
 fre:scope.names.lookup y=BJ .free
 one:∀q ∈ scope.names,q.2=.free->q.1=y
 ne:p≠y
end
section
variable{X:Cx}{BN:List (tG × Au)}{σ:L2.St}{H:Hp}{s:tJ}{p y name qual:tK}{scope:AF}{params:Bv}{body:Aq}{f c' c:tG}{pm ctv cv:tH}{k iy:Nat}{vy x:V}{u:tH}{Q:VK}{t:TE}
def zbU(S:zcj p y scope)(hd:X.A.in1.in1.handled=BK)(I:Inv X BN σ H s)(hy:X.N[iy]? = BJ y)(hσ:σ[iy]? = BJ (BJ vy))(hvis:X.env.scope.names.lookup y=BJ .cell)(hc:X.env.cells.lookup y=BJ c)(rx:RelV x u)(hns:h₁.Ns s⁻¹ (λz=>[(p,u)].reverse.lookup z))(hk₁:∀b o,s.heap.get? b=BJ o->h₁.get? b=BJ o) :
  Inv (Jm X [p,y] s H qual scope f cv [(y,c)]) [] [BJ x,BJ vy] H { s with heap:=h₁,toks:=tk }:=by
 let#[m,hn,hl]:=I.loc;let#[uy,ry,lk]:=hl iy y vy hy hσ (.inr (.inl hvis))
 have hcell:s.heap.IsCell c (BJ uy):=by
  rcases lk with ⟨z,_⟩ | ⟨_,c2,e2,z⟩
  ·have z':X.env.scope.names.lookup y=BJ .local:=z;rw[hvis]at z';cases z'
  ·rw[hc]at e2;cases e2;exact z
 have hcell':h₁.IsCell c (BJ uy):=by
  let#[o,e,d]:=hcell;exact#[o,hk₁ _ _ e,d]
 have e0:=I.env0;have noA:∀b:tG,b ∉ (Jm X [p,y] s H qual scope f cv [(y,c)]).ex:=λb z=>y6 (show b ∈ ([]:List tG)from z) (by simp)
 have lkc:∀z d,bn z [(y,c)]=BJ d->z=y/\d=c:=λz d h=>by
  rw[aY]at h;by_cases hz:(z == y)=BL
  ·rw[hz]at h;cases h;exact#[by simpa using hz,rfl]
  ·rw[show (z == y)=BM by simpa using hz]at h;cases h
 have lky:bn y [(y,c)]=BJ c:=by rw[aY];simp
 refine#[#[e0.mod,S.kind,rfl,rfl,ak _,λz z' d h1 h2=>?_,λz hz=>?_,λz d h Z=>?_,λZ=>hd,Around.frames_deeper e0.frames,.inr #[rfl,rfl],λb z=>y6 z (noA b),e0.bs,e0.bsz,λb Z Z=>noA b,λb z=>y6 z (noA b),e0.funs,e0.frf],
  rfl,e0.bare,Un.kept hk₁,#[_,hns,λi z v h1 h2 h3=>?_],λz d h=>?_,e0.hok.fresh (ak _),λz d h=>?_,λq hq=>y6 (show q ∈ ([]:List (tG × Au))from hq) (by simp),e0.hok.kept hk₁,rfl]
 ·rw[(lkc _ _ h1).1,(lkc _ _ h2).1]
 ·have hz':scope.names.lookup z=BJ .cell\/scope.names.lookup z=BJ .free:=hz;rcases hz' with hz' | hz'
  ·exact y6 rfl (S.nocell _ (cy hz'))
  ·rw[show z=y from S.one _ (cy hz') rfl];exact#[c,lky]
 ·exact y6 (show (BM:Bool)=BL from h) ∅
 ·match i,h1,h2 with
  | 0,h1,h2 =>
   cases h1;cases h2;refine#[u,rx,.inl #[S.par,?_]];show bn p [(p,u)].reverse=BJ u;simp [bn]
  | 1,h1,h2 =>
   cases h1;cases h2;exact#[uy,ry,.inr #[.inr S.fre,c,lky,hcell']]
  | i+2,h1,h2=>simp at h2
 ·let#[_,rfl]:=lkc z d h;exact#[_,hcell']
 ·let#[_,rfl]:=lkc z d h;exact I.freeC y _ hc
def K3(S:zcj p y scope)(hr:Room (k+3) X.A)(hbind:bindArgs (cF name qual params body scope [(y,c)] pm cv ctv) #[[u],[]]=pure [(p,u)])(I:Inv X BN σ H s)(ho:s.heap.get? f=BJ { cls:=.type "function",data:=.func (cF name qual params body scope [(y,c)] pm cv ctv) }) (hcd:s.heap.CodeRec cv qual) (hy:X.N[iy]? = BJ y) (hσ:σ[iy]? = BJ (BJ vy)) (hvis:X.env.scope.names.lookup y=BJ .cell) (hc:X.env.cells.lookup y=BJ c)(rx:RelV x u) (hb:PE (Jm X [p,y] s H qual scope f cv [(y,c)]) body t) (h:t [BJ x,BJ vy] H Q) :
  tI (model X.prog X.w) X.A.in1.in1 (call (.ref f) [u]) (EP X BN σ Q) (λZ Z=>False) s:=by
 have hr2:Room (k+1) X.A.in1.in1:=hr.in1.in1;refine Ap (PySem.W.kla_callFunE hr2.depth ho rfl S.co S.gen rfl hcd ?_);rw[hbind];refine tz (AY S.nocell (λz hz=>?_) (λh₁ hns hsb=>?_) S.kind)
 ·have e:z=(p,u):=by simpa using hz
  subst e;exact S.par
 have hk₁:∀b o,s.heap.get? b=BJ o->h₁.get? b=BJ o:=λb o e=>hsb.extBut b o (aA (av e)) (ae _ e);refine#[I.nolimit.keeps hk₁,?_];have I1:=zbU (qual:=qual) (f:=f) (cv:=cv) (tk:=s.toks+1) S hr2.hd I hy hσ hvis hc rx hns hk₁;show As _ _ (.expr body (ft qual scope s⁻¹ f cv [(y,c)])) _ _;refine PySem.W.kla_codeExpr (Am (hb [] _ _ H Q I1 h) (λv s' hv=>?_) λZ Z z=>False.elim z);let#[w',H',J,rw',q]:=hv;exact I.after #[w',H',J.os,J.bare,J.base,J.hok,rw',q]
end
mutual section
def cdE(c':tG)(q:tK):HO:=.ext λh=>h.CodeRec (.ref c') q
def fnE(f:tG)(o:Au):HO:=.ext λh=>h.get? f=BJ o
def TabOk(H:Hp)(P:tG)(pos:BD)(q:tK):Prop :=
 ∃ps:Array tH,H P=BJ (.tbl ps)/\BC ps.toList/\(codeAmong pos ps.toList=BK\/∃c',codeAmong pos ps.toList=BJ (.ref c')/\H c'=BJ (cdE c' q))
def SamT(P:tG)(H H':Hp):Prop:=∀b o,b≠P->H b=BJ o->H' b=BJ o
def LamAt(H:Hp)(f:tG)(name qual:tK)(params:Bv)(body:Aq)(scope:AF)(cl:List (tK × tG)):Prop :=
 ∃(c':tG) (pm ctv:tH),H c'=BJ (cdE c' qual)/\H f=BJ (fnE f { cls:=.type "function",data:=.func (cF name qual params body scope cl pm (.ref c') ctv) })
def zfN(x:h.CodeRec (.ref c') q):ObjOk P w H h c' (cdE c' q):=by
 refine#[x,?_,λh1 h2 a k=>?_]
 ·let#[c,o,vs,t,e,g,_]:=x;cases e;exact#[o,g]
 ·let#[c,o,vs,t,e,g,r]:=a;cases e;exact#[_,o,vs,t,rfl,k o g,r]
def zbk(x:h.get? f=BJ o):ObjOk P w H h f (fnE f o) :=
 #[x,#[o,x],λh1 h2 a k=>k o a]
def Inv.grow(I:Inv X BN σ H s)(hP:H P=BJ (.tbl ps))(hk:∀b u,b≠P->s.heap.get? b=BJ u->h'.get? b=BJ u)(hP':h'.get? P=BJ { cls:=.none,data:=.fields (ps ++ more) })(hc:s⁻¹<=c')(hf:s⁻¹<=f)(hcf:c'≠f)(hcr:h'.CodeRec (.ref c') q)(hfo:h'.get? f=BJ o) :
  Inv X BN σ (upd (upd (upd H P (.tbl (ps ++ more))) c' (cdE c' q)) f (fnE f o)) { s with heap:=h',toks:=tk }:=by
 have Pl:P<s⁻¹:=I.hok.lt hP;have hPc:P≠c':=aA (aq Pl hc);have hPf:P≠f:=aA (aq Pl hf)
 have old:∀b,b<s⁻¹->b≠P->(upd (upd (upd H P (.tbl (ps ++ more))) c' (cdE c' q)) f (fnE f o)) b=H b:=λb hb hbP=>by
  rw[zo (aA (aq hb hf)),zo (aA (aq hb hc)),zo hbP]
 have atP:(upd (upd (upd H P (.tbl (ps ++ more))) c' (cdE c' q)) f (fnE f o)) P=BJ (.tbl (ps ++ more)):=by
  rw[zo hPf,zo hPc,zd]
 have neP:∀b,H b=BK->b≠P:=λb e z=>by rw[z,hP]at e;cases e
 refine I.un #[λb u e n Z Z=>hk b u (neP b n) e,λb u e n Z Z=>#[u.slots,hk b u (neP b n) e],λb u e n Z=>?_,λb u e Z=>?_,λb xs e=>?_,λb ob u e=>?_,λb qs e=>?_] λb u e=>?_
 ·rw[old b (av e) (neP b n)];exact n
 ·by_cases hb:b=P
  ·subst hb;exact#[_,hP']
  ·exact#[u,hk b u hb e]
 ·rw[old b (I.hok.lt e) (λz=>by rw[z,hP]at e;cases e)];exact e
 ·rw[old b (I.hok.lt e) (λz=>by rw[z,hP]at e;cases e)];exact e
 ·by_cases hb:b=P
  ·subst hb;rw[hP]at e;cases e;exact#[more,atP]
  ·rw[old b (I.hok.lt e) hb];exact#[#[],by rw[e];simp]
 ·by_cases hbf:b=f
  ·subst hbf;rw[zd]at e;cases e;exact zbk hfo
  ·rw[zo hbf]at e;by_cases hbc:b=c'
   ·subst hbc;rw[zd]at e;cases e;exact zfN hcr
   ·rw[zo hbc]at e;by_cases hbP:b=P
    ·subst hbP;rw[zd]at e;cases e;exact hP'
    ·rw[zo hbP]at e;refine (I.hok b u e).stay (λd v hd g=>hk d v ?_ g) (λd g=>?_) λd xs g=>?_
     ·rcases hd with z | z
      ·rw[z];exact hbP
      ·intro z';rw[z',hP]at z;cases z
     ·rw[old d (I.hok.lt g) (λz=>by rw[z,hP]at g;cases g)];exact g
     ·rw[old d (I.hok.lt g) (λz=>by rw[z,hP]at g;cases g)];exact g
theorem qy : ∀(l:List tH),BC l->BC (l ++ [rawInt a,rawInt b,v])
 | [],_=>trivial
 | .int _ _::.int _ _::_::rest,h=>qy rest h
def YX{h h':tT}(x:h.BuiltinsAt mg T)(k:∀b o,h.get? b=BJ o->h'.get? b=BJ o):h'.BuiltinsAt mg T:=by let#[bm,o,b1,b2,b3,b4,b5,b6]:=x;exact#[bm,o,b1,b2,b3,b4,k _ _ b5,b6]
def KI(hcode:X.env.code=.ref cc)(hC:PySem.W.CodeHd X.base cc P)(hB:X.base.BuiltinsAt X.mg P)(hgP:tB≠P)(hcl:closureFor scope X.env=pure [(y,c)])(hdef:defaultsOf params X.env=([],[]))(I:Inv X BN σ H s)(hT:TabOk H P pos (X.env.qual ++ "<lambda>"))(h:∀f H',H f=BK->LamAt H' f "<lambda>" (X.env.qual ++ "<lambda>") params body scope [(y,c)]->TabOk H' P pos (X.env.qual ++ "<lambda>")->SamT P H H'->Q (.ref f) H') :
  tI (model X.prog X.w) X.A (eval (.Lambda params body scope pos) X.env) (EP X BN σ Q) X.xe s:=by
 refine PySem.W.kla_eval hdef ?_;let#[ps,hP,ht,hh]:=hT;have hPo:s.heap.get? P=BJ (PySem.W.tabObj ps):=I.hok _ _ hP;have hg:=I.mod.glob.keeps I.bk;have Pl:P<s⁻¹:=I.hok.lt hP;rcases hh with hn | ⟨c',hit,hc'⟩
 ·refine PySem.W.kla_makeFunction (mg:=X.mg) hcl I.ok.glob hg hcode (hC.keeps I.bk) hPo ht hn hgP (YX hB I.bk) λc' ctv h' tk hx hge hlt hrec htb=>?_;have hsz:s⁻¹<=h'.objs.size:=cA (ba hge hlt)
  have I1:=Inv.grow (P:=P) (c':=c') (f:=h'.objs.size) (more:=(w4 [rawInt pos.line,rawInt pos.col,.ref c'])) (tk:=tk) (o:={ cls:=.type "function",data:=.func (cF "<lambda>" (X.env.qual ++ "<lambda>") params body scope [(y,c)] ((X.mg "__name__").getD .none) (.ref c') ctv) }) I hP
   (λb u hb e=>ae _ (hx b u hb e)) (ae _ htb) hge hsz (aA hlt) (hrec.push _) (aE _ rfl)
  have hPc:P≠c':=aA (aq Pl hge);have hPf:P≠h'.objs.size:=aA (aq Pl hsz)
  have atc:(upd (upd (upd H P (.tbl (ps ++ (w4 [rawInt pos.line,rawInt pos.col,.ref c'])))) c' (cdE c' (X.env.qual ++ "<lambda>"))) h'.objs.size (fnE h'.objs.size { cls:=.type "function",data:=.func (cF "<lambda>" (X.env.qual ++ "<lambda>") params body scope [(y,c)] ((X.mg "__name__").getD .none) (.ref c') ctv) })) c'=BJ (cdE c' (X.env.qual ++ "<lambda>")):=by
   rw[zo (aA hlt),zd]
  refine#[.ref h'.objs.size,_,I1,rfl,h _ _ (I.hok.fresh hsz) #[c',_,ctv,atc,zd] #[ps ++ (w4 [rawInt pos.line,rawInt pos.col,.ref c']),?_,?_,.inr #[c',?_,atc]] λb o hb e=>?_]
  ·rw[zo hPf,zo hPc,zd]
  ·rw[gk];exact qy _ ht
  ·rw[gk];exact codeAmong_snoc _ ht hn
  ·have hl:=I.hok.lt e;rw[zo (aA (aq hl hsz)),zo (aA (aq hl hge)),zo hb];exact e
 ·refine PySem.W.kla_makeFunctionHit (mg:=X.mg) hcl I.ok.glob hg hcode (hC.keeps I.bk) hPo ht hit (YX hB I.bk) λctv h' tk hk hsz=>?_;have hfr:H h'.objs.size=BK:=I.hok.fresh hsz
  have I1:=I.laid (a:=h'.objs.size) (t':=tk) (h':=h'.push { cls:=.type "function",data:=.func (cF "<lambda>" (X.env.qual ++ "<lambda>") params body scope [(y,c)] ((X.mg "__name__").getD .none) (.ref c') ctv) })
   (o:=fnE h'.objs.size { cls:=.type "function",data:=.func (cF "<lambda>" (X.env.qual ++ "<lambda>") params body scope [(y,c)] ((X.mg "__name__").getD .none) (.ref c') ctv) })
   (λb u e=>ae _ (hk b u e)) hsz (zbk (aE _ rfl))
  have sm:=zf (o:=fnE h'.objs.size { cls:=.type "function",data:=.func (cF "<lambda>" (X.env.qual ++ "<lambda>") params body scope [(y,c)] ((X.mg "__name__").getD .none) (.ref c') ctv) }) hfr;exact#[.ref h'.objs.size,_,I1,rfl,h _ _ hfr #[c',_,ctv,sm _ _ hc',zd] #[ps,sm _ _ hP,ht,.inr #[c',hit,sm _ _ hc']] λb o Z e=>sm _ _ e]
def zgK(R:V->Hp->Prop):List V->Hp->Prop
 | [v],H=>R v H
 | _,_=>False
theorem Q6 : ∀{vs:List V} {H:Hp},zgK R vs H->∃v,vs=[v]/\R v H
 | [v],_,h=>#[v,rfl,h]
def zhA(P:tG)(pos:BD)(q:tK)(LA:Hp->tG->Prop):TE:=λσ H Q=>TabOk H P pos q/\∀f H',H f=BK->LA H' f->TabOk H' P pos q->SamT P H H'->Q (.ref f) H'
def zbP{α:Type}(K:tF)(F:KeyFam α)(P:tG)(pos:BD)(q:tK)(LA:Hp->tG->Prop)(iy:Nat)(te tb:TE):TE:=λσ H Q=>te σ H λv H1=>TabOk H1 P pos q /\
 ∀f H2,H1 f=BK->LA H2 f->TabOk H2 P pos q->SamT P H1 H2->∃l xs vy,v=.ref l/\SqL K H2 l xs/\xs.length<64/\σ[iy]? = BJ (BJ vy)/\qw (λx H Q=>LA H f/\tb [BJ x,BJ vy] H Q) xs [] H2 (Ub K F xs Q)
def zfv(hcode:X.env.code=.ref cc)(hC:PySem.W.CodeHd X.base cc P)(hB:X.base.BuiltinsAt X.mg P)(hgP:tB≠P)(hcl:closureFor scope X.env=pure [(y,c)])(hdef:defaultsOf params X.env=([],[])) :
  PE X (.Lambda params body scope lpos) (zhA P lpos (X.env.qual ++ "<lambda>") λH f=>LamAt H f "<lambda>" (X.env.qual ++ "<lambda>") params body scope [(y,c)]):=by intros Q I h;exact KI hcode hC hB hgP hcl hdef I h.1 h.2
def Km(FO:F.Ok)(S:zcj p y scope)(hr:Room (k+3) X.A)(hg:Gl X x)(hm:X.mg x=BK)(hv:tY x=BJ (.builtin "sorted"))(ha:PA X [e] (zO te xI))(hcode:X.env.code=.ref cc)(hC:PySem.W.CodeHd X.base cc P)(hB:X.base.BuiltinsAt X.mg P)(hgP:tB≠P)(hcl:closureFor scope X.env=pure [(y,c)])(hdef:defaultsOf params X.env=([],[]))(hbind:∀(cv pm ctv u:tH),bindArgs (cF "<lambda>" (X.env.qual ++ "<lambda>") params body scope [(y,c)] pm cv ctv) #[[u],[]]=pure [(p,u)])(hy:X.N[iy]? = BJ y)(hvis:X.env.scope.names.lookup y=BJ .cell)(hc:X.env.cells.lookup y=BJ c)(hb:∀(s:tJ) (H:Hp) (f:tG) (cv:tH),Room k (Jm X [p,y] s H (X.env.qual ++ "<lambda>") scope f cv [(y,c)]).A->PE (Jm X [p,y] s H (X.env.qual ++ "<lambda>") scope f cv [(y,c)]) body tb)(hn:‹x≠"__name__"›)(hdb:‹(x ==("__debug__" : tK))=BM›)(hks:‹(Aa pos (tR [#[BJ "key",.Lambda params body scope lpos,kpos]] X.env)).filterMap (·.1)=[bO "key"]›)(hst:‹tS pos (tD [e] X.env)=(BM,eval e X.env)::tS pos (tD [] X.env)›)(hpl:‹(tS pos (tD [e] X.env)).any (·.1)=BM›)(hall:‹(Aa pos (tR [#[BJ "key",.Lambda params body scope lpos,kpos]] X.env)).all (·.1.isSome)=BL›)(hkw:‹(Aa pos (tR [#[BJ "key",.Lambda params body scope lpos,kpos]] X.env)).any (·.1.isNone)=BM›) :
  PE X (.Call (.Name x pp) [e] [#[BJ "key",.Lambda params body scope lpos,kpos]] pos) (zbP X.K F P lpos (X.env.qual ++ "<lambda>") (λH f=>LamAt H f "<lambda>" (X.env.qual ++ "<lambda>") params body scope [(y,c)]) iy te tb):=by
 intros Q I h;have hlam:PE X (.Lambda params body scope lpos) (zhA P lpos (X.env.qual ++ "<lambda>") λH f=>LamAt H f "<lambda>" (X.env.qual ++ "<lambda>") params body scope [(y,c)]):=zfv hcode hC hB hgP hcl hdef;refine tW (vq I hg hm hv ?_ hn hdb)
 have h':(zO te xI) σ H (zgK λv H1=>TabOk H1 P lpos (X.env.qual ++ "<lambda>")/\∀f H2,H1 f=BK->LamAt H2 f "<lambda>" (X.env.qual ++ "<lambda>") params body scope [(y,c)]->TabOk H2 P lpos (X.env.qual ++ "<lambda>")->SamT P H1 H2 ->
   ∃l xs vy,v=.ref l/\SqL X.K H2 l xs/\xs.length<64/\σ[iy]? = BJ (BJ vy)/\qw (λx H Q=>LamAt H f "<lambda>" (X.env.qual ++ "<lambda>") params body scope [(y,c)]/\tb [BJ x,BJ vy] H Q) xs [] H2 (Ub X.K F xs Q)):=h
 refine callWith_kw (thn (ha pos BN s σ H _ I h') λus s1=>el5 λvs H1 I1 r1 q1=>?_) hst hpl hall hkw;let#[v,rfl,hT,q1]:=Q6 q1;let#[u,rfl,ru]:=vf r1
 refine thn ((Jb hlam zbE:PK X [#[BJ "key",.Lambda params body scope lpos,kpos]] _) pos BN s1 σ H1 (zgK λkv H2=>∃f,kv=.ref f/\LamAt H2 f "<lambda>" (X.env.qual ++ "<lambda>") params body scope [(y,c)] /\
   ∃l xs vy,v=.ref l/\SqL X.K H2 l xs/\xs.length<64/\σ[iy]? = BJ (BJ vy)/\qw (λx H Q=>LamAt H f "<lambda>" (X.env.qual ++ "<lambda>") params body scope [(y,c)]/\tb [BJ x,BJ vy] H Q) xs [] H2 (Ub X.K F xs Q)) I1 #[hT,λf H2 a1 a2 a3 a4=>#[f,rfl,a2,q1 f H2 a1 a2 a3 a4]]) λws s2=>el5 λzs H2 I2 r2 q2=>?_
 let#[kv,rfl,f,rfl,hLA,l,xs,vy,rfl,hS,hz,hσ,hk]:=Q6 q2;let#[w',rfl,rw']:=vf r2;cases rw';cases ru;rw[hks];show tI _ _ (call (.builtin "sorted") [.ref l] [(bO "key",.ref f)]) _ _ _;refine JW FO (k:=k+1) hr (λpins' s3 H3 x3 u3 Q3 I3 r3 h3=>?_) I2 hS hz hk;let#[#[c',pm,ctv,e1,e2],h4]:=h3;have hcd:s3.heap.CodeRec (.ref c') (X.env.qual ++ "<lambda>"):=(I3.hok _ _ e1).1;have ho:=(I3.hok _ _ e2).1;exact K3 (k:=k) S hr (hbind _ _ _ _) I3 ho hcd hy hσ hvis hc r3 (hb s3 H3 f (.ref c') (hr.in1.in1.deeper _)) h4
end
section
variable{K:tF}
def SamT.of(s:Same H H'):SamT T H H':=λb o Z e=>s b o e
def SamT.trans(s:SamT T H H')(s':SamT T H' H''):SamT T H H'':=λb o n e=>s' b o n (s b o n e)
def SamT.at(s:SamT T H H')(hT:H T=BJ (.tbl ps))(e:H b=BJ o)(ho:∀qs,o≠.tbl qs):H' b=BJ o:=s b o (λz=>by rw[z,hT]at e;cases e;exact ho _ rfl) e
theorem SamT.free(s:SamT T H H')(hT:H' T=BJ o)(h:H' b=BK):H b=BK:=by
 cases e:H b with
 | none=>rfl
 | some u =>
  by_cases hb:b=T
  ·rw[hb,hT]at h;cases h
  ·rw[s b u hb e]at h;cases h
def SamT.seqL(s:SamT T H H')(hT:H T=BJ (.tbl ps))(h:SqL K H a xs):SqL K H' a xs:=by
 rcases h with (h | ⟨o,h⟩) | h
 ·exact .inl (.inl (s.at hT h λZ z=>by cases z))
 ·exact .inl (.inr #[o,s.at hT h λZ z=>by cases z])
 ·exact .inr h
def SamT.seqT(s:SamT T H H')(hT:H T=BJ (.tbl ps))(h:SqT K H a xs):SqT K H' a xs:=by
 rcases h with (h | ⟨o,h⟩) | h
 ·exact .inl (.inl (s.at hT h λZ z=>by cases z))
 ·exact .inl (.inr #[o,s.at hT h λZ z=>by cases z])
 ·exact .inr h
mutual
theorem Is.samT(s:SamT T H H')(hT:H T=BJ (.tbl ps)):∀(d:D) (v:V),Is K H d v->Is K H' d v
 | .non,v,h=>by erw[Is]at h ⊢;exact h
 | .bl b,v,h=>by erw[Is]at h ⊢;exact h
 | .int b,v,h=>by erw[Is]at h ⊢;exact h
 | .str b,v,h=>by erw[Is]at h ⊢;exact h
 | .lst l,v,h=>by
  erw[Is]at h ⊢;let#[a,xs,e1,e2,e3]:=h;exact#[a,xs,e1,s.seqL hT e2,Iss.samT s hT l xs e3]
 | .tup l,v,h=>by
  erw[Is]at h ⊢;let#[a,xs,e1,e2,e3]:=h;exact#[a,xs,e1,s.seqT hT e2,Iss.samT s hT l xs e3]
theorem Iss.samT(s:SamT T H H')(hT:H T=BJ (.tbl ps)):∀(l:List D) (vs:List V),Iss K H l vs->Iss K H' l vs
 | [],vs,h=>by erw[Iss]at h ⊢;exact h
 | d::l,vs,h=>by
  erw[Iss]at h ⊢;let#[v,r,e1,e2,e3]:=h;exact#[v,r,e1,Is.samT s hT d v e2,Iss.samT s hT l r e3]
end
def LsA.samT(h:LsA K H a ds)(s:SamT T H H')(hT:H T=BJ (.tbl ps)):LsA K H' a ds:=by let#[xs,h1,h2]:=h;exact#[xs,s.at hT h1 (λZ z=>by cases z),Iss.samT s hT _ _ h2]
def TabOk.same{H H':Hp}{T:tG}{pos:BD}{q:tK}(h:TabOk H T pos q)(s:Same H H'):TabOk H' T pos q:=by
 let#[ps,h1,h2,h3]:=h;refine#[ps,s _ _ h1,h2,?_];rcases h3 with h3 | ⟨c',h4,h5⟩
 ·exact .inl h3
 ·exact .inr #[c',h4,s _ _ h5]
def LamAt.same{H H':Hp}{f:tG}{name qual:tK}{params:Bv}{body:Aq}{scope:AF}{cl:List (tK × tG)}(h:LamAt H f name qual params body scope cl)(s:Same H H'):LamAt H' f name qual params body scope cl:=by let#[c',pm,ctv,h1,h2]:=h;exact#[c',pm,ctv,s _ _ h1,s _ _ h2]
end
section
variable{P:tL}{w:tP}{K:tF}{mg mb:tK->Option tH}{CX:CXT}{k:Nat}{fa a T cc:tG}{fd:An}{x:tK}{sp:Sp}{s₁:tJ}{vs:List tH}{ns:List Int}{ps:Array tH}
def Y9(KX:K.In s₁.heap)(hKT:K.lookup T=BK)(hT:s₁.heap.get? T=BJ { cls:=.none,data:=.fields ps })(hTc:Bw s₁.heap T)(hns:s₁.heap.Ns tB mg)(hb:s₁.heap.Ns builtinsNs mb)(hbb:∀x:tK,x≠"__name__"->mb x=tY x)(hlim:s₁.heap.NoLimit)(hg:s₁.gens=#[])(ha:s₁.heap.get? a=BJ { cls:=.type "list",data:=.seq vs.toArray }) (hr:Room k callerA)(hbm:s₁.heap.BuiltinsAt mg T) (hcd:PySem.W.CodeHd s₁.heap cc T) (F:∀base:tT,K.In base->base.Ns tB mg->base.BuiltinsAt mg T->PySem.W.CodeHd base cc T->zV P w K mg base CX k fa fd [x] sp) (hbind:∀(s:tJ) (u:tH),Bd s fd #[[u],[]] [(x,u)])(hCX:∀H e s',CX [] H s₁ (λZ Z Z=>False) e s'->False) (H:Hp) (h1:H T=BJ (.tbl ps)) (h2:∀b u,H b=BJ u->b=T\/(b=a/\K.lookup a=BK/\u=.frz { cls:=.type "list",data:=.seq vs.toArray } (.lst (ns.map V.int))))(hok:HOk P w H s₁.heap) (hsp:sp [.ref a] H (λv Z=>v=.bl BL) λZ Z Z=>False) :
  As (model P w) callerA (.call (.ref fa) #[[.ref a],[]]) (λr s'=>r=.ok (.ret (.bool BL))/\OldK s₁.heap s'.heap/\s'.os=s₁.os/\AE s'.gens) s₁:=by
 have stay:∀b o,s₁.heap.get? b=BJ o->(b≠T)->(b≠a)->(U1 s₁.heap H).get? b=BJ o:=λb o e n1 n2=>WP e (by
  cases q:H b with
  | none=>rfl
  | some u =>
   rcases h2 b u q with z | z
   ·exact y6 z n1
   ·exact y6 z.1 n2)
 have nsStay:∀(b:tG) (m:tK->Option tH),s₁.heap.Ns b m->(U1 s₁.heap H).Ns b m:=λb m hN=>by
  let#[o,es,ep,e,d,rest]:=hN;refine#[o,es,ep,stay b o e (λz=>?_) (λz=>?_),d,rest]
  ·rw[z,hT]at e;cases e;cases d
  ·rw[z,ha]at e;cases e;cases d
 have kStay:K.In (U1 s₁.heap H):=λb o e=>by
  have g:=KX b o e;refine WP g ?_
  cases q:H b with
  | none=>rfl
  | some u =>
   rcases h2 b u q with z | z
   ·rw[z,hKT]at e;cases e
   ·rw[z.1,z.2.1]at e;cases e
 have bStay:(U1 s₁.heap H).BuiltinsAt mg T:=by
  let#[bm,o,b1,b2,b3,b4,b5,b6,b7,b8]:=hbm;refine#[bm,o,b1,b2,b3,b4,stay bm o b5 b4 (λz=>?_),b6,b7,b8];rw[z,ha]at b5;cases b5;simp at b6
 have cStay:PySem.W.CodeHd (U1 s₁.heap H) cc T:=by
  let#[o,vs',file,tf,flags,tg,inF,text,tt,c1,c2,c3,c4,c5,c6,c7,c8,c9,c10]:=hcd;refine#[o,vs',file,tf,flags,tg,inF,text,tt,stay cc o c1 c10 (λz=>?_),c2,c3,c4,c5,c6,c7,c8,c9,c10];rw[z,ha]at c1;cases c1;simp at c2
 let#[mc,l1,l2]:=hlim;have M0:Mod K mg (U1 s₁.heap H):={ kin:=kStay,glob:=nsStay _ _ hns,blt:=#[mb,nsStay _ _ hb,hbb],nolimit:=#[mc,nsStay _ _ l1,l2] };have E0:Env0 P w K mg (U1 s₁.heap H) callerA [] s₁ H:={ frames:=rfl,mod:=M0,bs:=λb o e=>zcS e,bsz:=bY (JC _ _),funs:=trivial,frf:=λb z=>(nomatch (show b ∈ ([]:List tG)from z)),hok:=hok,bare:=.of_eq hg };refine Ar ((F _ kStay (nsStay _ _ hns) bStay cStay).run callerA [] s₁ H #[[.ref a],[]] [.ref a] [.ref a] (λv Z=>v=.bl BL) (λZ Z Z=>False) hr E0 (hbind s₁ (.ref a)) (.cons rfl .nil) hsp) λr s' hq=>?_;rcases r with e | fl
 ·exact (hCX H e s' hq).elim
 rcases fl with _ | _ | _ | u
 all_goals first | exact False.elim hq | skip
 let#[v,H',e1,e2,un,hok',rv,ev]:=hq;have ev':v=V.bl BL:=ev;subst ev';have eu:u=Value.bool BL:=rv;subst eu;let#[more,hT2]:=un.tbls T ps h1;have hT3:s'.heap.get? T=BJ { cls:=.none,data:=.fields (ps ++ more) }:=hok' T _ hT2
 have each:∀b o,s₁.heap.get? b=BJ o->b≠T->s'.heap.get? b=BJ o:=λb o e n=>by
  cases q:H b with
  | none=>exact un.keep b o e q (λz=>(nomatch (show b ∈ ([]:List tG)from z))) (λz=>(nomatch z))
  | some ob =>
   rcases h2 b ob q with z | ⟨z,_,zz⟩
   ·exact y6 z n
   ·subst zz;have g:=(hok' b _ (un.frzs b _ _ q)).1;rw[z,ha]at e;cases e;exact g
 refine#[rfl,#[λb o e=>?_,λb o e=>?_],e1,e2]
 ·by_cases hbT:b=T
  ·subst hbT;rw[hT]at e;cases e;exact .inr (.inl #[hTc,rfl,ps,more,rfl,hT3])
  ·exact .inl (each b o e hbT)
 ·by_cases hbT:b=T
  ·subst hbT;exact#[_,hT3]
  ·exact#[o,each b o e hbT]
def Jx(KX:K.In s₁.heap)(hKT:K.lookup T=BK)(hT:s₁.heap.get? T=BJ { cls:=.none,data:=.fields ps })(hTc:Bw s₁.heap T)(hns:s₁.heap.Ns tB mg)(hb:s₁.heap.Ns builtinsNs mb)(hbb:∀x:tK,x≠"__name__"->mb x=tY x)(hlim:s₁.heap.NoLimit)(hg:s₁.gens=#[])(ha:s₁.heap.get? a=BJ { cls:=.type "list",data:=.seq vs.toArray }) (hi:Bq vs ns) (hl:ns.length<=tE) (hr:Room k callerA)(hbm:s₁.heap.BuiltinsAt mg T) (hcd:PySem.W.CodeHd s₁.heap cc T) (F:∀base:tT,K.In base->base.Ns tB mg->base.BuiltinsAt mg T->PySem.W.CodeHd base cc T->zV P w K mg base CX k fa fd [x] sp) (hbind:∀(s:tJ) (u:tH),Bd s fd #[[u],[]] [(x,u)])(hCX:∀H e s',CX [] H s₁ (λZ Z Z=>False) e s'->False) (hsp:∀H:Hp,H T=BJ (.tbl ps)->SqL K H a (ns.map V.int)->sp [.ref a] H (λv Z=>v=.bl BL) λZ Z Z=>False) :
  As (model P w) callerA (.call (.ref fa) #[[.ref a],[]]) (λr s'=>r=.ok (.ret (.bool BL))/\OldK s₁.heap s'.heap/\s'.os=s₁.os/\AE s'.gens) s₁:=by
 have rv:=YM hi;have hlv:=hi.length
 have hTa:a≠T:=λz=>by
  rw[z,hT]at ha;cases ha
 rcases hk:K.lookup a with _ | o
 ·refine Y9 (ns:=ns) KX hKT hT hTc hns hb hbb hlim hg ha hr hbm hcd F hbind hCX (upd (upd (λZ=>BK) T (.tbl ps)) a (.frz { cls:=.type "list",data:=.seq vs.toArray } (.lst (ns.map V.int)))) ?_ (λb u e=>?_) (λb u e=>?_) ?_
  ·rw[zo (Ne.symm hTa),zd]
  ·by_cases hba:b=a
   ·subst hba;rw[zd]at e;cases e;exact .inr #[rfl,hk,rfl]
   ·rw[zo hba]at e;by_cases hbT:b=T
    ·exact .inl hbT
    ·rw[zo hbT]at e;cases e
  ·by_cases hba:b=a
   ·subst hba;rw[zd]at e;cases e;exact#[ha,by rw[aa];exact hl,vs,_,rv,ha]
   ·rw[zo hba]at e;by_cases hbT:b=T
    ·subst hbT;rw[zd]at e;cases e;exact hT
    ·rw[zo hbT]at e;cases e
  ·exact hsp _ (by rw[zo (Ne.symm hTa),zd]) (.inl (.inr #[_,zd]))
 ·have e:=KX a o hk;rw[ha]at e;cases e;refine Y9 (ns:=ns) KX hKT hT hTc hns hb hbb hlim hg ha hr hbm hcd F hbind hCX (upd (λZ=>BK) T (.tbl ps)) zd (λb u e=>?_) (λb u e=>?_) (hsp _ zd (.inr #[_,vs.toArray,_,hk,rfl,rfl,rfl,by rw[aj,hlv];exact hl,by simpa using rv]))
  ·by_cases hbT:b=T
   ·exact .inl hbT
   ·rw[zo hbT]at e;cases e
  ·by_cases hbT:b=T
   ·subst hbT;rw[zd]at e;cases e;exact hT
   ·rw[zo hbT]at e;cases e
end
end in def zcC(K:tF):Bool:=K.all λp=>match p.2 with
 | ⟨.none,_,.fields _,_⟩=>BM
 | _=>BL
theorem VL : ∀{K:tF},K.lookup T=BJ o->(T,o) ∈ K
 | [],h=>by cases h
 | p::K,h=>by
  rw[aY]at h;by_cases hp:T=p.1
  ·rw[show (T == p.1)=BL by simpa using hp]at h;cases h;rw[hp];exact aC
  ·rw[show (T == p.1)=BM by simpa using hp]at h;exact aw _ (VL h)
theorem zau{K:tF}(e:zcC K=BL)(X:K.In h)(hT:h.get? T=BJ { cls:=.none,data:=.fields ps }):K.lookup T=BK:=by
 cases q:K.lookup T with
 | none=>rfl
 | some o =>
  have g:=X _ _ q;rw[hT]at g;cases g;have:=BZ.mp e _ (VL q);simp at this
def walk_ofT{l:PySem.W.OpenLaw}{XP:(tK->Option tH)->tT->Prop}{K:Params->tF}{CX:tP->CXT}{sp:tP->tG->Sp}(hn:l.most=BJ n)(hn2:n<=tE)(hdf:d.params.defaults=[])(hr:Room k callerA)(hdin:din ∈ recsOf q)(hY:∀(w:tP) (h:tT),YP w h->(K w.params).In h)(hno:∀w:tP,zcC (K w.params)=BL)(F:∀(w:tP) (mg:tK->Option tH) (fa:tG) (h:tT) (cc T:tG),(K w.params).In h->h.Ns tB mg->mg d.name=BJ (.ref fa)->(∃a o fd,mg din.name=BJ (.ref a)/\h.get? a=BJ o/\o.data=.func fd/\fd.code=.ref cc)->tB≠T ->
   ∃fd:An,(∀(s:tJ) (u:tH),Bd s fd #[[u],[]] [(x,u)]) /\
    ∀base:tT,(K w.params).In base->base.Ns tB mg->base.BuiltinsAt mg T->PySem.W.CodeHd base cc T->zV l.prog w (K w.params) mg base (CX w) k fa fd [x] (sp w T)) (hsp:∀(w:tP) (H:Hp) (a:tG) (ns:List Int) (T:tG),ns.length<=n->(∀z ∈ ns,vU z)->H T=BJ (.tbl #[])->SqL (K w.params) H a (ns.map V.int)->sp w T [.ref a] H (λv Z=>v=.bl BL) λZ Z Z=>False) (hCX:∀(w:tP) (H:Hp) (s:tJ) (e:tH) (s':tJ),CX w [] H s (λZ Z Z=>False) e s'->False) :
  PySem.W.WalkO q loose XP YP l.row.toRowW d [] (λf vs=>gA f vs):=by
 refine YN hn hdf λw s₀ s₁ mg mb fa o pm cd doc a vs ns G Y ho hd hcd hmg hobj hints hlen hb' hg=>?_;have X0:=hY w _ Y;let#[ai,oi,fdi,cc,T,m1,m2,m3,m4,m5,m6]:=G.T.tab din hdin;have hcd':PySem.W.CodeHd s₁.heap cc T:=PySem.W.CodeHd.of m5 m6;have hTo:s₁.heap.get? T=BJ { cls:=.none,data:=.fields #[] }:=m6.2;have hTc:Bw s₁.heap T:=m6.isCodeTable
 have hgT:tB≠T:=λz=>by
  let#[o,es,ep,e,hd',_]:=G.T.g;rw[z,hTo]at e;cases e;cases hd'
 have hbm:s₁.heap.BuiltinsAt mg T:=by
  let#[bm,ob,b1,b2,b3,b4,b5,b6]:=G.T.bmain;refine#[bm,ob,b1,b2,λz=>?_,λz=>?_,b3,b4,b5,b6]
  ·let#[o,es,ep,e,hd',_]:=G.T.g;rw[z,e]at b3;cases b3;rw[hd']at b6;cases b6
  ·rw[z,hTo]at b3;cases b3;cases b4
 let#[fd,hbd,hF]:=F w mg fa _ cc T X0 G.T.g hmg #[ai,oi,fdi,m1,m2,m3,m4] hgT;exact Jx (T:=T) (ps:=#[]) X0 (zau (hno w) X0 hTo) hTo hTc G.T.g G.T.b G.T.builtins G.T.nolimit hg hobj hints (aB hlen hn2) hr hbm hcd' hF hbd (λH e s'=>hCX w H s₁ e s') λH h1 h2=>hsp w H a ns T hlen hb' h1 h2
def zcI{K:tF}{st:tM}(F:Fun K x qual st f fd)(hcc:fd.code=.ref cc)(S:zl N ps (zi st))(len:∀vs H Q E,sp vs H Q E->vs.length=ps.length)(hbody:∀(A:Af) (outer:List BB) (s:tJ) (H:Hp) (vs:List V) (Q:VK) (E:XK),Room k (A.deeper (AD qual (zi st) s⁻¹ f (.ref cc)))->sp vs H Q E ->
   ∃t,PSs (qH CX0 P w K mg base N qual (zi st) f (.ref cc) A outer s H E).nox (yt st) t/\t { nx:=λZ H'=>Q .non H',rt:=Q } (start N vs) H):zV P w K mg base CX0 (k+1) f fd ps sp:=by let#[oc,od,kV,doc,pm,an,cdv,ct,osl,rfl,lk,hcd]:=F.ex;have e:cdv=.ref cc:=hcc;subst e;refine zaq lk hcd S len λA outer s H vs Q E hr hsp=>?_;let#[t,h,q]:=hbody A outer s H vs Q E hr hsp;exact#[t,h.nox,q]
end L3
namespace L3
end L3
namespace PySem
namespace F
end F
def Heap.IsRevS(h:tT)(a:tG)(x:tK)(t:AV)(i:Int):Prop:=∃o,h.get? a=BJ o/\o.cls=.type "reversed"/\o.data=.fields (w4 [.str x t,rawInt i])
def Heap.IsRevS.typeIs{s:tJ}(z:s.heap.IsRevS a x t i):s.TypeIs (.ref a) "reversed":=let #[o,ho,hc,_]:=z; #[o,ho,hc]
def Heap.IsRevS.at{h h':tT}(z:h.IsRevS a x t i)(e:∀o,h.get? a=BJ o->h'.get? a=BJ o):h'.IsRevS a x t i:=let #[o,ho,r]:=z; #[o,e _ ho,r]
end PySem
namespace L3
end L3
namespace L2
end in def Itk(lo k:Int)(n:Nat):It:=#[λi Z=>i<n,λi H x H'=>H'=H/\x=.int (lo+i * k),λi Z=>n<=i]
def Wp{K:tF}(it:tG)(lo k:Int)(n:Nat):Kh P w K tg (Itk lo k n) [it] it (λi h=>Bc h it (lo+(i:Nat) * k) ((n:Int) - (i:Nat)) k) where
 mem:=by simp
 obj:=λi h st b hb=>by
  have e:b=it:=by simpa using hb
  subst e
  exact#[_,st,λv z=>by
   have z':Data.fields _=Data.cell v:=z
   cases z']
 keep:=λi h h' st k=>k it (by simp) _ st
 item:=by
  intro X hP hw hK hc i BN s σ H E I hf st hg;subst hP hw hK;let#[f0,f1,f2,f3,f4,f5]:=hf it (by simp);have W:=Walks.range (prog:=X.prog) (w:=X.w) (I.ok.hd hc) it lo k n;refine W.item i s _ _ hg st λv h' tk hv st' kk=>?_;let#[t,rfl]:=hv;have I1:Inv X BN σ H { s with heap:=h',toks:=tk }:=I.turned (λb o hb e=>kk b o ↥hb e) f0 f1 f3 f4 f5;exact#[_,rfl,Uq (s:={ s with heap:=h',toks:=tk }) (n:="range_iterator") st' rfl rfl ∅ #[.int (lo+i * k),H,I1,#[t,rfl],#[rfl,rfl],st',λb hb=>(hf b hb).1]]
 done:=by
  intro X hP hw hK hc i BN s σ H E I hf st hg;subst hP hw hK;let#[f0,f1,f2,f3,f4,f5]:=hf it (by simp);exact AN (I.ok.hd hc) st (by have:n<=i:=hg;lia) λh' eb=>#[rfl,I.turned (t':=s.toks) (λb o hb e=>eb b o hb e) f0 f1 f3 f4 f5]
 self:=λZ Z Z Z Z st h=>AQ st h
def zbm(h1:0<=i)(h2:i<=2 ^ 30)(h3:0<=j)(h4:j<=2 ^ 30)(h5:0<k)(h6:k<2 ^ 30):0<=r8 i j k/\r8 i j k<2 ^ 30+1:=by
 unfold r8;rw[y9 h5];split
 ·have a:=Int.ediv_nonneg (a:=j - i - 1) (b:=k) ⋯ ⋯;have b:=Int.ediv_le_self (a:=j - i - 1) k ⋯;lia
 ·lia
def zb0(h1:0<=i)(h2:i<=2 ^ 30)(h3:0<=j)(h4:j<=2 ^ 30)(h5:0<k)(h6:k<2 ^ 30):Builtin.Range.small i j k=BL:=by
 let#[a,b]:=zbm h1 h2 h3 h4 h5 h6;unfold Builtin.Range.small;erw[Builtin.Range.rangeFitsLong,aU,Bool.or_eq_true,decide_eq_true_eq,beq_iff_eq,h5,gt_iff_lt,if_true];lia
def Qm{lo hi k:Int}(I:Inv X BN σ H s)(h1:0<=lo)(h2:lo<=2 ^ 30)(h3:0<=hi)(h4:hi<=2 ^ 30)(h5:0<k)(h6:k<2 ^ 30)(q:R (Itk lo k (r8 lo hi k).toNat) H):tI (model X.prog X.w) X.A (pyIter (.ref s⁻¹)) (PIE X BN σ tg R) E { s with heap:=s.heap.push { cls:=.type "range",data:=.fields (w4 [.int lo t,.int hi u,.int k v]) },toks:=tk }:=by
 refine Bl (IsRange.new ..) (zb0 h1 h2 h3 h4 h5 h6) ?_;have I1:Inv X BN σ H { s with heap:=s.heap.push { cls:=.type "range",data:=.fields (w4 [.int lo t,.int hi u,.int k v]) },toks:=tk }:=I.kept λb o e=>ae _ e
 refine#[(s.heap.push { cls:=.type "range",data:=.fields (w4 [.int lo t,.int hi u,.int k v]) }).objs.size,[(s.heap.push { cls:=.type "range",data:=.fields (w4 [.int lo t,.int hi u,.int k v]) }).objs.size],_,_,H,rfl,
  I1.kept (t':=tk) λb o e=>ae _ e,Wp _ lo k (r8 lo hi k).toNat,?_,λb hb=>?_,q]
 ·have e1:lo+((0:Nat):Int) * k=lo:=by simp
  have e2:(((r8 lo hi k).toNat:Nat):Int) - ((0:Nat):Int)=r8 lo hi k:=by have:=(zbm h1 h2 h3 h4 h5 h6).1;lia
  show Bc _ _ (lo+((0:Nat):Int) * k) ((((r8 lo hi k).toNat:Nat):Int) - ((0:Nat):Int)) k;rw[e1,e2];exact aE _ rfl
 ·have e:b=(s.heap.push { cls:=.type "range",data:=.fields (w4 [.int lo t,.int hi u,.int k v]) }).objs.size:=by simpa using hb
  subst e;exact I1.fpOk (ak _) (I1.hok.fresh (ak _))
def ze7(ta:TA):TI:=λσ H R=>ta σ H λvs H1=>∃i j k:Int,vs=[.int i,.int j,.int k]/\(0<=i/\i<=2 ^ 30/\0<=j/\j<=2 ^ 30/\0<k/\k<2 ^ 30)/\R (Itk i k (r8 i j k).toNat) H1
theorem U3(hg:Gl X "range")(hm:X.mg "range" = BK)(ha:PA X [a,b,c] ta)(hs:‹tD [a,b,c] X.env=[(BM,eval a X.env),(BM,eval b X.env),(BM,eval c X.env)]›)(hs2:‹tD [b,c] X.env=[(BM,eval b X.env),(BM,eval c X.env)]›) :
  PI X tg (.Call (.Name "range" p) [a,b,c] [] pos) (ze7 ta):=by
 intros R I h;refine BF (vq I hg hm boot_range (bz (thn (ha pos BN s σ H _ I h) λus s1=>el5 λvs H1 I1 r1 q1=>?_) (by rw[hs,hs2]) (by rw[hs2];rfl)));let#[i,j,k,e,#[q1,q2,q3,q4,q5,q6],q]:=q1;subst e
 cases r1 with
 | cons r rr =>
  cases rr with
  | cons r' rr =>
   cases rr with
   | cons r'' rr =>
    cases rr;let#[t,rfl]:=r;let#[t',rfl]:=r';let#[t'',rfl]:=r'';exact call_range_3 ⋯ (Qm I1 q1 q2 q3 q4 q5 q6 q) (Or.inl (PyProof.noPylong_small ⋯))
end L2
namespace L3
open PySem L2
def CompK(lo k:Int)(n:Nat)(g:TG)(tt:TT)(te:TE)(own:Nat)(ix:())(σ:L2.St)(H1:Hp)(Q:VK)(D:tG):Prop:=X8 (Itk lo k n) g tt te own ix σ H1 Q D
def zfD : kO (ze7 ta) g tt te own ix σ H Q=ta σ H λvs H1=>∃i j k:Int,vs=[.int i,.int j,.int k]/\(0<=i/\i<=2 ^ 30/\0<=j/\j<=2 ^ 30/\0<k/\k<2 ^ 30)/\∀D,H1 D=BK->CompK i k (r8 i j k).toNat g tt te own ix σ H1 Q D:=rfl
def CompK.by{g:TG}{tt:TT}{te:TE}{own:Nat}{ix:()}{σ:L2.St}{H1:Hp}{Q:VK}{D:tG}{lo k:Int}(Pv:Nat->List V->Hp->Prop)(h0:Pv 0 [] (upd H1 D (.lst [])))(hs:∀i acc H',i<n->Pv i acc H'->g (.int (lo+i * k)) (vM σ own ix) H' λσ3 H3=>xo (vM σ own ix) σ3/\tt σ3 H3 λb H4=>if b=BL then
   te σ3 H4 λv H5=>H5 D=BJ (.lst acc)/\acc.length<tE/\CNx n i Pv (acc ++ [v]) (upd H5 D (.lst (acc ++ [v])))else CNx n i Pv acc H4) (hd:∀acc H',Pv n acc H'->Q (.ref D) H'):CompK lo k n g tt te own ix σ H1 Q D:=by
 refine#[λi m acc H=>m=n - i/\i<=n/\Pv i acc H,#[n,by simp,ax _,h0],?_];rintro i m acc H' ⟨rfl,hi,p⟩;by_cases hlt:i<n
 ·refine .inr #[hlt,λx H2 y=>?_];let#[e,y]:=y;subst e y;exact hs i acc _ hlt p
 ·have e:i=n:=⋯;subst e;exact .inl #[ak _,hd acc H' p]
end L3
namespace L3
open PySem.AutoSeq1 (wpAny_loadPart')
open MeetsSeq MeetsSeq2 MeetsSeq3 SeqRoads2 SeqAt
end L3
namespace L3
theorem Vi{α:Type}[DecidableEq α](k:α)(v:tH)(x:α):∀kvs:List (α × tH),(kvs.map λkv=>if kv.1=k then (kv.1,v)else kv).find? (λkv=>kv.1=x)=(kvs.find? λkv=>kv.1=x).map λkv=>if kv.1=k then (kv.1,v)else kv
 | []=>rfl
 | p::kvs=>by
  have e:(if p.1=k then (p.1,v)else p).1=p.1:=by split <;> rfl
  rw[ao,List.find?_cons,List.find?_cons,Vi k v x kvs];erw[e];by_cases h:p.1=x
  ·simp [h]
  ·simp [h]
set_option tactic.hygienic true in
mutual section
def k9[DecidableEq α](kvs:List (α × tH))(k:α)(v:tH)(x:α):valueAt (stored kvs k v) x=if x=k then BJ v else valueAt kvs x:=by
 unfold stored valueAt;split
 ·rename_i h;rw[Vi];by_cases e:x=k
  ·subst e;rw[y9 rfl];let#[p,hp,hk]:=Ck.mp h
   cases hf:kvs.find? λkv=>kv.1=x with
   | none =>
    have:=Cm.mp hf p hp;exact y6 hk this
   | some q =>
    have hq:=eF hf;have hq':q.1=x:=by simpa using hq
    simp [hq']
  ·rw[z9 e]
   cases hf:kvs.find? λkv=>kv.1=x with
   | none=>rfl
   | some q =>
    have hq:=eF hf;have hq':q.1=x:=by simpa using hq
    have:¬ q.1=k:=λz=>e (hq'.symm.trans z);simp [this]
 ·rename_i h;rw[List.find?_append];by_cases e:x=k
  ·subst e;rw[y9 rfl]
   have:kvs.find? (λkv=>kv.1=x)=BK:=by
    rw[eS];intro p hp hk;exact h (Ck.mpr #[p,hp,hk])
   rw[this];simp
  ·have e':¬ k=x:=λz=>e z.symm;rw[z9 e];simp [e']
def zdo(P:tL)(w:tP)(a:tG)(m:tK->Option V)(n:Nat):HO:=.ext λh=>∃kvs:List (tK × tH),h.DictOf (bP P w) a kvs/\kvs.length<=n/\∀k,RelO (m k) (valueAt kvs k)
def UW(d:h.DictOf (bP P w) a kvs)(hl:kvs.length<=n)(r:∀k,RelO (m k) (valueAt kvs k)):ObjOk P w H h a (zdo P w a m n) :=
 #[#[kvs,d,hl,r],(let #[o,es,ep,ho,_]:=d; #[o,ho]),λh1 h2 ⟨kvs,⟨o,es,ep,ho,rest⟩,z⟩ k=>#[kvs,#[o,es,ep,k _ ho,rest],z]]
def Inv.dic(I:Inv X BN σ H s)(h:H a=BJ (zdo X.prog X.w a m n)):∃kvs:List (tK × tH),s.heap.DictOf (bP X.prog X.w) a kvs/\kvs.length<=n/\∀k,RelO (m k) (valueAt kvs k):=(I.hok _ _ h).1
def zhq(P:tL)(w:tP):R2:=λx y H Q=>∃a m n k v,x=.ref a/\y=.str k/\H a=BJ (zdo P w a m n)/\m k=BJ v/\Q v H
def zeR:IxR X (zhq X.prog X.w):=by intro value slice BN s σ H x y v u Q I rx ry h hs;let#[a,m,n,k,z,rfl,rfl,ha,hk,q]:=h;cases rx;let#[t,rfl]:=ry;let#[kvs,dd,hl,r]:=Inv.dic I ha;let#[w',hw,rw']:=RelO.some_of (v:=z) (o:=valueAt kvs k) (by rw[<- hk];exact r k);exact tail_any dd.typeIs slot_dict_getitem.lookup (Bu (knd:=bP X.prog X.w) (strKind_is _ _ _ _) dd.mapOf hw #[z,H,I.tok _,rw',q]) hs
abbrev TDs:=L2.St->Hp->(List (tK × V)->Hp->Prop)->Prop
def zhl:TDs:=λZ H Q=>Q [] H
def zfh(tk tv:TE)(t:TDs):TDs:=λσ H Q=>tk σ H λk H1=>onStr k λz=>tv σ H1 λv H2=>t σ H2 λps H3=>Q ((z,v)::ps) H3
def YD:List (tK × V)->(tK->Option V)->tK->Option V
 | [],m=>m
 | p::ps,m=>YD ps λx=>if x=p.1 then BJ p.2 else m x
inductive CarV:List (tK × V)->List (tH × tH)->List (tK × tH)->Prop where
 | nil:CarV [] [] []
 | cons {z:tK} {t:AV} {v:V} {u:tH} {ps vs kvs} (h:RelV v u) (r:CarV ps vs kvs):CarV ((z,v)::ps) ((.str z t,u)::vs) ((z,u)::kvs)
theorem CarV.car{ps vs kvs}(h:CarV ps vs kvs):Carries (bP P w) vs kvs:=by
 induction h with
 | nil=>exact True.intro
 | cons h r ih=>exact#[strKind_is _ _ _ _,rfl,ih]
theorem CarV.put{ps vs kvs}(h:CarV ps vs kvs):∀{m:tK->Option V} {acc:List (tK × tH)},(∀x,RelO (m x) (valueAt acc x))->(∀x,RelO (YD ps m x) (valueAt (merged acc kvs) x))/\(merged acc kvs).length<=acc.length+ps.length:=by
 induction h with
 | nil=>intro m acc r;exact#[r,ak _]
 | @cons z t v u ps vs kvs h r ih =>
  intro m acc hr
  have:=@ih (λx=>if x=z then BJ v else m x) (stored acc z u) λx=>by
   rw[k9];by_cases e:x=z
   ·rw[y9 e,y9 e];exact h
   ·rw[z9 e,z9 e];exact hr x
  refine#[this.1,aB this.2 ?_];have:=stored_length_le acc z u;rw[aF];lia
def PDs(X:Cx)(ps:List (Sem tH × Sem tH))(t:TDs):Prop:=∀(BN:List (tG × Au)) (s:tJ) (σ:L2.St) (H:Hp) (Q:List (tK × V)->Hp->Prop),Inv X BN σ H s->t σ H Q->tI (model X.prog X.w) X.A (evalPairs ps) (λvs s'=>∃zs kvs H',Inv X BN σ H' s'/\CarV zs vs kvs/\Q zs H') X.xe s
def zeu:PDs X [] zhl:=λBN s σ H Q I h=>evalPairs_nil #[[],[],H,I,.nil,h]
theorem Yl{rest:List (Sem tH × Sem tH)}(hk:PE X k tk)(hv:PE X v tv)(hr:PDs X rest t):PDs X ((eval k X.env,do let x <- eval v X.env;standAt pos;pure x)::rest) (zfh tk tv t):=by
 intros Q I h;refine evalPairs_cons (thn (hk BN s σ H _ I h) λu s1=>el5 λx H1 I1 r1 q1=>?_)
 cases x with
 | str z =>
  let#[t',rfl]:=r1;refine tw (thn (hv BN s1 σ H1 _ I1 q1) λu2 s2=>el5 λy H2 I2 r2 q2=>tw (Ab (tz ?_)));refine thn (hr BN s2 σ H2 _ I2 q2) λvs s3 h3=>?_;let#[zs,kvs,H',I',c,q]:=h3;exact#[(z,y)::zs,(z,u2)::kvs,H',I',.cons r2 c,q]
 | _=>exact q1.elim
def zhG(P:tL)(w:tP)(t:TDs):TE:=λσ H Q=>∀p,H p=BK->t σ (upd H p (zdo P w p (λZ=>BK) 0)) λps H'=>H' p=BJ (zdo P w p (λZ=>BK) 0)/\Q (.ref p) (upd H' p (zdo P w p (YD ps λZ=>BK) ps.length))
def zfn(h:PDs X ps t)(hs:(evalEachOpt keys X.env).zip ((evalEach values X.env).map λv=>do let x <- v;standAt pos;pure x)=ps.map λp=>(BJ p.1,p.2))(h0:ps≠[])(hl:ps.length<=15):PE X (.Dict keys values pos) (zhG X.prog X.w t):=by intros Q I hq;have hf:H s⁻¹=BK:=I.hok.fresh (ak _);have I0:=I.laid (a:=s⁻¹) (t':=s.toks) (h':=s.heap.push { cls:=.type "dict",data:=.dict #[] }) (λZ Z q=>ae _ q) (ak _) (UW (P:=X.prog) (w:=X.w) (m:=λZ=>BK) (n:=0) (Heap.DictOf.new s.heap) (ak _) λZ=>trivial);refine wpAny_Dict_pairs (knd:=bP X.prog X.w) hs h0 hl (thn (h BN _ σ _ _ I0 (hq _ hf)) λvs s1 h1=>?_);let#[zs,kvs,H',I1,c,hp,q]:=h1;let#[kv0,dd,h00,_]:=Inv.dic I1 hp;have e0:kv0=[]:=bW (Nat.le_zero.mp h00);subst e0;refine#[kvs,c.car,dd,λh' dd' sb=>#[.ref s⁻¹,_,?_,rfl,q]];let#[g1,g2]:=c.put (m:=λZ=>BK) (acc:=[]) λZ=>trivial;have he:∃q,h'.get? s⁻¹=BJ q:=let #[q,_,_,hq,_]:=dd'; #[q,hq];have I2:=I1.tok (s1.toks+vs.length);exact I2.write (x:=s⁻¹) (e:=s⁻¹) (by rw[hp];exact True.intro) (.inl rfl) (λb q hb z=>(sb.2 b hb).trans z) he (UW dd' (by rw[bH,eE]at g2;exact g2) g1)
def kn(P:tL)(w:tP)(a:tG)(m:tK->Option V)(n:Nat):HO:=.ext λh=>(a == sysModules)=BM/\∃kvs:List (tK × tH),h.DictOf (bP P w) a kvs/\kvs.length<=n/\∀k,RelO (m k) (valueAt kvs k)
def QL(hs:(a == sysModules)=BM)(d:h.DictOf (bP P w) a kvs)(hl:kvs.length<=n)(r:∀k,RelO (m k) (valueAt kvs k)):ObjOk P w H h a (kn P w a m n) :=
 #[#[hs,kvs,d,hl,r],(let #[o,es,ep,ho,_]:=d; #[o,ho]),λh1 h2 ⟨hs,kvs,⟨o,es,ep,ho,rest⟩,z⟩ k=>#[hs,kvs,#[o,es,ep,k _ ho,rest],z]]
def Inv.beyond(I:Inv X BN σ H s):(s⁻¹ == sysModules)=BM:=by let#[o,es,ep,e,_]:=I.ok.mod.glob;have h1:=av e;have h2:=I.ok.bsz;have h3:=I.sz;have h4:1<=tB:=∅;have h5:1<s⁻¹:=aq (ba h4 h1) (aB h2 h3);rw[beq_eq_false_iff_ne];intro z;exact cB h5 z
def zez(P:tL)(w:tP):TE:=λZ H Q=>∀p,H p=BK->Q (.ref p) (upd H p (kn P w p (λZ=>BK) 0))
def zb4:PE X (.Dict [] [] pos) (zez X.prog X.w):=λBN s σ H Q I h =>
 wpAny_Dict_empty #[.ref s⁻¹,_,I.laid (a:=s⁻¹) (t':=s.toks) (λZ Z q=>ae _ q) (ak _) (QL (m:=λZ=>BK) (Inv.beyond I) (Heap.DictOf.new s.heap) (ak _) λZ=>trivial),rfl,h _ (I.hok.fresh (ak _))]
def Inv.tdic(I:Inv X BN σ H s)(h:H a=BJ (kn X.prog X.w a m n)):(a == sysModules)=BM/\∃kvs:List (tK × tH),s.heap.DictOf (bP X.prog X.w) a kvs/\kvs.length<=n/\∀k,RelO (m k) (valueAt kvs k):=(I.hok _ _ h).1
def zhd(P:tL)(w:tP):R2:=λx y H Q=>∃a m n k v,x=.ref a/\y=.str k/\H a=BJ (kn P w a m n)/\m k=BJ v/\Q v H
def zdN:IxR X (zhd X.prog X.w):=by intro value slice BN s σ H x y v u Q I rx ry h hs;let#[a,m,n,k,z,rfl,rfl,ha,hk,q]:=h;cases rx;let#[t,rfl]:=ry;let#[_,kvs,dd,hl,r]:=Inv.tdic I ha;let#[w',hw,rw']:=RelO.some_of (v:=z) (o:=valueAt kvs k) (by rw[<- hk];exact r k);exact tail_any dd.typeIs slot_dict_getitem.lookup (Bu (knd:=bP X.prog X.w) (strKind_is _ _ _ _) dd.mapOf hw #[z,H,I.tok _,rw',q]) hs
def zew(P:tL)(w:tP):V->V->V->Hp->(Hp->Prop)->Prop:=λo i v H Q=>∃a m n k,o=.ref a/\i=.str k/\H a=BJ (kn P w a m n)/\n<=100000/\Q (upd H a (kn P w a (λx=>if x=k then BJ v else m x) (n+1)))
def zaF:zgd X (zew X.prog X.w):=by
 intros o i v ov iv u Q I ro ri rv h;let#[a,m,n,k,rfl,rfl,ha,hn,q]:=h;cases ro;let#[t,rfl]:=ri;let#[hsm,kvs,dd,hl,r]:=Inv.tdic I ha;have s16:=zU;refine wpAny_setItem_pairs (knd:=bP X.prog X.w) (hsz:=by lia) (strKind_is _ _ _ _) dd λh' dd' hs=>#[_,?_,q];have he:∃q,h'.get? a=BJ q:=let #[q,_,_,hq,_]:=dd'; #[q,hq];refine I.write (x:=a) (e:=a) (by rw[ha];exact True.intro) (.inl rfl) (λb q hb z=>(hs.2 b hb).trans z) he (QL hsm dd' (aB (stored_length_le _ _ _) ⋯) λx=>?_);rw[k9];by_cases e:x=k
 ·rw[y9 e,y9 e];exact rv
 ·rw[z9 e,z9 e];exact r x
def zfJ(P:tL)(w:tP):R2:=λx y H Q=>∃a m n k,x=.str k/\y=.ref a/\H a=BJ (kn P w a m n)/\Q (.bl (m k).isNone) H
def zaO:OpR X (tN .NotIn) (zfJ X.prog X.w):=by
 intros x y v u Q I rx ry h;let#[a,m,n,k,rfl,rfl,ha,q]:=h;let#[t,rfl]:=rx;cases ry;let#[hsm,kvs,dd,hl,r]:=Inv.tdic I ha;refine wpAny_notIn_of (knd:=bP X.prog X.w) (strKind_is _ _ _ _) hsm dd.mapOf ?_
 have e:(!(valueAt kvs k).isSome)=(m k).isNone:=by
  have:=r k
  cases hm:m k with
  | none =>
   cases hv:valueAt kvs k with
   | none=>rfl
   | some z=>rw[hm,hv]at this;exact this.elim
  | some z0 =>
   cases hv:valueAt kvs k with
   | none=>rw[hm,hv]at this;exact this.elim
   | some z=>rfl
 rw[e];exact#[.bl _,H,I.tok _,rfl,q]
def qk(hc:X.calm=BL)(S:Zr X scope own caps ix)(hg:∀cl C BN s3 H3 fp,PG (yG X scope cl C (own ++ caps) BN s3 H3 fp λZ Z=>False) tg g)(ht:∀cl C BN s3 H3 fp xe,XE (yG X scope cl C (own ++ caps) BN s3 H3 fp xe) EX->PTs (yG X scope cl C (own ++ caps) BN s3 H3 fp xe) ifs tt)(hst:X.stack=X.env::X.outer/\X.env.frame=BJ X.env.locals)(hxe:XE X EX)(he:∀cl C BN s3 H3 fp xe,XE (yG X scope cl C (own ++ caps) BN s3 H3 fp xe) EX->PE (yG X scope cl C (own ++ caps) BN s3 H3 fp xe) elt te)(hc1:∀y c,cl.lookup y=BJ c->X.env.cells.lookup y=BJ c)(hc2:∀y,(y,NameKind.free) ∈ scope.names->∃c,cl.lookup y=BJ c){Q:VK}(I2:Inv X BN σ H2 s2)(T:Kh X.prog X.w X.K tg J fp it tn)(st2:tn 0 s2.heap)(f2:∀b ∈ fp,wf X BN H2 b)(q:∀D,H2 D=BK->∃W:Nat->Nat->List V->Hp->Prop,(∃m,W 0 m [] (upd H2 D (.lst []))) /\
   ∀i m acc H',W i m acc H'->(J.stop i H'/\Q (.ref D) H')\/(J.go i H'/\∀x H2,J.yld i H' x H2->g x (vM σ own.length ix) H2 λσ3 H3=>xo (vM σ own.length ix) σ3/\tt σ3 H3 λb H4=>if b=BL then
    te σ3 H4 λv H5=>H5 D=BJ (.lst acc)/\acc.length<tE/\∃m',m'<m/\W (i+1) m' (acc ++ [v]) (upd H5 D (.lst (acc ++ [v])))
    else ∃m',m'<m/\W (i+1) m' acc H4)) {RR:tH->tG->Result->tJ->Prop} (hRR:∀D C m s' H',H2 D=BK->s'.heap.Ns C m->wf X BN H' C->Inv X BN σ H' s'->Q (.ref D) H'->RR (.ref D) C (.ok .next) s') (hRE:∀D C m s' x,s'.heap.Ns C m->(∀h',Heap.SameBut C s'.heap h'->∀cenv:BB,cenv.locals=C->tI (model X.prog X.w) X.A (gn "comprehension.variables-let-go" x cenv:Sem tH) (λZ Z=>False) X.xe { s' with heap:=h' })->RR (.ref D) C (.error x) s') :
  tI (model X.prog X.w) X.A (newList []) (λacc s3=>tI (model X.prog X.w) X.A (newFunctionEnv scope X.env.globals cl [] X.env.qual BK .none (BJ X.env)) (λcenv s4 =>
   As (model X.prog X.w) X.A (.compStart (.ListComp elt [#[tg,iter,ifs,0]] scope pos) 0 (.ref it) acc { cenv with scope:=relabel scope X.env }) (RR acc cenv.locals) s4) E s3) E s2:=by
 have hD:H2 s2⁻¹=BK:=I2.hok.fresh (ak _);let#[W,#[m0,w0],turn]:=q _ hD;refine Bn (AY S.nocell (by intro y hy;simp at hy) (λh1 hns1 hsb1=>?_) S.kind);dsimp only at hns1 hsb1 ⊢
 have I3:Inv X BN σ (upd H2 s2⁻¹ (.lst [])) { s2 with heap:=s2.heap.push { cls:=.type "list",dict:=BK,data:=.seq ([]:List tH).toArray } } :=
  I2.lnew (its:=[]) (t':=s2.toks) .nil (ax _)
 generalize hs3:({ s2 with heap:=s2.heap.push { cls:=.type "list",dict:=BK,data:=.seq ([]:List tH).toArray } }:tJ)=s3 at I3;have e3:s2.heap.push { cls:=.type "list",dict:=BK,data:=.seq ([]:List tH).toArray }=s3.heap:=by rw[<- hs3]
 rw[e3]at hns1 hsb1 ⊢;have k1:∀b o,s3.heap.get? b=BJ o->h1.get? b=BJ o:=λb o e=>(hsb1.2 b (aA (av e))).trans (ae _ e);have k23:∀b o,s2.heap.get? b=BJ o->s3.heap.get? b=BJ o:=λb o e=>by rw[<- e3];exact ae _ e
 have hz:s3⁻¹=s2⁻¹+1:=by rw[<- e3,cj]
 have fpObj:∀b ∈ fp,∃o,s2.heap.get? b=BJ o:=λb hb=>let #[o,e,_]:=T.obj 0 _ st2 b hb; #[o,e];have fplt:∀b ∈ fp,b<s2⁻¹:=λb hb=>let #[o,e]:=fpObj b hb;av e;have f3:∀b ∈ fp,wf X BN (upd H2 s2⁻¹ (.lst [])) b:=λb hb=>#[by rw[zo (aA (fplt b hb))];exact (f2 b hb).1,(f2 b hb).2]
 have I4:Inv (yG X scope cl s3⁻¹ (own ++ caps) BN s3 (upd H2 s2⁻¹ (.lst [])) fp λZ Z=>False) [] (vM σ own.length ix) (upd H2 s2⁻¹ (.lst [])) { s3 with heap:=h1,toks:=s3.toks+([]:List (tK × tH)).length } :=
  Ul S hc1 hc2 I3 f3 (λb hb=>by rw[hz];exact du (fplt b hb)) hns1 k1
 have st4:tn 0 h1:=T.keep 0 _ _ st2 λb hb o e=>k1 b o (k23 b o e);generalize hs4:({ s3 with heap:=h1,toks:=s3.toks+([]:List (tK × tH)).length }:tJ)=s4 at I4;have es4:({ s2 with heap:=h1,toks:=s2.toks+([]:List (tK × tH)).length }:tJ)=s4:=by rw[<- hs4,<- hs3]
 have e4:h1=s4.heap:=by rw[<- hs4]
 have loop:As (model X.prog X.w) X.A (.compLoop (.ListComp elt [#[tg,iter,ifs,0]] scope pos) 0 (.ref it) (.ref s2⁻¹) (compEnvC scope cl s3⁻¹ X.env)) (RR (.ref s2⁻¹) s3⁻¹) s4:=by
  let X':=yG X scope cl s3⁻¹ (own ++ caps) BN s3 (upd H2 s2⁻¹ (.lst [])) fp λZ Z=>False
  have fp':∀{H':Hp},(∀b ∈ fp,H' b=BK)->∀b ∈ fp,wf X' [] H' b:=λ{H'} hn b hb=>by
   let#[_,a1,a2,a3,a4,a5]:=f3 b hb;refine#[hn b hb,aA (show b<s3⁻¹ from by rw[hz];exact du (fplt b hb)),λz=>?_,.inl hb,λx c e=>a4 x c (hc1 x c e),λp hp=>?_]
   ·rcases BR.mp (I3.stkSub b z)with e | e
    ·exact a1 e
    ·exact a2 e
   ·have:p ∈ (X.pn ++ BN) ++ []:=hp;rw[aZ]at this;exact a5 p this
  refine Jw (λn s'=>∃i acc H',Inv X' [] (vM σ own.length ix) H' s'/\tn i s'.heap/\(∀b ∈ fp,H' b=BK)/\W i n acc H') rfl ?_ m0 #[0,[],_,I4,by rw[<- e4];exact st4,λb hb=>(f3 b hb).1,w0];rintro n s5 ⟨i,acc,H5,I5,st5,fr5,w5⟩;refine Ag ?_;rcases turn i n acc H5 w5 with ⟨stop,qn⟩ | ⟨go,step⟩
  ·refine thn (T.done X' rfl rfl rfl hc i [] s5 _ H5 _ I5 (fp' fr5) st5 stop) λr s6 ⟨hr,I6⟩=>?_;subst hr;let#[m,hm,_]:=I6.loc;refine hRR _ _ m s6 H5 hD hm (I3.fpOk (ak _) I6.free) (I3.call' (s':=s6) I6.os I6.base I6.hok I6.bare λb hb=>?_) qn;let#[_,a1,a2,a3,a4,a5]:=f3 b hb;exact#[a3,a1,a4,a5]
  ·refine thn (T.item X' rfl rfl rfl hc i [] s5 _ H5 (λZ Z=>False) I5 (fp' fr5) st5 go) λr s6 ⟨u,hr,h6⟩=>?_;subst hr;refine Ag (thn h6 λZ s7=>el5 λx H7 I7 r7 q_z=>?_);let#[y7,st7,fr7]:=q_z;have I7':=I7.pinned (fp' fr7) (T.obj _ _ st7);refine Ag (thn (hg _ _ _ _ _ _ _ s7 _ H7 x u _ I7' r7 (step x H7 y7)) λZ s8=>el5 λσ8 H8 I8 ks q8=>?_);refine thn (ht cl _ BN s3 (upd H2 s2⁻¹ (.lst [])) fp _ (λe s hfl=>UL (RE:=λe s'=>RR (.ref s2⁻¹) s3⁻¹ (.error e) s') hst hxe hc1 I3 f3 hfl λm s' x a b=>hRE _ _ m s' x a b) _ s8 σ8 H8 _ (I8.wish _) q8) λb s9=>el3 λH9 I9' q9=>?_;have I9:=Inv.unwish (X:=X') I9'
   have back:∀{s':tJ} {H':Hp} {acc':List V} {m':Nat},Inv X' ([] ++ Xc fp s7.heap) σ8 H' s'->m'<n->W (i+1) m' acc' H'->∃m,m<n/\∃i acc H',Inv X' [] (vM σ own.length ix) H' s'/\tn i s'.heap/\(∀b ∈ fp,H' b=BK)/\W i m acc H':=λ{s' H' acc' m'} J' hm w'=>by
    refine#[m',hm,i+1,acc',H',(J'.unpinned).weak ks.1 ks.2,T.keep _ _ _ st7 λb hb o e=>(J'.pin (b,o) (aH _ (aH _ (vB hb e)))).1,λb hb=>?_,w'];let#[o,e,d]:=T.obj _ _ st7 b hb;exact (J'.pin (b,o) (aH _ (aH _ (vB hb e)))).2.1
   cases b with
   | false =>
    rw[z9 aD]at q9 ⊢;let#[m',hm,w']:=q9;exact back I9 hm w'
   | true =>
    rw[y9 rfl]at q9 ⊢;refine thn (he cl _ BN s3 (upd H2 s2⁻¹ (.lst [])) fp _ (λe s hfl=>UL (RE:=λe s'=>RR (.ref s2⁻¹) s3⁻¹ (.error e) s') hst hxe hc1 I3 f3 hfl λm s' x a b=>hRE _ _ m s' x a b) _ s9 σ8 H9 _ (I9.wish _) q9) λv s10=>el5 λy H10 I10' r10 q_z=>?_;let#[hD10,hsz,m',hm,w']:=q_z;have I10:=Inv.unwish (X:=X') I10';refine Ag ?_;have:=xG (X:=X') _ s10 σ8 H10 (.ref s2⁻¹) [y] (.ref s2⁻¹) [v] (λZ H'=>H'=upd H10 s2⁻¹ (.lst (acc ++ [y]))) I10 rfl (.cons r10 .nil) #[acc,hD10,hsz,rfl];refine thn this λ_ s11 ⟨_,H11,I11,_,eH⟩=>?_;subst eH;exact back I11 hm w'
 have goal:As (model X.prog X.w) X.A (.compStart (.ListComp elt [#[tg,iter,ifs,0]] scope pos) 0 (.ref it) (.ref s2⁻¹) (compEnvC scope cl s3⁻¹ X.env)) (RR (.ref s2⁻¹) s3⁻¹) s4 :=
  codeAny_compStart_list loop (T.self _ 0 s4 _ _ (by rw[<- e4];exact st4) loop)
 rw[<- es4]at goal;exact goal
def YO(hc:X.calm=BL)(S:Zr X scope own caps ix)(hst:X.stack=X.env::X.outer/\X.env.frame=BJ X.env.locals)(hxe:XE X EX)(hi:PI X tg iter wi)(hg:∀cl C BN s3 H3 fp,PG (yG X scope cl C (own ++ caps) BN s3 H3 fp λZ Z=>False) tg g)(ht:∀cl C BN s3 H3 fp xe,XE (yG X scope cl C (own ++ caps) BN s3 H3 fp xe) EX->PTs (yG X scope cl C (own ++ caps) BN s3 H3 fp xe) ifs tt)(he:∀cl C BN s3 H3 fp xe,XE (yG X scope cl C (own ++ caps) BN s3 H3 fp xe) EX->PE (yG X scope cl C (own ++ caps) BN s3 H3 fp xe) elt te)(hs:‹∀x,foldedSetIterable iter X.env x=pure x›) :
  PE X (.ListComp elt [#[tg,iter,ifs,0]] scope pos) (kO wi g tt te own.length ix):=by
 intros Q I h;let#[cl,hclos,hc1,hc2]:=uz (scope:=scope) (env:=X.env) λy hy=>I.ok.has y (S.free y hy);rw[eval_ListComp];refine AI (use:=BK) rfl hs hclos S.kind S.names (thn (hi BN s σ H _ I h) λv s1 h1=>thn h1 λitv s2 h2=>?_);let#[it,fp,tn,J,H2,e,I2,T,st2,f2,q]:=h2;subst e;refine qk (RR:=λacc C=>compPost (model X.prog X.w) X.A X.xe BK (EP X BN σ Q) acc C) hc S hg ht hst hxe he hc1 hc2 I2 T st2 f2 q ?_ ?_
 ·intro D C m s' H' _ hn fc I' qn;let#[a0,a1,a2,a3,a4,a5]:=fc;exact#[m,hn,λh' sb=>#[.ref D,H',I'.turned (t':=s'.toks) (λb o hb e=>(sb.2 b hb).trans e) a0 a1 a3 a4 a5,rfl,qn]]
 ·intro D C m s' x hn hp;exact#[m,hn,hp]
def xeN:XE X E0:=λe s h=>by
 let#[_,_,_,_,_,_,_,_,_,_,_,_,_,_,h]:=h;exact h.elim
def zfw(h:PE (X.wish λZ Z=>False) e t):PE X e t:=λBN s σ H Q I hq=>Ag (thn (h BN s σ H Q (I.wish _) hq) λv s'=>el5 λx H' I' r q=>#[x,H',I'.unwish,r,q])
def za8(h:PTs (X.wish λZ Z=>False) ifs t):PTs X ifs t:=λBN s σ H Q I hq=>Ag (thn (h BN s σ H Q (I.wish _) hq) λv s'=>el3 λH' I' q=>#[H',I'.unwish,q])
def xB(hc:X.calm=BL)(S:Zr X scope own caps ix)(hi:PI X tg iter wi)(hg:∀cl C BN s3 H3 fp,PG (yG X scope cl C (own ++ caps) BN s3 H3 fp λZ Z=>False) tg g)(ht:∀cl C BN s3 H3 fp,PTs (yG X scope cl C (own ++ caps) BN s3 H3 fp λZ Z=>False) ifs tt)(he:∀cl C BN s3 H3 fp,PE (yG X scope cl C (own ++ caps) BN s3 H3 fp λZ Z=>False) elt te)(hst:‹X.stack=X.env::X.outer/\X.env.frame=BJ X.env.locals›) (hs:‹∀x,foldedSetIterable iter X.env x=pure x›) :
  PE X (.ListComp elt [#[tg,iter,ifs,0]] scope pos) (kO wi g tt te own.length ix) :=
 YO hc S hst xeN hi hg (λa b c d e f Z Z=>za8 (ht a b c d e f)) (λa b c d e f Z Z=>zfw (he a b c d e f)) hs
def Kc(hN:X.N.Nodup)(hy:X.N[i]? = BJ y)(hly:Loc X.env.scope y)(hf:X.fn y=BL\/X.env.scope.names.lookup y=BJ .local)(hc:X.calm=BL)(S:Zr X scope own caps ix)(hi:PI X tg iter wi)(hg:∀cl C BN s3 H3 fp,PG (yG X scope cl C (own ++ caps) BN s3 H3 fp λZ Z=>False) tg g)(ht:∀cl C BN s3 H3 fp,PTs (yG X scope cl C (own ++ caps) BN s3 H3 fp λZ Z=>False) ifs tt)(he:∀cl C BN s3 H3 fp,PE (yG X scope cl C (own ++ caps) BN s3 H3 fp λZ Z=>False) elt te)(hst:‹X.stack=X.env::X.outer/\X.env.frame=BJ X.env.locals›)(hsw:‹swapsWith (.ListComp elt [#[tg,iter,ifs,0]] scope pos) (BJ (.Name y py)) spos.line X.env=pure BL›)(hs:‹∀x,foldedSetIterable iter X.env x=pure x›) :
  PS X (.Assign [.Name y py] (.ListComp elt [#[tg,iter,ifs,0]] scope pos) spos) (Yp i (kO wi g tt te own.length ix)):=by
 intros D I h;let#[cl,hclos,hc1,hc2]:=uz (scope:=scope) (env:=X.env) λy hy=>I.ok.has y (S.free y hy);rw[exec_Assign_Name_used _ _ _ _ hsw];refine tw (Ab (tw ?_));show tI _ X.A (do let _ <- comprehension (.ListComp elt [#[tg,iter,ifs,0]] scope pos) scope X.env _ (newList []) BM (eval iter X.env) (BJ (assign (.Name y py) X.env))) _ _ s;refine tw (thn (AI (use:=BJ (assign (.Name y py) X.env)) (Q:=λZ s'=>SP X BN D .next s') rfl hs hclos S.kind S.names (thn (hi BN s σ H _ I h) λv s1 h1=>thn h1 λitv s2 h2=>?_)) λZ s' hq=>tz (tz hq));let#[it,fp,tn,J,H2,e,I2,T,st2,f2,q]:=h2;subst e;refine qk (Q:=λx H1=>D.nx (σ.set i (BJ x)) H1) (RR:=λacc C=>compPost (model X.prog X.w) X.A X.xe (BJ (assign (.Name y py) X.env)) (λZ s'=>SP X BN D .next s') acc C) hc S hg (λa b c d e f Z Z=>za8 (ht a b c d e f)) hst xeN (λa b c d e f Z Z=>zfw (he a b c d e f)) hc1 hc2 I2 T st2 f2 q ?_ λD C m s' x hn hp=>#[m,hn,hp];intro D' C m s' H1 hD' hn fc I1 nx;let#[a0,a1,a2,a3,a4,a5]:=fc;show tI _ X.A (assign (.Name y py) X.env (.ref D')) _ _ s';refine Bo (XA I1 hN hy hly (v:=.ref D') rfl (λs'' I2' ⟨a,sb,ha⟩=>?_) hf)
 have hCa:C≠a:=by
  rcases ha with e | e
  ·rw[e];exact a1
  ·exact λz=>a4 _ _ e z.symm
 refine#[m,hn.sameBut sb hCa,λh' sb'=>#[_,H1,I2'.turned (t':=s''.toks) (λb o hb e=>(sb'.2 b hb).trans e) a0 a1 a3 a4 a5,nx]]
end
end L3
namespace LL
open PySem L2 L3
open L2.SqT renaming of→x4
open L2.SqL renaming of→x6
open SamT renaming of→x8
open L2.Same renaming refl→x9
open CNx renaming mk→ja0
open Iss renaming same→ja1,append→jb2
open ForR renaming «by»→ja2
open ForL renaming «by»→ja3
open PySem.Pv renaming boot_list→jb0,boot_str→jb3,boot_tuple→jc0
open CompL renaming «by»→jb1
mutual section
def top(i:Nat):tM:=PySem.Challenge.pw_letterlaw_k81_alike_walked.main.body.getD i (.Pass #[0,0,0,0])
abbrev yU:tM:=yA (top 5) 0
abbrev ye:tM:=yA (top 6) 0
abbrev xb:tM:=top 12
abbrev vm:tM:=top 13
abbrev vY:tM:=top 14
abbrev zcl:tM:=top 15
abbrev WX:tM:=top 17
abbrev Ym:tM:=top 18
abbrev xV:tM:=top 21
abbrev ve:tM:=top 22
abbrev vQ:tM:=top 23
abbrev wz:tM:=yA (top 24) 0
abbrev yM:tM:=yA (top 24) 1
abbrev XZ:tM:=top 26
abbrev uP:tM:=top 27
abbrev Qx:tM:=top 28
abbrev jw:tM:=top 29
abbrev ZP:tM:=top 30
abbrev wa:tM:=top 31
abbrev uQ:tM:=top 37
abbrev vw:tM:=top 38
abbrev ug:tM:=top 39
abbrev ju:tM:=top 40
abbrev yS:tM:=top 41
abbrev xW:tM:=top 42
abbrev xD:tM:=top 43
abbrev vn:tM:=top 44
abbrev jC:tM:=top 45
abbrev yV:tM:=top 51
abbrev wF:tM:=top 52
abbrev xq:tM:=top 53
abbrev xT:tM:=top 54
abbrev uR:tM:=top 55
abbrev wL:tM:=top 56
abbrev vE:tM:=top 59
abbrev vb:tM:=yA (top 60) 0
abbrev wE:tM:=yA (top 60) 1
abbrev vZ:tM:=yA (top 60) 3
abbrev wc:tM:=yA (top 60) 5
abbrev wb:tM:=yA (top 60) 6
abbrev wI:tM:=top 63
abbrev xC:tM:=top 64
abbrev vA:tM:=top 65
abbrev wG:tM:=top 66
abbrev ww:tM:=top 67
abbrev wH:tM:=top 71
abbrev y0:tM:=top 72
abbrev yX:tM:=top 73
abbrev Zz:tM:=top 74
abbrev w8:tM:=yA (top 77) 0
abbrev xX:tM:=yA (top 77) 1
abbrev wY:tM:=yA (top 77) 2
abbrev xJ:tM:=yA (top 77) 3
abbrev xQ:tM:=yA (top 77) 4
abbrev xn:tM:=yA (top 78) 0
abbrev xt:tM:=yA (top 79) 0
abbrev yz:tM:=yA (top 79) 1
abbrev Qs:tM:=top 81
abbrev X7:tM:=top 82
abbrev jW:tM:=top 83
abbrev Qq:tM:=top 84
abbrev US:tM:=top 85
abbrev Qg:tM:=top 86
abbrev XU:tM:=top 87
abbrev X2:tM:=top 88
abbrev J7:tM:=top 89
abbrev QK:tM:=top 90
abbrev Wq:tM:=top 91
abbrev zb6:tM:=top 92
abbrev XO:tM:=top 93
abbrev km:tM:=top 94
abbrev vF:tM:=top 95
abbrev Yn:tM:=top 96
abbrev Z5:tM:=top 97
abbrev Wn:tM:=top 98
abbrev Wr:tM:=top 99
abbrev Y6:tM:=top 100
abbrev kD:tM:=top 101
end
section
variable{P:tL}{w:tP}{K:tF}{mg:tK->Option tH}{base:tT}
seal L2.PE L2.PS L2.PA L2.PT L2.PSs L2.PI L2.PG L2.PW L2.PGs
local macro_rules | `($a<<<$b)=>return zzM "Df P w K mg base CX0" [a,b]
local macro_rules | `($a>>>$b)=>return zzM "Df P w K mg base" [zzM "CXx P w" [],a,b]
local macro_rules | `($a&&&$b)=>return zzM "zV P w K mg base CX0" [a,mkIdent `f,mkIdent `fd,b]
local macro_rules | `($a|||$b)=>return zzM "zV P w K mg base" [zzM "CXx P w" [],a,mkIdent `f,mkIdent `fd,b]
local macro_rules | `(!!$a)=>`(BJ (.ref $a))
local macro_rules | `(~~~$a)=>`(BJ (.str (tx $a)))
local macro_rules | `(-~~~$a)=>`(BJ (.int (($a):Nat)))
local macro_rules | `(~~~!$a)=>`(BJ (.int $a))
local macro_rules | `($a^^^$b)=>return zzM "Fun K" [a,a,b,mkIdent `f,mkIdent `fd]
end in abbrev sQz(n:Nat)(a:List PySem.Str)(s:PySem.Stmt):=zl a (a.take n) (zi s)
local macro_rules | `(tactic| rfl')=>do
 let A0←("zgZ zg7 zgc zgX zg6 zgR zf4 zgQ zf5 zf7 zdP zdR zdc zcU zdC zgD zgO zgg zgH zgL zdu zdF zdJ zcV zcd zcu zdy zbZ zc2 zg5 zgn zgz zgT zgv zgN zgx zgb zcA zcf zcq zci zdM zcH zdd zc5".splitOn " ").toArray.mapM fun s=>`(Lean.Parser.Tactic.simpLemma| ↓$(mkIdent s.toName):ident)
 let A1←("zf2 zal zbN zf0 JU tOp tUn tC uZ zO xI tCB zde yH Ki zdT zfQ tOr VU zfU V6 Zo tIf rI rI0 rU rGe zft jd zbd zd2 zd7 zfd tSl ZB YS Kg zfB tBM zfW zdA zcg L2.start zge cxK cxP cxW ao aJ aF bH cz eN Nat.reduceAdd Nat.reduceSub dj dW aW aX bS bx vM fu fw".splitOn " ").toArray.mapM fun s=>`(Lean.Parser.Tactic.simpLemma| $(mkIdent s.toName):ident)
 let A2←("zeE zbg za3 zbj zhx zgZ zg7 zgc zgX zg6 zgR zf4 zgQ zf5 zf7 zdP zdR zdc zcU zdC zgD zgO zgg zgH zgL zdu zdF zdJ zcV zcd zcu zdy zbZ zc2 zg5 zgn zgz zgT zgv zgN zgx zgb zcA zcf zcq zci zdM zcH zdd zc5".splitOn " ").toArray.mapM fun s=>`(Lean.Parser.Tactic.simpLemma| ↓$(mkIdent s.toName):ident)
 let A3←("zf2 vM fu fw rU Yp zbQ zfs zd6 zal zbN zf0 JU tOp tUn Kb tC uZ zO xI tCB zde yH Ki zdT zfQ tOr VU zfU V6 Zo tIf rI rI0 rEq_is rNe_is zft jd zbd zd7 zfd zd2 tSl ZB YS rGe decide_false decide_true Prod.mk.injEq rLen_is zfz zcF VG WB tyV tBM zfW if_true if_false be decide_eq_true_eq decide_eq_false_iff_not Bool.not_eq_true' gf fV lt1 Kg zfB zdz ko zcZ XJ WG zfS tHs zfa zeL zfi zeb zeq zet Value.ref.injEq L2.start zfF zfg zhD zhn zhj zef zhs zdA zcg zhv JR zfH zd1 zgI ZG QP YA jr X9 yj zge za0 zes cxK cxP cxW ao aJ aF bH cz eN Nat.reduceAdd Nat.reduceSub and_assoc zey exists_eq exists_eq' exists_eq_left' exists_eq_left exists_eq_right exists_eq_right' exists_and_left exists_and_right V.int.injEq V.ref.injEq V.str.injEq V.bl.injEq V.ty.injEq reduceCtorEq false_and and_false true_and and_true or_false false_or exists_false exists_const dj dW Option.some.injEq aW aX List.cons.injEq aZ bS bx zbJ zbr za2 zbn".splitOn " ").toArray.mapM fun s=>`(Lean.Parser.Tactic.simpLemma| $(mkIdent s.toName):ident)
 `(tactic| first | (dsimp only[$A0,*,$A1,*];try simp only[$A2,*,$A3,*]) | simp only[$A2,*,$A3,*])
local macro_rules | `(tactic| ac_rfl)=>do
 let A0←("yl zw zH yn yo zx".splitOn " ").toArray.mapM fun s=>`(Lean.Parser.Tactic.simpLemma| $(mkIdent s.toName):ident)
 `(tactic| repeat (first | rfl' | simp only[$A0,*]))
mutual section
def nmB{α β:Type}{P B:α->β->Prop}(h:∀G:α->β->Prop,G=B->∀a b,P a b->G a b):∀a b,P a b->B a b:=h _ rfl
def nmC{α β γ:Type}{P B:α->β->γ->Prop}(h:∀G:α->β->γ->Prop,G=B->∀a b c,P a b c->G a b c):∀a b c,P a b c->B a b c:=h _ rfl
def nmE{α β γ δ ε:Type}{P R S B:α->β->γ->δ->ε->Prop}(h:∀G:α->β->γ->δ->ε->Prop,G=B->∀a b c d e,P a b c d e->R a b c d e->S a b c d e->G a b c d e):∀a b c d e,P a b c d e->R a b c d e->S a b c d e->B a b c d e:=h _ rfl
def xe0 : XE X E0:=λe s h=>by
 let#[_,_,_,_,_,_,_,_,_,_,_,_,_,_,h]:=h;exact h.elim
def small(l:()):Prop:=∀c ∈ l,97<=c/\c<=122
instance (l:()):Decidable (small l):=by unfold small;infer_instance
def wv(l:()):Bool:=decide (1<=l.length/\l.length<=6/\small l/\l.Nodup)
def ZA:Sp:=λvs H Q Z=>∃c:Nat,vs=[⇑[c]]/\Q (.bl (decide (97<=c/\c<=122))) H
def KM:sQz 1 ["sign"] xb:=by nofun
def zaM(F:("is_small_letter"^^^xb)):(1&&&["sign"]) ZA:=by
 exists F.ok KM
 ·let#[c,rfl,q]:=h;refine#[_,(zg (zk (WZ xu xu zP (pv 0) zP))),?_];have ea:cs (("a" : tK))=[97]:=rfl;have ez:cs (("z" : tK))=[122]:=rfl;rfl';erw[ea,ez,X9,lt1];refine yd (λh=>?_) λh=>?_
  ·have e:decide (97<=c/\c<=122)=!decide (122<c):=by
    by_cases h2:122<c
    ·rw[y3 h2,y4 ⋯];rfl
    ·rw[y4 h2,y3 ⋯];rfl
   rw[e]at q;exact q
  ·rw[y4 ⋯]at q;exact q
structure zhy(K:tF)(mg:tK->Option tH)(C:tG):Prop where
 xi:XI K C
 ini:af K (.ref C) "__init__" = BJ (BJ (.builtin "ValueError.__init__"))
 g:mg "NoLetters" = BJ (.ref C)
 most:∃t,mg "MOST_LETTERS" = BJ (.int 6 t)
def wJ(C:tG):Sp:=λvs H Q E=>∃l:(),vs=[⇑l]/\l.length<=1000/\(wv l=BL->Q ⇑l H)/\(wv l=BM->E (.ref C) BK H)
def oa:sQz 1 ["text","sign"] vm:=by nofun
def Yb(B:Bt mg)(T:zhy K mg C)(F:("letters_of"^^^vm))(Ds:(1<<<"is_small_letter") ["sign"] [] ZA):(2|||["text"]) (wJ C):=by
 exists Fun.okX F oa,0
 ·let#[l,rfl,hl,q1,q2]:=h;let#[t6,g6]:=T.most
  refine#[_,(zG (zJ (zX (uu xu xu zb (zF B.len (pv 0)) (yy (v:=.int 6) rfl g6 #[t6,rfl]))) (zg (yf hx rfl T.xi.toXC T.ini rfl T.g (za zP ze)))
    zp) (zG (zW PassesOwn.leaving rfl (Ve (pv 0)) (zq (i:=1) oa.nd rfl (.inl rfl)) (zG (zJ (zX (VO (cl0 Ds hr .nil rfl (za (pv 1) ze)) (λZ=>rfl))) (zg (yf hx rfl T.xi.toXC T.ini rfl T.g (za zP ze)))
     zp) (zg (zJ (zu Zn (qz cX fM fN UY (pv 0) (za (pv 1) ze)) zb (zt _)) (zg (yf hx rfl T.xi.toXC T.ini rfl T.g (za zP ze)))
     zp)))) (zg (zk (pv 0))))),?_]
  have s16:=zU;rfl'
  have bad:(¬ (1<=l.length/\l.length<=6/\small l/\l.Nodup))->∀H':Hp,H'=H->E (.ref C) BK H':=λh H' e=>by
   rw[e];exact q2 (y4 h)
  refine#[⋯,yd (λc=>yd (λc2=>#[⋯,bad (λh=>by have:=h.2.1;lia) H rfl]) (λc2=>?_)) (λc=>#[⋯,bad (λh=>by have:=h.1;lia) H rfl])];refine ForS.by (λi σ H'=>H'=H/\∃v,σ=[~~~l,v]/\small (l.take i)/\∀c ∈ l.take i,l.count c<=1) #[rfl,BK,rfl,λc h=>y6 h (by simp),λc h=>y6 h (by simp)] ?_ ?_
  ·refine nm4 ?_;rintro i c σ H' hg ⟨eH,v,rfl,hs,hn⟩:_;have hc:=ag hg;right;rfl';erw[ZA];rfl';refine yd (λh=>#[⋯,bad (λz=>by have:=z.2.2.1 c hc;lia) _ eH]) (λh=>yd (λh2=>#[⋯,bad (λz=>?_) _ eH]) (λh2=>#[eH,?_,?_]))
   ·have:=Cn.mp z.2.2.2 c;lia
   ·rw[yb hg];intro x hx;rcases BS.mp hx with q | q
    ·exact hs x q
    ·have:x=c:=by simpa using q
     subst this;lia
   ·rw[yb hg];intro x hx;rcases BS.mp hx with q | q
    ·exact hn x q
    ·have:x=c:=by simpa using q
     subst this;lia
  ·refine nmB ?_;rintro σ H' ⟨eH,v,rfl,hs,hn⟩:_;rw[aP]at hs hn;right;rfl';rw[eH];refine q1 (y3 #[⋯,⋯,hs,Cn.mpr λc=>?_]);by_cases hc:c ∈ l
   ·exact hn c hc
   ·rw[List.count_eq_zero.mpr hc];lia
def zv(l:())(k:Int)(p:()):Bool:=decide (0<=k/\k+p.length<=l.length/\(l.drop k.toNat).take p.length=p)
def vd:Sp:=λvs H Q Z=>∃(l p:()) (k:Int),vs=[⇑l,.int k,⇑p]/\l.length<=10000/\p.length<=10000/\Q (.bl (zv l k p)) H
def ZD(h1:l.length<=10000)(h2:p.length<=10000)(h:Q (.bl (zv l k p)) H):vd [⇑l,.int k,⇑p] H Q E:=#[l,p,k,rfl,h1,h2,h]
def Xh:sQz 3 ["word","place","part"] vY:=by nofun
def YU(B:Bt mg)(F:("stands_at"^^^vY)):(1&&&["word","place","part"]) vd:=by
 exists F.ok Xh
 ·let#[l,p,k,rfl,hl,hp,q]:=h
  refine#[_,(zG (zJ (zX (uu xu xu zb (pv 1) (zr jF (zF B.len (pv 0)) (zF B.len (pv 2))))) (zg (zk yJ))
    zp) (zg (zk (ya yQ (yk wM (pv 0) (yc (pv 1)) (yc (zr yq (pv 1) (zF B.len (pv 2))))) (pv 2) (zt _))))),?_]
  have s16:=zU;rfl'
  have no:¬ (0<=k/\k+p.length<=l.length/\(l.drop k.toNat).take p.length=p)->Q (.bl BM) H:=λh=>by
   have e:zv l k p=BM:=y4 h;rw[e]at q;exact q
  refine yd (λh0=>#[⋯,⋯,yd (λh1=>no λh=>y6 h.2.1 ⋯) λh1=>#[⋯,⋯,?_]]) λh0=>no λh=>h0 h.1;rw[Zt _ h0 ⋯ ⋯];have e:(k+(p.length:Int) - k).toNat=p.length:=⋯;rw[e]
  have e2:zv l k p=decide ((l.drop k.toNat).take p.length=p):=by
   unfold zv;exact decide_eq_decide.mpr #[λh=>h.2.2,λh=>#[h0,⋯,h]]
  rw[<- e2];exact q
def yZ(l:())(k:Int)(o n:()):():=l.take k.toNat ++ n ++ l.drop (k.toNat+o.length)
def xf(h:zv l k o=BL):l.take k.toNat ++ o ++ l.drop (k.toNat+o.length)=l/\(l.take k.toNat).length=k.toNat/\0<=k/\k+o.length<=l.length:=by
 unfold zv at h;rw[decide_eq_true_eq]at h;let#[h0,h1,h2]:=h;refine#[?_,by rw[aL];lia,h0,h1]
 have e:l.drop k.toNat=o ++ l.drop (k.toNat+o.length):=by
  have:=bV o.length (l.drop k.toNat);rw[h2,eQ]at this;exact this.symm
 rw[aS,<- e,bV]
def W5(n:())(h:zv l k o=BL):zv (yZ l k o n) k n=BL/\yZ (yZ l k o n) k n o=l:=by
 let#[e,hl,h0,h1]:=xf h
 have e1:(yZ l k o n).take k.toNat=l.take k.toNat:=by
  unfold yZ;rw[aS,bt ⋯,bg ⋯]
 have e2:(yZ l k o n).drop k.toNat=n ++ l.drop (k.toNat+o.length):=by
  unfold yZ;rw[aS,cP ⋯,bh ⋯,bS]
 have e3:(yZ l k o n).length=l.length - o.length+n.length:=by
  unfold yZ;erw[am,bq,hl];lia
 refine#[?_,?_]
 ·unfold zv;refine y3 #[h0,⋯,?_];rw[e2,bt ⋯,bg ⋯]
 ·show (yZ l k o n).take k.toNat ++ o ++ (yZ l k o n).drop (k.toNat+n.length)=l;rw[e1,<- eQ,e2,cP ⋯,bh ⋯,bS];exact e
def zdv(h0:0<=k):cut l BK (BJ k) ++ n ++ cut l (BJ (k + ↑o.length)) BK=yZ l k o n:=by rw[YC _ h0,qL _ ⋯];have:(k+(o.length:Int)).toNat=k.toNat+o.length:=⋯;rw[this];rfl
structure TNU(K:tF)(mg:tK->Option tH)(C:tG):Prop where
 xi:XI K C
 g:mg "NoUse" = BJ (.ref C)
 na:NoAttr K C "at"
def Yo:sQz 2 ["self","at"] yU:=by nofun
def Z2(T:TNU K mg C)(F:Fun K "__init__" "NoUse.__init__" yU f fd):(1&&&["self","at"]) (uN C "at"):=by
 exists F.ok Yo
 ·let#[x,v,rfl,hx,q]:=h;refine#[_,(zg (UJ (pv 0) (pv 1) rfl)),?_];erw[zbV];rfl';exact#[C,hx,T.xi.toXC,T.na,q]
structure DNU(P:tL)(w:tP)(K:tF)(mg:tK->Option tH)(base:tT)(C:tG):Prop extends TNU K mg C where
 ini:∃f fd,af K (.ref C) "__init__" = BJ (BJ (.ref f))/\aV K (.ref f)=BL/\(1&&&["self","at"]) (uN C "at")/\Binds K fd ["self","at"] []
def WY(C:tG):Sp:=λvs H Q E=>∃(l o n:()) (k:Int),vs=[⇑l,.int k,⇑o,⇑n]/\l.length<=10000/\o.length<=10000/\n.length<=10000/\(zv l k o=BL->Q ⇑(yZ l k o n) H)/\(zv l k o=BM->∀d H',zgw H d "at" (.int 0) H'->E (.ref C) (BJ d) H')
def zfr:sQz 4 ["word","place","old","new"] zcl:=by nofun
def ze8(B:Bt mg)(T:DNU P w K mg base C)(F:("put"^^^zcl))(sf:(1<<<"stands_at") ["word","place","part"] [] vd):(3|||["word","place","old","new"]) (WY C):=by
 let#[fi,fdi,hi,hfn,Fi,Bi]:=T.ini;exists Fun.okX F zfr,0
 ·let#[l,o,n,k,rfl,hl,ho,hn,q1,q2]:=h
  refine#[_,(zG (zJ (zX (VO (cl0 sf hr .nil rfl (za (pv 0) (za (pv 1) (za (pv 2) ze)))) (λZ=>rfl))) (zg (Xm hx rfl T.xi.toXC hi hfn Fi hr Bi rfl T.g (za zb ze)))
    zp) (zg (zk (zr yE (zr yE (yk wM (pv 0) xS (yc (pv 1))) (pv 3)) (yk wM (pv 0) (yc (zr yq (pv 1) (zF B.len (pv 2)))) xS))))),?_]
  have s16:=zU;rfl';refine ZD hl ho ?_;rfl';refine yd (λhb=>#[⋯,Js (q2 hb)]) λhb=>?_;have hb':zv l k o=BL:=by simpa using hb
  let#[_,_,h0,h1]:=xf hb';have c1:=vo l BK (BJ k);have c2:=vo l (BJ (k + ↑o.length)) BK;refine#[⋯,⋯,⋯,⋯,?_,?_]
  ·erw[am];lia
  ·have e:cut l BK (BJ k) ++ n ++ cut l (BJ (k + ↑o.length)) BK=yZ l k o n:=by
    rw[YC _ h0,qL _ ⋯];have:(k+(o.length:Int)).toNat=k.toNat+o.length:=⋯;rw[this];rfl
   rw[e];exact q1 hb'
structure TOrd(K:tF)(mg:tK->Option tH)(CO CR CW:tG):Prop where
 cO:Cls K CO
 cR:Cls K CR
 cW:Cls K CW
 gO:mg "Order" = BJ (.ref CO)
 gR:mg "FromRight" = BJ (.ref CR)
 gW:mg "ByWeights" = BJ (.ref CW)
 lO:NoAttr K CO "letters"
 lR:NoAttr K CR "letters"
 lW:NoAttr K CW "letters"
 wW:NoAttr K CW "weights"
def OrdAt(CO CR CW:tG)(H:Hp)(o:tG)(k:Nat)(l:())(ns:List Int):Prop:=∃dx,(k=0/\H o=BJ (.ins CO dx [("letters",⇑l)]))\/(k=1/\H o=BJ (.ins CR dx [("letters",⇑l)])) \/
 (k=2/\ns.length=l.length/\∃w,H o=BJ (.ins CW dx [("letters",⇑l),("weights",.ref w)])/\H w=BJ (.tup (ns.map V.int)))
def OrdAt.same{CO CR CW:tG}{H H':Hp}{o:tG}{k:Nat}{l:()}{ns:List Int}(h:OrdAt CO CR CW H o k l ns)(e:Same H H'):OrdAt CO CR CW H' o k l ns:=by
 obtain⟨dx,⟨h1,h2⟩ | ⟨h1,h2⟩ | ⟨h1,h2,w,h3,h4⟩⟩:=h
 ·exact#[dx,.inl #[h1,e _ _ h2]]
 ·exact#[dx,.inr (.inl #[h1,e _ _ h2])]
 ·exact#[dx,.inr (.inr #[h1,h2,w,e _ _ h3,e _ _ h4])]
def jt(l:())(ns:List Int)(w:()):Int:=((l.zip ns).map λp=>(w.count p.1:Int) * p.2).sum
def zA(k:Nat)(l:())(ns:List Int)(w:()):Int:=if k=2 then jt l ns w else (w.length:Int)
def yY(k:Nat)(w:()):():=if k=1 then w.reverse else w
def qT(K:tF):Sp:=λvs H Q Z=>∃(x C dx:tG) (l:()),vs=[.ref x,⇑l]/\wv l=BL/\Cls K C/\NoAttr K C "letters"/\H x=BJ (.ins C dx [])/\Q .non (upd H x (.ins C dx [("letters",⇑l)]))
def ZL:sQz 2 ["self","letters"] w8:=by nofun
def wx(B:Bt mg)(F:Fun K "__init__" "Order.__init__" w8 f fd)(mS:(2>>>"letters_of") ["text"] [] (wJ C)):(3&&&["self","letters"]) (qT K):=by
 exists F.ok ZL
 ·let#[x,C,dx,l,rfl,hg,hC,hN,hx,q]:=h;refine#[_,(zg (Zh (pv 0) (clP xe0 mS hr .nil rfl (za (pv 1) ze)) rfl)),?_];have s16:=zU;rfl';exact#[l,rfl,by have:=w9 hg;lia,λZ=>#[_,_,_,hx,hC,hN,∅,q],λe=>by rw[hg]at e;cases e]
def ZK:Sp:=λvs H Q Z=>∃(o:tG) (w:()),vs=[.ref o,⇑w]/\w.length<=1000/\Q (.int (w.length:Nat)) H
def jh:sQz 2 ["self","word"] xX:=by nofun
def va(B:Bt mg)(F:Fun K "weight" "Order.weight" xX f fd):(1&&&["self","word"]) ZK:=by
 exists F.ok jh
 ·let#[o,w,rfl,hw,q]:=h;refine#[_,(zg (zk (zF B.len (pv 1)))),?_];have s16:=zU;rfl';exact#[⋯,q]
def Vg:Sp:=λvs H Q Z=>∃(o:tG) (w:()),vs=[.ref o,⇑w]/\Q ⇑w H
def ZV:sQz 2 ["self","word"] wY:=by nofun
def uJ(B:Bt mg)(F:Fun K "seen" "Order.seen" wY f fd):(1&&&["self","word"]) Vg:=by
 exists F.ok ZV
 ·let#[o,w,rfl,q]:=h;refine#[_,(zg (zk (pv 1))),?_];have s16:=zU;rfl';exact q
def XB:Sp:=λvs H Q Z=>∃(o:tG) (w:()),vs=[.ref o,⇑w]/\w.length<=1000/\Q ⇑w.reverse H
def uY:sQz 2 ["self","word"] xn:=by nofun
def qi(B:Bt mg)(F:Fun K "seen" "FromRight.seen" xn f fd):(1&&&["self","word"]) XB:=by
 exists F.ok uY
 ·let#[o,w,rfl,hw,q]:=h;refine#[_,(zg (zk (zda (pv 1) (zgJ zfp zb)))),?_];have s16:=zU;ac_rfl;exact#[⋯,q]
structure zhh(K:tF)(mg:tK->Option tH)(C:tG):Prop where
 xi:XI K C
 ini:af K (.ref C) "__init__" = BJ (BJ (.builtin "ValueError.__init__"))
 g:mg "NoOrder" = BJ (.ref C)
 most:∃t,mg "MOST_WEIGHT" = BJ (.int 1000000 t)
abbrev DOI(P:tL)(w:tP)(K:tF)(mg:tK->Option tH)(base:tT)(CO:tG):Prop:=DC P w K mg base CX0 3 CO "__init__" ["self","letters"] (qT K)
def qY(K:tF)(CW:tG):Sp:=λvs H Q Z=>∃(x dx a:tG) (l:()) (ns:List Int),vs=[.ref x,⇑l,.ref a]/\wv l=BL/\SqL K H a (ns.map V.int)/\ns.length=l.length/\(∀n ∈ ns,1<=n/\n<=1000000)/\H x=BJ (.ins CW dx []) /\
 ∀w H',H w=BK->w≠x->(∀b o,b≠x->H b=BJ o->H' b=BJ o)->H' w=BJ (.tup (ns.map V.int))->H' x=BJ (.ins CW dx [("letters",⇑l),("weights",.ref w)])->Q .non H'
def mN:sQz 3 ["self","letters","weights","weight"] xt:=by nofun
def uU{f CO CR CW CN:tG}{fd:An}(B:Bt mg)(T:TOrd K mg CO CR CW)(TN:zhh K mg CN)(DI:DOI P w K mg base CO)(F:Fun K "__init__" "ByWeights.__init__" xt f fd) :(4|||["self","letters","weights"]) (qY K CW):=by
 let#[t6,g6]:=TN.most;exists Fun.okX F mN,0
 ·let#[x,dx,a,l,ns,rfl,hg,hS,hl,hb,hX,q]:=h
  refine#[_,(zh (xU (zco DI hr rfl T.gO (za (pv 0) (za (pv 1) ze)))) (zh (zJ (zu qb (zF B.len (pv 2)) (zF B.len (pv 1)) (zt _)) (zg (yf hx rfl TN.xi.toXC TN.ini rfl TN.g (za zP ze)))
    zp) (zh (zW PassesOwn.leaving rfl (yv (pv 2)) (zq (i:=3) mN.nd rfl (.inl rfl)) (zg (zJ (zX (uu xu xu zb (pv 3) (yy (v:=.int 1000000) rfl g6 #[t6,rfl]))) (zg (yf hx rfl TN.xi.toXC TN.ini rfl TN.g (za zP ze)))
     zp))) (zg (Zh (pv 0) (xl ZN rfl B.tuple jc0 (za (pv 2) ze)) rfl))))),?_]
  have s16:=zU;have hbx:∀b o,b≠x->H b=BJ o->upd H x (.ins CW dx [("letters",⇑l)]) b=BJ o:=λb o hb e=>by rw[zo hb];exact e
  have hS1:SqL K (upd H x (.ins CW dx [("letters",⇑l)])) a (ns.map V.int):=by
   rcases hS with (h | ⟨o,h⟩) | h
   ·exact .inl (.inl (hbx _ _ (λe=>by rw[e,hX]at h;cases h) h))
   ·exact .inl (.inr #[o,hbx _ _ (λe=>by rw[e,hX]at h;cases h) h])
   ·exact .inr h
  change H'=upd H x (.ins CW dx [("letters",⇑l)])/\σ=[!!x,~~~l,!!a,BK]
  ·ac_rfl;exact#[x,CW,dx,l,rfl,hg,T.cW,T.lW,hX,rfl]
  rintro σ H1 ⟨rfl,rfl⟩:0;change H'=upd H x (.ins CW dx [("letters",⇑l)])/\σ=[!!x,~~~l,!!a,BK]
  ·have hl6:l.length<=6:=by have:=w9 hg;lia
   ac_rfl;refine#[ns.length,.inl #[_,hS1,by rw[aa]],⋯,yd (λh=>y6 ⋯ h) λZ=>trivial]
  rintro σ H1 ⟨rfl,rfl⟩:0;change H'=upd H x (.ins CW dx [("letters",⇑l)])/\∃v3,σ=[!!x,~~~l,!!a,v3]
  ·ac_rfl;refine#[#[_,hS1],ja3 (xs:=ns.map V.int) (λi σ H'=>H'=upd H x (.ins CW dx [("letters",⇑l)])/\∃v3,σ=[!!x,~~~l,!!a,v3]) #[rfl,BK,rfl] (λi σ H' Z h=>by rw[h.1];exact hS1) ?_ λσ H' h=>h];refine nm4 ?_;rintro i y σ H' hy ⟨rfl,v3,rfl⟩:_;rw[au]at hy;let#[n,hn,rfl]:=BW.mp hy;let#[n1,n2]:=hb n (ag hn);right;ac_rfl;exact yd (λZ=>yd (λh=>y6 n2 h) λZ=>trivial) λh=>y6 n1 h
  rintro σ H1 ⟨rfl,v3,rfl⟩:0;ac_rfl;refine#[_,.inl #[hS1,λw hw=>?_]];have hwx:w≠x:=λe=>by rw[e,zd]at hw;cases hw
  have hwH:H w=BK:=by rw[zo hwx]at hw;exact hw
  have hX2:=zf (o:=.tup (ns.map V.int)) hw _ _ (zd (H:=H) (a:=x) (o:=.ins CW dx [("letters",⇑l)]));refine#[_,_,_,hX2,T.cW,T.wW,by show 1<1000;decide,q w _ hwH hwx (λb o hb' e=>?_) ?_ zd]
  ·rw[zo hb'];exact zf hw _ _ (hbx b o hb' e)
  ·rw[zo hwx];exact zd
theorem zbz : xo (BK::BK::r) (BJ x::BJ y::r):=#[rfl,λi v h=>by
 cases i with
 | zero=>cases h
 | succ i =>
  cases i with
  | zero=>cases h
  | succ i=>exact h]
def XG(CW:tG):Sp:=λvs H Q Z=>∃(o dx t:tG) (w l:()) (ns:List Int),vs=[.ref o,⇑w]/\w.length<=1000/\l.length<=6/\ns.length=l.length/\(∀n ∈ ns,1<=n/\n<=1000000)/\H o=BJ (.ins CW dx [("letters",⇑l),("weights",.ref t)])/\H t=BJ (.tup (ns.map V.int))/\∀H',Same H H'->Q (.int (jt l ns w)) H'
def vX:sQz 2 ["self","word"] yz:=by nofun
def vV{f CO CR CW:tG}{fd:An}(B:Bt mg)(T:TOrd K mg CO CR CW)(F:Fun K "weight" "ByWeights.weight" yz f fd) :(1&&&["self","word"]) (XG CW):=by
 exists F.ok vX
 ·let#[o,dx,t,w,l,ns,rfl,hw,hl,hn,hb,ho,ht,q]:=h;refine#[_,(zg (zk (xg (zfj rfl) rfl B.sum fW (za (xB (g:=zdz K 2 (ko (yH 0) (ko (yH 1) zcZ))) (own:=["letter","weight"]) (caps:=["word"]) (ix:=[1]) (tt:=wP) (te:=(tOp zap (tBM K "str" VG (ym 2) (zO (ym 0) xI)) (ym 1))) rfl (zS (sc:=zi yz) rfl (!0) (!0) (!0) rfl (!0) (!0) rfl) (zev rfl B.zip (za (ur (pv 0) rfl) (za (ur (pv 0) rfl) ze))) (λZ Z Z Z Z Z=>wN (n:=2) rfl (zL (zq (i:=0) (show List.Nodup [_,_,_] by decide) rfl (.inl rfl)) (zL (zq (i:=1) (show List.Nodup [_,_,_] by decide) rfl (.inl rfl)) y8))) (λZ Z Z Z Z Z=>yP) (λZ Z Z Z Z Z=>(zr yN (qz cX fM fN UY (pv 2) (za (pv 0) ze)) (pv 1)))) ze)))),?_];have s16:=zU;ac_rfl;refine#[_,_,_,ho,T.cW,T.lW,_,rfl,_,_,_,ho,T.cW,T.wW,_,rfl,l,rfl,t,rfl,#[_,x4 ht],λD hD=>CompZ.by (ys:=ns.map V.int) (λi acc H'=>Same H H'/\H' D=BJ (.lst acc)/\acc=((((l.zip ns).map λp=>(w.count p.1:Int) * p.2).take i).map V.int)) (by rw[aa];lia) #[zf hD,zd,rfl] (λi acc H' Z h=>x4 (h.1 _ _ ht)) ?_ ?_]
  ·rintro i c y acc H' p hc hy ⟨hs,hH,rfl⟩ hp;have hi:=(BP.mp hc).1;rw[au]at hy;let#[n,hn',rfl]:=BW.mp hy
   have hz:((l.zip ns).map λp=>(w.count p.1:Int) * p.2)[i]? = BJ ((w.count c:Int) * n):=by
    rw[au,(List.getElem?_zip_eq_some (z:=(c,n))).mpr #[hc,hn']];rfl
   let#[n1,n2]:=hb n (ag hn');have hcl:w.count c<=w.length:=List.count_le_length;have hcn:(w.count c:Int) * n=(w.count c:Int) * n:=rfl;erw[wP];ac_rfl;refine#[_,x4 zd,rfl,_,_,rfl,_,_,rfl,rfl,zbz,_,rfl,_,rfl,?_,zf hp _ _ hH,by rw[aa,aL];lia,?_]
   ·exact .inr #[⋯,⋯]
   ·rw[WB];refine ja0 hi #[zI (hs.trans (zf hp)) hD,zd,?_];rw[yb hz,ar];rfl
  ·refine nmB ?_;rintro acc H' ⟨hs,hH,rfl⟩:_;have e:l.length=((l.zip ns).map λp=>(w.count p.1:Int) * p.2).length:=by rw[aa,List.length_zip];lia
   right;refine#[D,rfl,_,x6 hH,?_];rw[e,aP];exact q _ hs
def zgB(l:())(c e:Nat):StrLaws.At (tx l) (tx [c]) (tx l).length e ↔ l[e]? = BJ c:=by
 unfold StrLaws.At Builtin.Str.subAt;rw[yj,yj];have h1:[c].length=1:=rfl;rw[h1,beq_iff_eq]
 have e1:((tx l).cps.extract e (e+1)).toList=(l.drop e).take 1:=by
  show (l.toArray.extract e (e+1)).toList=_;simp [fh]
 have e2:((tx l).cps.extract e (e+1)=(tx [c]).cps) ↔ (l.drop e).take 1=[c]:=by
  constructor
  ·intro h;rw[<- e1,h]
  ·intro h;apply Array.toList_inj.mp;rw[e1,h]
 constructor
 ·rintro⟨h2,h3⟩;have:=e2.mp h3;rw[aT ⋯,dB,cq]at this;rw[ah ⋯];injection this with h _;rw[h]
 ·intro h;let#[he,hx]:=BP.mp h;refine#[⋯,e2.mpr ?_];rw[aT he,dB,cq,hx]
def zbK(h:c ∈ l):Txt.find (tx l) (tx [c])=((l.idxOf c:Nat):Int):=by
 have hlt:=bK h;have hg:l[l.idxOf c]? = BJ c:=by rw[ah hlt,eU]
 rcases PyProof.Rows.find_whole (tx l) (tx [c])with ⟨h1,h2⟩ | ⟨e,h1,h2,h3⟩
 ·exact y6 ((zgB l c _).mpr hg) (h2 _)
 ·have he:=(zgB l c e).mp h2
  have:e=l.idxOf c:=by
   rcases e8 e (l.idxOf c)with q | q | q
   ·have:=List.not_of_lt_findIdx (p:=(· == c)) q;let#[h4,h5]:=BP.mp he;simp [h5]at this
   ·exact q
   ·exact y6 ((zgB l c _).mpr hg) (h3 _ q)
  rw[h1,this]
abbrev MkO(P:tL)(w:tP)(K:tF)(mg:tK->Option tH)(base:tT)(C:tG):Prop:=DMk P w K mg base CX0 3 C ["self","letters"] (qT K)
abbrev MkW(P:tL)(w:tP)(K:tF)(mg:tK->Option tH)(base:tT)(C:tG):Prop:=DMk P w K mg base (CXx P w) 4 C ["self","letters","weights"] (qY K C)
abbrev MW(P:tL)(w:tP)(K:tF)(mg:tK->Option tH)(base:tT)(C:tG)(m:tK)(sp:Sp):Prop:=DM P w K mg base CX0 1 C m ["self","word"] sp
structure TWS(P:tL)(w:tP)(K:tF)(mg:tK->Option tH)(base:tT)(CO CR CW:tG):Prop extends TOrd K mg CO CR CW where
 mO:MkO P w K mg base CO
 mR:MkO P w K mg base CR
 mW:MkW P w K mg base CW
 wO:MW P w K mg base CO "weight" ZK
 wR:MW P w K mg base CR "weight" ZK
 wW':MW P w K mg base CW "weight" (XG CW)
 sO:MW P w K mg base CO "seen" Vg
 sR:MW P w K mg base CR "seen" XB
 sW:MW P w K mg base CW "seen" Vg
structure OG(l:())(ns:List Int)(k:Nat):Prop where
 g:wv l=BL
 k3:k<3
 nl:ns.length=l.length
 nb:∀n ∈ ns,1<=n/\n<=1000000
def jS(l:())(w:()):List Int:=w.map λc=>((l.idxOf c:Nat):Int)
def um(k:Nat)(l:())(w:()):List Int:=jS l (yY k w)
def zfu(CO CR CW:tG):tG->Prop:=λC=>C=CO\/C=CR\/C=CW
def OrdAt.fam{CO CR CW:tG}(h:OrdAt CO CR CW H o k l ns):∃C dx fs,zfu CO CR CW C/\H o=BJ (.ins C dx fs)/\(∀m:tK,m≠"letters"->m≠"weights"->fs.lookup m=BK)/\fs.lookup ("letters" : tK)=BJ (V.str (tx l)):=by
 have e1:∀m:tK,m≠"letters"->(m ==("letters" : tK))=BM:=λm hm=>by simpa using hm
 have e2:∀m:tK,m≠"weights"->(m ==("weights" : tK))=BM:=λm hm=>by simpa using hm
 obtain⟨dx,⟨h1,h2⟩ | ⟨h1,h2⟩ | ⟨h1,h2,w,h3,h4⟩⟩:=h
 ·exact#[_,_,_,.inl rfl,h2,λm hm Z=>by simp [bn,e1 m hm],rfl]
 ·exact#[_,_,_,.inr (.inl rfl),h2,λm hm Z=>by simp [bn,e1 m hm],rfl]
 ·exact#[_,_,_,.inr (.inr rfl),h3,λm hm hm2=>by simp [bn,e1 m hm,e2 m hm2],rfl]
def jO(CO CR CW:tG):Sp:=λvs H Q Z=>∃(o:tG) (k:Nat) (l:()) (ns:List Int) (w:()),vs=[.ref o,⇑w]/\OrdAt CO CR CW H o k l ns/\OG l ns k/\w.length<=1000/\(∀c ∈ w,c ∈ l)/\∀(p q:tG) (H':Hp),Same H H'->H' p=BJ (.tup [.int (zA k l ns w),.ref q])->H' q=BJ (.lst ((um k l w).map V.int))->Q (.ref p) H'
def KA{CO CR CW o D:tG}(T:TOrd K mg CO CR CW)(ho:OrdAt CO CR CW H o k l ns)(hl:v.length<=1000)(hm:∀c ∈ v,c ∈ l)(hD:H D=BK)(q:∀H',Same H H'->H' D=BJ (.lst ((jS l v).map V.int))->Q (.ref D) H') :
  CompS (tx v) (yH 0) wP (tBM K "str" zx (zd1 K (ym 1) "letters") (zO (ym 0) xI)) 1 [0] [!!o,a1] H Q D:=by
 have s16:=zU;refine CompS.by (λi acc H'=>Same H H'/\H' D=BJ (.lst acc)/\acc=(jS l (v.take i)).map V.int) #[zf hD,zd,rfl] ?_ ?_
 ·refine nm4 ?_;rintro i c acc H' hc ⟨hs,hH,rfl⟩:_;have hci:=(BP.mp hc).1;have hcl:=hm c (ag hc);let#[C,dx,fs,hf,ho',_,hlk]:=(ho.same hs).fam
  have hC:Cls K C/\NoAttr K C "letters":=by
   rcases hf with rfl | rfl | rfl
   ·exact#[T.cO,T.lO]
   ·exact#[T.cR,T.lR]
   ·exact#[T.cW,T.lW]
  right;erw[wP];ac_rfl;refine#[xH,_,_,_,ho',hC.1,hC.2,_,hlk,trivial,_,rfl,_,zbK hcl,hH,by rw[aa];unfold jS;rw[aa,aL];lia,ja0 hci #[zI hs hD,zd,?_]];unfold jS;rw[yb hc,ar,ar];rfl
 ·refine nmB ?_;rintro acc H' ⟨hs,hH,rfl⟩:_;rw[aP]at hH;right;exact q H' hs hH
def Yv:sQz 2 ["self","word"] xJ:=by nofun
def wy{f CO CR CW:tG}(B:Bt mg)(T:TWS P w K mg base CO CR CW)(F:Fun K "rank" "Order.rank" xJ f fd):(2&&&["self","word"]) (jO CO CR CW):=by
 exists F.ok Yv
 ·let#[o,k,l,ns,w,rfl,ho,hG,hw,hm,q]:=h;refine#[_,(zg (zk (zN (za (zfL T.wO T.wR T.wW' T.cO T.cR T.cW hr (pv 0) (za (pv 1) ze)) (za (xB (own:=["letter"]) (caps:=["self"]) (ix:=[0]) (tt:=wP) (te:=(tBM K "str" zx (zd1 K (ym 1) "letters") (zO (ym 0) xI))) rfl (zS (sc:=zi xJ) rfl (!0) (!0) (!0) rfl (!0) (!0) rfl) (Ve (zfL T.sO T.sR T.sW T.cO T.cR T.cW hr (pv 0) (za (pv 1) ze))) (λZ Z Z Z Z Z=>zq (i:=0) (show List.Nodup [_,_] by decide) rfl (.inl rfl)) (λZ Z Z Z Z Z=>yP) (λZ Z Z Z Z Z=>(qz cX fO fP QX (ur (pv 1) rfl) (za (pv 0) ze)))) ze))))),?_];have s16:=zU
  have hsl:(yY k w).length<=1000:=by
   unfold yY;split
   ·rw[di];exact hw
   ·exact hw
  have hsm:∀c ∈ yY k w,c ∈ l:=λc hc=>by
   unfold yY at hc;split at hc
   ·exact hm c (Ca.mp hc)
   ·exact hm c hc
  have l6:l.length<=6:=(w9 hG.g).2.1;have fin:∀H1,Same H H1->∀D,H1 D=BK->CompS (tx (yY k w)) (yH 0) wP (tBM K "str" zx (zd1 K (ym 1) "letters") (zO (ym 0) xI)) 1 [0] [!!o,~~~w] H1 (λx5 H1=>2<=tE/\∀p,H1 p=BK->Q (.ref p) (upd H1 p (.tup [.int (zA k l ns w),x5]))) D:=λH1 s1 D hD=>KA T.toTOrd (ho.same s1) hsl hsm hD λH' s' hH=>#[⋯,λp hp=>q p D _ (s1.trans (s'.trans (zf hp))) zd (zf hp _ _ hH)];ac_rfl;obtain⟨dx',⟨h1,h2⟩ | ⟨h1,h2⟩ | ⟨h1,h2,t',h3,h4⟩⟩:=id ho
  ·have e1:zA k l ns w=(w.length:Int):=by unfold zA;rw[z9 ⋯]
   have e2:yY k w=w:=by unfold yY;rw[z9 ⋯]
   rw[e1,e2]at fin;exact .inl #[_,_,h2,rfl,o,w,rfl,hw,.inl #[_,_,h2,rfl,o,w,rfl,_,rfl,fin H (x9 _)]]
  ·have e1:zA k l ns w=(w.length:Int):=by unfold zA;rw[z9 ⋯]
   have e2:yY k w=w.reverse:=by unfold yY;rw[y9 h1]
   rw[e1,e2]at fin;exact .inr (.inl #[_,_,h2,rfl,o,w,rfl,hw,.inr (.inl #[_,_,h2,rfl,o,w,rfl,hw,_,rfl,fin H (x9 _)])])
  ·have e1:zA k l ns w=jt l ns w:=by unfold zA;rw[y9 h1]
   have e2:yY k w=w:=by unfold yY;rw[z9 ⋯]
   rw[e1,e2]at fin;exact .inr (.inr #[_,_,h3,rfl,o,dx',t',w,l,ns,rfl,hw,l6,hG.nl,hG.nb,h3,h4,λH' s'=>.inr (.inr #[_,_,s' _ _ h3,rfl,o,w,rfl,_,rfl,fin H' s'])])
def zM(k:Nat)(l:())(ns:List Int)(u v:()):Bool:=if zA k l ns u=zA k l ns v then ltI (um k l u) (um k l v)else decide (zA k l ns u<zA k l ns v)
abbrev DR(P:tL)(w:tP)(K:tF)(mg:tK->Option tH)(base:tT)(CO CR CW:tG):Prop:=DMF P w K mg base CX0 2 (zfu CO CR CW) "rank" ["self","word"] (λZ=>jO CO CR CW)
def ZC{ns:List Int}(hp:H p=BJ (.tup [.int z,.ref q]))(hq:H q=BJ (.lst (ns.map V.int))):Is K H (.tup [.int z,.lst (ns.map L3.D.int)]) (.ref p):=by
 erw[Is,Iss];exact#[p,_,rfl,x4 hp,_,_,rfl,rfl,_,_,rfl,#[q,_,rfl,x6 hq,Iss.ints ns],rfl]
theorem xA:∀x:List Int,ltI x x=BM
 | []=>rfl
 | a::x=>by
  rw[ltI,y9 rfl];exact xA x
def QH(a b:Int)(x y:List Int):ltD (.tup [.int a,.lst (x.map L3.D.int)]) (.tup [.int b,.lst (y.map L3.D.int)])=if a=b then ltI x y else decide (a<b):=by
 erw[ltD,uh,eqD,Xu,Xn];by_cases h:a=b
 ·subst h;by_cases h2:x=y
  ·subst h2;simp [xA]
  ·simp [h2]
 ·simp [h]
def UI(CO CR CW:tG):Sp:=λvs H Q Z=>∃(o:tG) (k:Nat) (l:()) (ns:List Int) (u v:()),vs=[.ref o,⇑u,⇑v]/\OrdAt CO CR CW H o k l ns/\OG l ns k/\u.length<=1000/\v.length<=1000/\(∀c ∈ u,c ∈ l)/\(∀c ∈ v,c ∈ l)/\∀H':Hp,Same H H'->Q (.bl (zM k l ns u v)) H'
def jz:sQz 3 ["self","one","other"] xQ:=by nofun
def xF{f CO CR CW:tG}(B:Bt mg)(DRk:DR P w K mg base CO CR CW)(F:Fun K "before" "Order.before" xQ f fd):(3&&&["self","one","other"]) (UI CO CR CW):=by
 exists F.ok jz
 ·let#[o,k,l,ns,u,v,rfl,ho,hG,hu,hv,hmu,hmv,q]:=h;refine#[_,(zg (zk (ya (zeD (ud hr)) (zdX DRk hr (pv 0) (za (pv 1) ze)) (zdX DRk hr (pv 0) (za (pv 2) ze)) (zt _)))),?_];have s16:=zU;ac_rfl;let#[C,dx,fs,hf,ho1,hn,_]:=ho.fam;have h1:fs.lookup ("rank" : tK)=BK:=hn _ ∅ ∅;refine#[C,hf,dx,fs,ho1,h1,o,k,l,ns,u,rfl,ho,hG,hu,hmu,λp x H1 s1 hp hx=>#[C,hf,dx,fs,s1 _ _ ho1,h1,o,k,l,ns,v,rfl,ho.same s1,hG,hv,hmv,λp' x' H2 s2 hp' hx'=>?_]];refine zdE (ZC (s2 _ _ hp) (s2 _ _ hx)) (ZC hp' hx') (by erw[dpD,ui,XQ];decide) (by erw[okD,Yz];exact#[trivial,j9 _ _,trivial]) ?_;rw[QH];exact q H2 (s1.trans s2)
abbrev DB(P:tL)(w:tP)(K:tF)(mg:tK->Option tH)(base:tT)(CO CR CW:tG):Prop:=DMF P w K mg base CX0 3 (zfu CO CR CW) "before" ["self","one","other"] (λZ=>UI CO CR CW)
def zaS(k:Int)(ls:())(ns:List Int)(w:()):Int:=(w.map λc=>if k=2 then ns.getD (ls.idxOf c) 0 else 1).sum
theorem zai{w:()}(h:k≠2):zaS k ls ns w=(w.length:Int):=by
 unfold zaS
 induction w with
 | nil=>rfl
 | cons c w ih =>
  rw[ao,aQ,ih,z9 h,aF];lia
theorem j7{ls:()}(f g:Nat->Int):((ls.zip ns).map λp=>(f p.1+g p.1) * p.2).sum=((ls.zip ns).map λp=>f p.1 * p.2).sum+((ls.zip ns).map λp=>g p.1 * p.2).sum:=by
 induction ls.zip ns with
 | nil=>rfl
 | cons p r ih =>
  rw[ao,ao,ao,aQ,aQ,aQ,ih,Int.add_mul];lia
theorem QC:∀{ls:()} {ns:List Int} {c:Nat},ls.Nodup->ns.length=ls.length->c ∈ ls->((ls.zip ns).map λp=>(if p.1=c then (1:Int)else 0) * p.2).sum=ns.getD (ls.idxOf c) 0
 | [],ns,c,_,_,hc=>(nomatch hc)
 | d::ls,[],c,_,hl,_=>by cases hl
 | d::ls,n::ns,c,hn,hl,hc=>by
  rw[dO,ao,aQ];have hnd:=Cb.mp hn;by_cases h:d=c
  ·subst h
   have h0:∀(l:()) (m:List Int),d ∉ l->((l.zip m).map λp=>(if p.1=d then (1:Int)else 0) * p.2).sum=0:=by
    intro l
    induction l with
    | nil=>intro m _;rfl
    | cons x l ih =>
     intro m hx
     cases m with
     | nil=>rfl
     | cons y m =>
      rw[dO,ao,aQ,ih m (λq=>hx (aw _ q)),z9 (show ¬ x=d from λe=>hx (by rw[e];exact aC))];lia
   rw[h0 ls ns hnd.1,y9 rfl,List.idxOf_cons_self];simp
  ·have hc':c ∈ ls:=by
    rcases BR.mp hc with e | e
    ·exact y6 e.symm h
    ·exact e
   rw[QC hnd.2 ↥hl hc',z9 h,fJ,show (d == c)=BM by simpa using h];simp
theorem W4(hn:ls.Nodup)(hl:ns.length=ls.length):∀{w:()},(∀x ∈ w,x ∈ ls)->zaS 2 ls ns w=jt ls ns w
 | [],_=>by
  have h0:∀r:List (Nat × Int),(r.map λp=>((([]:()).count p.1:Nat):Int) * p.2).sum=0:=by
   intro r
   induction r with
   | nil=>rfl
   | cons p r ih=>rw[ao,aQ,ih];simp
  exact (h0 _).symm
 | c::w,h=>by
  have ih:=W4 hn hl (w:=w) λx hx=>h x (aw _ hx)
  have e1:zaS 2 ls ns (c::w)=ns.getD (ls.idxOf c) 0+zaS 2 ls ns w:=by
   unfold zaS;rw[ao,aQ,y9 rfl]
  rw[e1,ih,<- QC hn hl (h c aC)];unfold jt;rw[<- j7 (λx=>if x=c then 1 else 0) (λx=>(w.count x:Int))];refine congrArg List.sum (bp λp Z=>?_);rw[eg];by_cases e:c=p.1
  ·rw[y9 e.symm,y9 ↥e];simp [Int.add_comm]
  ·rw[z9 (λz=>e z.symm),z9 ↥e];simp
def wt(k:Nat)(ns:List Int)(i:Int):Int:=if k=2 then ns.getD i.toNat 0 else 1
theorem wr{g:Int->Int}:∀{x:List Int},(∀i ∈ x,0<g i)->0<=(x.map g).sum
 | [],_=>by simp
 | a::x,h=>by
  have h1:=h a aC;have h2:=wr (x:=x) λi hi=>h i (aw _ hi);rw[ao,aQ];lia
theorem wT:∀{x y:List Int},x≠y->ltI x y=!ltI y x
 | [],[],h=>y6 rfl h
 | [],_::_,_=>rfl
 | _::_,[],_=>rfl
 | a::x,b::y,h=>by
  rw[ltI,ltI];by_cases e:a=b
  ·rw[y9 e,y9 e.symm];exact wT λq=>h (by rw[e,q])
  ·rw[z9 e,z9 λq=>e q.symm];by_cases c:a<b
   ·rw[y3 c,y4 ⋯];rfl
   ·rw[y4 c,y3 ⋯];rfl
theorem jG:∀{x y z:List Int},ltI x y=BL->ltI y z=BL->ltI x z=BL
 | [],[],_,h,_=>by cases h
 | [],_::_,[],_,h=>by cases h
 | [],_::_,_::_,_,_=>rfl
 | _::_,[],_,h,_=>by cases h
 | _::_,_::_,[],_,h=>by cases h
 | a::x,b::y,c::z,h1,h2=>by
  rw[ltI]at h1 h2 ⊢;by_cases e:a=b
  ·subst e;rw[y9 rfl]at h1;by_cases f:a=c
   ·rw[y9 f]at h2 ⊢;exact jG h1 h2
   ·rw[z9 f]at h2 ⊢;exact h2
  ·rw[z9 e]at h1;have h1':=w9 h1;by_cases f:b=c
   ·subst f;rw[z9 e];exact h1
   ·rw[z9 f]at h2;have h2':=w9 h2;rw[z9 ⋯];exact y3 ⋯
theorem Wo:∀(c x y:List Int),ltI (c ++ x) (c ++ y)=ltI x y
 | [],_,_=>rfl
 | a::c,x,y=>by
  rw[bx,bx,ltI,y9 rfl];exact Wo c x y
theorem VJ{g:Int->Int}:∀{x y:List Int},(∀i ∈ x,0<g i)->(∀i ∈ y,0<g i)->(x.map g).sum=(y.map g).sum->ltI (x ++ c) (y ++ c)=ltI x y
 | [],[],_,_,_=>xA c
 | [],b::y,_,hy,h=>by
  have h1:=hy b aC;have h2:=wr (x:=y) λi hi=>hy i (aw _ hi);rw[ao,aQ,aJ,eG]at h;lia
 | a::x,[],hx,_,h=>by
  have h1:=hx a aC;have h2:=wr (x:=x) λi hi=>hx i (aw _ hi);rw[ao,aQ,aJ,eG]at h;lia
 | a::x,b::y,hx,hy,h=>by
  rw[bx,bx,ltI,ltI];by_cases e:a=b
  ·rw[y9 e,y9 e];rw[ao,aQ,ao,aQ,e]at h;exact VJ (λi hi=>hx i (aw _ hi)) (λi hi=>hy i (aw _ hi)) ⋯
  ·rw[z9 e,z9 e]
end
section
mutual section
variable{k:Nat}{l:()}{ns:List Int}{t u v:()}
def KZ(a b:()):jt l ns (a ++ b)=jt l ns a+jt l ns b:=by unfold jt;rw[<- j7 (λx=>(a.count x:Int)) (λx=>(b.count x:Int))];refine congrArg List.sum (bp λp Z=>?_);rw[List.count_append];simp
theorem xz(a b:()):zA k l ns (a ++ b)=zA k l ns a+zA k l ns b:=by
 unfold zA;by_cases h:k=2
 ·rw[y9 h,y9 h,y9 h,KZ]
 ·rw[z9 h,z9 h,z9 h,am];lia
theorem xy(G:OG l ns k):∀{w:()},(∀c ∈ w,c ∈ l)->zA k l ns w=((jS l w).map (wt k ns)).sum:=by
 intro w hm;have hn:l.Nodup:=(w9 G.g).2.2.2
 have e:((jS l w).map (wt k ns)).sum=zaS (k:Int) l ns w:=by
  unfold jS zaS;rw[bc];refine congrArg List.sum (bp λc Z=>?_);show wt k ns _=_;unfold wt;by_cases h:k=2
  ·rw[y9 h,y9 ⋯,aO]
  ·rw[z9 h,z9 ⋯]
 rw[e];unfold zA;by_cases h:k=2
 ·rw[y9 h,h];exact (W4 hn G.nl hm).symm
 ·rw[z9 h,zai ⋯]
theorem Y0(G:OG l ns k)(hm:∀c ∈ u,c ∈ l):∀i ∈ jS l u,0<wt k ns i:=by
 intro i hi;let#[c,hc,rfl]:=BQ.mp hi;have hlt:=bK (hm c hc);have hl:=G.nl;unfold wt;split
 ·rw[aO,ac,ah ⋯];have:=(G.nb _ (d8 (l:=ns) (n:=l.idxOf c) ⋯)).1;show 0<ns[l.idxOf c];lia
 ·decide
def uj(G:OG l ns k)(hm:∀c ∈ u,c ∈ l):0<=zA k l ns u:=by rw[xy G hm];exact wr (Y0 G hm)
theorem kY(G:OG l ns k)(hm:∀c ∈ u,c ∈ l)(h:u≠[]):0<zA k l ns u:=by
 cases u with
 | nil=>exact y6 rfl h
 | cons a u =>
  have h1:=Y0 G hm (l.idxOf a:Nat) (BQ.mpr #[a,aC,rfl]);have h2:0<=((jS l u).map (wt k ns)).sum:=wr (Y0 (u:=u) G λc hc=>hm c (aw _ hc));rw[xy G hm];show 0<((((l.idxOf a:Nat):Int)::jS l u).map (wt k ns)).sum;rw[ao,aQ];lia
theorem Yu:∀{u v:()},(∀c ∈ u,c ∈ l)->(∀c ∈ v,c ∈ l)->jS l u=jS l v->u=v
 | [],[],_,_,_=>rfl
 | [],_::_,_,_,h=>by cases h
 | _::_,[],_,_,h=>by cases h
 | a::u,b::v,hu,hv,h=>by
  unfold jS at h;rw[ao,ao]at h;injection h with h1 h2;have h3:l.idxOf a=l.idxOf b:=⋯;have ha:=eU (bK (hu a aC));have hb:=eU (bK (hv b aC))
  have:a=b:=by
   rw[<- ha,<- hb];erw[h3]
  rw[this,Yu (λc hc=>hu c (aw _ hc)) (λc hc=>hv c (aw _ hc)) h2]
def xO:zM k l ns u u=BM:=by unfold zM;rw[y9 rfl,xA]
def WN(hu:∀c ∈ u,c ∈ l)(hv:∀c ∈ v,c ∈ l)(h:um k l u=um k l v):u=v:=by
 unfold um yY at h;by_cases e:k=1
 ·rw[y9 e,y9 e]at h;exact List.reverse_inj.mp (Yu (λc hc=>hu c (Ca.mp hc)) (λc hc=>hv c (Ca.mp hc)) h)
 ·rw[z9 e,z9 e]at h;exact Yu hu hv h
theorem jR(hu:∀c ∈ u,c ∈ l)(hv:∀c ∈ v,c ∈ l)(h:u≠v):zM k l ns u v=!zM k l ns v u:=by
 unfold zM;by_cases e:zA k l ns u=zA k l ns v
 ·rw[y9 e,y9 e.symm];exact wT λq=>h (WN hu hv q)
 ·rw[z9 e,z9 λq=>e q.symm];by_cases c:zA k l ns u<zA k l ns v
  ·rw[y3 c,y4 ⋯];rfl
  ·rw[y4 c,y3 ⋯];rfl
theorem jM(h1:zM k l ns t u=BL)(h2:zM k l ns u v=BL):zM k l ns t v=BL:=by
 unfold zM at h1 h2 ⊢;generalize zA k l ns t=a at *;generalize zA k l ns u=b at *;generalize zA k l ns v=c at *;by_cases e:a=b
 ·subst e;rw[y9 rfl]at h1;by_cases f:a=c
  ·rw[y9 f]at h2 ⊢;exact jG h1 h2
  ·rw[z9 f]at h2 ⊢;exact h2
 ·rw[z9 e]at h1;have h1':=w9 h1;by_cases f:b=c
  ·subst f;rw[z9 e];exact h1
  ·rw[z9 f]at h2;have h2':=w9 h2;rw[z9 ⋯];exact y3 ⋯
def Vl(a b:()):jS l (a ++ b)=jS l a ++ jS l b:=ar
def YW(G:OG l ns k)(hu:∀c ∈ u,c ∈ l)(hv:∀c ∈ v,c ∈ l)(e:zA k l ns u=zA k l ns v)(c:List Int):ltI (jS l u ++ c) (jS l v ++ c)=ltI (jS l u) (jS l v):=by rw[xy G hu,xy G hv]at e;exact VJ (Y0 G hu) (Y0 G hv) e
def Zd(G:OG l ns k)(hu:∀c ∈ u,c ∈ l):zA k l ns u.reverse=zA k l ns u:=by rw[xy G hu,xy G λc hc=>hu c (Ca.mp hc)];unfold jS;rw[fz,fz,List.sum_reverse]
theorem Xz(G:OG l ns k)(ht:∀c ∈ t,c ∈ l)(hu:∀c ∈ u,c ∈ l)(hv:∀c ∈ v,c ∈ l):zM k l ns (t ++ u) (t ++ v)=zM k l ns u v/\zM k l ns (u ++ t) (v ++ t)=zM k l ns u v:=by
 have hur:∀c ∈ u.reverse,c ∈ l:=λc hc=>hu c (Ca.mp hc);have hvr:∀c ∈ v.reverse,c ∈ l:=λc hc=>hv c (Ca.mp hc);unfold zM;rw[xz,xz,xz,xz];by_cases e:zA k l ns u=zA k l ns v
 ·rw[y9 ⋯,y9 e,y9 ⋯];unfold um yY;by_cases f:k=1
  ·erw[y9 f,List.reverse_append,Vl];exact#[YW G hur hvr (by rw[Zd G hu,Zd G hv,e]) _,Wo _ _ _]
  ·erw[z9 f,Vl];exact#[Wo _ _ _,YW G hu hv e _]
 ·rw[z9 ⋯,z9 e,z9 ⋯];exact#[by congr 1;exact propext ⋯,by congr 1;exact propext ⋯]
theorem Ko(G:OG l ns k)(ht:∀c ∈ t,c ∈ l)(hu:∀c ∈ u,c ∈ l)(hv:∀c ∈ v,c ∈ l)(h:t ++ u ++ v≠u):zM k l ns u (t ++ u ++ v)=BL/\zM k l ns (t ++ u ++ v) u=BM:=by
 have h0:0<zA k l ns t+zA k l ns v:=by
  have h1:=uj G ht;have h2:=uj G hv;by_cases e:t=[]
  ·by_cases f:v=[]
   ·subst e f;simp at h
   ·have:=kY G hv f;lia
  ·have:=kY G ht e;lia
 unfold zM;rw[xz,xz,z9 ⋯,z9 ⋯];exact#[y3 ⋯,y4 ⋯]
end
end
mutual section
theorem YV:∀x y:List Int,ltI x y=BL->ltI y x=BM
 | [],[],h=>by cases h
 | [],_::_,_=>rfl
 | _::_,[],h=>by cases h
 | a::x,b::y,h=>by
  rw[ltI]at h ⊢;by_cases e:a=b
  ·rw[y9 e]at h;rw[y9 e.symm];exact YV x y h
  ·rw[z9 e]at h;rw[z9 (λq=>e q.symm)];have:=w9 h;exact y4 ⋯
def Wa(h:zM k l ns u v=BL):zM k l ns v u=BM:=by
 unfold zM at h ⊢;by_cases e:zA k l ns u=zA k l ns v
 ·rw[y9 e]at h;rw[y9 e.symm];exact YV _ _ h
 ·rw[z9 e]at h;rw[z9 (λq=>e q.symm)];have:=w9 h;exact y4 ⋯
def stJ(l:())(ps:List zK)(q j:Nat):Bool:=((ps[j]?).map λp=>zv l (q:Int) p.1).getD BM
def Zq(h:ps[j]? = BJ p):stJ l ps q j=zv l (q:Int) p.1:=by unfold stJ;rw[h];rfl
theorem vS(h:stJ l ps q j=BL):j<ps.length/\∃p,ps[j]? = BJ p/\zv l (q:Int) p.1=BL:=by
 unfold stJ at h
 cases e:ps[j]? with
 | none=>rw[e]at h;cases h
 | some p =>
  rw[e]at h;exact#[(BP.mp e).1,p,rfl,h]
def vG(l:())(ps:List zK)(q i:Nat):List (Nat × Nat):=((aM i).filter (stJ l ps q)).map λj=>(j,q)
def xp(l:())(ps:List zK)(k:Nat):List (Nat × Nat):=(aM k).flatMap λq=>vG l ps q ps.length
def V9(l:())(ps:List zK)(q i:Nat):vG l ps q (i+1)=vG l ps q i ++ (if stJ l ps q i=BL then [(i,q)]else []):=by
 unfold vG;rw[db,dk,ar];congr 1;by_cases h:stJ l ps q i=BL
 ·rw[y9 h,cr h];rfl
 ·rw[z9 h,cQ h];rfl
def Ze(l:())(ps:List zK)(k:Nat):xp l ps (k+1)=xp l ps k ++ vG l ps k ps.length:=by unfold xp;rw[db,dD];simp
def Jt(l:())(ps:List zK)(q i:Nat):(vG l ps q i).length<=i:=by unfold vG;rw[aa];have:=dw (stJ l ps q) (aM i);rw[cL]at this;exact this
def usesN_mem : u ∈ vG l ps q i ↔ u.2=q/\u.1<i/\stJ l ps q u.1=BL:=by
 unfold vG;rw[List.mem_map];constructor
 ·rintro⟨j,hj,rfl⟩;rw[List.mem_filter,fX]at hj;exact#[rfl,hj.1,hj.2]
 ·rintro⟨h1,h2,h3⟩;exact#[u.1,BY.mpr #[BX.mpr h2,h3],by rw[<- h1]]
def usesK_mem : u ∈ xp l ps k ↔ u.2<k/\stJ l ps u.2 u.1=BL:=by
 unfold xp;rw[List.mem_flatMap];constructor
 ·rintro⟨q,hq,hu⟩;let#[h1,h2,h3]:=usesN_mem.mp hu;rw[fX]at hq;rw[h1];exact#[hq,h3]
 ·rintro⟨h1,h2⟩;exact#[u.2,BX.mpr h1,usesN_mem.mpr #[rfl,(vS h2).1,h2]]
def uLt(a b:Nat × Nat):Prop:=a.2<b.2\/(a.2=b.2/\a.1<b.1)
theorem qt(l:())(ps:List zK)(q:Nat):∀i,(vG l ps q i).Pairwise uLt
 | 0=>by simp [vG]
 | i+1=>by
  rw[V9];refine Co.mpr #[qt l ps q i,?_,λa ha b hb=>?_]
  ·split
   ·exact fG _ _
   ·exact List.Pairwise.nil
  ·let#[h1,h2,_]:=usesN_mem.mp ha;split at hb
   ·rw[BV.mp hb];exact .inr #[h1,h2]
   ·cases hb
theorem vk(l:())(ps:List zK):∀k,(xp l ps k).Pairwise uLt
 | 0=>by simp [xp]
 | k+1=>by
  rw[Ze];refine Co.mpr #[vk l ps k,qt l ps k _,λa ha b hb=>?_];have h1:=(usesK_mem.mp ha).1;have h2:=(usesN_mem.mp hb).1;exact .inl ⋯
def FirstN(l:())(ps:List zK)(lo hi n:Nat)(r:Option (Nat × Nat)):Prop :=
 (r=BK/\∀j q,j<n->lo<=q->q<hi->stJ l ps q j=BM) \/
 ∃n0 q0,r=BJ (n0,q0)/\n0<n/\lo<=q0/\q0<hi/\stJ l ps q0 n0=BL/\∀j q,j<n->lo<=q->stJ l ps q j=BL->q0<q\/(q0=q/\n0<=j)
def FirstN.uniq{lo hi n:Nat}(h:FirstN l ps lo hi n r)(h':FirstN l ps lo hi n r'):r=r':=by
 rcases h with ⟨rfl,h⟩ | ⟨n0,q0,rfl,a1,a2,a3,a4,a5⟩
 ·rcases h' with ⟨rfl,_⟩ | ⟨n0,q0,rfl,a1,a2,a3,a4,a5⟩
  ·rfl
  ·rw[h n0 q0 a1 a2 a3]at a4;cases a4
 ·rcases h' with ⟨rfl,h⟩ | ⟨n1,q1,rfl,b1,b2,b3,b4,b5⟩
  ·rw[h n0 q0 a1 a2 a3]at a4;cases a4
  ·have x1:=a5 n1 q1 b1 b2 b4;have x2:=b5 n0 q0 a1 a2 a4;have e1:q0=q1:=⋯;have e2:n0=n1:=⋯;rw[e1,e2]
theorem Us(h:FirstN l ps 0 l.length ps.length r):r=(xp l ps l.length).head?:=by
 have hs:=vk l ps l.length;refine h.uniq ?_
 cases e:xp l ps l.length with
 | nil =>
  refine .inl #[rfl,λj q Z Z hq=>?_]
  cases hb:stJ l ps q j with
  | false=>rfl
  | true =>
   have:(j,q) ∈ xp l ps l.length:=usesK_mem.mpr #[hq,hb];rw[e]at this;cases this
 | cons u us =>
  rw[e]at hs;have hu:u ∈ xp l ps l.length:=by rw[e];exact aC
  let#[h1,h2]:=usesK_mem.mp hu;refine .inr #[u.1,u.2,rfl,(vS h2).1,ax _,h1,h2,λj q hj Z hb=>?_];by_cases hq:q<l.length
  ·have:(j,q) ∈ xp l ps l.length:=usesK_mem.mpr #[hq,hb];rw[e]at this;rcases BR.mp this with e2 | e2
   ·rw[<- e2];exact .inr #[rfl,ak _]
   ·rcases (Cp.mp hs).1 _ e2 with h | ⟨h,h'⟩
    ·exact .inl h
    ·exact .inr #[h,cA h']
  ·exact .inl ⋯
def kd{q:Nat}(hp:p≠[])(h:zv l (q:Int) p=BL):q<l.length:=by let#[h0,h1,_]:=w9 h;have:0<p.length:=Cd.mpr hp;lia
def FirstN.keep{lo hi n:Nat}(h:FirstN l ps lo hi n r)(hp:ps[n]? = BJ p)(hn:∀q:Nat,lo<=q->q<(r.map Prod.snd).getD hi->zv l (q:Int) p.1=BM):FirstN l ps lo hi (n+1) r:=by
 rcases h with ⟨rfl,h⟩ | ⟨n0,q0,rfl,a1,a2,a3,a4,a5⟩
 ·refine .inl #[rfl,λj q hj h1 h2=>?_];by_cases e:j<n
  ·exact h j q e h1 h2
  ·have:j=n:=⋯;subst this;rw[Zq hp];exact hn q h1 h2
 ·refine .inr #[n0,q0,rfl,⋯,a2,a3,a4,λj q hj h1 h2=>?_];by_cases e:j<n
  ·exact a5 j q e h1 h2
  ·have:j=n:=⋯;subst this;rw[Zq hp]at h2;by_cases hq:q<q0
   ·rw[hn q h1 hq]at h2;cases h2
   ·lia
def FirstN.take{lo hi n k:Nat}(h:FirstN l ps lo hi n r)(hp:ps[n]? = BJ p)(h1:lo<=k)(h2:k<(r.map Prod.snd).getD hi)(h3:zv l (k:Int) p.1=BL)(hn:∀q:Nat,lo<=q->q<k->zv l (q:Int) p.1=BM):FirstN l ps lo hi (n+1) (BJ (n,k)):=by
 have hk:k<hi/\∀j q,j<n->lo<=q->stJ l ps q j=BL->k<q:=by
  rcases h with ⟨rfl,h⟩ | ⟨n0,q0,rfl,a1,a2,a3,a4,a5⟩
  ·refine#[h2,λj q hj hl hb=>?_];by_cases hq:q<hi
   ·rw[h j q hj hl hq]at hb;cases hb
   ·have h2':k<hi:=h2;lia
  ·have h2':k<q0:=h2;refine#[⋯,λj q hj hl hb=>?_];have:=a5 j q hj hl hb;lia
 refine .inr #[n,k,rfl,⋯,h1,hk.1,by rw[Zq hp];exact h3,λj q hj hl hb=>?_];by_cases e:j<n
 ·exact .inl (hk.2 j q e hl hb)
 ·have:j=n:=⋯;subst this;rw[Zq hp]at hb;by_cases hq:q<k
  ·rw[hn q hl hq]at hb;cases hb
  ·lia
def FirstN.window{lo mid hi n:Nat}(h0:FirstN l ps lo mid n BK)(hm:lo<=mid)(h:FirstN l ps mid hi n r):FirstN l ps lo hi n r:=by
 have h0':∀j q,j<n->lo<=q->q<mid->stJ l ps q j=BM:=by
  rcases h0 with ⟨_,h⟩ | ⟨_,_,h,_⟩
  ·exact h
  ·cases h
 rcases h with ⟨rfl,h⟩ | ⟨n0,q0,rfl,a1,a2,a3,a4,a5⟩
 ·refine .inl #[rfl,λj q hj h1 h2=>?_];by_cases e:q<mid
  ·exact h0' j q hj h1 e
  ·exact h j q hj ⋯ h2
 ·refine .inr #[n0,q0,rfl,a1,⋯,a3,a4,λj q hj h1 h2=>?_];by_cases e:q<mid
  ·rw[h0' j q hj h1 e]at h2;cases h2
  ·exact a5 j q hj ⋯ h2
def NeL(ps:List zK):Prop:=∀p ∈ ps,p.1≠[]
def FirstN.toEnd{lo hi n:Nat}(hN:NeL ps)(h:FirstN l ps lo hi n r)(hl:r=BK->l.length<=hi):FirstN l ps lo l.length n r:=by
 have hlt:∀j q,stJ l ps q j=BL->q<l.length:=λj q hb=>by
  let#[_,p,hp,hs]:=vS hb;exact kd (hN p (ag hp)) hs
 rcases h with ⟨rfl,h⟩ | ⟨n0,q0,rfl,a1,a2,a3,a4,a5⟩
 ·exact .inl #[rfl,λj q hj h1 h2=>h j q hj h1 (by have:=hl rfl;lia)]
 ·exact .inr #[n0,q0,rfl,a1,a2,hlt _ _ a4,a4,a5]
def zC(l:())(ps:List zK):Option (Nat × Nat):=(xp l ps l.length).head?
def VN(h:FirstN l ps 0 l.length ps.length r):r=zC l ps:=Us h
theorem WT(l:())(ps:List zK)(hN:NeL ps):FirstN l ps 0 l.length ps.length (zC l ps):=by
 have hs:=vk l ps l.length;unfold zC
 cases e:xp l ps l.length with
 | nil =>
  refine .inl #[rfl,λj q Z Z hq=>?_]
  cases hb:stJ l ps q j with
  | false=>rfl
  | true =>
   have:(j,q) ∈ xp l ps l.length:=usesK_mem.mpr #[hq,hb];rw[e]at this;cases this
 | cons u us =>
  rw[e]at hs;have hu:u ∈ xp l ps l.length:=by rw[e];exact aC
  let#[h1,h2]:=usesK_mem.mp hu;refine .inr #[u.1,u.2,rfl,(vS h2).1,ax _,h1,h2,λj q hj Z hb=>?_]
  have hq:q<l.length:=by
   let#[_,p,hp,hs]:=vS hb;exact kd (hN p (ag hp)) hs
  have:(j,q) ∈ xp l ps l.length:=usesK_mem.mpr #[hq,hb];rw[e]at this;rcases BR.mp this with e2 | e2
  ·rw[<- e2];exact .inr #[rfl,ak _]
  ·rcases (Cp.mp hs).1 _ e2 with h | ⟨h,h'⟩
   ·exact .inl h
   ·exact .inr #[h,cA h']
def Zp(ps:List zK)(n:Nat):zK:=ps.getD n ([],[])
def wk(h:ps[n]? = BJ p):Zp ps n=p:=by unfold Zp;rw[ac,h];rfl
def qr(l:())(ps:List zK)(u:Nat × Nat):():=yZ l (u.2:Int) (Zp ps u.1).1 (Zp ps u.1).2
def Xw(ps:List zK)(l:()):():=((zC l ps).map (qr l ps)).getD l
def wAt(ps:List zK)(l:()):Nat->()
 | 0=>l
 | j+1=>Xw ps (wAt ps l j)
def sAt(ps:List zK)(l:())(j:Nat):List (Nat × Nat):=(aM j).map λi=>(zC (wAt ps l i) ps).getD (0,0)
def Vd(ps:List zK)(l:())(j:Nat):sAt ps l (j+1)=sAt ps l j ++ [(zC (wAt ps l j) ps).getD (0,0)]:=by unfold sAt;rw[db,ar];rfl
def jn(ps:List zK)(l:())(j:Nat):(sAt ps l j).length=j:=by unfold sAt;rw[aa,cL]
def wB(h:zC (wAt ps l j) ps=BJ u):wAt ps l (j+1)=qr (wAt ps l j) ps u:=by show Xw ps (wAt ps l j)=_;unfold Xw;rw[h];rfl
def VH(ps:List zK)(l:())(j:Nat):Prop:=∀i,i<j->zC (wAt ps l i) ps≠BK
def uK(h1:VH ps l i)(h2:zC (wAt ps l i) ps=BK)(h3:VH ps l j)(h4:zC (wAt ps l j) ps=BK):i=j:=by
 rcases e8 i j with h | h | h
 ·exact y6 h2 (h3 i h)
 ·exact h
 ·exact y6 h4 (h1 j h)
def V4{n q M lo:Nat}(h:FirstN l ps 0 l.length ps.length (BJ (n,q)))(hN:NeL ps)(hM:∀p ∈ ps,p.1.length<=M)(hlo:lo=0\/lo+M<=q+1):FirstN (qr l ps (n,q)) ps 0 lo ps.length BK:=by
 refine .inl #[rfl,λj x hj Z hx=>?_];rcases h with ⟨h,_⟩ | ⟨n0,q0,e,a1,a2,a3,a4,a5⟩
 ·cases h
 ·injection e with e;injection e with e1 e2;subst e1 e2
  cases hb:stJ (qr l ps (n,q)) ps x j with
  | false=>rfl
  | true =>
   let#[_,p,hp,hs]:=vS hb;have hpm:=hM p (ag hp);have hpn:=Cd.mpr (hN p (ag hp));have hxq:x+p.1.length<=q:=⋯;let#[s0,s1,s2]:=w9 hs;rw[aO]at s2;let#[_,p2,hp2,hs2]:=vS a4;let#[t0,t1,t2]:=w9 hs2
   have e4:(qr l ps (n,q)).take q=l.take q:=by
    unfold qr yZ;rw[aO,aS,bt (by rw[aL];lia),fY,eh]
   have e5:∀z:(),((z.take q).drop x).take p.1.length=(z.drop x).take p.1.length:=λz=>by
    rw[List.drop_take,fY];congr 1;lia
   have s3:(l.drop x).take p.1.length=p.1:=by rw[<- e5,<- e4,e5,s2]
   have:stJ l ps x j=BL:=by
    rw[Zq hp];exact y3 #[⋯,⋯,by rw[aO];exact s3]
   have:=a5 j x hj (ax _) this;lia
def FirstN.lower{lo hi n:Nat}(h:FirstN l ps 0 hi n BK)(hl:lo<=hi):FirstN l ps 0 lo n BK:=by
 rcases h with ⟨_,h⟩ | ⟨_,_,h,_⟩
 ·exact .inl #[rfl,λj q hj h1 h2=>h j q hj h1 ⋯]
 ·cases h
def zhf(a b c:Nat):min a b+(b - (a+c))<=b:=⋯
def KF(h:FirstN l ps 0 l.length ps.length (BJ (n,q)))(hm:∀p ∈ ps,p.2.length<=m):(qr l ps (n,q)).length<=l.length+m:=by
 rcases h with ⟨h,_⟩ | ⟨n0,q0,e,a1,a2,a3,a4,a5⟩
 ·cases h
 ·injection e with e;injection e with e1 e2;subst e1 e2;let#[_,p,hp,hs]:=vS a4;have:=hm p (ag hp);have er:=wk hp;unfold qr yZ;erw[am,aL,bq,er];rw[cY];exact Nat.add_le_add (zhf _ _ _) this
theorem jv(hN:NeL ps)(hm:∀p ∈ ps,p.2.length<=m):∀j,(wAt ps l j).length<=l.length+j * m
 | 0=>by simp [wAt]
 | j+1=>by
  have ih:=jv (l:=l) hN hm j;have hf:=WT (wAt ps l j) ps hN;rw[fk]
  cases e:zC (wAt ps l j) ps with
  | none =>
   show (Xw ps (wAt ps l j)).length<=_;unfold Xw;rw[e];show (wAt ps l j).length<=_;lia
  | some u =>
   rw[wB e];rw[e]at hf;let#[a,b]:=u;have:=KF hf hm;lia
def UseAt(H:Hp)(r:Option (Nat × Nat))(v:V):Prop:=(r=BK/\v=.non)\/∃(n q:Nat) (p:tG),r=BJ (n,q)/\v=.ref p/\H p=BJ (.tup [.int (n:Nat),.int (q:Nat)])
def UseAt.same{H H':Hp}{r:Option (Nat × Nat)}{v:V}(h:UseAt H r v)(s:Same H H'):UseAt H' r v:=by
 rcases h with h | ⟨n,q,p,h1,h2,h3⟩
 ·exact .inl h
 ·exact .inr #[n,q,p,h1,h2,s _ _ h3]
def UH{lo hi:Int}(h0:0<=lo)(h1:0<=hi)(h:∀r:Int,((r=-1/\∀q:Nat,lo<=q->(q:Int)+p.length<=hi->zv l q p=BM)\/∃k:Nat,r=k/\lo<=k/\(k:Int)+p.length<=hi/\zv l k p=BL/\∀q:Nat,lo<=q->q<k->zv l q p=BM)->Q (.int r) H):zby ⇑l [⇑p,.int lo,.int hi] H Q:=by
 refine#[l,p,lo,hi,rfl,rfl,h0,h1,λr hr=>h r ?_]
 have no:∀q:Nat,((l.drop q).take p.length≠p\/¬ q+p.length<=l.length)->zv l q p=BM:=λq hq=>y4 λ⟨_,b,c⟩=>by
  rcases hq with hq | hq
  ·exact hq c
  ·lia
 rcases hr with ⟨rfl,hn⟩ | ⟨k,rfl,k1,k2,k3,k4,hn⟩
 ·refine .inl #[rfl,λq q1 q2=>no q ?_];by_cases e:q+p.length<=l.length
  ·exact .inl (hn q q1 q2 e)
  ·exact .inr e
 ·exact .inr #[k,rfl,k1,k2,y3 #[⋯,⋯,k4],λq q1 q2=>no q (.inl (hn q q1 q2))]
def qf(K:tF):Sp:=λvs H Q Z=>∃(a:tG) (l:()) (ps:List zK) (st en:Nat),vs=[.ref a,⇑l,.int (st:Nat),.int (en:Nat)]/\LsA K H a (ps.map dR)/\NeL ps/\(∀p ∈ ps,p.1.length<=1000)/\∀(r:Option (Nat × Nat)) (v:V) (H':Hp),Same H H'->UseAt H' r v->FirstN l ps st en ps.length r->Q v H'
def Wc{st en:Nat}{s e:Int}(hs:s=(st:Nat))(he:e=(en:Nat))(hA:LsA K H a (ps.map dR))(hN:NeL ps)(hP:∀p ∈ ps,p.1.length<=1000)(q:∀(r:Option (Nat × Nat)) (v:V) (H':Hp),Same H H'->UseAt H' r v->FirstN l ps st en ps.length r->Q v H'):qf K [.ref a,⇑l,.int s,.int e] H Q E:=by subst hs he;exact#[a,l,ps,st,en,rfl,hA,hN,hP,q]
def gX:sQz 4 ["rules","word","start","end","found","number","rule","place"] xV:=by nofun
def jx(B:Bt mg)(F:("first_within"^^^xV)):(1&&&["rules","word","start","end"]) (qf K):=by
 exists F.ok gX
 ·let#[a,l,ps,st,en,rfl,hA,hN,hP,q]:=h
  refine#[_,(zh (zB 4 gX.nd yh) (zh (zW u5 rfl (wC rfl B.enum (za (pv 0) ze)) (wN (n:=2) rfl (zL (zq (i:=5) gX.nd rfl (.inl rfl)) (zL (zq (i:=6) gX.nd rfl (.inl rfl)) y8))) (zG (zB 7 gX.nd (qz cX PySem.F.slot_str_find PySem.F.type_str_find zb5 (pv 1) (za (!-6) (za (pv 2) (za (zr yq (zr jF (pv 3) zb) (zF B.len (!-6))) ze))))) (zg (zJ (zu op_ge' (pv 7) zb (zt _)) (zG (zB 4 gX.nd (zN (za (pv 5) (za (pv 7) ze)))) (zg (zB 3 gX.nd (pv 7))))
     zp)))) (zg (zk (pv 4))))),?_]
  have s16:=zU;let#[xs,hX,hI]:=id hA;have hxl:=hI.len;rw[aa]at hxl;have s16:=zU;change H'=H/\σ=%[!!a,~~~l,-~~~st,-~~~en,BJ (.non)|3]
  ·rfl'
  rintro σ H1 ⟨rfl,rfl⟩:0;change Same H1 H'/\∃(r:Option (Nat × Nat)) (v:V) (v3 v5 v6 v7:Option V),UseAt H' r v/\FirstN l ps st en ps.length r/\σ=[!!a,~~~l,-~~~st,v3,BJ (v),v5,v6,v7]
  ·rfl';refine#[#[_,x6 hX],ForEL.by (xs:=xs) (λi σ H'=>Same H1 H'/\∃(r:Option (Nat × Nat)) (v:V) (v5 v6 v7:Option V),UseAt H' r v/\FirstN l ps st en i r/\σ=[!!a,~~~l,-~~~st,BJ (.int (((r.map Prod.snd).getD en:Nat):Int)),BJ (v),v5,v6,v7]) #[x9 _,BK,.non,BK,BK,BK,.inl #[rfl,rfl],.inl #[rfl,λj q h=>y6 h (bI j)],rfl] (λi σ H' Z h=>x6 (h.1 _ _ hX)) ?_ ?_]
   ·refine nmE ?_;rintro i y σ H' p hy ⟨hs,r,v,v5,v6,v7,hu,hF,rfl⟩ hpn:_;let#[rl,pr,hri,rfl,hqr]:=hI.getR hy;have hm:=ag hri;have hne:=Cd.mpr (hN rl hm);have hrl:=hP rl hm;have s2:=hs.trans (zf (o:=.tup [.int (i:Nat),.ref pr]) hpn);have hq2:=zy s2 hqr;have hu2:=hu.same (zf (o:=.tup [.int (i:Nat),.ref pr]) hpn);right;rfl';refine#[_,x4 zd,rfl,_,_,rfl,_,_,rfl,rfl,_,rfl,_,hq2,_,rfl,_,rfl,_,hq2,_,rfl,_,#[by rw[yj];lia,rfl],UH ⋯ (by rw[yj];lia) λz hz=>#[z,rfl,?_]];rw[yj]at hz;rcases hz with ⟨rfl,hn⟩ | ⟨k,rfl,k1,k2,k3,hn⟩
    ·rw[z9 ∅];exact#[s2,r,v,hu2,hF.keep hri λq q1 q2=>hn q ⋯ ⋯,rfl,rfl]
    ·rw[y9 ⋯];refine#[⋯,λp2 hp2=>#[s2.trans (zf hp2),BJ (i,k),.ref p2,.inr #[i,k,p2,rfl,rfl,zd],hF.take hri ⋯ ⋯ k3 λq q1 q2=>hn q ⋯ q2,rfl,rfl]]
   ·refine nmB ?_;rintro σ H' ⟨hs,r,v,v5,v6,v7,hu,hF,rfl⟩:_;rw[hxl]at hF;right;exact#[hs,r,v,hu,hF,_,_,_,_,rfl]
  rintro σ H2 ⟨s2,r,v,v3,v5,v6,v7,hu,hF,rfl⟩:0;rfl';exact q r v H2 s2 hu hF
structure zhE(mg:tK->Option tH):Prop where
 g:∃t,mg "WINDOW" = BJ (.int 128 t)
def ZT(K:tF):Sp:=λvs H Q Z=>∃(a:tG) (l:()) (ps:List zK) (st:Nat),vs=[.ref a,⇑l,.int (st:Nat)]/\LsA K H a (ps.map dR)/\NeL ps/\(∀p ∈ ps,p.1.length<=1000)/\l.length<=100000/\∀(r:Option (Nat × Nat)) (v:V) (H':Hp),Same H H'->UseAt H' r v->FirstN l ps st l.length ps.length r->Q v H'
def Y1{st:Nat}{s:Int}(hs:s=(st:Nat))(hA:LsA K H a (ps.map dR))(hN:NeL ps)(hP:∀p ∈ ps,p.1.length<=1000)(hl:l.length<=100000)(q:∀(r:Option (Nat × Nat)) (v:V) (H':Hp),Same H H'->UseAt H' r v->FirstN l ps st l.length ps.length r->Q v H'):ZT K [.ref a,⇑l,.int s] H Q E:=by subst hs;exact#[a,l,ps,st,rfl,hA,hN,hP,hl,q]
def iD:sQz 3 ["rules","word","start","size","found"] ve:=by nofun
def Yc(B:Bt mg)(T:zhE mg)(F:("first_from"^^^ve))(rg:(1<<<"first_within") ["rules","word","start","end"] [] (qf K)):(2&&&["rules","word","start"]) (ZT K):=by
 let#[t8,g8]:=T.g;exists F.ok iD
 ·let#[a,l,ps,st,rfl,hA,hN,hP,hl,q]:=h
  refine#[_,(zh (zB 3 iD.nd (yy (v:=.int 128) rfl g8 #[t8,rfl])) (zh (VP u5 (zu V5 (pv 2) (zF B.len (pv 1)) (zt _)) (zG (zB 4 iD.nd (cl0 rg hr .nil rfl (za (pv 0) (za (pv 1) (za (pv 2) (za (zr yq (pv 2) (pv 3)) ze)))))) (zG (zJ (zu op_notN' (pv 4) yh (zt _)) (zg (zk (pv 4)))
     zp) (zG (zB 2 iD.nd (zr yq (pv 2) (pv 3))) (zg (zB 3 iD.nd (zr kQ (pv 3) zb))))))) (zg (zk yh)))),?_]
  have s16:=zU;change H'=H/\σ=[!!a,~~~l,-~~~st,~~~!128,BK]
  ·rfl'
  rintro σ H1 ⟨rfl,rfl⟩:0;change Same H1 H'/\FirstN l ps st l.length ps.length BK
  ·unfold U0;refine#[λm σ H'=>∃(s z:Nat) (v4:Option V),m=l.length - s/\st<=s/\1<=z/\Same H1 H'/\FirstN l ps st s ps.length BK/\σ=[!!a,~~~l,-~~~s,-~~~z,v4],#[_,st,128,BK,rfl,ak _,∅,x9 _,.inl #[rfl,λj q Z h1 h2=>by lia],rfl],?_];refine nmC ?_;rintro m σ H' ⟨s,z,v4,rfl,hs,hz,sm,hF,rfl⟩:0;rfl';refine#[⋯,yd (λhlt=>?_) λhge=>#[sm,hF.toEnd hN λZ=>by lia]];refine#[λσ' H''=>∃v4:Option V,Same H1 H''/\FirstN l ps st (s+z) ps.length BK/\σ'=[!!a,~~~l,BJ (.int ((s+z:Nat):Int)),BJ (.int ((z * 2:Nat):Int)),v4],λσ' H'' ⟨v4,a1,a2,a3⟩=>#[l.length - (s+z),⋯,s+z,rfl,⋯,z * 2,⋯,a1,a2,v4,a3],?_];refine Wc (en:=s+z) rfl ⋯ (hA.same sm) hN hP λr v H2 s2 hu hF2=>?_;rcases hu with ⟨rfl,rfl⟩ | ⟨n,qq,p,rfl,rfl,hp⟩
   ·rw[z9 (λh=>h rfl)];exact#[.inr #[∅,∅],BJ .non,sm.trans s2,hF.window hs hF2,by push_cast;rfl]
   ·rw[y9 (by intro h;cases h)];exact q _ _ H2 (sm.trans s2) (.inr #[n,qq,p,rfl,rfl,hp]) ((hF.window hs hF2).toEnd hN (λe=>by cases e))
  rintro σ H2 ⟨s2,hF⟩:0;rfl';exact q BK .non H2 s2 (.inl #[rfl,rfl]) hF
def LsA.pushT{D p:tG}(h1:H D=BJ (.lst xs))(h2:Iss K H ds xs)(hp:H p=BK)(hv:Iss K H es vs)(f:z8 ds)(fe:z8 es):LsA K (upd (upd H p (.tup vs)) D (.lst (xs ++ [.ref p]))) D (ds ++ [.tup es]):=by have e:(upd H p (.tup vs)) D=BJ (.lst xs):=zf hp _ _ h1;exact LsA.snoc e (ja1 (zf hp) _ _ h2) f (by erw[xw];exact fe) (Is.tup hp hv)
structure zdG(K:tF)(mg:tK->Option tH)(C:tG):Prop where
 xi:XI K C
 ini:af K (.ref C) "__init__" = BJ (BJ (.builtin "ValueError.__init__"))
 g:mg "TooFar" = BJ (.ref C)
def dG(u:Nat × Nat):L3.D:=.tup [.int (u.1:Nat),.int (u.2:Nat),.bl BL]
def zc7(u:Nat × Nat):xw (dG u):=by erw[dG,xw,z8,and_self]
def K9(us:List (Nat × Nat)):z8 (us.map dG):=vc λd h=>by let#[r,_,rfl]:=BQ.mp h;exact zc7 r
def zgy : Iss K H [.int (n:Nat),.int (q:Nat),.bl BL] [.int (n:Nat),.int (q:Nat),.bl BL]:=by
 erw[Iss,Is];exact#[_,_,rfl,rfl,_,_,rfl,rfl,_,_,rfl,rfl,rfl]
structure Rd(ps:List zK)(l:())(J:Nat):Prop where
 live:VH ps l J
 len:∀j,j<=J->(wAt ps l j).length<=10000
 most:J<=10000
def xR(K:tF)(CF:tG):Sp:=λvs H Q E=>∃(a:tG) (l:()) (ps:List zK) (m:Int) (J:Nat),vs=[.ref a,⇑l,.int m]/\LsA K H a (ps.map dR)/\NeL ps/\ps.length<=100/\(∀p ∈ ps,p.1.length<=1000/\p.2.length<=1000)/\Rd ps l J /\
 ((zC (wAt ps l J) ps=BK/\(J:Int)<=m/\∀(p S:tG) (H':Hp),Same H H'->H' p=BJ (.tup [.ref S,⇑(wAt ps l J)])->LsA K H' S ((sAt ps l J).map dG)->H S=BK->Q (.ref p) H') \/
  (zC (wAt ps l J) ps≠BK/\(J:Int)=m/\∀H',Same H H'->E (.ref CF) BK H'))
def Qd{ps:List zK}{D:tG}(hA:LsA K H a (ps.map dR))(hP:∀p ∈ ps,p.1.length<=1000)(hpl:ps.length<=100)(hD:H D=BK)(q:∀H',Same H H'->H' D=BJ (.lst ((ps.map λp=>(p.1.length:Int)).map V.int))->Q (.ref D) H') :
  CompL K a (yH 0) wP (tCB (Uf K) (zO (tOp (jd K) (ym 0) (tC (.int 0))) xI)) 1 [] σ H Q D:=by
 have s16:=zU;let#[xs,hX,hI]:=hA;have hxl:=hI.len;rw[aa]at hxl;refine jb1 (xs:=xs) (λi acc H'=>Same H H'/\H' D=BJ (.lst acc)/\acc=((ps.take i).map λp=>(p.1.length:Int)).map V.int) #[zf hD,zd,rfl] (λi acc H' Z h=>x6 (h.1 _ _ hX)) ?_ ?_
 ·refine nm4 ?_;rintro i x acc H' hx ⟨hs,hH,rfl⟩:_;have hil:=(BP.mp hx).1;let#[r,pr,hri,rfl,hqr]:=hI.getR hx;have hm:=hP r (ag hri);right;erw[wP];rfl';refine#[xH,_,zy hs hqr,_,rfl,_,#[by rw[yj];lia,rfl],hH,by rw[aa,aa,aL];lia,ja0 hil #[zI hs hD,zd,?_]];rw[yb hri,ar,ar,yj];rfl
 ·refine nmB ?_;rintro acc H' ⟨hs,hH,rfl⟩:_;rw[hxl,aP]at hH;right;exact q H' hs hH
def zgS{rs:List zK}{i:Nat}(hI:Iss K H (rs.map dR) xs)(hi:rs[i]? = BJ r):∃p,atI xs (i:Int)=BJ (.ref p)/\SqT K H p [⇑r.1,⇑r.2]:=by have hl:=hI.len;rw[aa]at hl;have hil:=(BP.mp hi).1;let#[v,a1,b1]:=qv (xs:=xs) (i:=(i:Int)) ⋯ ⋯;let#[r',p,h1,rfl,h3]:=hI.getR (j:=i) b1;rw[hi]at h1;cases h1;exact#[p,a1,h3]
def lw:sQz 3 ["rules","word","most","longest","steps","use","number","place"] vQ:=by nofun
def zcO(B:Bt mg)(T:zdG K mg CF)(TU:DNU P w K mg base CU)(F:FunD K "gone" "gone" vQ dV f fd)(ot:(2<<<"first_from") ["rules","word","start"] [] (ZT K))(rP:(3>>>"put") ["word","place","old","new"] [] (WY CU)):(4|||["rules","word","most"]) (xR K CF):=by
 exists FunD.okX F lw,0
 ·let#[a,l,ps,m,J,rfl,hA,hN,hpl,hP,hR,hq]:=h
  refine#[_,(zh (zB 3 lw.nd (UQ (zfk rfl) rfl B.max qJ (za (xB (own:=["rule"]) (caps:=[]) (ix:=[]) (tt:=wP) (te:=(tCB (Uf K) (zO (tOp (jd K) (ym 0) (tC (.int 0))) xI))) rfl (zS (sc:=zi vQ) rfl (!0) (!0) (!0) rfl (!0) (!0) rfl) (yv (pv 0)) (λZ Z Z Z Z Z=>zq (i:=0) (show List.Nodup [_] by decide) rfl (.inl rfl)) (λZ Z Z Z Z Z=>yP) (λZ Z Z Z Z Z=>(zF B.len (!-0)))) ze) (Jb zb zbE))) (zh (zB 4 lw.nd (yF ze)) (zh (zB 5 lw.nd (cl0 ot hr .nil rfl (za (pv 0) (za (pv 1) (za zb ze))))) (zh (VP PassesOwn.leaving (zu op_notN' (pv 5) yh (zt _)) (zh (zJ (zu op_ge' (zF B.len (pv 4)) (pv 2) (zt _)) (zg (yf hx rfl T.xi.toXC T.ini rfl T.g (za zP ze)))
     zp) (zh (zB 6 lw.nd (!-5)) (zh (zB 7 lw.nd (!-5)) (zh (zB 1 lw.nd (clP hx rP hr .nil rfl (za (pv 1) (za (pv 7) (za (zm w6 (zm ix_list (pv 0) (pv 6)) zb) (za (zm w6 (zm ix_list (pv 0) (pv 6)) zb) ze)))))) (zh (xU (qz bB cf ci xG (pv 4) (za (zN (za (pv 6) (za (pv 7) (za yJ ze)))) ze))) (zg (zB 5 lw.nd (cl0 ot hr .nil rfl (za (pv 0) (za (pv 1) (za (xg (UC rfl) rfl B.max qJ (za zb (za (zr yq (zr jF (pv 7) (pv 3)) zb) ze))) ze)))))))))))) (zg (zk (zN (za (pv 4) (za (pv 1) ze))))))))),?_]
  have s16:=zU;change Same H H'/\∃M:Int,(∀p ∈ ps,(p.1.length:Int)<=M)/\σ=%[!!a,~~~l,~~~!m,~~~!M|4]
  ·rfl';erw[zhC];rfl';let#[xs,hX,hI]:=id hA;exact#[#[_,x6 hX],λD hD=>Qd hA (λp hp=>(hP p hp).1) hpl hD λH' s' hH=>#[D,_,0,rfl,rfl,x6 hH,λz Z hz=>#[s',z,λp hp=>hz _ (BQ.mpr #[p,hp,rfl]),rfl]]]
  rintro σ H1 ⟨s1,M,hM,rfl⟩:0;change Same H H'/\∃S:tG,H S=BK/\H' S=BJ (.lst [])/\σ=%[!!a,~~~l,~~~!m,~~~!M,!!S|3]
  ·rfl';exact#[⋯,λp hp=>#[s1.trans (zf hp),p,s1.free hp,zd,rfl]]
  rintro σ H2 ⟨s2,S,hSn,hS,rfl⟩:0;change Same H H'/\H' S=BJ (.lst [])/\∃uv:V,UseAt H' (zC l ps) uv/\σ=%[!!a,~~~l,~~~!m,~~~!M,!!S,BJ (uv)|2]
  ·rfl';exact Y1 (st:=0) rfl (hA.same s2) hN (λp hp=>(hP p hp).1) (by have:=hR.len 0 (ax _);exact aB this ∅) λr v H' s' hu hF=>#[s2.trans s',s' _ _ hS,(by rw[VN hF]at hu;exact hu)]
  rintro σ H3 ⟨s3,hS3,uv,hu,rfl⟩:0;change Same H H'/\zC (wAt ps l J) ps=BK/\LsA K H' S ((sAt ps l J).map dG)/\∃v5 v6 v7,σ=[!!a,BJ ⇑(wAt ps l J),~~~!m,~~~!M,!!S,v5,v6,v7]
  ·unfold U0;refine#[λk σ H'=>∃(j:Nat) (uv:V) (v6 v7:Option V),k=J - j/\j<=J/\Same H H'/\LsA K H' S ((sAt ps l j).map dG)/\UseAt H' (zC (wAt ps l j) ps) uv/\σ=[!!a,BJ ⇑(wAt ps l j),~~~!m,~~~!M,!!S,BJ (uv),v6,v7],#[_,0,uv,BK,BK,rfl,ax _,s3,#[[],hS3,by erw[sAt,List.range_zero,aJ,Iss]],hu,rfl],?_];refine nmC ?_;rintro k σ H' ⟨j,uv,v6,v7,rfl,hj,hs,hL,hu,rfl⟩:_;have hlj:=hR.len j hj;have hRm:=hR.most;let#[xs,hX,hI]:=id hA;right;rfl';refine yd (λhne=>?_) λhne=>?_
   ·rcases hu with ⟨_,h⟩ | ⟨n,q0,p,hf,rfl,hp⟩
    ·exact y6 h hne
    have hF:=WT (wAt ps l j) ps hN;rw[hf]at hF
    have hjJ:j<J\/(j=J/\(J:Int)=m/\∀H',Same H H'->E (.ref CF) BK H'):=by
     by_cases e:j=J
     ·subst e;rcases hq with ⟨h,_⟩ | ⟨_,h1,h2⟩
      ·rw[hf]at h;cases h
      ·exact .inr #[rfl,h1,h2]
     ·exact .inl ⋯
    have hJm:(J:Int)<=m:=by
     rcases hq with ⟨_,h,_⟩ | ⟨_,h,_⟩ <;> lia
    obtain⟨rl,hrl,hst⟩:∃rl,ps[n]? = BJ rl/\zv (wAt ps l j) (q0:Int) rl.1=BL:=by
     rcases hF with ⟨h,_⟩ | ⟨n0,q1,e,_,_,_,a4,_⟩
     ·cases h
     ·cases e;exact (vS a4).2
    have hlp:=hP rl (ag hrl);have hw:=wB hf;let#[pr,hai,hqr]:=zgS hI hrl;refine#[λσ' H''=>∃(uv:V) (v6 v7:Option V),j<J/\Same H H''/\LsA K H'' S ((sAt ps l (j+1)).map dG)/\UseAt H'' (zC (wAt ps l (j+1)) ps) uv/\σ'=[!!a,BJ ⇑(wAt ps l (j+1)),~~~!m,~~~!M,!!S,BJ (uv),v6,v7],λσ' H'' ⟨uv,v6,v7,a0,a1,a2,a3,a4⟩=>#[J - (j+1),⋯,j+1,rfl,⋯,a1,a2,uv,a3,v6,v7,a4],?_];let#[ys,hY,hJ2]:=id hL;have hyl:=hJ2.len;rw[aa,jn]at hyl;refine zj (λσ' H''=>H''=H'/\j<J/\σ'=[!!a,BJ ⇑(wAt ps l j),~~~!m,~~~!M,!!S,!!p,v6,v7]) ?_ ?_
    ·rfl';refine#[_,.inl #[_,x6 hY,rfl],yd (λhge=>?_) λhge=>?_]
     ·rcases hjJ with h | ⟨_,_,h⟩
      ·lia
      ·exact#[⋯,h _ hs]
     ·rcases hjJ with h | ⟨e,h,_⟩
      ·exact h
      ·lia
    rintro σ' G1 ⟨rfl,hlt,rfl⟩:0;refine zj (λσ' H''=>H''=G1/\σ'=[!!a,BJ ⇑(wAt ps l j),~~~!m,~~~!M,!!S,!!p,-~~~n,v7]) ?_ ?_
    ·rfl';exact#[_,x4 hp,rfl]
    rintro σ' G2 ⟨rfl,rfl⟩:0;refine zj (λσ' H''=>H''=G2/\σ'=[!!a,BJ ⇑(wAt ps l j),~~~!m,~~~!M,!!S,!!p,-~~~n,-~~~q0]) ?_ ?_
    ·rfl';exact#[_,x4 hp,rfl]
    rintro σ' G3 ⟨rfl,rfl⟩:0;refine zj (λσ' H''=>H''=G3/\σ'=[!!a,BJ ⇑(wAt ps l (j+1)),~~~!m,~~~!M,!!S,!!p,-~~~n,-~~~q0]) ?_ ?_
    ·rfl';have hq2:=zy hs hqr;exact#[_,x6 (hs _ _ hX),_,hai,_,rfl,_,hq2,_,rfl,_,x6 (hs _ _ hX),_,hai,_,rfl,_,hq2,_,rfl,wAt ps l j,rl.1,rl.2,(q0:Nat),rfl,hlj,by have:=hlp.1;lia,by have:=hlp.2;lia,λZ=>#[rfl,by rw[hw];unfold qr;rw[wk hrl]],λh=>by rw[hst]at h;cases h]
    rintro σ' G4 ⟨rfl,rfl⟩:0;refine zj (λσ' H''=>Same H H''/\LsA K H'' S ((sAt ps l (j+1)).map dG)/\σ'=[!!a,BJ ⇑(wAt ps l (j+1)),~~~!m,~~~!M,!!S,!!p,-~~~n,-~~~q0]) ?_ ?_
    ·rfl';refine#[.inl #[_,x6 hY],⋯,λt ht=>#[_,zf ht _ _ hY,⋯,zI (hs.trans (zf ht)) hSn,?_]];rw[Vd,hf,ar];exact LsA.pushT hY hJ2 ht zgy (K9 _) (by erw[z8,xw,and_self])
    rintro σ' G5 ⟨s5,hL5,rfl⟩:_;have hl1:=hR.len (j+1) hlt;have hM0:=hM rl (ag hrl);right;rfl';refine Y1 (st:=(if (q0:Int) - M+1 > 0 then (q0:Int) - M+1 else 0).toNat) (by split <;> lia) (hA.same s5) hN (λp hp=>(hP p hp).1) (aB hl1 ∅) λr v H' s' hu hF2=>#[hlt,s5.trans s',hL5.same s',?_];have hb:=V4 (M:=M.toNat) (lo:=(if (q0:Int) - M+1 > 0 then (q0:Int) - M+1 else 0).toNat) hF hN (λp hp=>by have:=hM p hp;lia) (by split <;> lia);rw[<- hw]at hb;rw[VN (hb.window (ax _) hF2)]at hu;exact hu
   ·have hv:uv=.non:=Decidable.not_not.mp hne
    have hf:zC (wAt ps l j) ps=BK:=by
     rcases hu with ⟨h,_⟩ | ⟨_,_,_,_,h,_⟩
     ·exact h
     ·rw[hv]at h;cases h
    have e:j=J:=by
     rcases et j J with h | h
     ·exact y6 hf (hR.live j h)
     ·lia
    subst e;exact#[hs,hf,hL,rfl]
  rintro σ H4 ⟨s4,hF,hL,v5,v6,v7,rfl⟩:0;rfl';rcases hq with ⟨_,_,hq⟩ | ⟨h,_⟩
  ·exact#[⋯,λp hp=>hq p S _ (s4.trans (zf hp)) zd (hL.same (zf hp)) hSn]
  ·exact y6 hF h
abbrev Stp:=Int × Int × Bool
def dSt(t:Stp):D:=.tup [.int t.1,.int t.2.1,.bl t.2.2]
def sdl(r:zK)(f:Bool):zK:=if f=BL then r else (r.2,r.1)
def yx(ps:List zK)(w:())(t:Stp):Option (()) :=
 if 0<=t.1/\t.1<ps.length then (if zv w t.2.1 (sdl (ps.getD t.1.toNat ([],[])) t.2.2).1=BL then BJ (yZ w t.2.1 (sdl (ps.getD t.1.toNat ([],[])) t.2.2).1 (sdl (ps.getD t.1.toNat ([],[])) t.2.2).2)else BK)else BK
def K8{D p:tG}(h1:H D=BJ (.lst xs))(h2:Iss K H ds xs)(hp:H p=BK)(hv:Iss K H es vs)(f:z8 ds)(fe:z8 es):LsA K (upd (upd H p (.tup vs)) D (.lst (xs ++ [.ref p]))) D (ds ++ [.tup es]):=by have e:(upd H p (.tup vs)) D=BJ (.lst xs):=zf hp _ _ h1;exact LsA.snoc e (ja1 (zf hp) _ _ h2) f (by erw[xw];exact fe) (Is.tup hp hv)
def V0 : Iss K H [dS l,dS m] [⇑l,⇑m]:=by
 erw[Iss,Is];exact#[_,_,rfl,rfl,_,_,rfl,rfl,rfl]
def jc(rs:List zK):Prop:=rs.length<=30/\∀r ∈ rs,r.1.length<=100/\r.2.length<=100
def zbF(h:Is K H (dSt t) v):∃p,v=.ref p/\SqT K H p [.int t.1,.int t.2.1,.bl t.2.2]:=by
 erw[dSt,Is,Iss]at h;let#[a,xs,e,hs,v1,r1,rfl,rfl,v2,r2,rfl,rfl,v3,r3,rfl,rfl,rfl]:=h;exact#[a,e,hs]
def Zi(h:SqT K H p [.int t.1,.int t.2.1,.bl t.2.2]):Is K H (dSt t) (.ref p):=by
 erw[dSt,Is,Iss];exact#[p,_,rfl,h,_,_,rfl,rfl,_,_,rfl,rfl,_,_,rfl,rfl,rfl]
def zbl : Iss K H [.int i,.int j,.bl b] [.int i,.int j,.bl b]:=by
 erw[Iss,Is];exact#[_,_,rfl,rfl,_,_,rfl,rfl,_,_,rfl,rfl,rfl]
def wo(rs:List Stp):z8 (rs.map dSt):=vc λd h=>by let#[r,_,rfl]:=BQ.mp h;erw[dSt,xw,z8,and_self]
def vD{rs:List Stp}{j:Nat}(h:Iss K H (rs.map dSt) vs)(q:vs[j]? = BJ v):∃r p,rs[j]? = BJ r/\v=.ref p/\SqT K H p [.int r.1,.int r.2.1,.bl r.2.2]:=by let#[d,e,i]:=h.get q;rw[au]at e;let#[r,hr,rfl]:=BW.mp e;let#[p,e1,e2]:=zbF i;exact#[r,p,hr,e1,e2]
def zd5{rs:List zK}{i:Int}(hI:Iss K H (rs.map dR) xs)(h0:0<=i)(hi:i<rs.length):∃p,atI xs i=BJ (.ref p)/\rs[i.toNat]? = BJ (rs.getD i.toNat ([],[]))/\SqT K H p [⇑(rs.getD i.toNat ([],[])).1,⇑(rs.getD i.toNat ([],[])).2]:=by
 have hl:=hI.len;rw[aa]at hl;let#[v,a1,b1]:=qv (xs:=xs) (i:=i) h0 ⋯;let#[r,p,h1,rfl,h3]:=hI.getR b1;have e:rs.getD i.toNat ([],[])=r:=by rw[ac,h1];rfl
 rw[e];exact#[p,a1,h1,h3]
theorem Wz(h:jc rs)(i:Nat):(rs.getD i ([],[])).1.length<=100/\(rs.getD i ([],[])).2.length<=100:=by
 rw[ac]
 cases e:rs[i]? with
 | none=>exact#[ax _,ax _]
 | some r=>exact h.2 r (ag e)
def xa{w:()}{t:Stp}(h:¬ (0<=t.1/\t.1<ps.length)):yx ps w t=BK:=z9 h
def yL{w:()}{t:Stp}(h:0<=t.1/\t.1<ps.length):yx ps w t=if zv w t.2.1 (sdl (ps.getD t.1.toNat ([],[])) t.2.2).1=BL then BJ (yZ w t.2.1 (sdl (ps.getD t.1.toNat ([],[])) t.2.2).1 (sdl (ps.getD t.1.toNat ([],[])) t.2.2).2)else BK:=y9 h
def Ch(rs:List zK)(ws:List (()))(ss:List Stp):Prop:=ws.length=ss.length+1/\∀i s,ss[i]? = BJ s->∃w w',ws[i]? = BJ w/\ws[i+1]? = BJ w'/\yx rs w s=BJ w'
def bk(s:Stp):Stp:=(s.1,s.2.1,!s.2.2)
def yI(ss:List Stp):List Stp:=ss.reverse.map bk
def mvL(ss:List Stp)(z:Int):List Stp:=ss.map λs=>(s.1,s.2.1+z,s.2.2)
def zdL(r:zK)(f:Bool):sdl r (!f)=((sdl r f).2,(sdl r f).1):=by cases f <;> rfl
def Zj{w w':()}(h:yx rs w s=BJ w'):yx rs w' (bk s)=BJ w:=by
 by_cases hb:0<=s.1/\s.1<rs.length
 ·rw[yL hb]at h;have hb':0<=(bk s).1/\(bk s).1<rs.length:=hb;rw[yL hb'];erw[bk,zdL];generalize sdl (rs.getD s.1.toNat ([],[])) s.2.2=r at *;by_cases hs:zv w s.2.1 r.1=BL
  ·rw[y9 hs]at h;cases h;let#[e1,e2]:=W5 r.2 hs;rw[y9 e1,e2]
  ·rw[z9 hs]at h;cases h
 ·rw[xa hb]at h;cases h
def Ch.back(h:Ch rs ws ss):Ch rs ws.reverse (yI ss):=by
 let#[hl,hs]:=h;refine#[by simp [yI,hl],λi s hi=>?_];have hil:i<ss.length:=by have:=(BP.mp hi).1;simpa [yI] using this
 unfold yI at hi;rw[au,bG hil]at hi;let#[s0,h0,rfl]:=BW.mp hi;let#[w,w',e1,e2,e3]:=hs _ _ h0;refine#[w',w,?_,?_,Zj e3]
 ·rw[bG ⋯,<- e2];congr 1;lia
 ·rw[bG ⋯,<- e1];congr 1;lia
def Vf{a w b:()}(h:k<=w.length):(a ++ w ++ b).drop (a.length+k)=w.drop k ++ b:=by rw[aS,<- eQ,List.drop_left,cP h]
def Ye{a w b o:()}(h:zv w k o=BL):zv (a ++ w ++ b) (k+(a.length:Int)) o=BL:=by let#[_,_,h0,h1]:=xf h;unfold zv at h ⊢;rw[decide_eq_true_eq]at h ⊢;let#[_,_,h2]:=h;refine#[⋯,by erw[am];lia,?_];rw[show (k+(a.length:Int)).toNat=a.length+k.toNat by lia,Vf ⋯,bt (by rw[bq];lia),h2]
def Ug{a w b o n:()}(h:zv w k o=BL):yZ (a ++ w ++ b) (k+(a.length:Int)) o n=a ++ yZ w k o n ++ b:=by
 let#[_,_,h0,h1]:=xf h;unfold yZ;rw[show (k+(a.length:Int)).toNat=a.length+k.toNat by lia]
 have e1:(a ++ w ++ b).take (a.length+k.toNat)=a ++ w.take k.toNat:=by
  rw[aS,List.take_length_add_append,bt ⋯]
 have e2:(a ++ w ++ b).drop (a.length+k.toNat+o.length)=w.drop (k.toNat+o.length) ++ b:=by
  rw[Nat.add_assoc];exact Vf ⋯
 rw[e1,e2];simp [aS]
def qm{w w':()}(a b:())(h:yx rs w s=BJ w'):yx rs (a ++ w ++ b) (s.1,s.2.1+(a.length:Int),s.2.2)=BJ (a ++ w' ++ b):=by
 by_cases hb:0<=s.1/\s.1<rs.length
 ·rw[yL hb]at h;rw[yL (by exact hb)];simp only;generalize sdl (rs.getD s.1.toNat ([],[])) s.2.2=r at *;by_cases hs:zv w s.2.1 r.1=BL
  ·rw[y9 hs]at h;cases h;rw[y9 (Ye hs),Ug hs]
  ·rw[z9 hs]at h;cases h
 ·rw[xa hb]at h;cases h
def Fit(rs:List zK)(w:())(m:Int)(s:Stp):Prop:=∃w',yx rs w s=BJ w'/\(w'.length:Int)<=m
def WI{w o n:()}(h:zv w k o=BL):(yZ w k o n).length+o.length=w.length+n.length:=by
 let#[e,hl,h0,h1]:=xf h;unfold yZ;erw[am,bq,hl];lia
def qS{D p:tG}(h1:H D=BJ (.lst xs))(h2:Iss K H ds xs)(hp:H p=BK)(hv:Iss K H es vs)(f:z8 ds)(fe:z8 es):Iss K (upd (upd H p (.tup vs)) D (.lst (xs ++ [.ref p]))) (ds ++ [.tup es]) (xs ++ [.ref p]):=by let#[ys,hy1,hy2]:=K8 h1 h2 hp hv f fe;rw[zd]at hy1;cases hy1;exact hy2
def qj(K:tF):Sp:=λvs H Q Z=>∃(t:tG) (ss:List Stp),vs=[.ref t]/\Is K H (.lst (ss.map dSt)) (.ref t)/\ss.length<=1000/\∀(D:tG) (H':Hp),H D=BK->Same H H'->LsA K H' D ((yI ss).map dSt)->Q (.ref D) H'
def qQ(h1:Is K H (.lst (ss.map dSt)) (.ref t))(h2:ss.length<=1000)(h:∀(D:tG) (H':Hp),H D=BK->Same H H'->LsA K H' D ((yI ss).map dSt)->Q (.ref D) H'):qj K [.ref t] H Q E:=#[t,ss,rfl,h1,h2,h]
def zcw(h:ss.reverse[i]? = BJ s):(yI ss).take (i+1)=(yI ss).take i ++ [bk s]:=yb (by unfold yI;rw[au,h];rfl)
def zcB:sQz 1 ["steps"] WX:=by nofun
def zcD(B:Bt mg)(F:("back"^^^WX)):(1&&&["steps"]) (qj K):=by
 exists F.ok zcB
 ·let#[t,ss,rfl,hT,hsl,q]:=h;refine#[_,(zg (zk (xB (own:=["step"]) (caps:=[]) (ix:=[]) (tt:=wP) (te:=(Kg (zO (tOp (jd K) (ym 0) (tC (.int 0))) (zO (tOp (jd K) (ym 0) (tC (.int 1))) (zO (V6 (tOp (jd K) (ym 0) (tC (.int 2)))) xI))))) rfl (zS (sc:=zi WX) rfl (!0) (!0) (!0) rfl (!0) (!0) rfl) (zfC rfl B.rev (za (pv 0) ze)) (λZ Z Z Z Z Z=>zq (i:=0) (show List.Nodup [_] by decide) rfl (.inl rfl)) (λZ Z Z Z Z Z=>yP) (λZ Z Z Z Z Z=>(zN (za (!-0) (za (!-0) (za (Jg (!-0)) ze)))))))),?_];have s16:=zU;rfl';erw[Is]at hT;let#[_,ts,e,hTs,hJ]:=hT;cases e;have htl:=hJ.len;rw[aa]at htl;have hbl:(yI ss).length=ss.length:=by simp [yI]
  refine#[ts,hTs,λD hD=>CompV.by (xs:=ts) (λi acc H'=>Same H H'/\H' D=BJ (.lst acc)/\Iss K H' (((yI ss).take i).map dSt) acc) #[zf hD,zd,by erw[cq,aJ,Iss]] (λi acc H' Z h=>h.1.seq hTs) ?_ ?_]
  ·refine nm4 ?_;rintro i x acc H' hx ⟨hs,hH,hA⟩:_;have hi:i<ts.length:=by have:=(BP.mp hx).1;simpa using this
   rw[bG hi]at hx;let#[s,ps,hsi,rfl,hqs]:=vD hJ hx;have hsr:ss.reverse[i]? = BJ s:=by rw[bG ⋯,<- hsi,htl]
   have hal:=hA.len;rw[aa,aL]at hal;right;erw[wP];rfl';refine#[xH,_,zy hs hqs,_,rfl,_,zy hs hqs,_,rfl,_,zy hs hqs,_,rfl,_,rfl,⋯,λp hp=>#[zf hp _ _ hH,⋯,ja0 hi #[zI (hs.trans (zf hp)) hD,zd,?_]]];rw[zcw hsr,ar];exact qS hH hA hp zbl (wo _) (by erw[z8,xw,and_self])
  ·refine nmB ?_;rintro acc H' ⟨hs,hH,hA⟩:_;rw[htl,<- hbl,aP]at hA;right;exact q D H' hD hs #[acc,hH,hA]
def Z7(K:tF):Sp:=λvs H Q Z=>∃(t:tG) (ss:List Stp) (z:Int),vs=[.ref t,.int z]/\Is K H (.lst (ss.map dSt)) (.ref t)/\ss.length<=1000/\∀(D:tG) (H':Hp),H D=BK->Same H H'->LsA K H' D ((mvL ss z).map dSt)->Q (.ref D) H'
def Xa(h1:Is K H (.lst (ss.map dSt)) (.ref t))(h2:ss.length<=1000)(h:∀(D:tG) (H':Hp),H D=BK->Same H H'->LsA K H' D ((mvL ss z).map dSt)->Q (.ref D) H'):Z7 K [.ref t,.int z] H Q E:=#[t,ss,z,rfl,h1,h2,h]
def KH:sQz 2 ["steps","size"] Ym:=by nofun
def KO(B:Bt mg)(F:("moved"^^^Ym)):(1&&&["steps","size"]) (Z7 K):=by
 exists F.ok KH
 ·let#[t,ss,z,rfl,hT,hsl,q]:=h;refine#[_,(zg (zk (xB (own:=["step"]) (caps:=["size"]) (ix:=[1]) (tt:=wP) (te:=(Kg (zO (tOp (jd K) (ym 0) (tC (.int 0))) (zO (tOp Xk (tOp (jd K) (ym 0) (tC (.int 1))) (ym 1)) (zO (tOp (jd K) (ym 0) (tC (.int 2))) xI))))) rfl (zS (sc:=zi Ym) rfl (!0) (!0) (!0) rfl (!0) (!0) rfl) (yv (pv 0)) (λZ Z Z Z Z Z=>zq (i:=0) (show List.Nodup [_,_] by decide) rfl (.inl rfl)) (λZ Z Z Z Z Z=>yP) (λZ Z Z Z Z Z=>(zN (za (!-0) (za (zr zZ (!-0) (pv 1)) (za (!-0) ze)))))))),?_];have s16:=zU;rfl';erw[Is]at hT;let#[_,ts,e,hTs,hJ]:=hT;cases e;have htl:=hJ.len;rw[aa]at htl;have hbl:(mvL ss z).length=ss.length:=by simp [mvL]
  refine#[#[ts,hTs],λD hD=>jb1 (xs:=ts) (λi acc H'=>Same H H'/\H' D=BJ (.lst acc)/\Iss K H' (((mvL ss z).take i).map dSt) acc) #[zf hD,zd,by erw[cq,aJ,Iss]] (λi acc H' Z h=>h.1.seq hTs) ?_ ?_]
  ·refine nm4 ?_;rintro i x acc H' hx ⟨hs,hH,hA⟩:_;have hi:=(BP.mp hx).1;let#[s,ps,hsi,rfl,hqs]:=vD hJ hx;have hm:(mvL ss z)[i]? = BJ (s.1,s.2.1+z,s.2.2):=by unfold mvL;rw[au,hsi];rfl
   have hal:=hA.len;rw[aa,aL]at hal;right;erw[wP];rfl';refine#[xH,_,zy hs hqs,_,rfl,_,zy hs hqs,_,rfl,_,zy hs hqs,_,rfl,⋯,λp hp=>#[zf hp _ _ hH,⋯,ja0 hi #[zI (hs.trans (zf hp)) hD,zd,?_]]];rw[yb hm,ar];exact qS hH hA hp zbl (wo _) (by erw[z8,xw,and_self])
  ·refine nmB ?_;rintro acc H' ⟨hs,hH,hA⟩:_;rw[htl,<- hbl,aP]at hA;right;exact q D H' hD hs #[acc,hH,hA]
abbrev Ent:=() × () × List Stp
def dE(e:Ent):L3.D:=.tup [dS e.1,dS e.2.1,.lst (e.2.2.map dSt)]
def VI(es:List Ent)(u:Stp):List Stp:=mvL (if u.2.2=BL then (es.getD u.1.toNat ([],[],[])).2.2 else yI (es.getD u.1.toNat ([],[],[])).2.2) u.2.1
def byL(es:List Ent)(us:List Stp):List Stp:=us.flatMap (VI es)
def ze2(h:Is K H (dE e) v):∃p s,v=.ref p/\SqT K H p [⇑e.1,⇑e.2.1,.ref s]/\Is K H (.lst (e.2.2.map dSt)) (.ref s):=by
 erw[dE,Is,Iss]at h;let#[a,xs,e0,hs,v1,r1,rfl,rfl,v2,r2,rfl,rfl,v3,r3,rfl,#[s,zs,rfl,h1,h2],rfl]:=h;refine#[a,s,e0,hs,?_];erw[Is];exact#[s,zs,rfl,h1,h2]
def zh7{es:List Ent}{i:Int}(hI:Iss K H (es.map dE) xs)(h0:0<=i)(hi:i<es.length):∃p s,atI xs i=BJ (.ref p)/\es[i.toNat]? = BJ (es.getD i.toNat ([],[],[]))/\SqT K H p [⇑(es.getD i.toNat ([],[],[])).1,⇑(es.getD i.toNat ([],[],[])).2.1,.ref s]/\Is K H (.lst ((es.getD i.toNat ([],[],[])).2.2.map dSt)) (.ref s):=by
 have hl:=hI.len;rw[aa]at hl;let#[v,a1,b1]:=qv (xs:=xs) (i:=i) h0 ⋯;let#[d,e,ix]:=hI.get b1;rw[au]at e;let#[r,hr,rfl]:=BW.mp e;have e:es.getD i.toNat ([],[],[])=r:=by rw[ac,hr];rfl
 rw[e];let#[p,s,rfl,h2,h3]:=ze2 ix;exact#[p,s,a1,hr,h2,h3]
def Xr(ss:List Stp)(z:Int):(mvL ss z).length=ss.length:=by simp [mvL]
def yK(ss:List Stp):(yI ss).length=ss.length:=by simp [yI]
def UK(K:tF):Sp:=λvs H Q Z=>∃(a t:tG) (es:List Ent) (us:List Stp),vs=[.ref a,.ref t]/\Is K H (.lst (es.map dE)) (.ref a)/\Is K H (.lst (us.map dSt)) (.ref t)/\us.length<=100/\(∀e ∈ es,e.2.2.length<=600)/\(∀u ∈ us,0<=u.1/\u.1<es.length)/\∀(D:tG) (H':Hp),H D=BK->Same H H'->LsA K H' D ((byL es us).map dSt)->Q (.ref D) H'
def mr:sQz 2 ["entries","steps","chain","step","own"] uQ:=by nofun
def XV(B:Bt mg)(F:("by_pacts"^^^uQ))(sN:(1<<<"moved") ["steps","size"] [] (Z7 K))(mT:(1<<<"back") ["steps"] [] (qj K)):(2&&&["entries","steps"]) (UK K):=by
 exists F.ok mr
 ·let#[a,t,es,us,rfl,hE,hU,hul,hel,hub,q]:=h;refine#[_,(zh (zB 2 mr.nd (yF ze)) (zh (zW u5 rfl (yv (pv 1)) (zq (i:=3) mr.nd rfl (.inl rfl)) (zh (zB 4 mr.nd (zm w6 (zm ix_list (pv 0) (!-3)) zb)) (zg (xU (qz bB PySem.F.slot_list_extend PySem.F.type_list_extend JZ (pv 2) (za (cl0 sN hr .nil rfl (za (vv (yB (!-3) (λZ=>rfl)) (pv 4) (cl0 mT hr .nil rfl (za (pv 4) ze))) (za (!-3) ze))) ze)))))) (zg (zk (pv 2))))),?_];have s16:=zU;have hE':=hE;have hU':=hU;erw[Is]at hE' hU';let#[_,xs,e,hX,hI]:=hE';cases e;let#[_,ts,e,hTs,hJ]:=hU';cases e;have htl:=hJ.len;rw[aa]at htl;change ∃D,H D=BK/\Same H H'/\H' D=BJ (.lst [])/\σ=%[!!a,!!t,!!D|2]
  ·rfl';exact#[⋯,λp hp=>#[p,hp,zf hp,zd,rfl]]
  rintro σ H1 ⟨D,hD,s1,hD1,rfl⟩:0;change Same H H'/\LsA K H' D ((byL es us).map dSt)/\∃v3 v4,σ=[!!a,!!t,!!D,v3,v4]
  ·rfl';refine#[#[_,s1.seq hTs],ja3 (xs:=ts) (λi σ H'=>Same H H'/\LsA K H' D ((byL es (us.take i)).map dSt)/\(byL es (us.take i)).length<=i * 600/\∃v3 v4,σ=[!!a,!!t,!!D,v3,v4]) #[s1,#[[],hD1,by erw[cq,byL,List.flatMap_nil,aJ,Iss]],by simp [byL],_,_,rfl] (λi σ H' Z h=>h.1.seq hTs) ?_ ?_]
   ·refine nm4 ?_;rintro i x σ H' hx ⟨hs,hL,hl,v3,v4,rfl⟩:_;let#[u,pu,hui,rfl,hqu]:=vD hJ hx;have hil:=(BP.mp hui).1;let#[u0,u1]:=hub u (ag hui);let#[pe,se,g1,g2,g3,g4]:=zh7 hI u0 u1;have hle:=hel _ (ag g2)
    have hby:byL es (us.take (i+1))=byL es (us.take i) ++ VI es u:=by
     unfold byL;rw[yb hui,dD];simp
    right;erw[yH,aX,aW];refine zj (λσ H''=>H''=H'/\σ=[!!a,!!t,!!D,!!pu,!!se]) ?_ ?_
    ·rfl';exact#[_,zy hs hqu,_,rfl,_,rfl,_,hs.seq hX,_,g1,_,rfl,_,zy hs g3,rfl]
    rintro σ G ⟨rfl,rfl⟩:_;let#[zs,hZ,hZI]:=id hL;have hzl:=hZI.len;rw[aa]at hzl;have hse:=Is.same hs _ _ g4
    have fin:∀(ws:List Stp) (M:tG) (G2:Hp),VI es u=ws->ws.length<=600->Same G G2->LsA K G2 M (ws.map dSt)->QO (V.ref D) [V.ref M] G2 λx H1=>Same H H1/\LsA K H1 D ((byL es (us.take (i+1))).map dSt)/\(byL es (us.take (i+1))).length<=(i+1) * 600:=λws M G2 ew hwl sg hM=>by
     let#[ys,hY,hYI]:=hM;have hyl:=hYI.len;rw[aa]at hyl;have hZ2:=sg _ _ hZ;refine#[D,M,zs,ys,rfl,rfl,hZ2,hY,⋯,zI (hs.trans sg) hD,#[_,zd,?_],?_]
     ·rw[hby,ew,ar];exact jb2 (Iss.updL hZ2 _ _ (wo _) (ja1 sg _ _ hZI)) (Iss.updL hZ2 _ _ (wo _) hYI)
     ·rw[hby,ew,am];lia
    right;rfl';refine#[.inl #[_,x6 hZ],_,zy hs hqu,_,rfl,_,rfl,yd (λhf=>#[_,zy hs hqu,_,rfl,Xa hse ⋯ λM G2 Z sg hM=>fin _ M G2 (by unfold VI;rw[y9 hf]) (by rw[Xr];lia) sg hM]) λhf=>qQ hse ⋯ λM0 G1 Z sg0 hM0=>#[_,zy (hs.trans sg0) hqu,_,rfl,Xa hM0.is (by rw[yK];lia) λM G2 Z sg hM=>fin _ M G2 (by unfold VI;rw[z9 hf]) (by rw[Xr,yK];lia) (sg0.trans sg) hM]]
   ·refine nmB ?_;rintro σ H' ⟨hs,hL,hl,v3,v4,rfl⟩:_;rw[htl,aP]at hL;right;exact#[hs,hL,_,_,rfl]
  rintro σ H2 ⟨s2,hL2,v3,v4,rfl⟩:0;rfl';exact q D H2 hD s2 hL2
def z7(rs:List zK):()->List Stp->Option (())
 | w,[]=>BJ w
 | w,s::ss=>(yx rs w s).bind λw'=>z7 rs w' ss
theorem xP(rs:List zK):∀(ss ts:List Stp) (w:()),z7 rs w (ss ++ ts)=(z7 rs w ss).bind λw'=>z7 rs w' ts
 | [],ts,w=>rfl
 | s::ss,ts,w=>by
  erw[bx,z7]
  cases yx rs w s with
  | none=>rfl
  | some w1=>exact xP rs ss ts w1
def uD{w w':()}(h:z7 rs w (s::ss)=BJ w'):∃w1,yx rs w s=BJ w1/\z7 rs w1 ss=BJ w':=by
 erw[z7]at h;let#[w1,h1,h2]:=Cf.mp h;exact#[w1,h1,h2]
def jJ{w w1 w2:()}(h:z7 rs w ss=BJ w1)(h2:yx rs w1 s=BJ w2):z7 rs w (ss ++ [s])=BJ w2:=by
 rw[xP,h];erw[z7,cC];rw[h2];rfl
def QB(s:Stp)(ss:List Stp):yI (s::ss)=yI ss ++ [bk s]:=by simp [yI]
theorem vj : ∀{ss:List Stp} {w w':()},z7 rs w ss=BJ w'->z7 rs w' (yI ss)=BJ w
 | [],w,w',h=>by cases h;rfl
 | s::ss,w,w',h=>by
  let#[w1,h1,h2]:=uD h;rw[QB];exact jJ (vj h2) (Zj h1)
theorem ke(a b:()):∀{ss:List Stp} {w w':()},z7 rs w ss=BJ w'->z7 rs (a ++ w ++ b) (mvL ss (a.length:Int))=BJ (a ++ w' ++ b)
 | [],w,w',h=>by cases h;rfl
 | s::ss,w,w',h=>by
  let#[w1,h1,h2]:=uD h;have e:mvL (s::ss) (a.length:Int)=(s.1,s.2.1+(a.length:Int),s.2.2)::mvL ss (a.length:Int):=rfl;rw[e];erw[z7];rw[qm a b h1];exact ke a b h2
def EOk(rs:List zK)(e:Ent):Prop:=z7 rs e.1 e.2.2=BJ e.2.1
def zc(es:List Ent):List zK:=es.map λe=>(e.1,e.2.1)
theorem Kx(hE:∀e ∈ es,EOk rs e){w w':()}(h:yx (zc es) w u=BJ w'):z7 rs w (VI es u)=BJ w':=by
 have hb:0<=u.1/\u.1<(zc es).length:=bT λhb=>by rw[xa hb]at h;cases h
 rw[yL hb]at h;have hl:(zc es).length=es.length:=by unfold zc;rw[aa]
 rw[hl]at hb
 have hg:es[u.1.toNat]? = BJ (es.getD u.1.toNat ([],[],[])):=by
  rw[ac,ah ⋯];rfl
 have hp:(zc es).getD u.1.toNat ([],[])=((es.getD u.1.toNat ([],[],[])).1,(es.getD u.1.toNat ([],[],[])).2.1):=by
  unfold zc;rw[ac,au,hg];rfl
 rw[hp]at h;have he:=hE _ (ag hg);unfold VI;generalize es.getD u.1.toNat ([],[],[])=e at *
 have key:∀(o n:()) (ss:List Stp),sdl (e.1,e.2.1) u.2.2=(o,n)->z7 rs o ss=BJ n->z7 rs w (mvL ss u.2.1)=BJ w':=λo n ss hs hw=>by
  rw[hs]at h;by_cases hst:zv w u.2.1 o=BL
  ·rw[y9 hst]at h;cases h;let#[e1,e2,h0,h1]:=xf hst;have:=ke (w.take u.2.1.toNat) (w.drop (u.2.1.toNat+o.length)) hw;rw[e1,e2,show ((u.2.1.toNat:Nat):Int)=u.2.1 by lia]at this;exact this
  ·rw[z9 hst]at h;cases h
 cases hf:u.2.2 with
 | true =>
  rw[y9 rfl];exact key e.1 e.2.1 e.2.2 (by rw[hf];rfl) he
 | false =>
  rw[z9 ∅];exact key e.2.1 e.1 (yI e.2.2) (by rw[hf];rfl) (vj he)
theorem jD(hE:∀e ∈ es,EOk rs e):∀{us:List Stp} {w w':()},z7 (zc es) w us=BJ w'->z7 rs w (byL es us)=BJ w'
 | [],w,w',h=>by cases h;rfl
 | u::us,w,w',h=>by
  let#[w1,h1,h2]:=uD h;have e:byL es (u::us)=VI es u ++ byL es us:=by simp [byL]
  rw[e,xP,Kx hE h1];exact jD hE h2
def QA(ok:jc rs){w w':()}(h:yx rs w s=BJ w'):w'.length<=w.length+100:=by
 have hb:0<=s.1/\s.1<rs.length:=bT λhb=>by rw[xa hb]at h;cases h
 rw[yL hb]at h;have g:=Wz ok s.1.toNat;generalize rs.getD s.1.toNat ([],[])=r at *;by_cases hs:zv w s.2.1 (sdl r s.2.2).1=BL
 ·rw[y9 hs]at h;cases h;have:=WI (n:=(sdl r s.2.2).2) hs
  have h2:(sdl r s.2.2).2.length<=100:=by
   cases s.2.2
   ·exact g.1
   ·exact g.2
  lia
 ·rw[z9 hs]at h;cases h
def kE(D:tG)(H:Hp):Hp:=λb=>if b=D then BK else H b
def wX{D b:tG}(h:b≠D):kE D H b=H b:=by unfold kE;rw[z9 h]
def jf{D:tG}:kE D H D=BK:=by unfold kE;rw[y9 rfl]
def vp{D:tG}:Same (kE D H) H:=λb o e=>by
 by_cases hb:b=D
 ·rw[hb,jf]at e;cases e
 ·rw[wX hb]at e;exact e
def U4{D:tG}(hD:H D=BK)(s:Same H H'):Same H (kE D H'):=λb o e=>by
 have hb:b≠D:=λz=>by rw[z,hD]at e;cases e
 rw[wX hb];exact s _ _ e
def wU{D:tG}(s:Same H H'):Same (kE D H) (kE D H'):=λb o e=>by
 by_cases hb:b=D
 ·rw[hb,jf]at e;cases e
 ·rw[wX hb]at e ⊢;exact s _ _ e
def xL{D:tG}:Same (kE D H) (kE D (upd H D o)):=λb o' e=>by
 by_cases hb:b=D
 ·rw[hb,jf]at e;cases e
 ·rw[wX hb]at e ⊢;rw[zo hb];exact e
def Qi{D a:tG}(hD:H D=BJ (.lst ys))(h:SqT K H a xs):SqT K (kE D H) a xs:=by
 rcases h with (h | ⟨o,h⟩) | h
 ·exact .inl (.inl (by rw[wX (λe=>by rw[e,hD]at h;cases h)];exact h))
 ·exact .inl (.inr #[o,by rw[wX (λe=>by rw[e,hD]at h;cases h)];exact h])
 ·exact .inr h
theorem Vw{D:tG}(hD:H D=BJ (.lst ys)):∀(ss:List Stp) (vs:List V),Iss K H (ss.map dSt) vs->Iss K (kE D H) (ss.map dSt) vs
 | [],vs,h=>by erw[aJ,Iss]at h ⊢;exact h
 | s::ss,vs,h=>by
  erw[ao,Iss]at h ⊢;let#[v,r,rfl,h1,h2]:=h;let#[p,rfl,h3]:=zbF h1;exact#[_,r,rfl,Zi (Qi hD h3),Vw hD ss r h2]
def zgA(h1:SqT K H p [⇑e.1,⇑e.2.1,.ref s])(h2:Is K H (.lst (e.2.2.map dSt)) (.ref s)):Is K H (dE e) (.ref p):=by
 erw[dE,Is,Iss];erw[Is]at h2;exact#[p,_,rfl,h1,_,_,rfl,rfl,_,_,rfl,rfl,_,_,rfl,h2,rfl]
def WO{es:List Ent}{j:Nat}(h:Iss K H (es.map dE) vs)(q:vs[j]? = BJ v):∃e p s,es[j]? = BJ e/\v=.ref p/\SqT K H p [⇑e.1,⇑e.2.1,.ref s]/\Is K H (.lst (e.2.2.map dSt)) (.ref s):=by let#[d,e,i]:=h.get q;rw[au]at e;let#[r,hr,rfl]:=BW.mp e;let#[p,s,e1,e2,e3]:=ze2 i;exact#[r,p,s,hr,e1,e2,e3]
def zds(h:Is K H d v):Iss K H [d] [v]:=by
 erw[Iss];exact#[v,[],rfl,h,rfl]
def EnA(K:tF)(H:Hp)(e:Ent)(v:V):Prop:=∃p s,v=.ref p/\SqT K H p [⇑e.1,⇑e.2.1,.ref s]/\LsA K H s (e.2.2.map dSt)
def EnsA(K:tF)(H:Hp):List Ent->List V->Prop
 | [],vs=>vs=[]
 | e::es,vs=>∃v r,vs=v::r/\EnA K H e v/\EnsA K H es r
def EnsL(K:tF)(H:Hp)(a:tG)(es:List Ent):Prop:=∃xs,SqL K H a xs/\EnsA K H es xs
def EnsM(K:tF)(H:Hp)(a:tG)(es:List Ent):Prop:=∃xs,H a=BJ (.lst xs)/\EnsA K H es xs
def EnA.is(h:EnA K H e v):Is K H (dE e) v:=by let#[p,s,rfl,h1,h2]:=h;exact zgA h1 h2.is
def EnA.same{H H':Hp}{e:Ent}{v:V}(h:EnA K H e v)(q:Same H H'):EnA K H' e v:=by let#[p,s,e0,h1,h2]:=h;exact#[p,s,e0,zy q h1,h2.same q]
theorem EnsA.iss : ∀{es:List Ent} {vs:List V},EnsA K H es vs->Iss K H (es.map dE) vs
 | [],vs,h=>by erw[EnsA]at h;erw[aJ,Iss];exact h
 | e::es,vs,h=>by
  erw[EnsA]at h;let#[v,r,rfl,h1,h2]:=h;erw[ao,Iss];exact#[v,r,rfl,h1.is,h2.iss]
def EnsA.len(h:EnsA K H es vs):vs.length=es.length:=by have:=h.iss.len;rw[aa]at this;exact this
theorem EnsA.same{H H':Hp}(q:Same H H'):∀{es:List Ent} {vs:List V},EnsA K H es vs->EnsA K H' es vs
 | [],vs,h=>by erw[EnsA]at h ⊢;exact h
 | e::es,vs,h=>by
  erw[EnsA]at h ⊢;let#[v,r,e0,h1,h2]:=h;exact#[v,r,e0,h1.same q,h2.same q]
theorem EnsA.snoc(hv:EnA K H e v):∀{es:List Ent} {vs:List V},EnsA K H es vs->EnsA K H (es ++ [e]) (vs ++ [v])
 | [],vs,h=>by
  erw[EnsA]at h;subst h;erw[bS,EnsA];exact#[v,[],rfl,hv,rfl]
 | e'::es,vs,h=>by
  erw[EnsA]at h;let#[x,r,rfl,hx,hr]:=h;erw[bx,EnsA];exact#[x,r ++ [v],rfl,hx,hr.snoc hv]
theorem EnsA.get : ∀{es:List Ent} {vs:List V} {j:Nat} {v:V},EnsA K H es vs->vs[j]? = BJ v->∃e p s,es[j]? = BJ e/\v=.ref p/\SqT K H p [⇑e.1,⇑e.2.1,.ref s]/\LsA K H s (e.2.2.map dSt)
 | [],vs,j,v,h,q=>by
  erw[EnsA]at h;subst h;simp at q
 | e::es,vs,0,v,h,q=>by
  erw[EnsA]at h;let#[x,r,rfl,#[p,s,rfl,h1,h2],_]:=h;cases q;exact#[e,p,s,rfl,rfl,h1,h2]
 | e::es,vs,j+1,v,h,q=>by
  erw[EnsA]at h;let#[x,r,rfl,_,hr]:=h;exact hr.get (j:=j) ↥q
def EnsL.is(h:EnsL K H a es):Is K H (.lst (es.map dE)) (.ref a):=by
 let#[xs,h1,h2]:=h;erw[Is];exact#[a,xs,rfl,h1,h2.iss]
def EnsL.same{H H':Hp}{a:tG}{es:List Ent}(h:EnsL K H a es)(q:Same H H'):EnsL K H' a es:=by let#[xs,h1,h2]:=h;exact#[xs,q.seq h1,h2.same q]
def EnsM.l(h:EnsM K H a es):EnsL K H a es:=by let#[xs,h1,h2]:=h;exact#[xs,x6 h1,h2]
def EnsM.same{H H':Hp}{a:tG}{es:List Ent}(h:EnsM K H a es)(q:Same H H'):EnsM K H' a es:=by let#[xs,h1,h2]:=h;exact#[xs,q _ _ h1,h2.same q]
def EnA.new{D p s:tG}{H:Hp}{e:Ent}{ys:List V}(hD:H D=BJ (.lst ys))(hp:H p=BJ (.tup [⇑e.1,⇑e.2.1,.ref s]))(hs:LsA K H s (e.2.2.map dSt))(hsD:s≠D):EnA K (kE D H) e (.ref p):=by
 let#[zs,hz,hi]:=hs;have hpD:p≠D:=λz=>by rw[z,hD]at hp;cases hp
 exact#[p,s,rfl,x4 (by rw[wX hpD];exact hp),zs,by rw[wX hsD];exact hz,Vw hD _ _ hi]
def uM(es:List Ent):(zc es).length=es.length:=by unfold zc;rw[aa]
def wD(K:tF):Sp:=λvs H Q Z=>∃(a:tG) (es:List Ent),vs=[.ref a]/\Is K H (.lst (es.map dE)) (.ref a)/\es.length<=1000/\∀(D:tG) (H':Hp),H D=BK->Same H H'->LsA K H' D ((zc es).map dR)->Q (.ref D) H'
def wq(h1:Is K H (.lst (es.map dE)) (.ref a))(h2:es.length<=1000)(h:∀(D:tG) (H':Hp),H D=BK->Same H H'->LsA K H' D ((zc es).map dR)->Q (.ref D) H'):wD K [.ref a] H Q E:=#[a,es,rfl,h1,h2,h]
def Wy:sQz 1 ["entries"] vw:=by nofun
def We(B:Bt mg)(F:("pairs_of"^^^vw)):(1&&&["entries"]) (wD K):=by
 exists F.ok Wy
 ·let#[a,es,rfl,hA,hl,q]:=h;refine#[_,(zg (zk (xB (own:=["entry"]) (caps:=[]) (ix:=[]) (tt:=wP) (te:=(Kg (zO (tOp (jd K) (ym 0) (tC (.int 0))) (zO (tOp (jd K) (ym 0) (tC (.int 1))) xI)))) rfl (zS (sc:=zi vw) rfl (!0) (!0) (!0) rfl (!0) (!0) rfl) (yv (pv 0)) (λZ Z Z Z Z Z=>zq (i:=0) (show List.Nodup [_] by decide) rfl (.inl rfl)) (λZ Z Z Z Z Z=>yP) (λZ Z Z Z Z Z=>(zN (za (!-0) (za (!-0) ze))))))),?_];have s16:=zU;rfl';erw[Is]at hA;let#[_,xs,e,hX,hI]:=hA;cases e;have hxl:=hI.len;rw[aa]at hxl;have hpl:=uM es;refine#[#[xs,hX],λD hD=>jb1 (xs:=xs) (λi acc H'=>Same H H'/\H' D=BJ (.lst acc)/\Iss K H' (((zc es).take i).map dR) acc) #[zf hD,zd,by erw[cq,aJ,Iss]] (λi acc H' Z h=>h.1.seq hX) ?_ ?_]
  ·refine nm4 ?_;rintro i x acc H' hx ⟨hs,hH,hA⟩:_;have hi:=(BP.mp hx).1;let#[e,pe,se,hei,rfl,hqe,_]:=WO hI hx;have hm:(zc es)[i]? = BJ (e.1,e.2.1):=by unfold zc;rw[au,hei];rfl
   have hal:=hA.len;rw[aa,aL]at hal;right;erw[wP];rfl';refine#[xH,_,zy hs hqe,_,rfl,_,zy hs hqe,_,rfl,⋯,λp hp=>#[zf hp _ _ hH,⋯,ja0 hi #[zI (hs.trans (zf hp)) hD,zd,?_]]];rw[yb hm,ar];exact qS hH hA hp V0 (WJ _) (by erw[z8,xw,and_self])
  ·refine nmB ?_;rintro acc H' ⟨hs,hH,hA⟩:_;rw[hxl,<- hpl,aP]at hA;right;exact q D H' hD hs #[acc,hH,hA]
def yw(k:Nat)(l:())(ns:List Int)(e:Ent):Ent:=if zM k l ns e.2.1 e.1=BL then e else (e.2.1,e.1,yI e.2.2)
structure EB(l:())(e:Ent):Prop where
 a:e.1.length<=60
 b:e.2.1.length<=60
 s:e.2.2.length<=600
 ma:∀c ∈ e.1,c ∈ l
 mb:∀c ∈ e.2.1,c ∈ l
def EB.rule(h:EB l e):EB l (yw k l ns e):=by
 unfold yw;split
 ·exact h
 ·exact#[h.b,h.a,by rw[yK];exact h.s,h.mb,h.ma]
def wS(K:tF)(CO CR CW:tG):Sp:=λvs H Q Z=>∃(o p s:tG) (k:Nat) (l:()) (ns:List Int) (e:Ent),vs=[.ref o,.ref p]/\OrdAt CO CR CW H o k l ns/\OG l ns k/\SqT K H p [⇑e.1,⇑e.2.1,.ref s]/\Is K H (.lst (e.2.2.map dSt)) (.ref s)/\EB l e /\
 (yw k l ns e=e->∀H',Same H H'->Q (.ref p) H') /\
 (∀(p' s':tG) (H':Hp),Same H H'->H s'=BK->H' p'=BJ (.tup [⇑(yw k l ns e).1,⇑(yw k l ns e).2.1,.ref s'])->LsA K H' s' ((yw k l ns e).2.2.map dSt)->Q (.ref p') H')
def Zb{CO CR CW o p s:tG}(h1:OrdAt CO CR CW H o k l ns)(h2:OG l ns k)(h3:SqT K H p [⇑e.1,⇑e.2.1,.ref s])(h4:Is K H (.lst (e.2.2.map dSt)) (.ref s))(h5:EB l e)(h6:yw k l ns e=e->∀H',Same H H'->Q (.ref p) H')(h7:∀(p' s':tG) (H':Hp),Same H H'->H s'=BK->H' p'=BJ (.tup [⇑(yw k l ns e).1,⇑(yw k l ns e).2.1,.ref s'])->LsA K H' s' ((yw k l ns e).2.2.map dSt)->Q (.ref p') H'):wS K CO CR CW [.ref o,.ref p] H Q E :=
 #[o,p,s,k,l,ns,e,rfl,h1,h2,h3,h4,h5,h6,h7]
def Uj:sQz 2 ["order","entry"] ju:=by nofun
def Uo{f CO CR CW:tG}(B:Bt mg)(DBk:DB P w K mg base CO CR CW)(F:("as_rule"^^^ju))(mT:(1<<<"back") ["steps"] [] (qj K)):(4&&&["order","entry"]) (wS K CO CR CW):=by
 exists F.ok Uj
 ·let#[o,p,s,k,l,ns,e,rfl,ho,hG,hp,hs,hE,q1,q2]:=h
  refine#[_,(zG (zJ (yB (zdX DBk hr (pv 0) (za (!-1) (za (!-1) ze))) (λZ=>rfl)) (zg (zk (pv 1)))
    zp) (zg (zk (zN (za (!-1) (za (!-1) (za (cl0 mT hr .nil rfl (za (!-1) ze)) ze))))))),?_]
  have s16:=zU;ac_rfl;let#[C,dx,fs,hf,ho1,hn,_]:=ho.fam;have h1:fs.lookup ("before" : tK)=BK:=hn _ ∅ ∅;refine#[C,hf,dx,fs,ho1,h1,_,hp,_,rfl,_,hp,_,rfl,o,k,l,ns,e.2.1,e.1,rfl,ho,hG,by have:=hE.b;lia,by have:=hE.a;lia,hE.mb,hE.ma,λH1 s1=>#[_,rfl,yd (λh=>?_) λh=>?_]]
  ·exact q1 (by unfold yw;rw[y9 h]) H1 s1
  ·have er:yw k l ns e=(e.2.1,e.1,yI e.2.2):=by unfold yw;rw[z9 h]
   rw[er]at q2;have hp1:=zy s1 hp;refine#[_,hp1,_,rfl,_,hp1,_,rfl,_,hp1,_,rfl,qQ (Is.same s1 _ _ hs) (by have:=hE.s;lia) λD H2 hD s2 hL=>#[⋯,λt ht=>?_]];exact q2 t D _ (s1.trans (s2.trans (zf ht))) (s1.free hD) zd (hL.same (zf ht))
def X4{w:()}(hb:∀n ∈ ns,1<=n/\n<=1000000):0<=jt l ns w:=by
 unfold jt
 have key:∀xs:List Int,(∀x ∈ xs,0<=x)->0<=xs.sum:=by
  intro xs
  induction xs with
  | nil=>intro _;simp
  | cons x xs ih =>
   intro h;rw[aQ];have h1:=h x aC;have h2:=ih λy hy=>h y (aw _ hy);lia
 refine key _ λx hx=>?_;let#[p,hp,rfl]:=BQ.mp hx;have h1:=(hb p.2 (dH (show (p.1,p.2) ∈ l.zip ns from hp)).2).1;exact Int.mul_nonneg ⋯ ⋯
def Ji(hb:∀n ∈ ns,1<=n/\n<=1000000)(h:zM k l ns u v=BL):v≠[]:=by
 intro e;subst e
 have h0:zA k l ns []=0:=by
  unfold zA;split
  ·unfold jt
   have z:∀xs:List (Nat × Int),(xs.map λp=>(([]:()).count p.1:Int) * p.2).sum=0:=by
    intro xs
    induction xs with
    | nil=>rfl
    | cons x xs ih=>rw[ao,aQ,ih];simp
   exact z _
  ·rfl
 have h1:0<=zA k l ns u:=by
  unfold zA;split
  ·exact X4 hb
  ·lia
 have h2:um k l []=[]:=by
  unfold um yY;split <;> rfl
 unfold zM at h;rw[h0,h2]at h;split at h
 ·cases hr:um k l u with
  | nil=>rw[hr]at h;cases h
  | cons a r=>rw[hr]at h;cases h
 ·have:=w9 h;lia
def jK(hE:EB l e)(hne:e.1≠e.2.1):zM k l ns (yw k l ns e).2.1 (yw k l ns e).1=BL:=by
 unfold yw;by_cases h:zM k l ns e.2.1 e.1=BL
 ·rw[y9 h];exact h
 ·rw[z9 h];have:=jR (k:=k) (ns:=ns) hE.ma hE.mb hne;show zM k l ns e.1 e.2.1=BL;rw[this];simpa using h
def ql(k:Nat)(l:())(ns:List Int)(es:List Ent):List Ent:=(es.filter λe=>!decide (e.1=e.2.1)).map (yw k l ns)
def zdm(k:Nat)(l:())(ns:List Int)(es fs:List Ent):ql k l ns (es ++ fs)=ql k l ns es ++ ql k l ns fs:=by unfold ql;rw[dk,ar]
def Wd(k:Nat)(l:())(ns:List Int)(es:List Ent):(ql k l ns es).length<=es.length:=by unfold ql;rw[aa];exact dw _ _
def ZY(k:Nat)(l:())(ns:List Int)(a b:Ent):Bool:=if a.1=b.1 then zM k l ns a.2.1 b.2.1 else zM k l ns a.1 b.1
structure Lined(k:Nat)(l:())(ns:List Int)(es zs:List Ent):Prop where
 perm:zs.Perm (ql k l ns es)
 srt:zs.Pairwise λa b=>ZY k l ns b a=BM
 is:zs=L3.srt (ZY k l ns) ([],[],[]) (ql k l ns es)
structure zD(ps:List zK)(w:())(i:Nat):Prop where
 live:VH ps w i
 end_:zC (wAt ps w i) ps=BK
 most:i<=40
def zdB(ps:List zK)(w:()):(∃i,zD ps w i)\/(VH ps w 40/\zC (wAt ps w 40) ps≠BK):=by
 have key:∀n,n<=41->(∃i,zD ps w i)\/VH ps w n:=by
  intro n
  induction n with
  | zero=>intro _;exact .inr λi h=>y6 h (bI i)
  | succ n ih =>
   intro hn;rcases ih ⋯ with h | h
   ·exact .inl h
   ·cases e:zC (wAt ps w n) ps with
    | none=>exact .inl #[n,h,e,⋯]
    | some u =>
     refine .inr λi hi=>?_;by_cases hin:i=n
     ·rw[hin,e];intro z;cases z
     ·exact h i ⋯
 rcases key 41 (ak _)with h | h
 ·exact .inl h
 ·exact .inr #[λi hi=>h i ⋯,h 40 ∅]
def stS(us:List (Nat × Nat)):List Stp:=us.map λu=>((u.1:Int),(u.2:Int),BL)
def yC(bs:List Ent)(e:Ent)(i j:Nat):Ent:=(wAt (zc bs) e.1 i,wAt (zc bs) e.2.1 j,byL bs (yI (stS (sAt (zc bs) e.1 i))) ++ e.2.2 ++ byL bs (stS (sAt (zc bs) e.2.1 j)))
def qM(e:Ent):Prop:=240<e.2.2.length\/60<e.1.length\/60<e.2.1.length
inductive xv(k:Nat)(l:())(ns:List Int):List Ent->List Ent->Option (List Ent)->Prop where
 | nil (bs:List Ent):xv k l ns bs [] (BJ bs)
 | same {bs es:List Ent} {e:Ent} {i j:Nat} {r:Option (List Ent)} (h1:zD (zc bs) e.1 i) (h2:zD (zc bs) e.2.1 j) (h3:wAt (zc bs) e.1 i=wAt (zc bs) e.2.1 j) (h4:xv k l ns bs es r):xv k l ns bs (e::es) r
 | new {bs es:List Ent} {e:Ent} {i j:Nat} {r:Option (List Ent)} (h1:zD (zc bs) e.1 i) (h2:zD (zc bs) e.2.1 j) (h3:wAt (zc bs) e.1 i≠wAt (zc bs) e.2.1 j) (h4:¬ qM (yC bs e i j)) (h5:xv k l ns (bs ++ [yw k l ns (yC bs e i j)]) es r):xv k l ns bs (e::es) r
 | far {bs es:List Ent} {e:Ent} {i j:Nat} (h1:zD (zc bs) e.1 i) (h2:zD (zc bs) e.2.1 j) (h3:wAt (zc bs) e.1 i≠wAt (zc bs) e.2.1 j) (h4:qM (yC bs e i j)):xv k l ns bs (e::es) BK
 | stuck {bs es:List Ent} {e:Ent} (h:(∀i,¬ zD (zc bs) e.1 i)\/(∀j,¬ zD (zc bs) e.2.1 j)):xv k l ns bs (e::es) BK
inductive uS(k:Nat)(l:())(ns:List Int):Nat->List Ent->Option (List Ent)->Prop where
 | out (es:List Ent):uS k l ns 0 es BK
 | bad {n:Nat} {es zs:List Ent} (h1:Lined k l ns es zs) (h2:xv k l ns [] zs BK):uS k l ns (n+1) es BK
 | done {n:Nat} {es zs bs:List Ent} (h1:Lined k l ns es zs) (h2:xv k l ns [] zs (BJ bs)) (h3:zc bs=zc zs):uS k l ns (n+1) es (BJ bs)
 | more {n:Nat} {es zs bs:List Ent} {r:Option (List Ent)} (h1:Lined k l ns es zs) (h2:xv k l ns [] zs (BJ bs)) (h3:zc bs≠zc zs) (h4:uS k l ns n bs r):uS k l ns (n+1) es r
def xj{w:()}(h:zC w ps=BJ u):∃p,ps[u.1]? = BJ p/\zv w (u.2:Int) p.1=BL:=by have hm:u ∈ xp w ps w.length:=List.mem_of_mem_head? (by unfold zC at h;rw[h];rfl);exact (vS (usesK_mem.mp hm).2).2
theorem uT{l w:()}(hw:∀c ∈ w,c ∈ l)(hp:∀p ∈ ps,∀c ∈ p.2,c ∈ l):∀j,∀c ∈ wAt ps w j,c ∈ l
 | 0=>hw
 | j+1=>by
  have ih:=uT hw hp j
  cases e:zC (wAt ps w j) ps with
  | none =>
   show ∀c ∈ Xw ps (wAt ps w j),c ∈ l;unfold Xw;rw[e];exact ih
  | some u =>
   let#[p,h1,h2]:=xj e;rw[wB e];unfold qr yZ;rw[wk h1];intro c hc;rcases BS.mp hc with hc | hc
   ·rcases BS.mp hc with hc | hc
    ·exact ih c (bu hc)
    ·exact hp p (ag h1) c hc
   ·exact ih c (dg hc)
structure Ke(R:()->()->Prop):Prop where
 refl:∀u,R u u
 symm:∀{u v},R u v->R v u
 trans:∀{u v w},R u v->R v w->R u w
 ctx:∀{u v} (a b:()),R u v->R (a ++ u ++ b) (a ++ v ++ b)
def Within(p w:()):Prop:=∃a b:(),w=a ++ p ++ b
def Jk{w p:()}(h:Within p w):∃q:Nat,zv w (q:Int) p=BL:=by let#[a,b,rfl]:=h;refine#[a.length,?_];unfold zv;refine y3 #[⋯,by erw[am];lia,?_];rw[aO,aS,List.drop_left,List.take_left]
def Q1{w:()}(hN:NeL ps)(h:zC w ps=BK):∀p ∈ ps,¬ Within p.1 w:=λp hp hw=>by
 let#[q,hq]:=Jk hw;let#[j,hj]:=Cg.mp hp;have hlt:=kd (hN p hp) hq;have hs:stJ w ps q j=BL:=by rw[Zq hj];exact hq
 have:(j,q) ∈ xp w ps w.length:=usesK_mem.mpr #[hlt,hs];unfold zC at h;rw[List.head?_eq_none_iff]at h;rw[h]at this;cases this
structure RL(k:Nat)(l:())(ns:List Int)(bs:List Ent):Prop where
 e:∀e ∈ bs,EB l e
 lt:∀e ∈ bs,zM k l ns e.2.1 e.1=BL
def zaa{w:()}(G:OG l ns k)(hp:∀p ∈ ps,zM k l ns p.2 p.1=BL/\(∀c ∈ p.1,c ∈ l)/\∀c ∈ p.2,c ∈ l)(hw:∀c ∈ w,c ∈ l)(h:zC w ps=BJ u):zM k l ns (qr w ps u) w=BL:=by let#[p,h1,h2]:=xj h;let#[e1,_]:=xf h2;let#[p1,p2,p3]:=hp p (ag h1);unfold qr yZ;rw[wk h1];have ha:∀c ∈ w.take ((u.2:Int)).toNat,c ∈ l:=λc hc=>hw c (bu hc);have hb:∀c ∈ w.drop (((u.2:Int)).toNat+p.1.length),c ∈ l:=λc hc=>hw c (dg hc);generalize w.take ((u.2:Int)).toNat=a at *;generalize w.drop (((u.2:Int)).toNat+p.1.length)=b at *;rw[<- e1];have ap:∀x:(),(∀c ∈ x,c ∈ l)->∀c ∈ a ++ x,c ∈ l:=λx hx c hc=>(BS.mp hc).elim (ha c) (hx c);rw[(Xz G hb (ap p.2 p3) (ap p.1 p2)).2,(Xz G ha p3 p2).1];exact p1
theorem za1{w:()}(G:OG l ns k)(hp:∀p ∈ ps,zM k l ns p.2 p.1=BL/\(∀c ∈ p.1,c ∈ l)/\∀c ∈ p.2,c ∈ l)(hw:∀c ∈ w,c ∈ l):∀j,wAt ps w j=w\/zM k l ns (wAt ps w j) w=BL
 | 0=>.inl rfl
 | j+1=>by
  have ih:=za1 G hp hw j;have hm:=uT hw (λp hp'=>(hp p hp').2.2) j
  cases e:zC (wAt ps w j) ps with
  | none =>
   show Xw ps (wAt ps w j)=w\/zM k l ns (Xw ps (wAt ps w j)) w=BL;unfold Xw;rw[e];exact ih
  | some u =>
   rw[wB e];have h:=zaa G hp hm e;rcases ih with h' | h'
   ·rw[h']at h ⊢;exact .inr h
   ·exact .inr (jM h h')
def RL.pairs(h:RL k l ns bs):∀p ∈ zc bs,zM k l ns p.2 p.1=BL/\(∀c ∈ p.1,c ∈ l)/\∀c ∈ p.2,c ∈ l:=λp hp=>by
 unfold zc at hp;let#[e,he,rfl]:=BQ.mp hp;exact#[h.lt e he,(h.e e he).ma,(h.e e he).mb]
def RL.ne(h:RL k l ns bs)(G:OG l ns k):NeL (zc bs):=λp hp=>Ji G.nb (h.pairs p hp).1
def RL.snoc(h:RL k l ns bs)(hd:EB l d)(hne:d.1≠d.2.1):RL k l ns (bs ++ [yw k l ns d]):=by
 refine#[λe he=>?_,λe he=>?_]
 ·rcases BS.mp he with he | he
  ·exact h.e e he
  ·rw[BV.mp he];exact hd.rule
 ·rcases BS.mp he with he | he
  ·exact h.lt e he
  ·rw[BV.mp he];exact jK hd hne
def zc0(hB:RL k l ns bs)(hE:EB l e)(hF:¬ qM (yC bs e i j)):EB l (yC bs e i j):=by unfold qM at hF;exact#[⋯,⋯,⋯,uT hE.ma (λp hp=>(hB.pairs p hp).2.2) i,uT hE.mb (λp hp=>(hB.pairs p hp).2.2) j]
def Uh(G:OG l ns k)(hB:RL k l ns bs)(hE:EB l e)(hlt:zM k l ns e.2.1 e.1=BL)(h1:zD (zc bs) e.1 i)(h2:zD (zc bs) e.2.1 j)(hp1:(yw k l ns (yC bs e i j)).1=e.1)(hp2:(yw k l ns (yC bs e i j)).2.1=e.2.1):zC e.1 (zc bs)=BK/\zC e.2.1 (zc bs)=BK:=by
 unfold yw at hp1 hp2;by_cases h:zM k l ns (yC bs e i j).2.1 (yC bs e i j).1=BL
 ·rw[y9 h]at hp1 hp2;have a1:wAt (zc bs) e.1 i=e.1:=hp1;have a2:wAt (zc bs) e.2.1 j=e.2.1:=hp2;have b1:=h1.end_;have b2:=h2.end_;rw[a1]at b1;rw[a2]at b2;exact#[b1,b2]
 ·rw[z9 h]at hp1 hp2;have a1:wAt (zc bs) e.2.1 j=e.1:=hp1;rcases za1 G hB.pairs hE.mb j with h' | h'
  ·rw[a1]at h';rw[h',xO]at hlt;cases hlt
  ·rw[a1]at h';rw[Wa h']at hlt;cases hlt
theorem Zl(G:OG l ns k)(h:xv k l ns bs es r):∀fs,r=BJ fs->RL k l ns bs->RL k l ns es->∃gs,fs=bs ++ gs/\gs.length<=es.length/\RL k l ns fs /\
  (zc gs=zc es->∀i e,es[i]? = BJ e->zC e.1 (zc (bs ++ gs.take i))=BK/\zC e.2.1 (zc (bs ++ gs.take i))=BK):=by
 induction h with
 | nil bs =>
  intro fs er hb he;cases er;exact#[[],by simp,ak _,hb,λZ i e h=>by simp at h]
 | @same bs es e i j r h1 h2 h3 h4 ih =>
  intro fs er hb he;let#[gs,g1,g2,g3,g4]:=ih fs er hb #[λx hx=>he.e x (aw _ hx),λx hx=>he.lt x (aw _ hx)];refine#[gs,g1,by rw[aF];lia,g3,λhp=>?_];have:=congrArg gu hp;unfold zc at this;rw[aa,aa,aF]at this;lia
 | @new bs es e i j r h1 h2 h3 h4 h5 ih =>
  intro fs er hb he;have hEe:=he.e e aC;have hd:=zc0 hb hEe h4;let#[gs,g1,g2,g3,g4]:=ih fs er (hb.snoc hd h3) #[λx hx=>he.e x (aw _ hx),λx hx=>he.lt x (aw _ hx)];refine#[yw k l ns (yC bs e i j)::gs,by rw[g1,aS];rfl,by rw[aF,aF];lia,g3,λhp n x hx=>?_];unfold zc at hp;rw[ao,ao]at hp;injection hp with hp1 hp2;have hp1a:=(Prod.ext_iff.mp hp1).1;have hp1b:=(Prod.ext_iff.mp hp1).2
  cases n with
  | zero =>
   have e0:e=x:=by simpa using hx
   subst e0;rw[cq,aZ];exact Uh G hb hEe (he.lt _ aC) h1 h2 hp1a hp1b
  | succ n =>
   have:=g4 hp2 n x ↥hx;rw[aS]at this;rw[dB];exact this
 | far=>intro fs e;cases e
 | stuck=>intro fs e;cases e
def qp(G:OG l ns k){p w:()}(hw:∀c ∈ w,c ∈ l)(h:Within p w):p=w\/zM k l ns p w=BL:=by
 let#[a,b,rfl]:=h;by_cases e:a ++ p ++ b=p
 ·exact .inl e.symm
 ·refine .inr (Ko G (λc hc=>hw c ?_) (λc hc=>hw c ?_) (λc hc=>hw c ?_) e).1
  ·exact bL _ (bL _ hc)
  ·exact bL _ (aH _ hc)
  ·exact aH _ hc
structure ThinL(k:Nat)(l:())(ns:List Int)(zs:List Ent):Prop where
 rl:RL k l ns zs
 up:∀(i j:Nat) (a b:Ent),zs[i]? = BJ a->zs[j]? = BJ b->i<j->zM k l ns a.1 b.1=BL
 no1:∀(i j:Nat) (a b:Ent),zs[i]? = BJ a->zs[j]? = BJ b->i≠j->¬ Within b.1 a.1
 no2:∀(i j:Nat) (a b:Ent),zs[i]? = BJ a->zs[j]? = BJ b->¬ Within b.1 a.2.1
def zcz(G:OG l ns k)(hz:RL k l ns zs)(hs:zs.Pairwise λa b=>ZY k l ns b a=BM)(h:xv k l ns [] zs (BJ bs))(hp:zc bs=zc zs):ThinL k l ns zs:=by
 let#[gs,g1,g2,g3,g4]:=Zl G h bs rfl #[λe he=>(nomatch he),λe he=>(nomatch he)] hz;rw[bS]at g1;subst g1;have irr:=g4 hp;erw[bS]at irr
 have early:∀(i j:Nat) (a b:Ent),zs[i]? = BJ a->zs[j]? = BJ b->j<i->¬ Within b.1 a.1/\¬ Within b.1 a.2.1:=λi j a b ha hb hj=>by
  have hm:(b.1,b.2.1) ∈ zc (bs.take i):=by
   have e1:zc (bs.take i)=(zc zs).take i:=by
    rw[<- hp];unfold zc;rw[d4]
   rw[e1];refine Cg.mpr #[j,?_];rw[dh hj];unfold zc;rw[au,hb];rfl
  have hN:NeL (zc (bs.take i)):=λp hp'=>by
   refine (g3.ne G) p ?_;unfold zc at hp' ⊢;let#[x,hx,rfl]:=BQ.mp hp';exact BQ.mpr #[x,bu hx,rfl]
  let#[f1,f2]:=irr i a ha;exact#[Q1 hN f1 _ hm,Q1 hN f2 _ hm]
 have later:∀(i j:Nat) (a b:Ent),zs[i]? = BJ a->zs[j]? = BJ b->i<j->zM k l ns b.1 a.1=BM:=λi j a b ha hb hij=>by
  have hi:=(BP.mp ha);have hj:=(BP.mp hb);have:=List.pairwise_iff_getElem.mp hs i j hi.1 hj.1 hij;rw[hi.2,hj.2]at this;unfold ZY at this;by_cases e:b.1=a.1
  ·rw[e,xO]
  ·rw[z9 e]at this;exact this
 have memz:∀{i:Nat} {a:Ent},zs[i]? = BJ a->EB l a/\zM k l ns a.2.1 a.1=BL:=λ{i a} ha=>#[hz.e _ (ag ha),hz.lt _ (ag ha)]
 have up:∀(i j:Nat) (a b:Ent),zs[i]? = BJ a->zs[j]? = BJ b->i<j->zM k l ns a.1 b.1=BL:=λi j a b ha hb hij=>by
  have hne:a.1≠b.1:=λe=>(early j i b a hb ha hij).1 #[[],[],by rw[e];simp];have t:=jR (k:=k) (ns:=ns) (memz ha).1.ma (memz hb).1.ma hne;rw[later i j a b ha hb hij]at t;simpa using t
 refine#[hz,up,λi j a b ha hb hij=>?_,λi j a b ha hb hw=>?_]
 ·rcases Nat.lt_or_gt_of_ne hij with h1 | h1
  ·intro hw;rcases qp G (memz ha).1.ma hw with e | e
   ·have:=up i j a b ha hb h1;rw[e,xO]at this;cases this
   ·rw[later i j a b ha hb h1]at e;cases e
  ·exact (early i j a b ha hb h1).1
 ·have hle:zM k l ns b.1 a.1=BL:=by
   rcases qp G (memz ha).1.mb hw with e | e
   ·rw[e];exact (memz ha).2
   ·exact jM e (memz ha).2
  rcases e8 i j with h1 | h1 | h1
  ·rw[later i j a b ha hb h1]at hle;cases hle
  ·subst h1;rw[ha]at hb;cases hb;rw[xO]at hle;cases hle
  ·exact (early i j a b ha hb h1).2 hw
theorem uk{w:()}:∀{i:Nat},VH ps w i->z7 ps w (stS (sAt ps w i))=BJ (wAt ps w i)
 | 0,_=>rfl
 | i+1,h=>by
  have ih:=uk (i:=i) λj hj=>h j ⋯;have hne:=h i ⋯
  cases e:zC (wAt ps w i) ps with
  | none=>exact y6 e hne
  | some u =>
   rw[Vd,wB e,e];unfold stS at ih ⊢;rw[ar];refine jJ ih ?_;let#[p,h1,h2]:=xj e;have hl:=(BP.mp h1).1;show yx ps (wAt ps w i) ((u.1:Int),(u.2:Int),BL)=_;rw[yL (by show (0:Int)<=(u.1:Int)/\(u.1:Int)<ps.length;lia)];have e2:ps.getD ((u.1:Int)).toNat ([],[])=p:=by rw[aO,ac,h1];rfl
   show (if zv (wAt ps w i) (u.2:Int) (sdl (ps.getD ((u.1:Int)).toNat ([],[])) BL).1=BL then _ else BK)=_;rw[e2,y9 (show zv (wAt ps w i) (u.2:Int) (sdl p BL).1=BL from h2)];unfold qr;rw[wk h1];rfl
def Jc(h:EOk rs e):EOk rs (yw k l ns e):=by
 unfold yw;split
 ·exact h
 ·exact vj h
def zcK(hb:∀e ∈ bs,EOk rs e)(he:EOk rs e)(h1:zD (zc bs) e.1 i)(h2:zD (zc bs) e.2.1 j):EOk rs (yC bs e i j):=by have w1:=jD hb (vj (uk h1.live));have w2:=jD hb (uk h2.live);have he':z7 rs e.1 e.2.2=BJ e.2.1:=he;show z7 rs (wAt (zc bs) e.1 i) (byL bs (yI (stS (sAt (zc bs) e.1 i))) ++ e.2.2 ++ byL bs (stS (sAt (zc bs) e.2.1 j)))=BJ (wAt (zc bs) e.2.1 j);rw[xP,xP,w1,cC,he',cC];exact w2
theorem VB(h:xv k l ns bs es r):∀fs,r=BJ fs->(∀e ∈ bs,EOk rs e)->(∀e ∈ es,EOk rs e)->∀e ∈ fs,EOk rs e:=by
 induction h with
 | nil bs=>intro fs er hb _;cases er;exact hb
 | @same bs es e i j r h1 h2 h3 h4 ih=>intro fs er hb he;exact ih fs er hb λx hx=>he x (aw _ hx)
 | @new bs es e i j r h1 h2 h3 h4 h5 ih =>
  intro fs er hb he;refine ih fs er (λx hx=>?_) λx hx=>he x (aw _ hx);rcases BS.mp hx with hx | hx
  ·exact hb x hx
  ·rw[BV.mp hx];exact Jc (zcK hb (he e aC) h1 h2)
 | far=>intro fs e;cases e
 | stuck=>intro fs e;cases e
def VC(h:Lined k l ns es zs)(he:∀e ∈ es,EOk rs e):∀e ∈ zs,EOk rs e:=λe hz=>by
 have hm:=h.perm.mem_iff.mp hz;unfold ql at hm;let#[y,hy,rfl]:=BQ.mp hm;exact Jc (he y (BY.mp hy).1)
def WM(h:Lined k l ns es zs)(he:∀e ∈ es,EB l e):RL k l ns zs:=by
 have key:∀e ∈ zs,∃y,EB l y/\y.1≠y.2.1/\e=yw k l ns y:=λe hz=>by
  have hm:=h.perm.mem_iff.mp hz;unfold ql at hm;let#[y,hy,rfl]:=BQ.mp hm;let#[h1,h2]:=BY.mp hy;exact#[y,he y h1,by simpa using h2,rfl]
 refine#[λe hz=>?_,λe hz=>?_]
 ·let#[y,h1,_,rfl]:=key e hz;exact h1.rule
 ·let#[y,h1,h2,rfl]:=key e hz;exact jK h1 h2
def KB(G:OG l ns k)(hz:RL k l ns zs)(h:xv k l ns [] zs (BJ bs)):RL k l ns bs:=by let#[gs,g1,g2,g3,g4]:=Zl G h bs rfl #[λe he=>(nomatch he),λe he=>(nomatch he)] hz;exact g3
theorem WS(G:OG l ns k)(h:uS k l ns n es r):∀fs,r=BJ fs->(∀e ∈ es,EB l e)->(∀e ∈ es,EOk rs e)->(∀e ∈ fs,EOk rs e)/\∃zs,ThinL k l ns zs/\zc fs=zc zs:=by
 induction h with
 | out=>intro fs e;cases e
 | bad=>intro fs e;cases e
 | @done n es zs bs h1 h2 h3 =>
  intro fs er he ho;cases er;have hz:=WM h1 he;exact#[VB h2 bs rfl (λe h=>(nomatch h)) (VC h1 ho),zs,zcz G hz h1.srt h2 h3,h3]
 | @more n es zs bs r h1 h2 h3 h4 ih =>
  intro fs er he ho;have hz:=WM h1 he;exact ih fs er (KB G hz h2).e (VB h2 bs rfl (λe h=>(nomatch h)) (VC h1 ho))
def rankF:KeyFam (Int × List Int):=#[λr=>[.int r.1,.lst (r.2.map L3.D.int)],λa b=>if a.1=b.1 then ltI a.2 b.2 else decide (a.1<b.1),BL,(0,[])]
def KL(h:ltI x y=BL):ltI y x=BM:=by
 by_cases e:x=y
 ·subst e;rw[xA]at h;cases h
 ·have:=wT e;rw[h]at this;simpa using this.symm
theorem zb7(h1:ltI y x=BM)(h2:ltI z y=BM):ltI z x=BM:=by
 cases h:ltI z x with
 | false=>rfl
 | true =>
  by_cases e:y=x
  ·subst e;rw[h2]at h;cases h
  ·have h3:=wT e;rw[h1]at h3;have h4:ltI x y=BL:=by simpa using h3.symm
   rw[jG h h4]at h2;cases h2
def rankF_ok:rankF.Ok where
 w:=#[λa b h=>by
   erw[rankF]at h ⊢;by_cases e:a.1=b.1
   ·rw[y9 e]at h;rw[y9 e.symm];exact KL h
   ·rw[z9 e]at h;rw[z9 (λz=>e z.symm)];have:=w9 h;exact y4 ⋯,
  λa b c h1 h2=>by
   erw[rankF]at h1 h2 ⊢;by_cases e:b.1=a.1
   ·rw[y9 e]at h1;rw[e]at h2;by_cases f:c.1=a.1
    ·rw[y9 f]at h2 ⊢;exact zb7 h1 h2
    ·rw[z9 f]at h2 ⊢;exact h2
   ·rw[z9 e]at h1;have h1':=of_decide_eq_false h1;by_cases f:c.1=b.1
    ·rw[z9 ⋯];exact y4 ⋯
    ·rw[z9 f]at h2;have h2':=of_decide_eq_false h2;rw[z9 ⋯]
     exact y4 ⋯]
 eq:=λa b=>by
  have:=QH a.1 b.1 a.2 b.2;erw[ltD]at this;exact this
 ok:=λa b=>by erw[rankF,Yz,okD];exact#[trivial,j9 _ _,trivial]
 dp:=λa=>by erw[rankF,dpD,ui,XQ];decide
 sh:=λa=>#[_,_,rfl,.inl #[rfl,_,rfl]]
def zdS(k:Nat)(l:())(ns:List Int)(w:()):Int × List Int:=(zA k l ns w,um k l w)
theorem VD : ∀{ds:List L3.D} {vs:List V},Iss K H ds vs->Is K H d v->Iss K H (ds ++ [d]) (vs ++ [v])
 | [],vs,h,hv=>by
  erw[Iss]at h;subst h;erw[bS,Iss];exact#[v,[],rfl,hv,rfl]
 | e::ds,vs,h,hv=>by
  erw[Iss]at h;let#[x,r,rfl,hx,hr]:=h;erw[bx,Iss];exact#[x,r ++ [v],rfl,hx,VD hr hv]
def OrdAt.samT{T CO CR CW:tG}(h:OrdAt CO CR CW H o k l ns)(s:SamT T H H')(hT:H T=BJ (.tbl ps)):OrdAt CO CR CW H' o k l ns:=by
 obtain⟨dx,⟨h1,h2⟩ | ⟨h1,h2⟩ | ⟨h1,h2,w,h3,h4⟩⟩:=h
 ·exact#[dx,.inl #[h1,s.at hT h2 λZ z=>by cases z]]
 ·exact#[dx,.inr (.inl #[h1,s.at hT h2 λZ z=>by cases z])]
 ·exact#[dx,.inr (.inr #[h1,h2,w,s.at hT h3 (λZ z=>by cases z),s.at hT h4 λZ z=>by cases z])]
theorem EnsA.samT(s:SamT T H H')(hT:H T=BJ (.tbl ps)):∀{es:List Ent} {vs:List V},EnsA K H es vs->EnsA K H' es vs
 | [],vs,h=>by erw[EnsA]at h ⊢;exact h
 | e::es,vs,h=>by
  erw[EnsA]at h ⊢;let#[v,r,e0,#[p,s',e1,h1,h2],h3]:=h;exact#[v,r,e0,#[p,s',e1,s.seqT hT h1,h2.samT s hT],EnsA.samT s hT h3]
def Wt(h:a≠b):rankF.lt a b=!rankF.lt b a:=by
 erw[rankF];by_cases e:a.1=b.1
 ·rw[y9 e,y9 e.symm];exact wT λq=>h (Prod.ext e q)
 ·rw[z9 e,z9 λq=>e q.symm];by_cases c:a.1<b.1
  ·rw[y3 c,y4 ⋯];rfl
  ·rw[y4 c,y3 ⋯];rfl
def Jq(a b:Int × List Int):eqD (.tup (rankF.dec a)) (.tup (rankF.dec b))=decide (a=b):=by
 let#[a1,a2]:=a;let#[b1,b2]:=b;erw[rankF,eqD,uI,Xu];by_cases h:a1=b1
 ·by_cases h2:a2=b2
  ·simp [h,h2]
  ·simp [h,h2]
 ·simp [h]
def Vh(a b:Int × List Int):ltD (.tup (rankF.dec a)) (.tup (rankF.dec b))=rankF.lt a b:=by
 erw[ltD];exact rankF_ok.eq a b
def Y2(a:Int × List Int):rankF.lt a a=BM:=by
 erw[rankF];rw[y9 trivial];exact xA _
def pairF:KeyFam ((Int × List Int) × (Int × List Int)):=#[λr=>[.tup (rankF.dec r.1),.tup (rankF.dec r.2)],λa b=>if a.1=b.1 then rankF.lt a.2 b.2 else rankF.lt a.1 b.1,BM,((0,[]),(0,[]))]
def qO(a b:(Int × List Int) × (Int × List Int)):pairF.lt a b=if a.1=b.1 then rankF.lt a.2 b.2 else rankF.lt a.1 b.1:=rfl
def pairF_ok:pairF.Ok where
 w:=#[λa b h=>by
   rw[qO]at h ⊢;by_cases e:a.1=b.1
   ·rw[y9 e]at h;rw[y9 e.symm];exact rankF_ok.w.asym _ _ h
   ·rw[z9 e]at h;rw[z9 λq=>e q.symm];exact rankF_ok.w.asym _ _ h,
  λa b c h1 h2=>by
   rw[qO]at h1 h2 ⊢;by_cases e:b.1=a.1
   ·rw[y9 e]at h1;rw[e]at h2;by_cases f:c.1=a.1
    ·rw[y9 f]at h2 ⊢;exact rankF_ok.w.ntr _ _ _ h1 h2
    ·rw[z9 f]at h2 ⊢;exact h2
   ·rw[z9 e]at h1;by_cases g:c.1=b.1
    ·rw[g,z9 e];exact h1
    ·rw[z9 g]at h2;by_cases f:c.1=a.1
     ·rw[f]at h2;have:=Wt (a:=b.1) (b:=a.1) e;rw[h1,h2]at this;cases this
     ·rw[z9 f]
      exact rankF_ok.w.ntr _ _ _ h1 h2]
 eq:=λa b=>by
  show uh [.tup (rankF.dec a.1),.tup (rankF.dec a.2)] [.tup (rankF.dec b.1),.tup (rankF.dec b.2)]=_;rw[qO,uh,Jq,uh,Jq,Vh,Vh,uh];by_cases e:a.1=b.1
  ·rw[y9 (y3 e),y9 e];by_cases f:a.2=b.2
   ·rw[y9 (y3 f),f,Y2]
   ·rw[z9 ↥f]
  ·rw[z9 ↥e,z9 e]
 ok:=λa b=>by
  show Yz [.tup (rankF.dec a.1),.tup (rankF.dec a.2)] [.tup (rankF.dec b.1),.tup (rankF.dec b.2)];erw[Yz,okD];exact#[rankF_ok.ok _ _,rankF_ok.ok _ _,trivial]
 dp:=λa=>by erw[pairF,rankF,dpD,ui,XQ];decide
 sh:=λa=>#[_,_,rfl,.inr #[rfl,_,rfl]]
def rkE(k:Nat)(l:())(ns:List Int)(e:Ent):(Int × List Int) × (Int × List Int):=(zdS k l ns e.1,zdS k l ns e.2.1)
def zeU(hu:∀c ∈ u,c ∈ l)(hv:∀c ∈ v,c ∈ l):zdS k l ns u=zdS k l ns v ↔ u=v :=
 #[λh=>WN hu hv (Prod.ext_iff.mp h).2,λh=>by rw[h]]
def QG(ha:EB l a)(hb:EB l b):pairF.lt (rkE k l ns a) (rkE k l ns b)=ZY k l ns a b:=by
 rw[qO];unfold ZY;have h:(rkE k l ns a).1=(rkE k l ns b).1 ↔ a.1=b.1:=zeU ha.ma hb.ma;by_cases e:a.1=b.1
 ·rw[y9 (h.mpr e),y9 e];rfl
 ·rw[z9 λq=>e (h.mp q),z9 e];rfl
theorem J4 : ∀{es:List Ent} {vs:List V},EnsA K H es vs->∀t ∈ es.zip vs,EnA K H t.1 t.2
 | [],_,_,t,ht=>by simp at ht
 | e::es,vs,h,t,ht=>by
  erw[EnsA]at h;let#[v,r,rfl,h1,h2]:=h;rw[dO]at ht;rcases BR.mp ht with rfl | ht
  ·exact h1
  ·exact J4 h2 t ht
theorem zaY : ∀{ts:List (Ent × V)},(∀t ∈ ts,EnA K H t.1 t.2)->EnsA K H (ts.map (·.1)) (ts.map (·.2))
 | [],_=>by erw[aJ,EnsA]
 | t::ts,h=>by
  erw[ao,EnsA];exact#[_,_,rfl,h t aC,zaY λu hu=>h u (aw _ hu)]
def XS(hI:EnsA K H es vs)(hE:∀e ∈ es,EB l e)(h1:ys=srt (λp q=>pairF.lt p.1 q.1) d ((es.map (rkE k l ns)).zip vs)) :
  ∃zs:List Ent,zs.Perm es/\zs.Pairwise (λa b=>ZY k l ns b a=BM)/\zs=srt (ZY k l ns) ([],[],[]) es/\EnsA K H zs (ys.map (·.2)):=by
 have hl:=hI.len
 have e0:(es.map (rkE k l ns)).zip vs=(es.zip vs).map λt=>(rkE k l ns t.1,t.2):=by
  rw[List.zip_map_left];rfl
 have W0:WkO λ(p q:((Int × List Int) × (Int × List Int)) × V)=>pairF.lt p.1 q.1:=#[λa b=>pairF_ok.w.asym _ _,λa b c=>pairF_ok.w.ntr _ _ _];have W1:WkO λ(p q:Ent × V)=>pairF.lt (rkE k l ns p.1) (rkE k l ns q.1):=#[λa b=>pairF_ok.w.asym _ _,λa b c=>pairF_ok.w.ntr _ _ _];have W2:WkO λ(p q:Ent)=>pairF.lt (rkE k l ns p) (rkE k l ns q):=#[λa b=>pairF_ok.w.asym _ _,λa b c=>pairF_ok.w.ntr _ _ _];rw[e0,zbT W0 (d':=(λt:Ent × V=>(rkE k l ns t.1,t.2)) (([],[],[]),.non)) (λZ Z Z Z=>rfl)]at h1
 replace h1:=h1.trans (Qh (lt:=λ(p q:((Int × List Int) × (Int × List Int)) × V)=>pairF.lt p.1 q.1) (λt:Ent × V=>(rkE k l ns t.1,t.2)) (([],[],[]),.non) (es.zip vs))
 let#[p,h2]:=zaj W1 (([],[],[]),.non) (es.zip vs)
 have e2:(srt (λ(p q:Ent × V)=>pairF.lt (rkE k l ns p.1) (rkE k l ns q.1)) (([],[],[]),.non) (es.zip vs)).map (·.1)=srt (ZY k l ns) ([],[],[]) es:=by
  rw[<- zbT W2 (d:=([],[],[])) λa ha b hb=>QG (hE a ha) (hE b hb)];have:=Qh (lt:=λ(p q:Ent)=>pairF.lt (rkE k l ns p) (rkE k l ns q)) (λt:Ent × V=>t.1) (([],[],[]),.non) (es.zip vs);rw[List.map_fst_zip ⋯]at this;exact this.symm
 generalize srt (λ(p q:Ent × V)=>pairF.lt (rkE k l ns p.1) (rkE k l ns q.1)) (([],[],[]),.non) (es.zip vs)=ts at h1 h2 p e2;have hm:∀t ∈ ts,t.1 ∈ es:=λt ht=>(dH (show (t.1,t.2) ∈ es.zip vs from p.mem_iff.mp ht)).1;refine#[ts.map (·.1),?_,?_,e2,?_]
 ·have:=p.map (·.1);rw[List.map_fst_zip ⋯]at this;exact this
 ·rw[List.pairwise_map];refine h2.imp_of_mem λ{a b} ha hb h=>?_;rw[<- QG (hE _ (hm _ hb)) (hE _ (hm _ ha))];exact h
 ·rw[h1,bc];exact zaY λt ht=>J4 hI t (p.mem_iff.mp ht)
def tbE(K:tF)(CO CR CW:tG):TE:=Kg (zO (zw (zfu CO CR CW) "rank" (λZ=>jO CO CR CW) [] E0 (ym 1) (zO (tOp (jd K) (ym 0) (tC (.int 0))) xI)) (zO (zw (zfu CO CR CW) "rank" (λZ=>jO CO CR CW) [] E0 (ym 1) (zO (tOp (jd K) (ym 0) (tC (.int 1))) xI)) xI))
def zeX{CO CR CW o p s:tG}(hG:OG l ns k)(ho:OrdAt CO CR CW H o k l ns)(hE:EB l e)(hp:SqT K H p [⇑e.1,⇑e.2.1,.ref s])(q:∀(t:tG) (H':Hp),Same H H'->Is K H' (.tup (pairF.dec (rkE k l ns e))) (.ref t)->Q (.ref t) H'):tbE K CO CR CW [!!p,!!o] H Q:=by
 have s16:=zU;let#[C,dx,fs,hf,ho1,hn,_]:=ho.fam;have h1:fs.lookup ("rank" : tK)=BK:=hn _ ∅ ∅;unfold tbE;ac_rfl;refine#[C,hf,dx,fs,ho1,h1,_,hp,_,rfl,o,k,l,ns,e.1,rfl,ho,hG,by have:=hE.a;lia,hE.ma,λp1 q1 H1 s1 hp1 hq1=>#[C,hf,dx,fs,s1 _ _ ho1,h1,_,zy s1 hp,_,rfl,o,k,l,ns,e.2.1,rfl,ho.same s1,hG,by have:=hE.b;lia,hE.mb,λp2 q2 H2 s2 hp2 hq2=>#[⋯,λt ht=>?_]]];refine q t _ (s1.trans (s2.trans (zf (o:=.tup [.ref p1,.ref p2]) ht))) ?_;show Is K _ (.tup [.tup (rankF.dec (zdS k l ns e.1)),.tup (rankF.dec (zdS k l ns e.2.1))]) (.ref t);refine Is.tup ht ?_;erw[Iss];exact#[_,_,rfl,ZC (s2 _ _ hp1) (s2 _ _ hq1),_,_,rfl,ZC hp2 hq2,rfl]
theorem zba{CO CR CW o:tG}{LA:Hp->Prop}(hG:OG l ns k)(hLA:∀H H',LA H->Same H H'->LA H'):∀(es:List Ent) (vs acc:List V) (rs:List ((Int × List Int) × (Int × List Int))) (H:Hp),LA H->OrdAt CO CR CW H o k l ns->(∀e ∈ es,EB l e)->EnsA K H es vs ->
  Iss K H (rs.map λa=>.tup (pairF.dec a)) acc->(∀acc' H',Same H H'->Iss K H' ((rs ++ es.map (rkE k l ns)).map λa=>.tup (pairF.dec a)) acc'->Qf acc' H')->qw (λx H Q=>LA H/\tbE K CO CR CW [BJ x,!!o] H Q) vs acc H Qf
 | [],vs,acc,rs,H,hL,ho,hw,hV,hI,h=>by
  erw[EnsA]at hV;subst hV;exact h acc H (x9 _) ↥hI
 | e::es,vs,acc,rs,H,hL,ho,hw,hV,hI,h=>by
  have s16:=zU;erw[EnsA]at hV;let#[v,r,rfl,#[p,s,rfl,hp,_],hV]:=hV;refine#[hL,zeX hG ho (hw e aC) hp λt H' s3 hIs=>?_];refine zba hG hLA es r (acc ++ [.ref t]) (rs ++ [rkE k l ns e]) _ (hLA _ _ hL s3) (ho.same s3) (λx hx=>hw x (aw _ hx)) (hV.same s3) ?_ λacc' H' s' hI'=>h acc' H' (s3.trans s') ↥hI';rw[ar];exact VD (ja1 s3 _ _ hI) hIs
def ze9:Aq->BD
 | .Lambda _ _ _ p=>p
 | _=>default
def zhW:List tM->BD
 | _::.Return (BJ (.Call _ _ (k::_) _)) _::_=>ze9 k.value
 | _=>default
def lp:BD:=zhW (yt yS)
def lq:tK:="in_order.<locals>.<lambda>"
def Yj(K:tF)(CO CR CW T:tG):Sp:=λvs H Q Z=>∃(o a:tG) (k:Nat) (l:()) (ns:List Int) (es:List Ent),vs=[.ref o,.ref a]/\OrdAt CO CR CW H o k l ns/\OG l ns k/\EnsL K H a es/\es.length<64/\(∀e ∈ es,EB l e)/\TabOk H T lp lq /\
 ∀(D:tG) (zs:List Ent) (H':Hp),SamT T H H'->TabOk H' T lp lq->H D=BK->Lined k l ns es zs->EnsM K H' D zs->Q (.ref D) H'
def QM{CO CR CW T o a:tG}(h1:OrdAt CO CR CW H o k l ns)(h2:OG l ns k)(h3:EnsL K H a es)(h4:es.length<64)(h5:∀e ∈ es,EB l e)(h6:TabOk H T lp lq)(h:∀(D:tG) (zs:List Ent) (H':Hp),SamT T H H'->TabOk H' T lp lq->H D=BK->Lined k l ns es zs->EnsM K H' D zs->Q (.ref D) H'):Yj K CO CR CW T [.ref o,.ref a] H Q E:=#[o,a,k,l,ns,es,rfl,h1,h2,h3,h4,h5,h6,h]
abbrev zb1(mg:tK->Option tH):Prop:=mg "sorted" = BK
def pj:sQz 2 ["order","entries","unlike"] yS:=by nofun
def XY{f CO CR CW CC TB:tG}(B:Bt mg)(DRk:DR P w K mg base CO CR CW)(hsorted:zb1 mg)(hCd:PySem.W.CodeHd base CC TB)(hBt:base.BuiltinsAt mg TB)(hgT:tB≠TB)(F:("in_order"^^^yS))(HC:fd.code=.ref CC)(ou:(4<<<"as_rule") ["order","entry"] [] (wS K CO CR CW)):(6&&&["order","entries"]) (Yj K CO CR CW TB):=by
 refine zcI F HC pj (λvs H Q E h=>?_) (λA outer s H vs Q E hr h=>?_)
 ·let#[o,a,k,l,ns,es,rfl,_]:=h;rfl
 ·let#[o,a,k,l,ns,es,rfl,ho,hG,hA,hz,hE,hTab,q]:=h;refine#[_,(zh (Kc (i:=2) pj.nd rfl (.inl rfl) (.inl rfl) (own:=["entry"]) (caps:=["order"]) (ix:=[0]) (tt:=(tBl (tOp rNe (tOp (jd K) (ym 0) (tC (.int 0))) (tOp (jd K) (ym 0) (tC (.int 1)))))) (te:=(uZ (wS K CO CR CW) [] E0 (zO (ym 1) (zO (ym 0) xI)))) rfl (zS (sc:=zi yS) rfl (!0) (!0) (!0) rfl (!0) (!0) rfl) (yv (pv 1)) (λZ Z Z Z Z Z=>zq (i:=0) (show List.Nodup [_,_] by decide) rfl (.inl rfl)) (λZ Z Z Z Z Z=>(Ql (zu qb (!-0) (!-0) (zt _)))) (λZ Z Z Z Z Z=>(cl0 ou hr .nil rfl (za (pv 1) (za (pv 0) ze))))) (zg (zk (Km (k:=2) (p:="entry") (y:="order") (iy:=0) (c:=s⁻¹+1) (tb:=tbE K CO CR CW) pairF_ok #[rfl,rfl,rfl,∅,rfl,rfl,∅,∅] (hr.mono ∅) rfl hsorted PyProof.Rows.boot_sorted (za (pv 2) ze) rfl hCd hBt hgT rfl rfl (by intro _ _ _ _;exact rfl) rfl rfl rfl (λs H f cv hr'=>zN (za (zdX DRk hr' (pv 1) (za (!-0) ze)) (za (zdX DRk hr' (pv 1) (za (!-0) ze)) ze))))))),?_];have s16:=zU;let#[xs,hX,hI]:=id hA;have hxl:=hI.len
  have hEr:∀e ∈ ql k l ns es,EB l e:=λe he=>by
   unfold ql at he;let#[y,hy,rfl]:=BQ.mp he;exact (hE y (BY.mp hy).1).rule
  have hrl:=Wd k l ns es;change Same H H'/\∃(D0:tG) (acc:List V),H D0=BK/\H' D0=BJ (.lst acc)/\EnsA K (kE D0 H') (ql k l ns es) acc/\σ=[!!o,!!a,!!D0]
  ·ac_rfl;refine#[#[xs,hX],λD hD=>jb1 (xs:=xs) (λi acc H'=>Same H H'/\H' D=BJ (.lst acc)/\EnsA K (kE D H') (ql k l ns (es.take i)) acc) #[zf hD,zd,by erw[cq,ql,dL,aJ,EnsA]] (λi acc H' Z h=>h.1.seq hX) ?_ ?_]
   ·refine nm4 ?_;rintro i x acc H' hx ⟨hs,hH,hA⟩:_;have hi:=(BP.mp hx).1;let#[e,pe,se,hei,rfl,hqe,hse]:=hI.get hx;have hEe:=hE e (ag hei);have hal:=hA.len;have hal2:=Wd k l ns (es.take i);rw[aL]at hal2;have hq1:=zy hs hqe
    have hraw:ql k l ns (es.take (i+1))=ql k l ns (es.take i) ++ if e.1=e.2.1 then []else [yw k l ns e]:=by
     rw[yb hei,zdm];congr 1;unfold ql;by_cases hne:e.1=e.2.1
     ·rw[y9 hne,cQ (by simp [hne])];rfl
     ·rw[z9 hne,cr (by simp [hne])];rfl
    right;ac_rfl;refine#[xH,_,hq1,_,rfl,_,hq1,_,rfl,rfl,yd (λhne=>?_) λheq=>?_]
    ·have hne':¬ e.1=e.2.1:=λz=>hne (by rw[z]);rw[z9 hne']at hraw
     have fin:∀(v:V) (H2:Hp),Same H' H2->EnA K (kE D H2) (yw k l ns e) v->H2 D=BJ (.lst acc)/\acc.length<tE/\CNx xs.length i (λi acc H'=>Same H H'/\H' D=BJ (.lst acc)/\EnsA K (kE D H') (ql k l ns (es.take i)) acc) (acc ++ [v]) (upd H2 D (.lst (acc ++ [v]))):=λv H2 s2 hv=>by
      refine#[s2 _ _ hH,⋯,ja0 hi #[zI (hs.trans s2) hD,zd,?_]];rw[hraw];exact (hA.same ((wU s2).trans xL)).snoc (hv.same xL)
     refine Zb (ho.same hs) hG hq1 (hse.same hs).is hEe (λer H2 s2=>fin _ _ s2 ?_) λp' s' H2 s2 hsn hp' hL=>fin _ _ s2 ?_
     ·rw[er];exact EnA.same #[pe,se,rfl,hqe,hse] (U4 hD (hs.trans s2))
     ·exact EnA.new (s2 _ _ hH) hp' hL (λz=>by rw[z,hH]at hsn;cases hsn)
    ·have heq':e.1=e.2.1:=by
      have:=Classical.not_not.mp heq;injection this with this;exact wu this
     rw[y9 heq',aZ]at hraw;exact ja0 hi #[hs,hH,by rw[hraw];exact hA]
   ·refine nmB ?_;rintro acc H' ⟨hs,hH,hA⟩:_;rw[hxl,aP]at hA;right;exact#[hs,D,hD,acc,hH,hA,rfl]
  rintro σ H1 ⟨s1,D0,acc,hD0,hH1,hI1,rfl⟩:_;have hal:=hI1.len;have hT1:=hTab.same s1;let#[ps1,hps1,_]:=id hT1;right;ac_rfl;unfold zbP;refine#[hT1,λf H2 hf hLA hT2 sT=>?_];let#[ps2,hps2,_]:=id hT2;have hI2:=EnsA.samT sT hps1 (hI1.same vp);refine#[D0,acc,.ref o,rfl,x6 (sT.at hps1 hH1 λZ z=>by cases z),⋯,rfl,?_];refine zba hG (λA A' h1 h2=>LamAt.same h1 h2) (ql k l ns es) acc [] [] H2 hLA ((ho.same s1).samT sT hps1) hEr hI2 (by erw[aJ,Iss]) λacc' H3 s3 hI3=>#[(ql k l ns es).map (rkE k l ns),by simpa using hI3,λys p1 D hD=>?_];let#[zs,z1,z2,z4,z3]:=XS (hI2.same s3) hEr p1;have sD:=zf (o:=.lst (ys.map (·.2))) hD;refine q D zs _ ((x8 s1).trans (sT.trans (x8 (s3.trans sD)))) (hT2.same (s3.trans sD)) ?_ #[z1,z2,z4] #[_,zd,z3.same sD];exact ((x8 s1).trans (sT.trans (x8 s3))).free (s3 _ _ hps2) hD
structure TMo(mg:tK->Option tH):Prop where
 u:∃t,mg "MOST_USES_thinning" = BJ (.int 40 t)
 s:∃t,mg "MOST_STEPS_thinning" = BJ (.int 240 t)
 d:∃t,mg "MOST_SIDE_thinning" = BJ (.int 60 t)
 p:∃t,mg "MOST_PASSES" = BJ (.int 20 t)
structure BG(k:Nat)(l:())(ns:List Int)(bs:List Ent):Prop where
 n:bs.length<64
 e:∀e ∈ bs,EB l e
 lt:∀e ∈ bs,zM k l ns e.2.1 e.1=BL
def BG.ne(h:BG k l ns bs)(G:OG l ns k):NeL (zc bs):=λp hp=>by
 unfold zc at hp;let#[e,he,rfl]:=BQ.mp hp;exact Ji G.nb (h.lt e he)
def BG.le(h:BG k l ns bs):∀p ∈ zc bs,p.1.length<=60/\p.2.length<=60:=λp hp=>by
 unfold zc at hp;let#[e,he,rfl]:=BQ.mp hp;exact#[(h.e e he).a,(h.e e he).b]
def BG.mem(h:BG k l ns bs):∀p ∈ zc bs,∀c ∈ p.2,c ∈ l:=λp hp=>by
 unfold zc at hp;let#[e,he,rfl]:=BQ.mp hp;exact (h.e e he).mb
def qc{w:()}(hA:LsA K H a (ps.map dR))(hN:NeL ps)(hpl:ps.length<=100)(hP:∀p ∈ ps,p.1.length<=60/\p.2.length<=60)(hw:w.length<=60)(h1:∀(i:Nat) (p S:tG) (H':Hp),zD ps w i->Same H H'->H' p=BJ (.tup [.ref S,⇑(wAt ps w i)])->LsA K H' S ((sAt ps w i).map dG)->H S=BK->Q (.ref p) H')(h2:(∀i,¬ zD ps w i)->∀H',Same H H'->E (.ref CF) BK H'):xR K CF [.ref a,⇑w,.int 40] H Q E:=by
 have hP':∀p ∈ ps,p.1.length<=1000/\p.2.length<=1000:=λp hp=>by
  have:=hP p hp;lia
 have len:∀j,j<=40->(wAt ps w j).length<=10000:=λj hj=>by
  have:=jv (l:=w) (m:=60) hN (λp hp=>(hP p hp).2) j;lia
 rcases zdB ps w with ⟨i,hi⟩ | ⟨hL,hf⟩
 ·have hm:=hi.most;exact#[a,w,ps,40,i,rfl,hA,hN,hpl,hP',#[hi.live,λj hj=>len j ⋯,⋯],.inl #[hi.end_,⋯,λp S H' s' hp hL hS=>h1 i p S H' hi s' hp hL hS]]
 ·refine#[a,w,ps,40,40,rfl,hA,hN,hpl,hP',#[hL,λj hj=>len j hj,∅],.inr #[hf,rfl,h2 λi hi=>?_]];have hm:=hi.most;by_cases e:i=40
  ·subst e;exact hf hi.end_
  ·exact hL i ⋯ hi.end_
def J3(us:List (Nat × Nat)):us.map dG=(stS us).map dSt:=by unfold stS;rw[bc];rfl
def Ya(us:List (Nat × Nat)):(stS us).length=us.length:=by unfold stS;rw[aa]
theorem zeZ{w:()}(h:VH ps w i):∀u ∈ sAt ps w i,u.1<ps.length:=λu hu=>by
 unfold sAt at hu;let#[j,hj,rfl]:=BQ.mp hu
 cases e:zC (wAt ps w j) ps with
 | none=>exact y6 e (h j (BX.mp hj))
 | some v =>
  let#[p,h1,_]:=xj e;exact (BP.mp h1).1
def Vx{w:()}(h:VH ps w i):∀u ∈ stS (sAt ps w i),0<=u.1/\u.1<ps.length:=λu hu=>by
 unfold stS at hu;let#[v,hv,rfl]:=BQ.mp hu;have:=zeZ h v hv;show 0<=(v.1:Int)/\(v.1:Int)<ps.length;lia
def UM(h:∀u ∈ ss,0<=u.1/\u.1<n):∀u ∈ yI ss,0<=u.1/\u.1<n:=λu hu=>by
 unfold yI at hu;let#[v,hv,rfl]:=BQ.mp hu;exact h v (Ca.mp hv)
def ze0(h:∀e ∈ es,e.2.2.length<=600)(u:Stp):(VI es u).length<=600:=by
 have hg:(es.getD u.1.toNat ([],[],[])).2.2.length<=600:=by
  rw[ac]
  cases e:es[u.1.toNat]? with
  | none=>exact ax _
  | some r=>exact h r (ag e)
 unfold VI;rw[Xr];split
 ·exact hg
 ·rw[yK];exact hg
theorem zck(h:∀e ∈ es,e.2.2.length<=600):∀us:List Stp,(byL es us).length<=us.length * 600
 | []=>by simp [byL]
 | u::us=>by
  have e:byL es (u::us)=VI es u ++ byL es us:=by simp [byL]
  have h1:=ze0 h u;have h2:=zck h us;rw[e,am,aF,fk];lia
def XF(K:tF)(CF:tG):Sp:=λvs H Q E=>∃(a p s:tG) (k:Nat) (l:()) (ns:List Int) (bs:List Ent) (e:Ent),vs=[.ref a,.ref p]/\OG l ns k/\Is K H (.lst (bs.map dE)) (.ref a)/\BG k l ns bs/\SqT K H p [⇑e.1,⇑e.2.1,.ref s]/\LsA K H s (e.2.2.map dSt)/\EB l e /\
 (∀i j H',zD (zc bs) e.1 i->zD (zc bs) e.2.1 j->wAt (zc bs) e.1 i=wAt (zc bs) e.2.1 j->Same H H'->Q .non H') /\
 (∀i j p' s' H',zD (zc bs) e.1 i->zD (zc bs) e.2.1 j->wAt (zc bs) e.1 i≠wAt (zc bs) e.2.1 j->Same H H'->H s'=BK->H' p'=BJ (.tup [⇑(yC bs e i j).1,⇑(yC bs e i j).2.1,.ref s'])->LsA K H' s' ((yC bs e i j).2.2.map dSt)->Q (.ref p') H') /\
 ((∀i,¬ zD (zc bs) e.1 i)\/(∀j,¬ zD (zc bs) e.2.1 j)->∀H',Same H H'->E (.ref CF) BK H')
def Vm(h1:Is K H (.lst (es.map dE)) (.ref a))(h2:Is K H (.lst (us.map dSt)) (.ref t))(h3:us.length<=100)(h4:∀e ∈ es,e.2.2.length<=600)(h5:∀u ∈ us,0<=u.1/\u.1<es.length)(h:∀(D:tG) (H':Hp),H D=BK->Same H H'->LsA K H' D ((byL es us).map dSt)->Q (.ref D) H'):UK K [.ref a,.ref t] H Q E:=#[a,t,es,us,rfl,h1,h2,h3,h4,h5,h]
def im:sQz 2 ["entries","entry","rules","one","other","steps"] xW:=by nofun
def kh(B:Bt mg)(TM:TMo mg)(F:("brought_down"^^^xW))(gZ:(1<<<"pairs_of") ["entries"] [] (wD K))(nP:(4>>>"gone") ["rules","word","most"] [] (xR K CF))(DD_gone:(4>>>"gone") ["rules","word","most"] [.int 4000 nQ] (xR K CF))(iT:(2<<<"by_pacts") ["entries","steps"] [] (UK K))(mT:(1<<<"back") ["steps"] [] (qj K)):(5|||["entries","entry"]) (XF K CF):=by
 let#[t9,g9]:=TM.u;exists Fun.okX F im,0
 ·let#[a,p,s,k,l,ns,bs,e,rfl,hG,hA,hB,hp,hs,hE,q1,q2,q3]:=h
  refine#[_,(zh (zB 2 im.nd (cl0 gZ hr .nil rfl (za (pv 0) ze))) (zh (zB 3 im.nd (clP hx nP hr .nil rfl (za (pv 2) (za (!-1) (za (yy (v:=.int 40) rfl g9 #[t9,rfl]) ze))))) (zh (zB 4 im.nd (clP hx nP hr .nil rfl (za (pv 2) (za (!-1) (za (yy (v:=.int 40) rfl g9 #[t9,rfl]) ze))))) (zh (zJ (zu yQ (!-3) (!-4) (zt _)) (zg (zk yh))
    zp) (zh (zB 5 im.nd (zr WL (zr WL (cl0 iT hr .nil rfl (za (pv 0) (za (cl0 mT hr .nil rfl (za (!-3) ze)) ze))) (!-1)) (cl0 iT hr .nil rfl (za (pv 0) (za (!-4) ze))))) (zg (zk (zN (za (!-3) (za (!-4) (za (pv 5) ze))))))))))),?_]
  have s16:=zU;have hbl:=hB.n;have hN:=hB.ne hG;have hpl:=uM bs;have hst:∀e ∈ bs,e.2.2.length<=600:=λe he=>(hB.e e he).s;have hst3:∀e ∈ bs,e.2.2.length<=600:=λe he=>by have:=hst e he;lia
  change Same H H'/\∃R:tG,LsA K H' R ((zc bs).map dR)/\σ=%[!!a,!!p,!!R|3]
  ·ac_rfl;exact wq hA ⋯ λD H' Z s' hL=>#[s',D,hL,rfl]
  rintro σ H1 ⟨s1,R,hR,rfl⟩:0;change Same H1 H'/\∃(i:Nat),zD (zc bs) e.1 i/\∃p1:tG,(∃S1:tG,H' p1=BJ (.tup [.ref S1,⇑(wAt (zc bs) e.1 i)])/\LsA K H' S1 ((sAt (zc bs) e.1 i).map dG))/\σ=%[!!a,!!p,!!R,!!p1|2]
  ·ac_rfl;refine#[_,zy s1 hp,_,rfl,qc hR hN ⋯ hB.le hE.a (λi p1 S1 H' hi s' hp1 hL Z=>#[s',i,hi,p1,#[S1,hp1,hL],rfl]) λhno H' s'=>q3 (.inl hno) H' (s1.trans s')]
  rintro σ H2 ⟨s2,i,hi,p1,⟨S1,hp1,hS1⟩,rfl⟩:_;have s12:=s1.trans s2;right;change Same H2 H'/\∃(j:Nat),zD (zc bs) e.2.1 j/\∃p2:tG,(∃S2:tG,H' p2=BJ (.tup [.ref S2,⇑(wAt (zc bs) e.2.1 j)])/\LsA K H' S2 ((sAt (zc bs) e.2.1 j).map dG))/\σ=[!!a,!!p,!!R,!!p1,!!p2,BK]
  ·ac_rfl;refine#[_,zy s12 hp,_,rfl,qc (hR.same s2) hN ⋯ hB.le hE.b (λj p2 S2 H' hj s' hp2 hL Z=>#[s',j,hj,p2,#[S2,hp2,hL],rfl]) λhno H' s'=>q3 (.inr hno) H' (s12.trans s')]
  rintro σ H3 ⟨s3,j,hj,p2,⟨S2,hp2,hS2⟩,rfl⟩:_;have s13:=s12.trans s3;have hp1':=s3 _ _ hp1;have hS1':=hS1.same s3;right;change H'=H3/\wAt (zc bs) e.1 i≠wAt (zc bs) e.2.1 j/\σ=[!!a,!!p,!!R,!!p1,!!p2,BK]
  ·ac_rfl;refine#[_,x4 hp1',_,rfl,_,x4 hp2,_,rfl,rfl,yd (λh=>?_) λh=>?_]
   ·exact q1 i j H3 hi hj (wu (by injection h)) s13
   ·exact λz=>h (by rw[z])
  rintro σ H4 ⟨rfl,hne,rfl⟩:_;have him:=hi.most;have hjm:=hj.most;have hl1:(stS (sAt (zc bs) e.1 i)).length=i:=by rw[Ya,jn]
  have hl2:(stS (sAt (zc bs) e.2.1 j)).length=j:=by rw[Ya,jn]
  rw[J3]at hS1' hS2;have hA4:=Is.same s13 _ _ hA;have hb1:=zck hst (yI (stS (sAt (zc bs) e.1 i)));have hb2:=zck hst (stS (sAt (zc bs) e.2.1 j));rw[yK,hl1]at hb1;rw[hl2]at hb2;have hes:=hE.s;right;change Same H4 H'/\∃S:tG,H4 S=BK/\LsA K H' S ((yC bs e i j).2.2.map dSt)/\σ=[!!a,!!p,!!R,!!p1,!!p2,!!S]
  ·ac_rfl;refine#[_,x4 hp1',_,rfl,qQ hS1'.is ⋯ λB1 G1 Z t1 hB1=>Vm (Is.same t1 _ _ hA4) hB1.is (by rw[yK];lia) hst3 (by rw[<- hpl];exact UM (Vx hi.live)) λC1 G2 hC1n t2 hC1=>?_];have t12:=t1.trans t2;let#[c1,hc1,ic1]:=id hC1;let#[es0,hs0,is0]:=hs.same (s13.trans t12);have lc1:=ic1.len;have ls0:=is0.len;rw[aa]at lc1 ls0;refine#[_,zy (s13.trans t12) hp,_,rfl,C1,rfl,s,rfl,c1,hc1,es0,hs0,⋯,λM hM=>?_];have t3:=zf (o:=.lst (c1 ++ es0)) hM;have t13:=t12.trans t3;refine#[_,x4 (t13 _ _ hp2),_,rfl,Vm (Is.same t13 _ _ hA4) (hS2.same t13).is ⋯ hst3 (by rw[<- hpl];exact Vx hj.live) λC2 G3 hC2n t4 hC2=>?_];let#[c2,hc2,ic2]:=id hC2;have lc2:=ic2.len;rw[aa]at lc2;refine#[C2,rfl,c1 ++ es0,t4 _ _ zd,c2,hc2,by rw[am];lia,λS hS=>?_];have t5:=zf (o:=.lst (c1 ++ es0 ++ c2)) hS;refine#[t13.trans (t4.trans t5),S,(t13.trans t4).free hS,#[_,zd,?_],rfl];show Iss K _ ((byL bs (yI (stS (sAt (zc bs) e.1 i))) ++ e.2.2 ++ byL bs (stS (sAt (zc bs) e.2.1 j))).map dSt) _;rw[ar,ar];exact jb2 (jb2 (ja1 (t3.trans (t4.trans t5)) _ _ ic1) (ja1 (t3.trans (t4.trans t5)) _ _ is0)) (ja1 t5 _ _ ic2)
  rintro σ H5 ⟨s5,S,hSn,hS,rfl⟩:0;ac_rfl;refine#[_,x4 (s5 _ _ hp1'),_,rfl,_,x4 (s5 _ _ hp2),_,rfl,⋯,λt ht=>?_];have st:=zf (o:=.tup [⇑(wAt (zc bs) e.1 i),⇑(wAt (zc bs) e.2.1 j),.ref S]) ht;exact q2 i j t S _ hi hj hne (s13.trans (s5.trans st)) (s13.free hSn) zd (hS.same st)
def jY(K:tF)(CF:tG):Sp:=λvs H Q E=>∃(p s:tG) (e:Ent),vs=[.ref p]/\SqT K H p [⇑e.1,⇑e.2.1,.ref s]/\Is K H (.lst (e.2.2.map dSt)) (.ref s)/\e.1.length<=10000/\e.2.1.length<=10000/\(¬ qM e->Q .non H)/\(qM e->E (.ref CF) BK H)
def V1(h1:SqT K H p [⇑e.1,⇑e.2.1,.ref s])(h2:Is K H (.lst (e.2.2.map dSt)) (.ref s))(h3:e.1.length<=10000)(h4:e.2.1.length<=10000)(h5:¬ qM e->Q .non H)(h6:qM e->E (.ref CF) BK H):jY K CF [.ref p] H Q E:=#[p,s,e,rfl,h1,h2,h3,h4,h5,h6]
def qE:sQz 1 ["entry"] xD:=by nofun
def qA(B:Bt mg)(T:zdG K mg CF)(TM:TMo mg)(F:("refuse_beyond"^^^xD)):(1|||["entry"]) (jY K CF):=by
 let#[#[t9,g9],#[t8,g8]]:=And.intro TM.s TM.d;exists Fun.okX F qE,0
 ·let#[p,s,e,rfl,hp,hs,ha,hb,q1,q2]:=h
  refine#[_,(zh (zJ (zu Kj (zF B.len (!-0)) (yy (v:=.int 240) rfl g9 #[t9,rfl]) (zt _)) (zg (yf hx rfl T.xi.toXC T.ini rfl T.g (za zP ze)))
    zp) (zg (zJ (zu Kj (xg (UC rfl) rfl B.max qJ (za (zF B.len (!-0)) (za (zF B.len (!-0)) ze))) (yy (v:=.int 60) rfl g8 #[t8,rfl]) (zt _)) (zg (yf hx rfl T.xi.toXC T.ini rfl T.g (za zP ze)))
    zp))),?_]
  have s16:=zU;erw[Is]at hs;let#[_,zs,e0,hZ,hI]:=hs;cases e0;have hzl:=hI.len;rw[aa]at hzl;change H'=H/\e.2.2.length<=240/\σ=[!!p]
  ·ac_rfl;refine#[_,hp,_,rfl,_,.inl #[_,hZ,rfl],yd (λh=>#[⋯,q2 (.inl ⋯)]) λh=>by lia]
  rintro σ H1 ⟨rfl,h1,rfl⟩:0;ac_rfl;refine#[_,hp,_,rfl,_,#[by rw[yj];lia,rfl],_,hp,_,rfl,_,#[by rw[yj];lia,rfl],?_];rw[yj,yj];refine yd (λh=>#[⋯,q2 ?_]) λh=>q1 ?_
  ·unfold qM;split at h <;> lia
  ·unfold qM;split at h <;> lia
def Ky(hB:BG k l ns bs)(hE:EB l e)(hF:¬ qM (yC bs e i j)):EB l (yC bs e i j):=by unfold qM at hF;exact#[⋯,⋯,⋯,uT hE.ma hB.mem i,uT hE.mb hB.mem j]
def BG.snoc(h:BG k l ns bs)(hn:bs.length+1<64)(hd:EB l d)(hne:d.1≠d.2.1):BG k l ns (bs ++ [yw k l ns d]):=by
 refine#[by rw[am];exact hn,λe he=>?_,λe he=>?_]
 ·rcases BS.mp he with he | he
  ·exact h.e e he
  ·rw[BV.mp he];exact hd.rule
 ·rcases BS.mp he with he | he
  ·exact h.lt e he
  ·rw[BV.mp he];exact jK hd hne
def zaN(h1:OG l ns k)(h2:Is K H (.lst (bs.map dE)) (.ref a))(h3:BG k l ns bs)(h4:SqT K H p [⇑e.1,⇑e.2.1,.ref s])(h5:LsA K H s (e.2.2.map dSt))(h6:EB l e)(q1:∀i j H',zD (zc bs) e.1 i->zD (zc bs) e.2.1 j->wAt (zc bs) e.1 i=wAt (zc bs) e.2.1 j->Same H H'->Q .non H')(q2:∀i j p' s' H',zD (zc bs) e.1 i->zD (zc bs) e.2.1 j->wAt (zc bs) e.1 i≠wAt (zc bs) e.2.1 j->Same H H'->H s'=BK->H' p'=BJ (.tup [⇑(yC bs e i j).1,⇑(yC bs e i j).2.1,.ref s'])->LsA K H' s' ((yC bs e i j).2.2.map dSt)->Q (.ref p') H')(q3:(∀i,¬ zD (zc bs) e.1 i)\/(∀j,¬ zD (zc bs) e.2.1 j)->∀H',Same H H'->E (.ref CF) BK H'):XF K CF [.ref a,.ref p] H Q E:=#[a,p,s,k,l,ns,bs,e,rfl,h1,h2,h3,h4,h5,h6,q1,q2,q3]
def zax(hB:BG k l ns bs)(hG:OG l ns k)(hE:EB l e)(hi:i<=40)(hj:j<=40):(yC bs e i j).1.length<=10000/\(yC bs e i j).2.1.length<=10000:=by have h1:=jv (l:=e.1) (m:=60) (hB.ne hG) (λp hp=>(hB.le p hp).2) i;have h2:=jv (l:=e.2.1) (m:=60) (hB.ne hG) (λp hp=>(hB.le p hp).2) j;have h3:=hE.a;have h4:=hE.b;show (wAt (zc bs) e.1 i).length<=10000/\(wAt (zc bs) e.2.1 j).length<=10000;lia
def ZO(K:tF)(CO CR CW CF:tG):Sp:=λvs H Q E=>∃(o a:tG) (k:Nat) (l:()) (ns:List Int) (zs:List Ent),vs=[.ref o,.ref a]/\OrdAt CO CR CW H o k l ns/\OG l ns k/\EnsL K H a zs/\zs.length<64/\(∀e ∈ zs,EB l e) /\
 (∀(bs:List Ent) (D:tG) (H':Hp),xv k l ns [] zs (BJ bs)->BG k l ns bs->Same H H'->H D=BK->EnsM K H' D bs->Q (.ref D) H')/\(xv k l ns [] zs BK->∀H',Same H H'->E (.ref CF) BK H')
def Jj{CO CR CW CF o a:tG}(h1:OrdAt CO CR CW H o k l ns)(h2:OG l ns k)(h3:EnsL K H a zs)(h4:zs.length<64)(h5:∀e ∈ zs,EB l e)(q1:∀(bs:List Ent) (D:tG) (H':Hp),xv k l ns [] zs (BJ bs)->BG k l ns bs->Same H H'->H D=BK->EnsM K H' D bs->Q (.ref D) H')(q2:xv k l ns [] zs BK->∀H',Same H H'->E (.ref CF) BK H'):ZO K CO CR CW CF [.ref o,.ref a] H Q E:=#[o,a,k,l,ns,zs,rfl,h1,h2,h3,h4,h5,q1,q2]
def zgV(K:tF)(H1 H':Hp)(bs:List Ent)(e:Ent)(v:V):Prop:=∃i j,zD (zc bs) e.1 i/\zD (zc bs) e.2.1 j/\((wAt (zc bs) e.1 i=wAt (zc bs) e.2.1 j/\v=.non) \/
 (wAt (zc bs) e.1 i≠wAt (zc bs) e.2.1 j/\∃p s:tG,v=.ref p/\H1 s=BK/\H' p=BJ (.tup [⇑(yC bs e i j).1,⇑(yC bs e i j).2.1,.ref s])/\LsA K H' s ((yC bs e i j).2.2.map dSt)))
def zgp(K:tF)(H:Hp)(D:tG)(k:Nat)(l:())(ns:List Int)(zs:List Ent)(i:Nat)(H':Hp):Prop:=∃(bs:List Ent) (acc:List V),Same H H'/\H' D=BJ (.lst acc)/\EnsA K (kE D H') bs acc/\BG k l ns bs/\bs.length<=i/\∀r,xv k l ns bs (zs.drop i) r->xv k l ns [] zs r
def lm:sQz 2 ["order","entries","built","entry","lower"] vn:=by nofun
def ZI{f CO CR CW CF:tG}(B:Bt mg)(F:("built_anew"^^^vn))(rh:(5>>>"brought_down") ["entries","entry"] [] (XF K CF))(pR:(1>>>"refuse_beyond") ["entry"] [] (jY K CF))(ou:(4<<<"as_rule") ["order","entry"] [] (wS K CO CR CW)):(6|||["order","entries"]) (ZO K CO CR CW CF):=by
 exists Fun.okX F lm,0
 ·let#[o,a,k,l,ns,zs,rfl,ho,hG,hA,hz,hE,q1,q2]:=h
  refine#[_,(zh (zB 2 lm.nd (yF ze)) (zh (zW PassesOwn.leaving rfl (yv (pv 1)) (zq (i:=3) lm.nd rfl (.inl rfl)) (zh (zB 4 lm.nd (clP hx rh hr .nil rfl (za (pv 2) (za (pv 3) ze)))) (zg (zJ (zu op_notN' (pv 4) yh (zt _)) (zh (xU (clP hx pR hr .nil rfl (za (pv 4) ze))) (zg (xU (qz bB cf ci xG (pv 2) (za (cl0 ou hr .nil rfl (za (pv 0) (za (pv 4) ze))) ze)))))
     zp)))) (zg (zk (pv 2))))),?_]
  have s16:=zU;let#[xs,hX,hI]:=id hA;have hxl:=hI.len;change Same H H'/\∃D:tG,H D=BK/\H' D=BJ (.lst [])/\σ=%[!!o,!!a,!!D|2]
  ·ac_rfl;exact#[⋯,λp hp=>#[zf hp,p,hp,zd,rfl]]
  rintro σ H0 ⟨s0,D,hD,hD0,rfl⟩:0;change zgp K H D k l ns zs zs.length H'/\∃(v3 v4:Option V),σ=[!!o,!!a,!!D,v3,v4]
  ·ac_rfl;refine#[#[_,s0.seq hX],ja3 (xs:=xs) (λi σ H'=>zgp K H D k l ns zs i H'/\∃(v3 v4:Option V),σ=[!!o,!!a,!!D,v3,v4]) #[#[[],[],s0,hD0,by erw[EnsA],#[∅,λe he=>(nomatch he),λe he=>(nomatch he)],ak _,λr h=>h],BK,BK,rfl] (λi σ H' _ ⟨⟨_,_,h,_⟩,_⟩=>h.seq hX) ?_ ?_]
   ·refine nm4 ?_;rintro i x σ H1 hx ⟨⟨bs,acc,s1,hH1,hI1,hB,hbi,hr⟩,v3,v4,rfl⟩:_;have hix:=(BP.mp hx).1;let#[e,pe,se,hei,rfl,hqe,hse]:=hI.get hx;have hEe:=hE e (ag hei)
    have hdrop:zs.drop i=e::zs.drop (i+1):=by
     let#[h1,h2]:=BP.mp hei;rw[aT h1,h2]
    rw[hdrop]at hr;have hal:=hI1.len;have hbn:=hB.n
    have hIs:Is K H1 (.lst (bs.map dE)) (.ref D):=by
     erw[Is];exact#[D,acc,rfl,x6 hH1,(hI1.same vp).iss]
    right;erw[yH,aX,aW];change Same H1 H'/\∃v:V,zgV K H1 H' bs e v/\σ=[!!o,!!a,!!D,!!pe,BJ (v)]
    ·ac_rfl;exact zaN hG hIs hB (zy s1 hqe) (hse.same s1) hEe (λi' j' H' a1 a2 a3 s'=>#[s',i',j',a1,a2,.inl #[a3,rfl]]) (λi' j' p' s' H' a1 a2 a3 t' a4 a5 a6=>#[t',i',j',a1,a2,.inr #[a3,p',s',rfl,a4,a5,a6]]) λh H' s'=>q2 (hr _ (.stuck h)) H' (s1.trans s')
    rintro σ H2 ⟨s2,v,⟨i',j',hi',hj',hc⟩,rfl⟩:0;rcases hc with ⟨hw,rfl⟩ | ⟨hw,p',s',rfl,hsn,hp',hL'⟩
    ·ac_rfl;exact#[bs,acc,s1.trans s2,s2 _ _ hH1,hI1.same (wU s2),hB,⋯,λr h=>hr r (.same hi' hj' hw h)]
    ·ac_rfl
     try rw[y9 not_false]
     have hdl:=zax hB hG hEe hi'.most hj'.most;change H'=H2/\¬ qM (yC bs e i' j')/\σ=[!!o,!!a,!!D,!!pe,!!p']
     ·ac_rfl;exact V1 (x4 hp') hL'.is hdl.1 hdl.2 (λh=>#[rfl,h]) λh=>q2 (hr _ (.far hi' hj' hw h)) H2 (s1.trans s2)
     rintro σ H3 ⟨rfl,hF,rfl⟩:_;have hEd:=Ky hB hEe hF;have hH3:=s2 _ _ hH1
     have fin:∀(v:V) (H4:Hp),Same H3 H4->EnA K (kE D H4) (yw k l ns (yC bs e i' j')) v->zgp K H D k l ns zs (i+1) (upd H4 D (.lst (acc ++ [v]))):=λv H4 s4 hv=>by
      refine#[bs ++ [yw k l ns (yC bs e i' j')],acc ++ [v],zI (s1.trans (s2.trans s4)) hD,zd,?_,hB.snoc ⋯ hEd hw,by rw[am];show bs.length+1<=i+1;lia,λr h=>hr r (.new hi' hj' hw hF h)];exact (hI1.same ((wU (s2.trans s4)).trans xL)).snoc (hv.same xL)
     right;ac_rfl;refine#[.inl #[_,x6 hH3],Zb (ho.same (s1.trans s2)) hG (x4 hp') hL'.is hEd (λer H4 s4=>#[acc,s4 _ _ hH3,⋯,fin _ _ s4 ?_]) λp2 t2 H4 s4 htn hp2 hL2=>#[acc,s4 _ _ hH3,⋯,fin _ _ s4 ?_]]
     ·rw[er];exact EnA.new (s4 _ _ hH3) (s4 _ _ hp') (hL'.same s4) (λz=>by rw[z,hH1]at hsn;cases hsn)
     ·exact EnA.new (s4 _ _ hH3) hp2 hL2 (λz=>by rw[z,hH3]at htn;cases htn)
   ·refine nmB ?_;rintro σ H' ⟨h,v3,v4,rfl⟩:_;rw[hxl]at h;right;exact#[h,_,_,rfl]
  rintro σ H2 ⟨⟨bs,acc,s2,hH2,hI2,hB,hbi,hr⟩,v3,v4,rfl⟩:_;rw[fm]at hr;right;ac_rfl;exact q1 bs D H2 (hr _ (.nil bs)) hB s2 hD #[acc,hH2,hI2.same vp]
theorem zaH(rs ss:List zK):uI (rs.map dR) (ss.map dR)=decide (rs=ss):=by
 induction rs generalizing ss with
 | nil=>cases ss with
  | nil=>simp [uI]
  | cons s ss=>simp [uI]
 | cons r rs ih=>cases ss with
  | nil=>simp [uI]
  | cons s ss =>
   rw[ao,ao,uI,ih]
   have h:eqD (dR r) (dR s)=decide (r=s):=by
    let#[a,b]:=r;let#[c,d]:=s
    have e1:∀x y:(),eqD (dS x) (dS y)=decide (x=y):=λx y=>by
     have:eqD (dS x) (dS y)=decide (tx x=tx y):=by erw[dS,eqD];rfl
     rw[this];exact decide_eq_decide.mpr #[wu,λh=>by rw[h]]
    erw[dR,eqD,uI,e1];by_cases h1:a=c <;> by_cases h2:b=d <;> simp [h1,h2]
   rw[h];by_cases h1:r=s <;> by_cases h2:rs=ss <;> simp [h1,h2]
def Lined.eb(h:Lined k l ns es zs)(hE:∀e ∈ es,EB l e):∀e ∈ zs,EB l e:=λe he=>by
 have hm:=h.perm.mem_iff.mp he;unfold ql at hm;let#[y,hy,rfl]:=BQ.mp hm;exact (hE y (BY.mp hy).1).rule
def Lined.len(h:Lined k l ns es zs):zs.length<=es.length:=by rw[h.perm.length_eq];exact Wd k l ns es
def Qc(K:tF)(CO CR CW T CF:tG):Sp:=λvs H Q E=>∃(o a:tG) (k:Nat) (l:()) (ns:List Int) (es:List Ent),vs=[.ref o,.ref a]/\OrdAt CO CR CW H o k l ns/\OG l ns k/\EnsL K H a es/\es.length<64/\(∀e ∈ es,EB l e)/\TabOk H T lp lq /\
 (∀(bs:List Ent) (D:tG) (H':Hp),uS k l ns 20 es (BJ bs)->BG k l ns bs->SamT T H H'->TabOk H' T lp lq->EnsM K H' D bs->Q (.ref D) H')/\(uS k l ns 20 es BK->∀H',SamT T H H'->TabOk H' T lp lq->E (.ref CF) BK H')
def zhB(K:tF)(T:tG)(H:Hp)(k:Nat)(l:())(ns:List Int)(es:List Ent)(n:Nat)(H':Hp)(b:tG):Prop:=∃fs:List Ent,SamT T H H'/\TabOk H' T lp lq/\(∀r,uS k l ns n fs r->uS k l ns 20 es r)/\EnsL K H' b fs/\fs.length<64/\∀e ∈ fs,EB l e
def mQ:sQz 2 ["order","entries","turn","lined_up"] jC:=by nofun
def Uc{f CO CR CW TB CF:tG}(B:Bt mg)(T:zdG K mg CF)(TM:TMo mg)(F:("thinned"^^^jC))(su:(6<<<"in_order") ["order","entries"] [] (Yj K CO CR CW TB))(rQ:(6>>>"built_anew") ["order","entries"] [] (ZO K CO CR CW CF))(gZ:(1<<<"pairs_of") ["entries"] [] (wD K)):(7|||["order","entries"]) (Qc K CO CR CW TB CF):=by
 let#[t9,g9]:=TM.p;exists Fun.okX F mQ,0
 ·let#[o,a,k,l,ns,es,rfl,ho,hG,hA,hz,hE,hTab,q1,q2]:=h
  refine#[_,(zh (zW PassesOwn.leaving rfl (yg rfl B.range (za (yy (v:=.int 20) rfl g9 #[t9,rfl]) ze)) (zq (i:=2) mQ.nd rfl (.inl rfl)) (zh (zB 3 mQ.nd (cl0 su hr .nil rfl (za (pv 0) (za (pv 1) ze)))) (zh (zB 1 mQ.nd (clP hx rQ hr .nil rfl (za (pv 0) (za (pv 3) ze)))) (zg (zJ (zu (YY (ud hr)) (cl0 gZ hr .nil rfl (za (pv 1) ze)) (cl0 gZ hr .nil rfl (za (pv 3) ze)) (zt _)) (zg (zk (pv 1)))
     zp))))) (zg (yf hx rfl T.xi.toXC T.ini rfl T.g (za zP ze)))),?_]
  have s16:=zU;let#[ps0,hps0,_]:=id hTab;change ∃b:tG,zhB K TB H k l ns es 0 H' b
  ·ac_rfl;refine#[⋯,⋯,ja2 (λi σ H'=>∃(b:tG) (v2 v3:Option V),zhB K TB H k l ns es (20 - i) H' b/\σ=[!!o,!!b,v2,v3]) #[a,BK,BK,#[es,x8 (x9 _),hTab,λr h=>h,hA,hz,hE],rfl] ?_ ?_]
   ·refine nm3 ?_;rintro i σ H1 hi ⟨b,v2,v3,⟨fs,s1,hT1,hr,hF,hfl,hFE⟩,rfl⟩:_;have ho1:=ho.samT s1 hps0;have hi20:i<20:=hi;obtain⟨n,hn⟩:∃n,20 - i=n+1:=#[20 - i - 1,⋯];rw[hn]at hr;right;erw[yH,aX,aW];change SamT TB H1 H'/\TabOk H' TB lp lq/\∃(z:tG),(∃zs:List Ent,Lined k l ns fs zs/\EnsM K H' z zs)/\∃v2,σ=[!!o,!!b,v2,!!z]
    ·ac_rfl;exact QM ho1 hG hF hfl hFE hT1 λD zs H' s' hT' Z hLn hM=>#[s',hT',D,#[zs,hLn,hM],rfl]
    rintro σ H2 ⟨s2,hT2,z,⟨zs,hLn,hZ⟩,v2,rfl⟩:_;have s12:=s1.trans s2;have ho2:=ho.samT s12 hps0;have hzE:=hLn.eb hFE;have hzl:=hLn.len;right;change Same H2 H'/\∃(c:tG),(∃bs:List Ent,xv k l ns [] zs (BJ bs)/\BG k l ns bs/\EnsM K H' c bs)/\σ=[!!o,!!c,v2,!!z]
    ·ac_rfl;exact Jj ho2 hG hZ.l ⋯ hzE (λbs D H' hb hB s' Z hM=>#[s',D,#[bs,hb,hB,hM],rfl]) λhb H' s'=>q2 (hr _ (.bad hLn hb)) H' (s12.trans (x8 s')) (hT2.same s')
    rintro σ H3 ⟨s3,c,⟨bs,hb,hB,hM⟩,rfl⟩:_;have hbn:=hB.n;right;ac_rfl;refine wq hM.l.is ⋯ λP1 H4 Z s4 hP1=>wq ((hZ.same s3).same s4).l.is ⋯ λP2 H5 Z s5 hP2=>jP (.inl #[(hP1.same s5).is,hP2.is]) (ba (Jy _) ∅) ?_;rw[zaH];have s45:=s4.trans s5;have s15:=s12.trans (x8 (s3.trans s45));have hT5:=hT2.same (s3.trans s45);refine#[_,rfl,yd (λh=>?_) λh=>?_]
    ·exact q1 bs c H5 (hr _ (.done hLn hb (w9 h))) hB s15 hT5 (hM.same s45)
    ·have e:20 - (i+1)=n:=⋯;rw[e];exact#[bs,s15,hT5,λr h'=>hr r (.more hLn hb (λz=>h (y3 z)) h'),(hM.same s45).l,hbn,hB.e]
   ·refine nmB ?_;rintro σ H' ⟨b,v2,v3,h,rfl⟩:0;exact#[b,h]
  rintro σ H2 ⟨b,fs,s2,hT2,hr,_⟩:0;ac_rfl;exact#[⋯,q2 (hr _ (.out fs)) H2 s2 hT2]
def u8(K:tF):Sp:=λvs H Q Z=>∃(a:tG) (ns:List Int) (k:Int),vs=[.ref a,.int k]/\SqL K H a (ns.map V.int)/\(∀z ∈ ns,vU z)/\0<=k/\∀c:Int,vU c->Q (.int c) H
def xh{ns:List Int}(hS:SqL K H a (ns.map V.int))(hB:∀z ∈ ns,vU z)(hk:0<=k)(h:∀c:Int,vU c->Q (.int c) H):u8 K [.ref a,.int k] H Q E:=#[a,ns,k,rfl,hS,hB,hk,h]
def zcx:sQz 2 ["_law_script","_law_k"] Qs:=by nofun
def zca(B:Bt mg)(F:("_law_cell"^^^Qs)):(1&&&["_law_script","_law_k"]) (u8 K):=by
 exists F.ok zcx
 ·let#[a,ns,k,rfl,hS,hB,hk,q]:=h
  refine#[_,(zG (zJ (zu V5 (pv 1) (zF B.len (pv 0)) (zt _)) (zg (zk (zm zeH (pv 0) (pv 1))))
    zp) (zg (zk zb))),?_]
  have s16:=zU;rfl';refine#[_,.inl #[_,hS,rfl],yd (λc=>?_) (λc=>q 0 (by unfold vU;decide))];let#[v,h1,h2]:=qv hk c;rw[au]at h2;let#[z,hz,rfl]:=BW.mp h2;exact .inl #[_,hS,_,h1,q z (hB z (ag hz))]
def xx:Sp:=λvs H Q Z=>∃(c t:Int),vs=[.int c,.int t]/\vU c/\0<=t/\t<=100/\∀z:Int,0<=z->Q (.int z) H
def zQ(hc:vU c)(h0:0<=t)(h1:t<=100)(q:∀z:Int,0<=z->Q (.int z) H):xx [.int c,.int t] H Q E:=#[c,t,rfl,hc,h0,h1,q]
def rR:sQz 2 ["_law_cell_here","_law_turn","_law_number"] X7:=by nofun
def zaB(B:Bt mg)(F:("_law_mixed"^^^X7)):(1&&&["_law_cell_here","_law_turn"]) xx:=by
 exists F.ok rR
 ·let#[c,t,rfl,hc,h0,h1,q]:=h;refine#[_,(zG (zB 2 rR.nd (zr yq (zr kQ (zr zam (pv 0) (pv 0)) zb) (zr kQ (zr kQ (pv 0) zb) (zr yq (pv 1) zb)))) (zg (zk (zr yO (zr zR (zr yq (pv 2) (zr kQ (pv 1) zb)) zb) zb)))),?_];have s16:=zU;rfl';exact#[hc,hc,.inr #[∅,∅],.inr #[∅,∅],.inr #[⋯,⋯],.inr #[∅,∅],∅,#[∅,∅],q _ (Int.ediv_nonneg (bJ _ ∅) ∅)]
def vC:Sp:=λvs H Q Z=>∃c m:Int,vs=[.int c,.int m]/\vU c/\0<=m/\m<=26/\∀l:(),(l.length:Int)=m->l.Nodup->small l->Q ⇑l H
def kj(h:vU c)(h0:0<=m)(h1:m<=26)(q:∀l:(),(l.length:Int)=m->l.Nodup->small l->Q ⇑l H):vC [.int c,.int m] H Q E:=#[c,m,rfl,h,h0,h1,q]
def zhu(c m:Int)(i:Nat)(σ:L2.St):Prop:=∃(left found:()) (number:Int) (v5 v6:Option V),found.length=i/\(found ++ left).Perm alpha/\σ=[~~~!c,~~~!m,~~~left,~~~!number,~~~found,v5,v6]
def ik:sQz 2 ["_law_cell_here","_law_many","_law_left","_law_number","_law_letters_here","_law_k","_law_at"] jW:=by nofun
def Ud(B:Bt mg)(F:("_law_letters"^^^jW))(gL:(1<<<"_law_mixed") ["_law_cell_here","_law_turn"] [] xx):(2&&&["_law_cell_here","_law_many"]) vC:=by
 exists F.ok ik
 ·let#[c,m,rfl,hc,h0,h1,q]:=h;refine#[_,(zh (zB 2 ik.nd zP) (zh (zB 3 ik.nd (cl0 gL hr .nil rfl (za (pv 0) (za zb ze)))) (zh (zB 4 ik.nd zP) (zh (zW u5 rfl (yg rfl B.range (za (pv 1) ze)) (zq (i:=5) ik.nd rfl (.inl rfl)) (zh (zB 6 ik.nd (zr zR (pv 3) (zF B.len (pv 2)))) (zh (zB 3 ik.nd (zr yO (pv 3) (zF B.len (pv 2)))) (zh (zB 4 ik.nd (zr yE (pv 4) (zm Zk (pv 2) (pv 6)))) (zg (zB 2 ik.nd (zr yE (yk wM (pv 2) xS (yc (pv 6))) (yk wM (pv 2) (yc (zr yq (pv 6) zb)) xS)))))))) (zg (zk (pv 4))))))),?_];have s16:=zU;have ha:alpha.length=26:=rfl;change H'=H/\σ=%[~~~!c,~~~!m,~~~alpha|4]
  ·rfl';exact Ja
  rintro σ H1 ⟨rfl,rfl⟩:0;change H'=H1/\∃z:Int,σ=%[~~~!c,~~~!m,~~~alpha,~~~!z|3]
  ·rfl';exact zQ hc ∅ ∅ λz Z=>#[rfl,z,rfl]
  rintro σ H2 ⟨rfl,z,rfl⟩:0;change H'=H2/\σ=%[~~~!c,~~~!m,~~~alpha,~~~!z,BJ ⇑[]|2]
  ·rfl';rfl
  rintro σ H3 ⟨rfl,rfl⟩:0;change H'=H3/\zhu c m m.toNat σ
  ·rfl';refine#[⋯,⋯,ja2 (λi σ H'=>H'=H3/\zhu c m i σ) #[rfl,alpha,[],z,BK,BK,rfl,.refl _,rfl] ?_ λσ H' h=>h];refine nm3 ?_;rintro i σ H' hi ⟨rfl,left,found,number,v5,v6,hf,hp,rfl⟩:_;have hpl:=hp.length_eq;rw[am]at hpl;have hl:left.length+i=26:=⋯;have hm0:=bJ number (b:=(left.length:Int)) ⋯;have hm1:=bE number (b:=(left.length:Int)) ⋯;right;generalize hz:number % (left.length:Int)=at_ at hm0 hm1;let#[v,e1,e2]:=qv hm0 hm1;erw[yH,aX,aW];refine zj (λσ H''=>H''=H'/\∃v5,σ=[~~~!c,~~~!m,~~~left,~~~!number,~~~found,v5,~~~!at_]) ?_ ?_
   ·rfl';exact#[⋯,⋯,hz]
   rintro σ G1 ⟨rfl,v5',rfl⟩:0;refine zj (λσ H''=>H''=G1/\∃n v5,σ=[~~~!c,~~~!m,~~~left,~~~!n,~~~found,v5,~~~!at_]) ?_ ?_
   ·rfl';exact#[⋯,#[⋯,⋯]]
   rintro σ G2 ⟨rfl,n,v5',rfl⟩:0;refine zj (λσ H''=>H''=G2/\∃v5,σ=[~~~!c,~~~!m,~~~left,~~~!n,BJ ⇑(found ++ [v]),v5,~~~!at_]) ?_ ?_
   ·rfl';exact#[⋯,v,e1,⋯,rfl]
   rintro σ G3 ⟨rfl,v5',rfl⟩:_;have hc1:=vo left BK (BJ at_);have hc2:=vo left (BJ (at_+1)) BK;right;rfl';refine#[⋯,⋯,⋯,_,_,_,_,_,by rw[am,hf];rfl,?_,rfl];rw[YC _ hm0,qL _ ⋯,aS];have e3:(at_+1).toNat=at_.toNat+1:=⋯;rw[e3];exact ((Jh e2).append_left found).trans hp
  rintro σ H4 ⟨rfl,left,found,number,v5,v6,hf,hp,rfl⟩:0;rfl';have hnd:(found ++ left).Nodup:=hp.nodup_iff.mpr ∅;refine q found ⋯ (List.nodup_append.mp hnd).1 λc hc=>?_;have h:c ∈ alpha:=hp.mem_iff.mp (bL _ hc);exact (by decide:∀c ∈ alpha,97<=c/\c<=122) c h
def Ys:Sp:=λvs H Q Z=>∃(ls:()) (c m:Int),vs=[.int c,⇑ls,.int m]/\0<=c/\1<=ls.length/\ls.length<=26/\0<=m/\m<=100/\∀l:(),(l.length:Int)<=m->(∀x ∈ l,x ∈ ls)->Q ⇑l H
def qN(h0:0<=c)(h1:1<=ls.length)(h2:ls.length<=26)(h3:0<=m)(h4:m<=100)(h:∀l:(),(l.length:Int)<=m->(∀x ∈ l,x ∈ ls)->Q ⇑l H):Ys [.int c,⇑ls,.int m] H Q E :=
 #[ls,c,m,rfl,h0,h1,h2,h3,h4,h]
def lV:sQz 3 ["_law_number","_law_letters_here","_law_most","_law_size","_law_word_here","_law_k"] US:=by nofun
def zct(B:Bt mg)(F:("_law_word"^^^US)):(1&&&["_law_number","_law_letters_here","_law_most"]) Ys:=by
 exists F.ok lV
 ·let#[ls,c,m,rfl,h0,h1,h2,h3,h4,q]:=h;refine#[_,(zG (zB 3 lV.nd (zr zR (pv 0) (zr yq (pv 2) zb))) (zG (zB 0 lV.nd (zr yO (pv 0) (zr yq (pv 2) zb))) (zG (zB 4 lV.nd zP) (zG (zW u5 rfl (yg rfl B.range (za (pv 3) ze)) (zq (i:=5) lV.nd rfl (.inl rfl)) (zG (zB 4 lV.nd (zr yE (pv 4) (zm Zk (pv 1) (zr zR (pv 0) (zF B.len (pv 1)))))) (zg (zB 0 lV.nd (zr yO (pv 0) (zF B.len (pv 1))))))) (zg (zk (pv 4))))))),?_];have s16:=zU;rfl';have m0:=bJ c (b:=m+1) ⋯;have m1:=bE c (b:=m+1) ⋯
  refine#[⋯,#[⋯,⋯],⋯,⋯,ja2 (λi σ H'=>H'=H/\∃(found:()) (number:Int) (v5:Option V),σ=[~~~!number,~~~ls,~~~!m,BJ (.int (c % (m+1))),~~~found,v5]/\found.length=i/\∀x ∈ found,x ∈ ls)
   #[rfl,[],_,BK,rfl,rfl,λx h=>(nomatch h)] ?_ ?_]
  ·refine nm3 ?_;rintro i σ H' hi ⟨rfl,found,number,v5,rfl,hf,hm⟩:0;rfl';have hm0:=bJ number (b:=(ls.length:Int)) ⋯;have hm1:=bE number (b:=(ls.length:Int)) ⋯;let#[v,e1,e2]:=qv hm0 hm1
   repeat (refine And.intro (by first | lia | decide | exact#[⋯,⋯] | assumption) ?_)
   refine#[v,e1,?_]
   repeat (refine And.intro (by first | lia | decide | exact#[⋯,⋯] | assumption) ?_)
   refine#[by rw[am,hf];rfl,λx hx=>?_];rcases BS.mp hx with h | h
   ·exact hm x h
   ·rw[BV.mp h];exact ag e2
  ·refine nmB ?_;rintro σ H' ⟨rfl,found,number,v5,rfl,hf,hm⟩:0;rfl';exact q found ⋯ hm
def Yq:Sp:=λvs H Q Z=>∃(ls:()) (c m:Int),vs=[.int c,⇑ls,.int m]/\vU c/\1<=ls.length/\ls.length<=26/\0<=m/\m<=100/\∀(o n:()) (p:tG),(o.length:Int)<=m->(n.length:Int)<=m->(∀x ∈ o,x ∈ ls)->(∀x ∈ n,x ∈ ls)->H p=BK->Q (.ref p) (upd H p (.tup [⇑o,⇑n]))
def zaD(h0:vU c)(h1:1<=ls.length)(h2:ls.length<=26)(h3:0<=m)(h4:m<=100)(h:∀(o n:()) (p:tG),(o.length:Int)<=m->(n.length:Int)<=m->(∀x ∈ o,x ∈ ls)->(∀x ∈ n,x ∈ ls)->H p=BK->Q (.ref p) (upd H p (.tup [⇑o,⇑n]))):Yq [.int c,⇑ls,.int m] H Q E:=#[ls,c,m,rfl,h0,h1,h2,h3,h4,h]
def zdx:sQz 3 ["_law_cell_here","_law_letters_here","_law_most"] Qg:=by nofun
def zcr(B:Bt mg)(F:("_law_pair"^^^Qg))(ow:(1<<<"_law_word") ["_law_number","_law_letters_here","_law_most"] [] Ys)(gL:(1<<<"_law_mixed") ["_law_cell_here","_law_turn"] [] xx):(2&&&["_law_cell_here","_law_letters_here","_law_most"]) Yq:=by
 exists F.ok zdx
 ·let#[ls,c,m,rfl,hc,h1,h2,h3,h4,q]:=h;refine#[_,(zg (zk (zN (za (cl0 ow hr .nil rfl (za (cl0 gL hr .nil rfl (za (pv 0) (za zb ze))) (za (pv 1) (za (pv 2) ze)))) (za (cl0 ow hr .nil rfl (za (cl0 gL hr .nil rfl (za (pv 0) (za zb ze))) (za (pv 1) (za (pv 2) ze)))) ze))))),?_];have s16:=zU;rfl';exact zQ hc ∅ ∅ λz hz=>qN hz h1 h2 h3 h4 λo ho mo=>zQ hc ∅ ∅ λz hz=>qN hz h1 h2 h3 h4 λn hn mn=>#[⋯,λp hp=>q o n p ho hn mo mn hp]
structure zh4(K:tF):Prop where
 ii:aN K (.type "int") (.type "int")=BJ BL
 ib:aN K (.type "int") (.type "bool")=BJ BM
def uO:Sp:=λvs H Q Z=>∃i:Int,vs=[.int i]/\Q (.bl BL) H
def jB(h:Q (.bl BL) H):uO [.int i] H Q E:=#[i,rfl,h]
def KD:sQz 1 ["_law_found"] XU:=by nofun
def Kk(B:Bt mg)(T:zh4 K)(F:("_law_whole"^^^XU)):(1&&&["_law_found"]) uO:=by
 exists F.ok KD
 ·let#[i,rfl,q]:=h;refine#[_,(zg (zk (vN (yR rfl B.isi (pv 0) rfl B.int PySem.Pv.boot_int) (vP (Jg (yR rfl B.isi (pv 0) rfl B.bool PySem.Pv.boot_bool)))))),?_];rfl';exact#[_,.inl (.int _),BL,T.ii,zfl #[_,.inl (.int _),BM,T.ib,q]]
structure TLs(K:tF):Prop where
 ll:aN K (.type "list") (.type "list")=BJ BL
 tt:aN K (.type "tuple") (.type "tuple")=BJ BL
 bb:aN K (.type "bool") (.type "bool")=BJ BL
def ZQ(K:tF):Sp:=λvs H Q Z=>∃(t:tG) (ss:List Stp),vs=[.ref t]/\Is K H (.lst (ss.map dSt)) (.ref t)/\Q (.bl BL) H
def rS:sQz 1 ["_law_found","_law_step"] X2:=by nofun
def Kv(B:Bt mg)(T:TLs K)(F:("_law_steps"^^^X2))(oV:(1<<<"_law_whole") ["_law_found"] [] uO):(2&&&["_law_found"]) (ZQ K):=by
 exists F.ok rS
 ·let#[t,ss,rfl,hT,q]:=h
  refine#[_,(zh (zJ (zX (yB (yR rfl B.isi (pv 0) rfl B.list jb0) (λZ=>rfl))) (zg (zk yJ))
    zp) (zh (zW u5 rfl (yv (pv 0)) (zq (i:=1) rS.nd rfl (.inl rfl)) (zh (zJ (PW.pt (wA (zX (yB (yR rfl B.isi (pv 1) rfl B.tuple jc0) (λZ=>rfl))) (wA (zu qb (zF B.len (pv 1)) zb (zt _)) (xN (zX (yB (yR rfl B.isi (!-1) rfl B.bool PySem.Pv.boot_bool) (λZ=>rfl))))))) (zg (zk yJ))
     zp) (zg (zJ (PW.pt (wA (zX (yB (cl0 oV hr .nil rfl (za (!-1) ze)) (λZ=>rfl))) (xN (zX (yB (cl0 oV hr .nil rfl (za (!-1) ze)) (λZ=>rfl)))))) (zg (zk yJ))
     zp)))) (zg (zk yJ)))),?_]
  have s16:=zU;erw[Is]at hT;let#[_,ts,e,hTs,hJ]:=hT;cases e;change H'=H/\σ=[!!t,BK]
  ·rfl';exact#[_,.inr (.inr (.inl #[_,_,rfl,rfl,hTs])),BL,T.ll,kG trivial]
  rintro σ H1 ⟨rfl,rfl⟩:0;change H'=H1/\∃v1,σ=[!!t,v1]
  ·rfl';refine#[#[_,hTs],ja3 (xs:=ts) (λi σ H'=>H'=H1/\∃v1,σ=[!!t,v1]) #[rfl,_,rfl] (λi σ H' Z h=>by rw[h.1];exact hTs) ?_ λσ H' h=>h];refine nm4 ?_;rintro i x σ H' hx ⟨rfl,v1,rfl⟩:_;let#[u,pu,hui,rfl,hqu]:=vD hJ hx;right;erw[yH,aX,aW];refine zj (λσ H''=>H''=H'/\σ=[!!t,!!pu]) ?_ ?_
   ·rfl';exact#[_,.inr (.inr (.inr #[_,_,rfl,rfl,hqu])),BL,T.tt,kG #[_,.inr #[_,hqu,rfl],yd (λh=>y6 rfl h) λZ=>#[_,hqu,_,rfl,_,.inl (.bl _),BL,T.bb,kG trivial]]]
   rintro σ G ⟨rfl,rfl⟩:0;rfl';exact#[_,hqu,_,rfl,jB #[BL,rfl,kG #[_,hqu,_,rfl,jB #[BL,rfl,kG rfl]]]]
  rintro σ H2 ⟨rfl,v1,rfl⟩:0;rfl';exact q
def ut(K:tF):Sp:=λvs H Q Z=>∃(a t:tG) (rs:List zK) (w w':()) (s:Stp),vs=[.ref a,⇑w,.ref t]/\Is K H (.lst (rs.map dR)) (.ref a)/\jc rs/\w.length<=300000/\SqT K H t [.int s.1,.int s.2.1,.bl s.2.2]/\yx rs w s=BJ w'/\Q ⇑w' H
def jl{w w':()}(h1:Is K H (.lst (rs.map dR)) (.ref a))(h2:jc rs)(h3:w.length<=300000)(h4:SqT K H t [.int s.1,.int s.2.1,.bl s.2.2])(h5:yx rs w s=BJ w')(q:Q ⇑w' H):ut K [.ref a,⇑w,.ref t] H Q E:=#[a,t,rs,w,w',s,rfl,h1,h2,h3,h4,h5,q]
def nR:sQz 3 ["_law_pacts","_law_word_here","_law_step","_law_old","_law_new"] J7:=by nofun
def zcv(B:Bt mg)(F:("_law_used"^^^J7)):(1&&&["_law_pacts","_law_word_here","_law_step"]) (ut K):=by
 refine F.ok nR (λvs H Q E h=>?_) (λcdv A outer s H vs Q E hr h=>?_)
 ·let#[a,t,rs,w,w',s,rfl,_]:=h;rfl
 ·let#[a,t,rs,w,w',s,rfl,hR,ok,hw,ht,ha,q]:=h
  refine#[_,(zh (zB 3 nR.nd (zm w6 (zm ix_list (pv 0) (!-2)) zb)) (zh (zB 4 nR.nd (zm w6 (zm ix_list (pv 0) (!-2)) zb)) (zh (zJ (zX (yB (!-2) (λZ=>rfl))) (zG (zB 3 nR.nd (zm w6 (zm ix_list (pv 0) (!-2)) zb)) (zg (zB 4 nR.nd (zm w6 (zm ix_list (pv 0) (!-2)) zb))))
    zp) (zg (zk (zr yE (zr yE (yk wM (pv 1) xS (yc (!-2))) (pv 4)) (yk wM (pv 1) (yc (zr yq (!-2) (zF B.len (pv 3)))) xS))))))),?_]
  have s16:=zU;erw[Is]at hR;let#[_,xs,e,hX,hI]:=hR;cases e;have hb:0<=s.1/\s.1<rs.length:=bT λhb=>by rw[xa hb]at ha;cases ha
  let#[p,a1,_,hp]:=zd5 hI hb.1 hb.2;have gl:=Wz ok s.1.toNat;rw[yL hb]at ha;generalize rs.getD s.1.toNat ([],[])=r at *;change H'=H/\σ=[!!a,~~~w,!!t,BJ ⇑r.1,BK]
  ·rfl';exact#[_,ht,_,rfl,_,rfl,_,hX,_,a1,_,rfl,_,hp,rfl]
  rintro σ H1 ⟨rfl,rfl⟩:0;change H'=H1/\σ=[!!a,~~~w,!!t,BJ ⇑r.1,BJ ⇑r.2]
  ·rfl';exact#[_,ht,_,rfl,_,rfl,_,hX,_,a1,_,rfl,_,hp,rfl]
  rintro σ H2 ⟨rfl,rfl⟩:0;change H'=H2/\σ=[!!a,~~~w,!!t,BJ ⇑(sdl r s.2.2).1,BJ ⇑(sdl r s.2.2).2]
  ·rfl';refine#[_,ht,_,rfl,_,rfl,yd (λh=>#[_,ht,_,rfl,_,rfl,_,hX,_,a1,_,rfl,_,hp,_,rfl,_,ht,_,rfl,_,rfl,_,hX,_,a1,_,rfl,_,hp,_,rfl,?_]) λh=>?_]
   ·rw[h];exact#[rfl,rfl]
   ·rw[Bool.not_eq_false]at h;rw[h];exact#[rfl,rfl]
  rintro σ H3 ⟨rfl,rfl⟩:_
  have hol:(sdl r s.2.2).1.length<=100:=by
   cases s.2.2
   ·exact gl.2
   ·exact gl.1
  have hnl:(sdl r s.2.2).2.length<=100:=by
   cases s.2.2
   ·exact gl.1
   ·exact gl.2
  right;generalize sdl r s.2.2=on at *;have hst:zv w s.2.1 on.1=BL:=bT λhst=>by rw[z9 hst]at ha;cases ha
  rw[y9 hst]at ha;let#[_,_,h0,h1]:=xf hst;have c1:=vo w BK (BJ s.2.1);have c2:=vo w (BJ (s.2.1 + ↑on.1.length)) BK;rfl';refine#[_,ht,_,rfl,_,rfl,⋯,⋯,_,ht,_,rfl,⋯,_,rfl,⋯,?_,?_]
  ·rw[am];lia
  ·rw[zdv h0];cases ha;exact q
def UA{w o:()}{n:Nat}(h:(n:Int)+o.length<=w.length):zv w (n:Int) o=decide (cut w (BJ (n:Int)) (BJ ((n:Int)+(o.length:Int)))=o):=by unfold zv;rw[Zt _ ⋯ ⋯ ⋯];have e:((n:Int)+(o.length:Int) - (n:Int)).toNat=o.length:=⋯;rw[e];exact decide_eq_decide.mpr #[λh=>h.2.2,λh'=>#[⋯,⋯,h']]
def Yx(hp:H p=BJ (.lst ys))(h:SqT K H a xs):SqT K (upd H p (.lst zs)) a xs:=by
 rcases h with (h | ⟨o,h⟩) | h
 ·exact .inl (.inl (by rw[zo (λe=>by rw[e,hp]at h;cases h)];exact h))
 ·exact .inl (.inr #[o,by rw[zo (λe=>by rw[e,hp]at h;cases h)];exact h])
 ·exact .inr h
def WD(K:tF):Sp:=λvs H Q Z=>∃(a:tG) (rs:List zK) (w:()) (m:Int),vs=[.ref a,⇑w,.int m]/\Is K H (.lst (rs.map dR)) (.ref a)/\jc rs/\w.length<=900/\∀(D:tG) (H':Hp) (us:List Stp),H D=BK->Same H H'->LsA K H' D (us.map dSt)->us.length<=300000->(∀s ∈ us,Fit rs w m s)->Q (.ref D) H'
def zat{w:()}(h1:Is K H (.lst (rs.map dR)) (.ref a))(h2:jc rs)(h3:w.length<=900)(h:∀(D:tG) (H':Hp) (us:List Stp),H D=BK->Same H H'->LsA K H' D (us.map dSt)->us.length<=300000->(∀s ∈ us,Fit rs w m s)->Q (.ref D) H'):WD K [.ref a,⇑w,.int m] H Q E:=#[a,rs,w,m,rfl,h1,h2,h3,h]
def iU:sQz 3 ["_law_pacts","_law_word_here","_law_most","_law_found","_law_number","_law_pact","_law_forth","_law_old","_law_place","_law_step"] QK:=by nofun
def zdi(B:Bt mg)(F:("_law_uses"^^^QK))(oy:(1<<<"_law_used") ["_law_pacts","_law_word_here","_law_step"] [] (ut K)):(2&&&["_law_pacts","_law_word_here","_law_most"]) (WD K):=by
 exists F.ok iU
 ·let#[a,rs,w,m,rfl,hR,ok,hw,q]:=h
  refine#[_,(zh (zB 3 iU.nd (yF ze)) (zh (zW u5 rfl (wC rfl B.enum (za (pv 0) ze)) (wN (n:=2) rfl (zL (zq (i:=4) iU.nd rfl (.inl rfl)) (zL (zq (i:=5) iU.nd rfl (.inl rfl)) y8))) (zg (zW u5 rfl (zed (zN (za yJ (za yJ ze)))) (zq (i:=6) iU.nd rfl (.inl rfl)) (zh (zB 7 iU.nd (!-5)) (zh (zJ (zX (yB (pv 6) (λZ=>rfl))) (zg (zB 7 iU.nd (!-5)))
      zp) (zg (zW u5 rfl (yg rfl B.range (za (zr yq (zr jF (zF B.len (pv 1)) (zF B.len (pv 7))) zb) ze)) (zq (i:=8) iU.nd rfl (.inl rfl)) (zh (zB 9 iU.nd (zN (za (pv 4) (za (pv 8) (za (pv 6) ze))))) (zg (zJ (PW.pt (zbB (zu yQ (yk wM (pv 1) (yc (pv 8)) (yc (zr yq (pv 8) (zF B.len (pv 7))))) (pv 7) (zt _)) (JJ (zu zem (zF B.len (cl0 oy hr .nil rfl (za (pv 0) (za (pv 1) (za (pv 9) ze))))) (pv 2) (zt _))))) (zg (xU (qz bB cf ci xG (pv 3) (za (pv 9) ze))))
       zp)))))))))) (zg (zk (pv 3))))),?_]
  have s16:=zU;have hR':=hR;erw[Is]at hR';let#[_,xs,e,hX,hI]:=hR';cases e;have hxl:=hI.len;rw[aa]at hxl;have okl:=ok.1;change ∃D:tG,H D=BK/\Same H H'/\LsA K H' D []/\σ=%[!!a,~~~w,~~~!m,!!D|6]
  ·rfl';exact#[⋯,λD hD=>#[D,hD,zf hD,LsA.nil,rfl]]
  rintro σ H1 ⟨D,hD,s1,hL1,rfl⟩:0;change ∃us:List Stp,Same H H'/\LsA K H' D (us.map dSt)/\us.length<=300000/\(∀s ∈ us,Fit rs w m s)/\∃v4 v5 v6 v7 v8 v9,σ=[!!a,~~~w,~~~!m,!!D,v4,v5,v6,v7,v8,v9]
  ·rfl';refine#[#[_,s1.seq hX],ForEL.by (xs:=xs) (λi σ H'=>∃us:List Stp,Same H H'/\LsA K H' D (us.map dSt)/\us.length<=i * 2002/\(∀s ∈ us,Fit rs w m s)/\∃v4 v5 v6 v7 v8 v9,σ=[!!a,~~~w,~~~!m,!!D,v4,v5,v6,v7,v8,v9]) #[[],s1,hL1,ax _,λs h=>(nomatch h),_,_,_,_,_,_,rfl] ?_ ?_ ?_]
   ·rintro i σ H' _ ⟨us,hs,_⟩;exact hs.seq hX
   ·refine nmE ?_;rintro i x σ H' p hx ⟨us,hs,hL,hl,hf,v4,v5,v6,v7,v8,v9,rfl⟩ hp:_;let#[r,pr,hri,rfl,hqr]:=hI.getR hx;have hi:=(BP.mp hri).1;have b:=ok.2 r (ag hri);have er:rs.getD i ([],[])=r:=by rw[ac,hri];rfl
    right;rfl';refine#[_,x4 zd,rfl,_,_,rfl,_,_,rfl,rfl,?_];refine#[⋯,λp2 hp2=>?_];have hs3:Same H' (upd (upd H' p (.tup [.int (i:Nat),.ref pr])) p2 (.tup [.bl BL,.bl BM])):=(zf hp).trans (zf hp2);have hp3:(upd (upd H' p (.tup [.int (i:Nat),.ref pr])) p2 (.tup [.bl BL,.bl BM])) p2=BJ (.tup [.bl BL,.bl BM]):=zd;generalize upd (upd H' p (.tup [.int (i:Nat),.ref pr])) p2 (.tup [.bl BL,.bl BM])=H3 at *
    have hD3:p2≠D:=λe=>by
     let#[ys,hY,_]:=hL.same hs3;rw[e,hY]at hp3;cases hp3
    refine#[#[_,x4 hp3],ForT.by (xs:=[.bl BL,.bl BM]) (λj σ H4=>H4 p2=BJ (.tup [.bl BL,.bl BM])/\Same H H4/\∃us:List Stp,LsA K H4 D (us.map dSt)/\us.length<=i * 2002+j * 1001/\(∀s ∈ us,Fit rs w m s)/\∃v6 v7 v8 v9,σ=[!!a,~~~w,~~~!m,!!D,-~~~i,!!pr,v6,v7,v8,v9]) #[hp3,hs.trans hs3,us,hL.same hs3,⋯,hf,_,_,_,_,rfl] (λj σ H4 Z h=>x4 h.1) ?_ ?_]
    ·refine nm4 ?_;rintro j y σ H4 hy ⟨hp4,hs4,us,hL4,hl4,hf4,v6,v7,v8,v9,rfl⟩:_
     obtain⟨f,rfl⟩:∃f:Bool,y=.bl f:=by
      match j,hy with
      | 0,hy=>exact#[_,(Option.some.inj hy).symm]
      | 1,hy=>exact#[_,(Option.some.inj hy).symm]
      | j+2,hy=>simp at hy
     right;rfl';change H'=H4/\σ=[!!a,~~~w,~~~!m,!!D,-~~~i,!!pr,BJ (.bl f),BJ ⇑r.1,v8,v9]
     ·rfl';exact#[_,zy hs4 hqr,rfl]
     rintro σ H5 ⟨rfl,rfl⟩:0;change H'=H5/\σ=[!!a,~~~w,~~~!m,!!D,-~~~i,!!pr,BJ (.bl f),BJ ⇑(sdl r f).1,v8,v9]
     ·rfl';refine yd (λh=>#[_,zy hs4 hqr,?_]) λh=>?_
      ·rw[h];rfl
      ·rw[Bool.not_eq_false]at h;rw[h];rfl
     rintro σ H6 ⟨rfl,rfl⟩:_
     have bo:(sdl r f).1.length<=100/\(sdl r f).2.length<=100:=by
      unfold sdl;split
      ·exact b
      ·exact#[b.2,b.1]
     have aft:∀n:Nat,(n:Int)+(sdl r f).1.length<=w.length->cut w (BJ (n:Int)) (BJ ((n:Int)+((sdl r f).1.length:Int)))=(sdl r f).1->∃w',yx rs w (((i:Nat):Int),((n:Nat):Int),f)=BJ w'/\w'.length<=1000:=λn hn hc=>by
      have hst:zv w (n:Int) (sdl r f).1=BL:=by
       rw[UA hn];exact y3 hc
      refine#[yZ w (n:Int) (sdl r f).1 (sdl r f).2,?_,?_]
      ·rw[yL (by show (0:Int)<=(i:Int)/\(i:Int)<rs.length;lia)];simp only;rw[show ((i:Nat):Int).toNat=i from rfl,er,y9 hst]
      ·have:=WI (n:=(sdl r f).2) hst;lia
     right;generalize sdl r f=o at *;rfl';refine#[⋯,⋯,⋯,⋯,ja2 (λn σ H4=>H4 p2=BJ (.tup [.bl BL,.bl BM])/\Same H H4/\∃us:List Stp,LsA K H4 D (us.map dSt)/\us.length<=i * 2002+j * 1001+n/\(∀s ∈ us,Fit rs w m s)/\∃v8 v9,σ=[!!a,~~~w,~~~!m,!!D,-~~~i,!!pr,BJ (.bl f),BJ ⇑o.1,v8,v9]) #[hp4,hs4,us,hL4,hl4,hf4,_,_,rfl] ?_ ?_]
     ·refine nm3 ?_;rintro n σ H7 hn ⟨hp7,hs7,us,hL7,hl7,hf7,v8,v9,rfl⟩:0;dsimp only;rw[show (0:Int)+(n:Int)=(n:Int) by lia];let#[ys,hY,hJ]:=hL7;have hyl:=hJ.len;rw[aa]at hyl;have hj2:j<2:=(BP.mp hy).1;erw[yH,aX,aW];refine zj (λσ H''=>∃t:tG,Same H7 H''/\H'' t=BJ (.tup [.int (i:Nat),.int (n:Nat),.bl f])/\σ=[!!a,~~~w,~~~!m,!!D,-~~~i,!!pr,BJ (.bl f),BJ ⇑o.1,-~~~n,!!t]) ?_ ?_
      ·rfl';exact#[⋯,λt ht=>#[zf ht,zd]]
      rintro σ H8 ⟨t,s8,ht8,rfl⟩:_;have hY8:=s8 _ _ hY;have hJ8:=ja1 s8 _ _ hJ;right;rfl';refine#[⋯,⋯,yd (λhc=>?_) λZ=>#[s8 _ _ hp7,hs7.trans s8,us,#[ys,hY8,hJ8],⋯,hf7]];let#[w',ha,hwl]:=aft n ⋯ hc;refine jl (s:=(((i:Nat):Int),((n:Nat):Int),f)) (Is.same (hs7.trans s8) _ _ hR) ok ⋯ (x4 ht8) ha ?_;rfl';refine#[⋯,yd (λhm=>#[.inl #[_,x6 hY8],ys,hY8,⋯,?_,zI (hs7.trans s8) hD,us ++ [(((i:Nat):Int),((n:Nat):Int),f)],?_,by rw[am];erw[aF,bH];lia,λs hs'=>?_]) λZ=>#[s8 _ _ hp7,hs7.trans s8,us,#[ys,hY8,hJ8],⋯,hf7]]
      ·rw[zo hD3];exact s8 _ _ hp7
      ·rw[ar];exact LsA.snoc hY8 hJ8 (wo _) (by erw[dSt,xw,z8,and_self]) (Zi (x4 ht8))
      ·rcases BS.mp hs' with h | h
       ·exact hf7 s h
       ·rw[BV.mp h];exact#[w',ha,hm]
     ·refine nmB ?_;rintro σ H7 ⟨hp7,hs7,us,hL7,hl7,hf7,v8,v9,rfl⟩:0;exact#[hp7,hs7,us,hL7,⋯,hf7,_,_,_,_,rfl]
    ·refine nmB ?_;rintro σ H4 ⟨_,hs4,us,hL4,hl4,hf4,v6,v7,v8,v9,rfl⟩:0;exact#[hs4,us,hL4,by erw[aF,bH]at hl4;lia,hf4,_,_,_,_,_,_,rfl]
   ·refine nmB ?_;rintro σ H' ⟨us,hs,hL,hl,hf,v4,v5,v6,v7,v8,v9,rfl⟩:0;exact#[hs,us,hL,⋯,hf,_,_,_,_,_,_,rfl]
  rintro σ H2 ⟨us,s2,hL,hl,hf,v4,v5,v6,v7,v8,v9,rfl⟩:0;rfl';exact q D H2 us hD s2 hL hl hf
def Zu(K:tF):Sp:=λvs H Q Z=>∃(a c:tG) (rs:List zK) (w:()) (ns:List Int) (m:Int),vs=[.ref a,⇑w,.ref c,.int m]/\Is K H (.lst (rs.map dR)) (.ref a)/\jc rs/\w.length<=(60)/\m<=(60)/\SqL K H c (ns.map V.int)/\(∀z ∈ ns,vU z)/\ns.length<=63 /\
 ∀(D:tG) (H':Hp) (ss:List Stp) (w':()),H D=BK->Same H H'->LsA K H' D (ss.map dSt)->z7 rs w ss=BJ w'->w'.length<=(60)->ss.length<=ns.length->(∀s ∈ ss,0<=s.1/\s.1<rs.length)->Q (.ref D) H'
def QJ{w:()}{ns:List Int}(h1:Is K H (.lst (rs.map dR)) (.ref a))(h2:jc rs)(h3:w.length<=(60))(h4:m<=(60))(h5:SqL K H c (ns.map V.int))(h5':∀z ∈ ns,vU z)(h6:ns.length<=63)(h:∀(D:tG) (H':Hp) (ss:List Stp) (w':()),H D=BK->Same H H'->LsA K H' D (ss.map dSt)->z7 rs w ss=BJ w'->w'.length<=(60)->ss.length<=ns.length->(∀s ∈ ss,0<=s.1/\s.1<rs.length)->Q (.ref D) H'):Zu K [.ref a,⇑w,.ref c,.int m] H Q E:=#[a,c,rs,w,ns,m,rfl,h1,h2,h3,h4,h5,h5',h6,h]
def Xe{w w':()}(h:yx rs w s=BJ w'):0<=s.1/\s.1<rs.length:=bT λhb=>by rw[xa hb]at h;cases h
def lX:sQz 4 ["_law_pacts","_law_word_here","_law_cells","_law_most","_law_steps_here","_law_cell_here","_law_some","_law_step"] Wq:=by nofun
def zaG(B:Bt mg)(F:("_law_chain"^^^Wq))(sZ:(2<<<"_law_uses") ["_law_pacts","_law_word_here","_law_most"] [] (WD K))(oy:(1<<<"_law_used") ["_law_pacts","_law_word_here","_law_step"] [] (ut K))(gL:(1<<<"_law_mixed") ["_law_cell_here","_law_turn"] [] xx):(3&&&["_law_pacts","_law_word_here","_law_cells","_law_most"]) (Zu K):=by
 exists F.ok lX
 ·let#[a,c,rs,w,ns,m,rfl,hR,ok,hw,hm,hS,hB,hn,q]:=h
  refine#[_,(zh (zB 4 lX.nd (yF ze)) (zh (zW u5 rfl (yv (pv 2)) (zq (i:=5) lX.nd rfl (.inl rfl)) (zh (zB 6 lX.nd (cl0 sZ hr .nil rfl (za (pv 0) (za (pv 1) (za (pv 3) ze))))) (zg (zJ (zu Zn (zF B.len (pv 6)) zb (zt _)) (zh (zB 7 lX.nd (zm ix_list (pv 6) (zr zR (cl0 gL hr .nil rfl (za (pv 5) (za zb ze))) (zF B.len (pv 6))))) (zh (xU (qz bB cf ci xG (pv 4) (za (pv 7) ze))) (zg (zB 1 lX.nd (cl0 oy hr .nil rfl (za (pv 0) (za (pv 1) (za (pv 7) ze))))))))
     zp)))) (zg (zk (pv 4))))),?_]
  have s16:=zU;change ∃D:tG,H D=BK/\Same H H'/\LsA K H' D []/\σ=%[!!a,~~~w,!!c,~~~!m,!!D|3]
  ·rfl';exact#[⋯,λD hD=>#[D,hD,zf hD,LsA.nil,rfl]]
  rintro σ H1 ⟨D,hD,s1,hL1,rfl⟩:0;change ∃(ss:List Stp) (w2:()),Same H H'/\LsA K H' D (ss.map dSt)/\z7 rs w ss=BJ w2/\w2.length<=(60)/\ss.length<=ns.length/\(∀s ∈ ss,0<=s.1/\s.1<rs.length)/\∃v5 v6 v7,σ=[!!a,~~~w2,!!c,~~~!m,!!D,v5,v6,v7]
  ·rfl';refine#[#[_,s1.seq hS],ja3 (xs:=ns.map V.int) (λi σ H'=>∃(ss:List Stp) (w2:()),Same H H'/\LsA K H' D (ss.map dSt)/\z7 rs w ss=BJ w2/\w2.length<=(60)/\ss.length<=i/\(∀s ∈ ss,0<=s.1/\s.1<rs.length)/\∃v5 v6 v7,σ=[!!a,~~~w2,!!c,~~~!m,!!D,v5,v6,v7]) #[[],w,s1,hL1,rfl,hw,ak _,λs h=>(nomatch h),_,_,_,rfl] (λi σ H' Z h=>by let#[ss,w2,hs,_]:=h;exact hs.seq hS) ?_ ?_]
   ·refine nm4 ?_;rintro i x σ H3 hx ⟨ss,w2,s3,hL3,hwk,hw2,hsl,hnum,v5,v6,v7,rfl⟩:_;have hi:=(BP.mp hx).1;rw[aa]at hi;rw[au]at hx;let#[z,hz,rfl]:=BW.mp hx;have hzB:=hB z (ag hz);right;erw[yH,aX,aW];change ∃(U:tG) (us:List Stp),Same H3 H'/\LsA K H' U (us.map dSt)/\us.length<=300000/\(∀s ∈ us,Fit rs w2 m s)/\σ=[!!a,~~~w2,!!c,~~~!m,!!D,~~~!z,!!U,v7]
    ·rfl';exact zat (Is.same s3 _ _ hR) ok ⋯ λU H' us Z s' hU hul hf=>#[s',U,us,hU,hul,hf,rfl]
    rintro σ H4 ⟨U,us,s4,hU,hul,hf,rfl⟩:_;let#[ys,hY,hJ]:=hU;right;rfl';refine#[_,.inl #[_,x6 hY,rfl],yd (λhpos=>?_) λZ=>?_]
    ·change ∃(st:Stp) (pst:tG) (w3:()),H'=H4/\SqT K H4 pst [.int st.1,.int st.2.1,.bl st.2.2]/\yx rs w2 st=BJ w3/\w3.length<=(60)/\σ=[!!a,~~~w2,!!c,~~~!m,!!D,~~~!z,!!U,!!pst]
     ·rfl';refine zQ hzB ∅ ∅ λy hy=>#[_,.inl #[_,x6 hY,rfl],?_];have m0:=bJ y (b:=(ys.length:Int)) ⋯;have m1:=bE y (b:=(ys.length:Int)) ⋯;let#[v,a1,b1]:=qv (xs:=ys) m0 m1;let#[st,pst,hst,rfl,hqs]:=vD hJ b1;let#[w3,haf,hw3]:=hf st (ag hst);exact#[_,rfl,⋯,_,x6 hY,_,a1,rfl,st,pst,hqs,w3,haf,⋯,rfl]
     rintro σ H5 ⟨st,pst,w3,rfl,hqs,haf,hw3,rfl⟩:_;let#[xs3,hX3,hI3]:=hL3.same s4;have hil:=hI3.len;rw[aa]at hil;right;change Same H H'/\LsA K H' D ((ss ++ [st]).map dSt)/\SqT K H' pst [.int st.1,.int st.2.1,.bl st.2.2]/\σ=[!!a,~~~w2,!!c,~~~!m,!!D,~~~!z,!!U,!!pst]
     ·rfl';refine#[.inl #[_,x6 hX3],xs3,hX3,⋯,zI (s3.trans s4) hD,?_,Yx hX3 hqs];rw[ar];exact LsA.snoc hX3 hI3 (wo _) (by erw[dSt,xw,z8,and_self]) (Zi hqs)
     rintro σ H6 ⟨s6,hL6,hq6,rfl⟩:0;rfl';refine jl (Is.same s6 _ _ hR) ok ⋯ hq6 haf ?_;refine#[s6,ss ++ [st],hL6,w3,jJ hwk haf,hw3,by rw[am];exact cS hsl,λs hs=>?_,rfl];rcases BS.mp hs with h | h
     ·exact hnum s h
     ·rw[BV.mp h];exact Xe haf
    ·exact#[s3.trans s4,ss,hL3.same s4,w2,hwk,hw2,⋯,hnum,rfl]
   ·refine nmB ?_;rintro σ H' ⟨ss,w2,hs,hL,hwk,hw2,hsl,hnum,v5,v6,v7,rfl⟩:_;rw[aa]at hsl;right;exact#[hs,ss,hL,w2,hwk,hw2,hsl,hnum,_,_,_,rfl]
  rintro σ H2 ⟨ss,w2,hs,hL,hwk,hw2,hsl,hnum,v5,v6,v7,rfl⟩:0;rfl';exact q D H2 ss w2 hD hs hL hwk hw2 hsl hnum
def Y5(K:tF):Sp:=λvs H Q Z=>∃(a t:tG) (rs:List zK) (w w':()) (ss:List Stp),vs=[.ref a,⇑w,.ref t]/\Is K H (.lst (rs.map dR)) (.ref a)/\jc rs/\w.length<=60/\Is K H (.lst (ss.map dSt)) (.ref t)/\ss.length<=2000/\z7 rs w ss=BJ w'/\Q ⇑w' H
def ZE{w w':()}(h1:Is K H (.lst (rs.map dR)) (.ref a))(h2:jc rs)(h3:w.length<=60)(h4:Is K H (.lst (ss.map dSt)) (.ref t))(h5:ss.length<=2000)(h6:z7 rs w ss=BJ w')(q:Q ⇑w' H):Y5 K [.ref a,⇑w,.ref t] H Q E:=#[a,t,rs,w,w',ss,rfl,h1,h2,h3,h4,h5,h6,q]
def U6{w w':()}(h:z7 rs w ss=BJ w')(hs:ss[i]? = BJ s)(h1:z7 rs w (ss.take i)=BJ w1):∃w2,yx rs w1 s=BJ w2/\z7 rs w (ss.take (i+1))=BJ w2:=by
 have e:ss=ss.take (i+1) ++ ss.drop (i+1):=(bV _ _).symm;rw[e,xP]at h;let#[w2,h2,_]:=Cf.mp h;refine#[w2,?_,h2];rw[yb hs,xP,h1]at h2;erw[z7,cC]at h2;let#[w3,h3,h4]:=Cf.mp h2;cases h4;exact h3
def pS:sQz 3 ["_law_pacts","_law_word_here","_law_steps_here","_law_step","_law_old"] zb6:=by nofun
def zep(B:Bt mg)(F:("_law_end"^^^zb6))(oy:(1<<<"_law_used") ["_law_pacts","_law_word_here","_law_step"] [] (ut K)):(2&&&["_law_pacts","_law_word_here","_law_steps_here"]) (Y5 K):=by
 refine F.ok pS (λvs H Q E h=>?_) (λcdv A outer s H vs Q E hr h=>?_)
 ·let#[a,t,rs,w,w',ss,rfl,_]:=h;rfl
 ·let#[a,t,rs,w,w',ss,rfl,hR,ok,hw,hT,hsl,hwk,q]:=h
  refine#[_,(zh (zW u5 rfl (yv (pv 2)) (zq (i:=3) pS.nd rfl (.inl rfl)) (zh (zJ (PW.pt (wA (zu V5 (!-3) zb (zt _)) (wA (zu op_ge' (!-3) (zF B.len (pv 0)) (zt _)) (xN (zu V5 (!-3) zb (zt _)))))) (zg (zk yh))
     zp) (zh (zB 4 pS.nd (zm w6 (zm ix_list (pv 0) (!-3)) (zr jF zb (xl JL rfl B.int PySem.Pv.boot_int (za (!-3) ze))))) (zh (zJ (PW.pt (wA (zu Kj (zr yq (!-3) (zF B.len (pv 4))) (zF B.len (pv 1)) (zt _)) (xN (zu qb (yk wM (pv 1) (yc (!-3)) (yc (zr yq (!-3) (zF B.len (pv 4))))) (pv 4) (zt _))))) (zg (zk yh))
     zp) (zg (zB 1 pS.nd (cl0 oy hr .nil rfl (za (pv 0) (za (pv 1) (za (pv 3) ze)))))))))) (zg (zk (pv 1)))),?_]
  have s16:=zU;have hR':=hR;have hT':=hT;erw[Is]at hR' hT';let#[_,xs,e,hX,hI]:=hR';cases e;let#[_,ts,e,hTs,hJ]:=hT';cases e;have htl:=hJ.len;rw[aa]at htl;change H'=H/\∃v3 v4,σ=[!!a,~~~w',!!t,v3,v4]
  ·rfl';refine#[#[_,hTs],ja3 (xs:=ts) (λi σ H'=>H'=H/\∃w1 v3 v4,z7 rs w (ss.take i)=BJ w1/\w1.length<=60+i * 100/\σ=[!!a,~~~w1,!!t,v3,v4]) #[rfl,w,_,_,rfl,⋯,rfl] (λi σ H' Z h=>by rw[h.1];exact hTs) ?_ ?_]
   ·refine nm4 ?_;rintro i x σ H' hx ⟨rfl,w1,v3,v4,hw1,hl1,rfl⟩:_;let#[s,ps,hsi,rfl,hqs]:=vD hJ hx;have hil:=(BP.mp hsi).1;let#[w2,haf,hw2]:=U6 hwk hsi hw1;have hl2:=QA ok haf;have hb:=Xe haf;let#[p,a1,_,hp]:=zd5 hI hb.1 hb.2;have gl:=Wz ok s.1.toNat;have ha:=haf;rw[yL hb]at ha;right;generalize rs.getD s.1.toNat ([],[])=r at *;have hst:zv w1 s.2.1 (sdl r s.2.2).1=BL:=bT λhst=>by rw[z9 hst]at ha;cases ha
    let#[_,_,h0,h1]:=xf hst;erw[yH,aX,aW];refine zj (λσ H''=>H''=H'/\σ=[!!a,~~~w1,!!t,!!ps,v4]) ?_ ?_
    ·rfl';exact#[_,hqs,_,rfl,_,rfl,yd (λh=>y6 hb.1 ⋯) λZ=>#[_,hqs,_,rfl,_,.inl #[_,hX,rfl],_,rfl,yd (λh=>y6 hb.2 (by have:=hI.len;rw[aa]at this;lia)) λZ=>#[_,hqs,_,rfl,_,rfl,yd (λh=>y6 h0 ⋯) λZ=>trivial]]]
    rintro σ G ⟨rfl,rfl⟩:0;refine zj (λσ H''=>H''=G/\σ=[!!a,~~~w1,!!t,!!ps,BJ ⇑(sdl r s.2.2).1]) ?_ ?_
    ·rfl';refine#[_,hqs,_,rfl,_,rfl,_,hX,_,a1,_,hqs,_,rfl,.inr #[_,rfl,_,rfl,_,hp,?_]];cases s.2.2 <;> rfl
    rintro σ G1 ⟨rfl,rfl⟩:0;refine zj (λσ H''=>H''=G1/\σ=[!!a,~~~w1,!!t,!!ps,BJ ⇑(sdl r s.2.2).1]) ?_ ?_
    ·rfl'
     have hol:(sdl r s.2.2).1.length<=100:=by
      cases s.2.2
      ·exact gl.2
      ·exact gl.1
     refine#[_,hqs,_,rfl,⋯,_,rfl,⋯,yd (λh=>y6 h1 ⋯) λZ=>#[_,hqs,_,rfl,_,rfl,_,hqs,_,rfl,⋯,_,rfl,⋯,yd (λh=>y6 ?_ h) λZ=>trivial]];have hst':=hst;unfold zv at hst';rw[decide_eq_true_eq]at hst';rw[Zt _ h0 ⋯ ⋯];have e:(s.2.1+((sdl r s.2.2).1.length:Int) - s.2.1).toNat=(sdl r s.2.2).1.length:=⋯;rw[e];exact hst'.2.2
    rintro σ G2 ⟨rfl,rfl⟩:0;rfl';refine jl hR ok ⋯ hqs haf #[rfl,w2,hw2,⋯,rfl]
   ·refine nmB ?_;rintro σ H' ⟨rfl,w1,v3,v4,hw1,hl1,rfl⟩:_;rw[htl,aP,hwk]at hw1;right;cases hw1;exact#[rfl,_,_,rfl]
  rintro σ H2 ⟨rfl,v3,v4,rfl⟩:0;rfl';exact q
def zeO(hx:XE X E)(D:DMk X.prog X.w X.K X.mg X.base (CXx X.prog X.w) k C ps sp)(hr:Room j X.A)(hg:Gl X x)(hm:X.mg x=BJ (.ref C))(ha:PA X (e::es) t)(hdb:‹(x ==("__debug__" : tK))=BM›)(he:‹tD (e::es) X.env=(BM,eval e X.env)::tD es X.env›)(hpl:‹(tS pos (tD es X.env)).any (·.1)=BM›)(hj:‹k+1<=j›):PE X (.Call (.Name x p) (e::es) [] pos) (QP C sp [] E t):=by let#[f,fd,M,F,hb]:=D.ex;exact Jr M F (hr.mono hj) hg hm hb .nil (VF hx) ha hdb he hpl
def Vq(K:tF)(CO CR CW:tG):Sp:=λvs H Q Z=>∃(z:Int) (l:()) (D:tG) (ws:List Int),vs=[.int z,⇑l,.ref D]/\0<=z/\z<3/\wv l=BL/\H D=BJ (.lst (ws.map V.int))/\ws.length=l.length/\(∀n ∈ ws,1<=n/\n<=1000000)/\∀(o:tG) (H':Hp),Same H H'->OrdAt CO CR CW H' o z.toNat l ws->Q (.ref o) H'
def K7:sQz 3 ["_law_kind","_law_letters_here","_law_weights"] XO:=by nofun
def zaz{f CO CR CW:tG}(B:Bt mg)(T:TWS P w K mg base CO CR CW)(F:("_law_order"^^^XO)):(6&&&["_law_kind","_law_letters_here","_law_weights"]) (Vq K CO CR CW):=by
 exists F.ok K7
 ·let#[z,l,D,ws,rfl,z0,z3,hg,hD,hwl,hwb,q]:=h
  refine#[_,(zG (zJ (zu yQ (pv 0) zb (zt _)) (zg (zk (mkC T.mR hr rfl T.gR (za (pv 1) ze))))
    zp) (zG (zJ (zu yQ (pv 0) zb (zt _)) (zg (zk (zeO xe0 T.mW hr rfl T.gW (za (pv 1) (za (xl yT rfl B.list jb0 (za (pv 2) ze)) ze)))))
    zp) (zg (zk (mkC T.mO hr rfl T.gO (za (pv 1) ze)))))),?_]
  have s16:=zU;ac_rfl;refine yd (λh1=>?_) λh1=>yd (λh2=>?_) λh2=>?_
  ·intro x dx hx hdx hne;have sd:=zf (o:=.own x) hdx;refine#[x,CR,dx,l,rfl,hg,T.cR,T.lR,zd,rfl,q x _ (λb o' e=>?_) #[dx,.inr (.inl #[by rw[h1];rfl,zd])]];rw[zo (zE e hx),zo (zE e hx)];exact sd _ _ e
  ·refine#[_,.inl (x6 hD),λE1 hE=>?_];have se:=zf (o:=.lst (ws.map V.int)) hE;intro x dx hx hdx hne;have sd:=zf (o:=.own x) hdx
   have k1:∀b o',(upd H E1 (.lst (ws.map V.int))) b=BJ o'->(upd (upd (upd H E1 (.lst (ws.map V.int))) dx (.own x)) x (.ins CW dx [])) b=BJ o':=λb o' e=>by
    rw[zo (zE e hx)];exact sd _ _ e
   exact#[x,dx,E1,l,ws,rfl,hg,x6 (k1 _ _ zd),hwl,hwb,zd,λw H' hw hwx kp ht hx'=>#[rfl,q x _ (λb o' e=>kp b o' (zE (se _ _ e) hx) (k1 b o' (se _ _ e))) #[dx,.inr (.inr #[⋯,hwl,w,hx',ht])]]]
  ·intro x dx hx hdx hne;have sd:=zf (o:=.own x) hdx;refine#[x,CO,dx,l,rfl,hg,T.cO,T.lO,zd,rfl,q x _ (λb o' e=>?_) #[dx,.inl #[⋯,zd]]];rw[zo (zE e hx),zo (zE e hx)];exact sd _ _ e
def JS:Sp:=λvs H Q Z=>∃(c:Int),vs=[.int c]/\vU c/\∀(k:Int) (l:()) (ws:List Int) (p W:tG) (H':Hp),0<=k->k<3->wv l=BL->2<=l.length->l.length<=3->ws.length=l.length->(∀n ∈ ws,1<=n/\n<=1000000)->Same H H'->H' p=BJ (.tup [.int k,⇑l,.ref W])->H' W=BJ (.lst (ws.map V.int))->Q (.ref p) H'
def rj:sQz 1 ["_law_cell_here","_law_letters_here","_law_number"] Qq:=by nofun
def zdf(B:Bt mg)(F:("_law_draw"^^^Qq))(oz:(2<<<"_law_letters") ["_law_cell_here","_law_many"] [] vC)(gL:(1<<<"_law_mixed") ["_law_cell_here","_law_turn"] [] xx):(3&&&["_law_cell_here"]) JS:=by
 exists F.ok rj
 ·let#[c,rfl,hc,q]:=h;refine#[_,(zh (zB 1 rj.nd (cl0 oz hr .nil rfl (za (pv 0) (za (zr yq zb (zr zR (zr yO (pv 0) zb) zb)) ze)))) (zh (zB 2 rj.nd (cl0 gL hr .nil rfl (za (pv 0) (za zb ze)))) (zg (zk (zN (za (zr zR (pv 0) zb) (za (pv 1) (za (yk ZH (yF (za (zr yq zb (zr zR (pv 2) zb)) (za (zr yq zb (zr zR (zr yO (pv 2) zb) zb)) (za (zr yq zb (zr zR (zr yO (pv 2) zb) zb)) ze)))) xS (yc (zF B.len (pv 1)))) ze)))))))),?_];have s16:=zU;change H'=H/\∃l:(),l.length<=3/\2<=l.length/\wv l=BL/\σ=[~~~!c,~~~l,BK]
  ·rfl';have e0:=bJ (c / 3) (b:=2) ∅;have e1:=bE (c / 3) (b:=2) ∅;exact#[#[∅,∅],∅,kj hc ⋯ ⋯ λl h1 h2 h3=>#[rfl,l,⋯,⋯,y3 #[⋯,⋯,h3,h2],rfl]]
  rintro σ H1 ⟨rfl,l,l3,l2,hg,rfl⟩:0;change H'=H1/\∃z:Int,σ=[~~~!c,~~~l,~~~!z]
  ·rfl';exact zQ hc ∅ ∅ λz Z=>#[rfl,z,rfl]
  rintro σ H2 ⟨rfl,z,rfl⟩:0;rfl';refine#[∅,∅,#[∅,∅],∅,#[∅,∅],∅,⋯,λp hp=>#[⋯,_,x6 zd,λp1 hp1=>#[⋯,λp2 hp2=>?_]]];have l1:=(w9 hg).1
  have e:zay [V.int (1+z % 3),V.int (1+z / 3 % 3),V.int (1+z / 9 % 3)] BK (BJ (l.length:Int))=([1+z % 3,1+z / 3 % 3,1+z / 9 % 3].take l.length).map V.int:=by
   rcases (show l.length=1\/l.length=2\/l.length=3 by lia)with h | h | h <;> rw[h] <;> rfl
  refine q (c % 3) l ([1+z % 3,1+z / 3 % 3,1+z / 9 % 3].take l.length) p2 p1 _ (bJ _ ∅) (bE _ ∅) hg l2 l3 ?_ (λn hn=>?_) ((zf hp).trans ((zf hp1).trans (zf hp2))) zd ?_
  ·rw[aL];show min l.length 3=l.length;lia
  ·have hn':=bu hn;have m:∀y:Int,0<=y % 3/\y % 3<3:=λy=>#[bJ _ ∅,bE _ ∅];have m0:=m z;have m1:=m (z / 3);have m2:=m (z / 9);erw[bF,bM,or_false]at hn';rcases hn' with rfl | rfl | rfl <;> lia
  ·rw[zf hp2 _ _ zd,e]
structure TNT(K:tF)(mg:tK->Option tH)(C:tG):Prop where
 xi:XI K C
 g:mg "NotTurned" = BJ (.ref C)
 na:NoAttr K C "number"
def uV:sQz 2 ["self","number"] ye:=by nofun
def uW(T:TNT K mg C)(F:Fun K "__init__" "NotTurned.__init__" ye f fd):(1&&&["self","number"]) (uN C "number"):=by
 exists F.ok uV
 ·let#[x,v,rfl,hx,q]:=h;refine#[_,(zg (UJ (pv 0) (pv 1) rfl)),?_];erw[zbV];rfl';exact#[C,hx,T.xi.toXC,T.na,q]
structure DNT(P:tL)(w:tP)(K:tF)(mg:tK->Option tH)(base:tT)(C:tG):Prop extends TNT K mg C where
 ini:∃f fd,af K (.ref C) "__init__" = BJ (BJ (.ref f))/\aV K (.ref f)=BL/\(1&&&["self","number"]) (uN C "number")/\Binds K fd ["self","number"] []
structure zex(K:tF)(mg:tK->Option tH)(CH:tG):Prop where
 cl:Cls K CH
 g:mg "System" = BJ (.ref CH)
 no:NoAttr K CH "order"
 nr:NoAttr K CH "rules"
def vh(k:Nat)(l:())(ns:List Int):List zK->Nat->Option Nat
 | [],_=>BK
 | r::rs,i=>if zM k l ns r.2 r.1=BL then vh k l ns rs (i+1)else BJ i
theorem VE : ∀{ps:List zK} {j i:Nat} {r:zK},(∀(m:Nat) (p:zK),m<i->ps[m]? = BJ p->zM k l ns p.2 p.1=BL)->ps[i]? = BJ r->zM k l ns r.2 r.1=BM->vh k l ns ps j=BJ (j+i)
 | [],_,_,_,_,h,_=>by simp at h
 | p::ps,j,0,r,_,h,hl=>by
  cases h;rw[vh,hl,z9 aD];rfl
 | p::ps,j,i+1,r,hb,h,hl=>by
  rw[vh,y9 (hb 0 p (cI _) rfl),VE (i:=i) (λm q hm e=>hb (m+1) q ⋯ e) h hl];congr 1;lia
theorem qd : ∀{ps:List zK} {j:Nat},(∀(m:Nat) (p:zK),ps[m]? = BJ p->zM k l ns p.2 p.1=BL)->vh k l ns ps j=BK
 | [],_,_=>rfl
 | p::ps,j,hb=>by
  rw[vh,y9 (hb 0 p rfl)];exact qd λm q e=>hb (m+1) q e
def InL(l:())(ps:List zK):Prop:=∀p ∈ ps,p.1.length<=1000/\p.2.length<=1000/\(∀c ∈ p.1,c ∈ l)/\∀c ∈ p.2,c ∈ l
def qX(K:tF)(CO CR CW CT CH:tG):Sp:=λvs H Q E=>∃(x dx o a:tG) (k:Nat) (l:()) (ns:List Int) (ps:List zK) (xs:List V),vs=[.ref x,.ref o,.ref a]/\H x=BJ (.ins CH dx [])/\OrdAt CO CR CW H o k l ns/\OG l ns k/\H a=BJ (.lst xs)/\Iss K H (ps.map dR) xs/\InL l ps /\
 (∀i,vh k l ns ps 0=BJ i->∀H1,Same H H1->∀d H',zgw H1 d "number" (.int (i:Nat)) H'->E (.ref CT) (BJ d) H') /\
 (vh k l ns ps 0=BK->∀(q:tG) (H':Hp),(∀b o',b≠x->H b=BJ o'->H' b=BJ o')->H' x=BJ (.ins CH dx [("order",.ref o),("rules",.ref q)])->H' q=BJ (.lst xs)->H q=BK->Q .non H')
def lY:sQz 3 ["self","order","rules","number","rule"] wz:=by nofun
def ku{f CO CR CW CT CH:tG}(B:Bt mg)(T:DNT P w K mg base CT)(TS:zex K mg CH)(DBk:DB P w K mg base CO CR CW)(F:Fun K "__init__" "System.__init__" wz f fd):(5|||["self","order","rules"]) (qX K CO CR CW CT CH):=by
 let#[fi,fdi,hi,hfn,Fi,Bi]:=T.ini;exists Fun.okX F lY,0
 ·let#[x,dx,o,a,k,l,ns,ps,xs,rfl,hx0,ho,hG,hA,hI,hP,q1,q2]:=h
  refine#[_,(zh (zW PassesOwn.leaving rfl (wC rfl B.enum (za (pv 2) ze)) (wN (n:=2) rfl (zL (zq (i:=3) lY.nd rfl (.inl rfl)) (zL (zq (i:=4) lY.nd rfl (.inl rfl)) y8))) (zg (zJ (zX (yB (zdX DBk hr (pv 1) (za (!-4) (za (!-4) ze))) (λZ=>rfl))) (zg (Xm hx rfl T.xi.toXC hi hfn Fi (hr.mono ∅) Bi rfl T.g (za (pv 3) ze)))
     zp))) (zh (Zh (pv 0) (pv 1) rfl) (zg (Zh (pv 0) (xl yT rfl B.list jb0 (za (pv 2) ze)) rfl)))),?_]
  have s16:=zU;change Same H H'/\vh k l ns ps 0=BK/\∃v3 v4,σ=[!!x,!!o,!!a,v3,v4]
  ·ac_rfl;refine#[#[_,x6 hA],ForEL.by (xs:=xs) (λi σ H'=>Same H H'/\(∀(j:Nat) (p:zK),j<i->ps[j]? = BJ p->zM k l ns p.2 p.1=BL)/\∃v3 v4,σ=[!!x,!!o,!!a,v3,v4]) #[x9 _,λj p h=>y6 h (bI j),_,_,rfl] ?_ ?_ ?_]
   ·rintro i σ H' _ ⟨hs,_⟩;exact x6 (hs _ _ hA)
   ·refine nmE ?_;rintro i y σ H' p hy ⟨hs,hb,v3,v4,rfl⟩ hpn:_;let#[r,pr,hri,rfl,hqr]:=hI.getR hy;have hm:=hP r (ag hri);have s2:=hs.trans (zf (o:=.tup [.int (i:Nat),.ref pr]) hpn);have ho2:=ho.same s2;have hq2:=zy s2 hqr;let#[C,dy,fs,hf,hoC,hn,_]:=ho2.fam;have hn1:fs.lookup ("before" : tK)=BK:=hn _ ∅ ∅;right;ac_rfl;refine#[_,x4 zd,rfl,_,_,rfl,_,_,rfl,rfl,C,hf,dy,fs,hoC,hn1,_,rfl,_,hq2,_,rfl,_,rfl,_,hq2,_,rfl,o,k,l,ns,r.2,r.1,rfl,ho2,hG,hm.2.1,hm.1,hm.2.2.2,hm.2.2.1,λH3 s3=>?_];have s16:=zU;refine#[_,rfl,yd (λe=>#[⋯,Js (q1 i (by have:=VE (j:=0) hb hri e;simpa using this) H3 (s2.trans s3))]) λe=>#[s2.trans s3,λj p' hj hp'=>?_]];by_cases hj':j<i
    ·exact hb j p' hj' hp'
    ·have:j=i:=⋯;rw[this,hri]at hp';cases hp';simpa using e
   ·refine nmB ?_;rintro σ H' ⟨hs,hb,v3,v4,rfl⟩:_;have hxl:=hI.len;rw[aa]at hxl;right;exact#[hs,qd λm p e=>hb m p (by have:=(BP.mp e).1;lia) e,v3,v4,rfl]
  rintro σ H1 ⟨s1,hf,v3,v4,rfl⟩:0;change H'=upd H1 x (.ins CH dx [("order",.ref o)])/\σ=[!!x,!!o,!!a,v3,v4]
  ·ac_rfl;exact#[_,_,_,s1 _ _ hx0,TS.cl,TS.no,∅,rfl]
  rintro σ H2 ⟨rfl,rfl⟩:0;ac_rfl;have hax:a≠x:=λe=>by rw[e,hx0]at hA;cases hA
  refine#[xs,.inl (x6 (by rw[zo hax];exact s1 _ _ hA)),λq hq=>?_];have hqx:q≠x:=λe=>by rw[e,zd]at hq;cases hq
  rw[zo hqx]at hq
  have hqH:H q=BK:=by
   cases e:H q with
   | none=>rfl
   | some o'=>rw[s1 _ _ e]at hq;cases hq
  refine#[CH,dx,_,by rw[zo hqx.symm,zd],TS.cl,TS.nr,by show 1<1000;decide,q2 hf q _ (λb o' hb e=>?_) zd (by rw[zo hqx,zd]) hqH];rw[zo hb,zo (λz=>by rw[z,hqH]at e;cases e),zo hb];exact s1 _ _ e
def KJ(K:tF)(CH:tG)(H:Hp)(y o q:tG)(ps:List zK):Prop:=∃dx xs,H y=BJ (.ins CH dx [("order",.ref o),("rules",.ref q)])/\H q=BJ (.lst xs)/\Iss K H (ps.map dR) xs
def xM(l m:())(k:Nat):Bool:=decide ((l.drop k).take m.length=m.take (l.length - k))
def lf(rs:List zK)(i:Nat):():=(rs.getD i ([],[])).1
def uq(h:rs[i]? = BJ r):lf rs i=r.1:=by unfold lf;rw[ac,h];rfl
def Xl(rs:List zK)(i j n:Nat):List N3:=((aM n).filter λk=>(decide (i≠j) || decide (k≠0)) && xM (lf rs i) (lf rs j) k).map λk=>(i,j,k)
def ovI(rs:List zK)(i m:Nat):List N3:=(aM m).flatMap λj=>Xl rs i j (lf rs i).length
def ovA(rs:List zK)(m:Nat):List N3:=(aM m).flatMap λi=>ovI rs i rs.length
def j5(rs:List zK)(i j n:Nat):Xl rs i j (n+1)=Xl rs i j n ++ (if ((decide (i≠j) || decide (n≠0)) && xM (lf rs i) (lf rs j) n)=BL then [(i,j,n)]else []):=by
 unfold Xl;rw[db,dk,ar];congr 1;erw[fA,dL];split <;> rfl
def qR(rs:List zK)(i m:Nat):ovI rs i (m+1)=ovI rs i m ++ Xl rs i m (lf rs i).length:=by unfold ovI;rw[db,dD];simp
def Yr(rs:List zK)(m:Nat):ovA rs (m+1)=ovA rs m ++ ovI rs m rs.length:=by unfold ovA;rw[db,dD];simp
def qI(rs:List zK)(i j n:Nat):(Xl rs i j n).length<=n:=by unfold Xl;rw[aa];have:=dw (λk=>(decide (i≠j) || decide (k≠0)) && xM (lf rs i) (lf rs j) k) (aM n);rw[cL]at this;exact this
theorem zer(h:jc rs)(i:Nat):(lf rs i).length<=100:=by
 cases e:rs[i]? with
 | none=>unfold lf;rw[ac,e];exact ax _
 | some r=>rw[uq e];exact (h.2 r (ag e)).1
theorem Wb(h:jc rs)(i m:Nat):(ovI rs i m).length<=m * 100:=by
 induction m with
 | zero=>exact ax _
 | succ m ih =>
  rw[qR,am];have h1:=qI rs i m (lf rs i).length;have h2:=zer h i;lia
theorem Qt(h:jc rs)(m:Nat):(ovA rs m).length<=m * 3000:=by
 induction m with
 | zero=>exact ax _
 | succ m ih =>
  rw[Yr,am];have h1:=Wb h m rs.length;have h2:=h.1;lia
def ZX:Sp:=λvs H Q Z=>∃(l m:()) (k:Nat),vs=[⇑l,⇑m,.int (k:Nat)]/\l.length<=1000/\m.length<=1000/\k<=l.length/\Q (.bl (xM l m k)) H
def Xy(h1:l.length<=1000)(h2:m.length<=1000)(h3:k<=l.length)(h:Q (.bl (xM l m k)) H):ZX [⇑l,⇑m,.int (k:Nat)] H Q E:=#[l,m,k,rfl,h1,h2,h3,h]
def zaR:sQz 3 ["one","other","place"] XZ:=by nofun
def zav(B:Bt mg)(F:("agree"^^^XZ)):(1&&&["one","other","place"]) ZX:=by
 exists F.ok zaR
 ·let#[l,m,k,rfl,hl,hm,hk,q]:=h;refine#[_,(zg (zk (ya yQ (yk wM (pv 0) (yc (pv 2)) (yc (zr yq (pv 2) (zF B.len (pv 1))))) (yk wM (pv 1) xS (yc (zr jF (zF B.len (pv 0)) (pv 2)))) (zt _)))),?_];have s16:=zU;rfl';refine#[⋯,⋯,⋯,⋯,?_];rw[za5 _ ⋯ ⋯,YC _ ⋯];have e1:((k:Int)+(m.length:Int) - (k:Int)).toNat=m.length:=⋯;have e2:((l.length:Int) - (k:Int)).toNat=l.length - k:=⋯;rw[e1,e2];exact q
def ue(K:tF):Sp:=λvs H Q Z=>∃(a:tG) (rs:List zK),vs=[.ref a]/\Is K H (.lst (rs.map dR)) (.ref a)/\jc rs/\∀D H',H D=BK->Same H H'->LsA K H' D ((ovA rs rs.length).map d3)->Q (.ref D) H'
def Y8(h1:Is K H (.lst (rs.map dR)) (.ref a))(h2:jc rs)(h:∀D H',H D=BK->Same H H'->LsA K H' D ((ovA rs rs.length).map d3)->Q (.ref D) H'):ue K [.ref a] H Q E:=#[a,rs,rfl,h1,h2,h]
def iu:sQz 1 ["rules","found","i","one","j","other","place"] uP:=by nofun
def XM(B:Bt mg)(F:("overlaps"^^^uP))(sP:(1<<<"agree") ["one","other","place"] [] ZX):(2&&&["rules"]) (ue K):=by
 exists F.ok iu
 ·let#[a,rs,rfl,hR,ok,q]:=h
  refine#[_,(zG (zB 1 iu.nd (yF ze)) (zG (zW u5 rfl (wC rfl B.enum (za (pv 0) ze)) (wN (n:=2) rfl (zL (zq (i:=2) iu.nd rfl (.inl rfl)) (zL (zq (i:=3) iu.nd rfl (.inl rfl)) y8))) (zg (zW u5 rfl (wC rfl B.enum (za (pv 0) ze)) (wN (n:=2) rfl (zL (zq (i:=4) iu.nd rfl (.inl rfl)) (zL (zq (i:=5) iu.nd rfl (.inl rfl)) y8))) (zg (zW u5 rfl (Xx rfl B.range (za (vv (zu yQ (pv 2) (pv 4) (zt _)) zb zb) (za (zF B.len (!-3)) ze))) (zq (i:=6) iu.nd rfl (.inl rfl)) (zg (zJ (yB (cl0 sP hr .nil rfl (za (!-3) (za (!-5) (za (pv 6) ze)))) (λZ=>rfl)) (zg (xU (qz bB cf ci xG (pv 1) (za (zN (za (pv 2) (za (pv 4) (za (pv 6) ze)))) ze))))
       zp))))))) (zg (zk (pv 1))))),?_]
  have s16:=zU;rfl';erw[Is]at hR;let#[_,xs,e,hX,hI]:=hR;cases e;refine#[⋯,λD hD=>#[#[_,(zf hD).seq hX],ForEL.by (xs:=xs) (λi σ H'=>∃v2 v3 v4 v5 v6,σ=[!!a,!!D,v2,v3,v4,v5,v6]/\Same H H'/\LsA K H' D ((ovA rs i).map d3)) #[BK,BK,BK,BK,BK,rfl,zf hD,LsA.nil] ?_ ?_ ?_]]
  ·refine nm3 ?_;rintro i σ H' hi ⟨v2,v3,v4,v5,v6,rfl,hs,_⟩:0;exact hs.seq hX
  ·refine nmE ?_;rintro i x σ H' p hx ⟨v2,v3,v4,v5,v6,rfl,hs,hL⟩ hp:_;let#[r,pr,hri,rfl,hqr]:=hI.getR hx;have er:=uq hri;have hr1:=(ok.2 r (ag hri)).1;right;rfl';refine#[_,x4 zd,rfl,_,_,rfl,_,_,rfl,rfl,#[_,((hs.trans (zf hp)).seq hX)],ForEL.by (xs:=xs) (λj σ H''=>∃v4 v5 v6,σ=[!!a,!!D,-~~~i,!!pr,v4,v5,v6]/\Same H H''/\LsA K H'' D ((ovA rs i ++ ovI rs i j).map d3)) #[v4,v5,v6,rfl,hs.trans (zf hp),by rw[show ovI rs i 0=[]from rfl,aZ];exact hL.same (zf hp)] ?_ ?_ ?_]
   ·refine nm3 ?_;rintro j σ H2 hj ⟨v4,v5,v6,rfl,hs2,_⟩:0;exact hs2.seq hX
   ·refine nmE ?_;rintro j y σ H2 p2 hy ⟨v4,v5,v6,rfl,hs2,hL2⟩ hp2:_;let#[r2,pr2,hri2,rfl,hqr2]:=hI.getR hy;have er2:=uq hri2;have hr2:=(ok.2 r2 (ag hri2)).1;have hs3:=hs2.trans (zf (o:=.tup [.int (j:Nat),.ref pr2]) hp2);have hq1:=zy hs3 hqr;have el:(tx r.1).length=r.1.length:=yj _;right;rfl';refine#[_,x4 zd,rfl,_,_,rfl,_,_,rfl,rfl,rfl,yd (λh=>?_) λh=>?_]
    ·have hij:i=j:=by injection h with h;lia
     have z0:Xl rs i j (1+0)=[]:=by
      subst hij;rw[show 1+0=0+1 from rfl,j5];simp [Xl]
     have zn:Xl rs i j (1+((r.1.length:Int) - 1).toNat)=Xl rs i j r.1.length:=by
      by_cases h0:r.1.length=0
      ·rw[h0];exact z0
      ·rw[show 1+((r.1.length:Int) - 1).toNat=r.1.length by lia]
     refine#[_,hq1,_,rfl,_,#[⋯,rfl],∅,∅,⋯,⋯,ja2 (λt σ H3=>∃v6,σ=[!!a,!!D,-~~~i,!!pr,-~~~j,!!pr2,v6]/\Same H H3/\LsA K H3 D ((ovA rs i ++ ovI rs i j ++ Xl rs i j (1+t)).map d3)) #[v6,rfl,hs3,(by rw[z0,aZ];exact hL2.same (zf hp2))] ?_ ?_]
     ·refine nm3 ?_;rintro n σ H3 hn ⟨v6,rfl,hs4,hL4⟩:_;have hn':1+n<r.1.length:=⋯;have en:((1:Int)+(n:Int))=((1+n:Nat):Int):=⋯;right;dsimp only;rw[en];let#[ys,hY,hJ]:=hL4;have hlen:=hJ.len;have l1:=Qt ok i;have l2:=Wb ok i j;have l3:=qI rs i j (1+n);have i1:=(BP.mp hri).1;have i2:=(BP.mp hri2).1;have i3:=ok.1;erw[aa,am]at hlen;have es:=j5 rs i j (1+n);have etest:(decide (i≠j) || decide (1+n≠0))=BL:=by rw[show decide (1+n≠0)=BL from y3 ⋯,ef]
      rw[etest,gg,er,er2]at es;rfl';refine#[_,zy hs4 hqr,_,rfl,_,zy hs4 hqr2,_,rfl,Xy ⋯ ⋯ ⋯ #[_,rfl,yd (λhb=>#[.inl #[_,x6 hY],⋯,λt ht=>#[_,zf ht _ _ hY,⋯,zI (hs4.trans (zf ht)) hD,?_]]) λhb=>#[hs4,ys,hY,?_]]]
      ·rw[hb,y9 rfl]at es;rw[show 1+(n+1)=1+n+1 by lia,es,<- aS,ar];exact LsA.pushT hY hJ ht zfE (W9 _) (by erw[z8,xw,and_self])
      ·have hb':xM r.1 r2.1 (1+n)=BM:=by simpa using hb
       rw[hb',z9 aD,aZ]at es;rw[show 1+(n+1)=1+n+1 by lia,es];exact hJ
     ·refine nmB ?_;rintro σ H3 ⟨v6,rfl,hs4,hL4⟩:0;refine#[#[_,_,_,rfl],hs4,?_];rw[qR,er,<- aS];rw[el,zn]at hL4;exact hL4
    ·have hij:i≠j:=λz=>h (by rw[z]);refine#[_,hq1,_,rfl,_,#[⋯,rfl],∅,∅,⋯,⋯,ja2 (λt σ H3=>∃v6,σ=[!!a,!!D,-~~~i,!!pr,-~~~j,!!pr2,v6]/\Same H H3/\LsA K H3 D ((ovA rs i ++ ovI rs i j ++ Xl rs i j (0+t)).map d3)) #[v6,rfl,hs3,(by rw[show Xl rs i j (0+0)=[]from rfl,aZ];exact hL2.same (zf hp2))] ?_ ?_]
     ·refine nm3 ?_;rintro n σ H3 hn ⟨v6,rfl,hs4,hL4⟩:_;have hn':0+n<r.1.length:=⋯;have en:((0:Int)+(n:Int))=((0+n:Nat):Int):=⋯;right;dsimp only;rw[en];let#[ys,hY,hJ]:=hL4;have hlen:=hJ.len;have l1:=Qt ok i;have l2:=Wb ok i j;have l3:=qI rs i j (0+n);have i1:=(BP.mp hri).1;have i2:=(BP.mp hri2).1;have i3:=ok.1;erw[aa,am]at hlen;have es:=j5 rs i j (0+n);have etest:(decide (i≠j) || decide (0+n≠0))=BL:=by rw[show decide (i≠j)=BL from y3 hij,Bool.true_or]
      rw[etest,gg,er,er2]at es;rfl';refine#[_,zy hs4 hqr,_,rfl,_,zy hs4 hqr2,_,rfl,Xy ⋯ ⋯ ⋯ #[_,rfl,yd (λhb=>#[.inl #[_,x6 hY],⋯,λt ht=>#[_,zf ht _ _ hY,⋯,zI (hs4.trans (zf ht)) hD,?_]]) λhb=>#[hs4,ys,hY,?_]]]
      ·rw[hb,y9 rfl]at es;rw[show 0+(n+1)=0+n+1 by lia,es,<- aS,ar];exact LsA.pushT hY hJ ht zfE (W9 _) (by erw[z8,xw,and_self])
      ·have hb':xM r.1 r2.1 (0+n)=BM:=by simpa using hb
       rw[hb',z9 aD,aZ]at es;rw[show 0+(n+1)=0+n+1 by lia,es];exact hJ
     ·refine nmB ?_;rintro σ H3 ⟨v6,rfl,hs4,hL4⟩:0;refine#[#[_,_,_,rfl],hs4,?_];rw[qR,er,<- aS];rw[el,show 0+((r.1.length:Int) - 0).toNat=r.1.length by lia]at hL4;exact hL4
   ·refine nmB ?_;rintro σ H2 ⟨v4,v5,v6,rfl,hs2,hL2⟩:_;have e:=hI.len;rw[aa]at e;rw[e,<- Yr]at hL2;right;exact#[#[_,_,_,_,_,rfl],hs2,hL2]
  ·refine nmB ?_;rintro σ H' ⟨v2,v3,v4,v5,v6,rfl,hs,hL⟩:_;have e:=hI.len;rw[aa]at e;rw[e]at hL;right;rfl';exact q D H' hD hs hL
def yD(l m:())(k:Nat):():=l ++ m.drop (l.length - k)
def uE(l m:())(k:Nat)(hk:k<=l.length):(yD l m k).length=max l.length (k+m.length):=by unfold yD;rw[am,bq];lia
def Zg(l m:())(k:Nat):zv (yD l m k) 0 l=BL:=by unfold zv yD;refine y3 #[∅,by rw[am];lia,?_];rw[show (0:Int).toNat=0 from rfl,dQ,bt (ak _),aP]
def jp(hk:k<=l.length)(h:xM l m k=BL):zv (yD l m k) (k:Nat) m=BL:=by
 unfold xM at h;rw[decide_eq_true_eq]at h;have hl:=uE l m k hk;unfold zv;refine y3 #[⋯,⋯,?_];rw[show ((k:Nat):Int).toNat=k from rfl];unfold yD;rw[cP hk];by_cases hm:m.length<=l.length - k
 ·rw[bt (by rw[bq];lia),h,bg hm]
 ·rw[bg (by rw[bq];lia)]at h;rw[h,bV,aP]
def zaf(h:t ∈ Xl rs i j n):t.1=i/\t.2.1=j/\t.2.2<n/\xM (lf rs i) (lf rs j) t.2.2=BL:=by unfold Xl at h;let#[k,hk,rfl]:=BQ.mp h;rw[List.mem_filter,fX,aU]at hk;exact#[rfl,rfl,hk.1,hk.2.2]
def jm(h:t ∈ ovA rs rs.length):t.1<rs.length/\t.2.1<rs.length/\t.2.2<(lf rs t.1).length/\xM (lf rs t.1) (lf rs t.2.1) t.2.2=BL:=by unfold ovA ovI at h;let#[i,hi,h]:=Cq.mp h;let#[j,hj,h]:=Cq.mp h;let#[e1,e2,e3,e4]:=zaf h;rw[e1,e2];exact#[BX.mp hi,BX.mp hj,e3,e4]
def Yf(K:tF):Sp:=λvs H Q Z=>∃(a t:tG) (rs:List zK) (i j k:Nat) (r r2:zK),vs=[.ref a,.ref t]/\Is K H (.lst (rs.map dR)) (.ref a)/\SqT K H t [.int (i:Nat),.int (j:Nat),.int (k:Nat)]/\jc rs/\rs[i]? = BJ r/\rs[j]? = BJ r2/\k<=r.1.length/\xM r.1 r2.1 k=BL /\
 ∀p H',H p=BK->Same H H'->H' p=BJ (.tup [⇑(yD r.1 r2.1 k),⇑(yZ (yD r.1 r2.1 k) 0 r.1 r.2),⇑(yZ (yD r.1 r2.1 k) (k:Nat) r2.1 r2.2)])->Q (.ref p) H'
def Vk(h1:Is K H (.lst (rs.map dR)) (.ref a))(h2:SqT K H t [.int (i:Nat),.int (j:Nat),.int (k:Nat)])(h3:jc rs)(h4:rs[i]? = BJ r)(h5:rs[j]? = BJ r2)(h6:k<=r.1.length)(h7:xM r.1 r2.1 k=BL)(h:∀p H',H p=BK->Same H H'->H' p=BJ (.tup [⇑(yD r.1 r2.1 k),⇑(yZ (yD r.1 r2.1 k) 0 r.1 r.2),⇑(yZ (yD r.1 r2.1 k) (k:Nat) r2.1 r2.2)])->Q (.ref p) H'):Yf K [.ref a,.ref t] H Q E:=#[a,t,rs,i,j,k,r,r2,rfl,h1,h2,h3,h4,h5,h6,h7,h]
def Q4(h1:l.length<=10000)(h2:o.length<=10000)(h3:n.length<=10000)(hs:zv l k o=BL)(q:Q ⇑(yZ l k o n) H):WY CU [⇑l,.int k,⇑o,⇑n] H Q E:=#[l,o,n,k,rfl,h1,h2,h3,λZ=>q,λh=>by rw[hs]at h;cases h]
def nS:sQz 2 ["rules","overlap","one","other","place","word"] Qx:=by nofun
def zdj(B:Bt mg)(F:("peak"^^^Qx))(rP:(3>>>"put") ["word","place","old","new"] [] (WY CU)):(4&&&["rules","overlap"]) (Yf K):=by
 exists F.ok nS
 ·let#[a,t,rs,i,j,k,r,r2,rfl,hR,ht,ok,hr1,hr2,hk,hag,q]:=h;refine#[_,(zh (zB 2 nS.nd (zm ix_list (pv 0) (!-1))) (zh (zB 3 nS.nd (zm ix_list (pv 0) (!-1))) (zh (zB 4 nS.nd (!-1)) (zh (zB 5 nS.nd (zr yE (!-2) (yk zaZ (!-3) (yc (zr jF (zF B.len (!-2)) (pv 4))) xS))) (zg (zk (zN (za (pv 5) (za (clP xe0 rP hr .nil rfl (za (pv 5) (za zb (za (!-2) (za (!-2) ze))))) (za (clP xe0 rP hr .nil rfl (za (pv 5) (za (pv 4) (za (!-3) (za (!-3) ze))))) ze)))))))))),?_];have s16:=zU;erw[Is]at hR;let#[_,xs,e,hX,hI]:=hR;cases e;let#[p1,a1,q1]:=zgS hI hr1;let#[p2,a2,q2]:=zgS hI hr2;have b1:=ok.2 r (ag hr1);have b2:=ok.2 r2 (ag hr2);change H'=H/\σ=%[!!a,!!t,!!p1|3]
  ·rfl';exact#[_,ht,_,rfl,_,rfl,_,hX,a1]
  rintro σ H1 ⟨rfl,rfl⟩:0;change H'=H1/\σ=%[!!a,!!t,!!p1,!!p2|2]
  ·rfl';exact#[_,ht,_,rfl,_,rfl,_,hX,a2]
  rintro σ H2 ⟨rfl,rfl⟩:0;change H'=H2/\σ=[!!a,!!t,!!p1,!!p2,-~~~k,BK]
  ·rfl';exact#[_,ht,rfl]
  rintro σ H3 ⟨rfl,rfl⟩:0;change H'=H3/\σ=[!!a,!!t,!!p1,!!p2,-~~~k,BJ ⇑(yD r.1 r2.1 k)]
  ·rfl';refine#[_,q1,_,rfl,_,q2,_,rfl,_,q1,_,rfl,_,#[by rw[yj];lia,rfl],#[by rw[yj];lia,_,rfl,_,rfl,?_,rfl,?_]]
   ·erw[yj,X9];have:=vo r2.1 (BJ ((r.1.length:Int) - (k:Int))) BK;lia
   ·rw[yj,X9,jr,qL _ ⋯,show ((r.1.length:Int) - (k:Int)).toNat=r.1.length - k by lia];rfl
  rintro σ H4 ⟨rfl,rfl⟩:_;have hw:=uE r.1 r2.1 k hk;right;rfl';exact#[_,q1,_,rfl,_,q1,_,rfl,Q4 ⋯ ⋯ ⋯ (Zg _ _ _) #[_,q2,_,rfl,_,q2,_,rfl,Q4 ⋯ ⋯ ⋯ (jp hk hag) #[⋯,λp hp=>q p _ hp (zf hp) zd]]]
def FmOk(ps:List zK)(most:Int)(m:tK->Option V):Prop:=∀k v,m k=BJ v->∃(w:()) (J:Nat),k=tx w/\v=⇑(wAt ps w J)/\VH ps w J/\zC (wAt ps w J) ps=BK/\(J:Int)<=most
def FmOk.get(h:FmOk ps most m){w:()}(e:m (tx w)=BJ v)(hl:VH ps w J)(hf:zC (wAt ps w J) ps=BK):v=⇑(wAt ps w J):=by let#[w',J',e1,e2,e3,e4,_]:=h _ _ e;have e5:=wu e1;subst e5;rw[e2,uK e3 e4 hl hf]
def FmOk.put(h:FmOk ps most m){w:()}(hl:VH ps w J)(hf:zC (wAt ps w J) ps=BK)(hJ:(J:Int)<=most):FmOk ps most (λx=>if x=tx w then BJ ⇑(wAt ps w J)else m x):=λk v e=>by
 by_cases hk:k=tx w
 ·erw[hk,if_true]at e;cases e;exact#[w,J,hk,rfl,hl,hf,hJ]
 ·erw[hk,if_false]at e;exact h k v e
def XD(P:tL)(w:tP)(K:tF)(CF:tG):Sp:=λvs H Q E=>∃(a F:tG) (l:()) (ps:List zK) (m:Int) (J n:Nat) (mp:tK->Option V),vs=[.ref a,⇑l,.int m,.ref F]/\LsA K H a (ps.map dR)/\NeL ps/\ps.length<=100/\(∀p ∈ ps,p.1.length<=1000/\p.2.length<=1000)/\Rd ps l J/\H F=BJ (kn P w F mp n)/\FmOk ps m mp/\n<=10000 /\
 ((zC (wAt ps l J) ps=BK/\(J:Int)<=m/\∀(mp':tK->Option V) (n':Nat) (H':Hp),SamT F H H'->H' F=BJ (kn P w F mp' n')->FmOk ps m mp'->n'<=n+1->Q ⇑(wAt ps l J) H') \/
  (zC (wAt ps l J) ps≠BK/\(J:Int)=m/\∀H',Same H H'->E (.ref CF) BK H'))
def Uk:sQz 4 ["rules","word","most","forms"] jw:=by nofun
def Ua(B:Bt mg)(F:("form_of"^^^jw))(nP:(4>>>"gone") ["rules","word","most"] [] (xR K CF))(DD_gone:(4>>>"gone") ["rules","word","most"] [.int 4000 nQ] (xR K CF)):(5|||["rules","word","most","forms"]) (XD P w K CF):=by
 exists Fun.okX F Uk,0
 ·let#[a,F0,l,ps,m,J,n,mp,rfl,hA,hN,hpl,hP,hR,hF,hM,hn,hq]:=h
  refine#[_,(zh (zJ (zu zaO (pv 1) (pv 3) (by with_unfolding_all rfl)) (zg (jX (zm w6 (clP hx nP hr .nil rfl (za (pv 0) (za (pv 1) (za (pv 2) ze)))) zb) (zbt (pv 3) (pv 1) zaF (by intro _;rfl))))
    zp) (zg (zk (zm zdN (pv 3) (pv 1))))),?_]
  have s16:=zU;change SamT F0 H H'/\zC (wAt ps l J) ps=BK/\(J:Int)<=m/\(∃(mp':tK->Option V) (n':Nat),H' F0=BJ (kn P w F0 mp' n')/\FmOk ps m mp'/\n'<=n+1/\mp' (tx l)=BJ ⇑(wAt ps l J))/\σ=[!!a,~~~l,~~~!m,!!F0]
  ·rfl';refine#[F0,mp,n,tx l,rfl,rfl,hF,_,rfl,yd (λhnone=>#[a,l,ps,m,J,rfl,hA,hN,hpl,hP,hR,?_]) λhsome=>?_]
   ·rcases hq with ⟨hf,hJ,_⟩ | h
    ·refine .inl #[hf,hJ,λp S H' s' hp Z Z=>#[p,rfl,_,x4 hp,_,rfl,?_]];erw[zgC];rfl';exact#[F0,mp,n,tx l,rfl,rfl,s' _ _ hF,⋯,λb o hb e=>by rw[zo hb];exact s' _ _ e,hf,hJ,_,_,zd,hM.put hR.live hf hJ,ak _,y9 rfl]
    ·exact .inr h
   ·cases hv:mp (tx l)with
    | none=>rw[hv]at hsome;exact y6 rfl hsome
    | some v =>
     let#[w',J',e1,e2,e3,e4,e5]:=hM _ _ hv;have e6:=wu e1;subst e6;rcases hq with ⟨hf,hJ,_⟩ | ⟨hf,hJ,_⟩
     ·exact#[λb o Z e=>e,hf,hJ,mp,n,hF,hM,⋯,by rw[hM.get hv hR.live hf]at hv;exact hv]
     ·exfalso;rcases et J' J with h | h
      ·exact hR.live J' h e4
      ·have:J'=J:=⋯;subst this;exact hf e4
  rintro σ H1 ⟨s1,hf,hJ,⟨mp',n',h1,h2,h3,h4⟩,rfl⟩:0;rfl';refine#[F0,mp',n',tx l,_,rfl,rfl,h1,h4,?_];rcases hq with ⟨_,_,q⟩ | ⟨h,_⟩
  ·exact q mp' n' H1 s1 h1 h2 h3
  ·exact y6 hf h
def pkA(ps:List zK)(t:N3):():=yZ (yD (lf ps t.1) (lf ps t.2.1) t.2.2) 0 (lf ps t.1) (ps.getD t.1 ([],[])).2
def pkB(ps:List zK)(t:N3):():=yZ (yD (lf ps t.1) (lf ps t.2.1) t.2.2) (t.2.2:Nat) (lf ps t.2.1) (ps.getD t.2.1 ([],[])).2
inductive zdZ(ps:List zK)(m:Int)(l:()):Option Nat->Prop where
 | yes {J:Nat} (h:Rd ps l J) (h1:zC (wAt ps l J) ps=BK) (h2:(J:Int)<=m):zdZ ps m l (BJ J)
 | no {J:Nat} (h:Rd ps l J) (h1:zC (wAt ps l J) ps≠BK) (h2:(J:Int)=m):zdZ ps m l BK
def Zw(P:tL)(w:tP)(K:tF)(CF:tG):Sp:=λvs H Q E=>∃(a t F:tG) (ps:List zK) (tr:N3) (m:Int) (n:Nat) (mp:tK->Option V) (g1 g2:Option Nat),vs=[.ref a,.ref t,.int m,.ref F]/\LsA K H a (ps.map dR)/\NeL ps/\jc ps/\SqT K H t [.int (tr.1:Nat),.int (tr.2.1:Nat),.int (tr.2.2:Nat)]/\tr ∈ ovA ps ps.length/\H F=BJ (kn P w F mp n)/\FmOk ps m mp/\n<=9000/\zdZ ps m (pkA ps tr) g1/\zdZ ps m (pkB ps tr) g2 /\
 (∀(J1 J2:Nat) (mp':tK->Option V) (n':Nat) (H':Hp),g1=BJ J1->g2=BJ J2->SamT F H H'->H' F=BJ (kn P w F mp' n')->FmOk ps m mp'->n'<=n+2->Q (.bl (decide (wAt ps (pkA ps tr) J1=wAt ps (pkB ps tr) J2))) H') /\
 ((g1=BK\/g2=BK)->∀H',SamT F H H'->E (.ref CF) BK H')
theorem WV(hA:LsA K H a (ps.map dR))(hN:NeL ps)(hok:jc ps)(hF:H F=BJ (kn P w F mp n))(hM:FmOk ps m mp)(hn:n<=10000)(hg:zdZ ps m l g)(h1:∀(J:Nat) (mp':tK->Option V) (n':Nat) (H':Hp),g=BJ J->SamT F H H'->H' F=BJ (kn P w F mp' n')->FmOk ps m mp'->n'<=n+1->Q ⇑(wAt ps l J) H')(h2:g=BK->∀H',Same H H'->E (.ref CF) BK H'):XD P w K CF [.ref a,⇑l,.int m,.ref F] H Q E:=by
 have hP:∀p ∈ ps,p.1.length<=1000/\p.2.length<=1000:=λp hp=>by have:=hok.2 p hp;lia
 have hl:ps.length<=100:=by have:=hok.1;lia
 cases hg with
 | yes h e1 e2=>exact#[a,F,l,ps,m,_,n,mp,rfl,hA,hN,hl,hP,h,hF,hM,hn,.inl #[e1,e2,λmp' n' H' a1 a2 a3 a4=>h1 _ mp' n' H' rfl a1 a2 a3 a4]]
 | no h e1 e2=>exact#[a,F,l,ps,m,_,n,mp,rfl,hA,hN,hl,hP,h,hF,hM,hn,.inr #[e1,e2,h2 rfl]]
def jU(s:SamT F H H')(hF:H F=BJ (kn P w F mp n))(h:SqT K H t xs):SqT K H' t xs:=by
 rcases h with (h | ⟨o,h⟩) | h
 ·exact .inl (.inl (s _ _ (λz=>by rw[z,hF]at h;cases h) h))
 ·exact .inl (.inr #[o,s _ _ (λz=>by rw[z,hF]at h;cases h) h])
 ·exact .inr h
def WR{ps:List zK}(s:SamT F H H')(hF:H F=BJ (kn P w F mp n))(h:LsA K H a (ps.map dR)):LsA K H' a (ps.map dR):=by
 let#[xs,h1,h2]:=h;refine#[xs,s _ _ (λz=>by rw[z,hF]at h1;cases h1) h1,?_]
 have key:∀(qs:List zK) (vs:List V),Iss K H (qs.map dR) vs->Iss K H' (qs.map dR) vs:=by
  intro qs
  induction qs with
  | nil=>intro vs h;erw[aJ,Iss]at h ⊢;exact h
  | cons q qs ih =>
   intro vs h;erw[ao,Iss]at h ⊢;let#[v,r,e,h3,h4]:=h;let#[p,rfl,h5]:=zeK h3;exact#[_,r,e,zgm (jU s hF h5),ih r h4]
 exact key ps xs h2
def nH:sQz 4 ["rules","overlap","most","forms","sides","one","other"] ZP:=by nofun
def QU(B:Bt mg)(F:("is_met"^^^ZP))(rT:(4<<<"peak") ["rules","overlap"] [] (Yf K))(rE:(5>>>"form_of") ["rules","word","most","forms"] [] (XD P w K CF)):(6|||["rules","overlap","most","forms"]) (Zw P w K CF):=by
 exists Fun.okX F nH,0
 ·let#[a,t,F0,ps,tr,m,n,mp,g1,g2,rfl,hA,hN,hok,ht,htr,hF,hM,hn,hg1,hg2,q1,q2]:=h;refine#[_,(zh (zB 4 nH.nd (cl0 rT hr .nil rfl (za (pv 0) (za (pv 1) ze)))) (zh (zB 5 nH.nd (clP hx rE hr .nil rfl (za (pv 0) (za (!-4) (za (pv 2) (za (pv 3) ze)))))) (zh (zB 6 nH.nd (clP hx rE hr .nil rfl (za (pv 0) (za (!-4) (za (pv 2) (za (pv 3) ze)))))) (zg (zk (ya yQ (pv 5) (pv 6) (zt _))))))),?_];have s16:=zU;let#[i1,i2,i3,i4]:=jm htr;obtain⟨r,hr⟩:∃r,ps[tr.1]? = BJ r:=#[_,ah i1];obtain⟨r2,hr2⟩:∃r,ps[tr.2.1]? = BJ r:=#[_,ah i2];have l1:=uq hr;have l2:=uq hr2;have d1:ps.getD tr.1 ([],[])=r:=by rw[ac,hr];rfl
  have d2:ps.getD tr.2.1 ([],[])=r2:=by rw[ac,hr2];rfl
  have eA:pkA ps tr=yZ (yD r.1 r2.1 tr.2.2) 0 r.1 r.2:=by unfold pkA;rw[l1,l2,d1]
  have eB:pkB ps tr=yZ (yD r.1 r2.1 tr.2.2) (tr.2.2:Nat) r2.1 r2.2:=by unfold pkB;rw[l1,l2,d2]
  rw[l1]at i3;rw[l1,l2]at i4;change Same H H'/\∃p:tG,(∃x,H' p=BJ (.tup [x,⇑(pkA ps tr),⇑(pkB ps tr)]))/\σ=%[!!a,!!t,~~~!m,!!F0,!!p|2]
  ·rfl';exact Vk hA.is ht hok hr hr2 ⋯ i4 λp H' Z s' hp=>#[s',p,#[_,by rw[eA,eB];exact hp],rfl]
  rintro σ H1 ⟨s1,p,⟨x,hp⟩,rfl⟩:_;have hF1:=s1 _ _ hF;right;change SamT F0 H1 H'/\∃(J1:Nat),g1=BJ J1/\(∃mp' n',H' F0=BJ (kn P w F0 mp' n')/\FmOk ps m mp'/\n'<=n+1)/\σ=[!!a,!!t,~~~!m,!!F0,!!p,BJ ⇑(wAt ps (pkA ps tr) J1),BK]
  ·rfl';refine#[_,x4 hp,_,rfl,WV (hA.same s1) hN hok hF1 hM ⋯ hg1 (λJ mp' n' H' e a1 a2 a3 a4=>?_) λe H' s'=>q2 (.inl e) H' (x8 (s1.trans s'))];exact#[a1,J,e,#[mp',n',a2,a3,a4],rfl]
  rintro σ H2 ⟨s2,J1,e1,⟨mp1,n1,hF2,hM2,hn2⟩,rfl⟩:_;have s12:SamT F0 H H2:=(x8 s1).trans s2;have hpF:p≠F0:=λz=>by rw[z,hF1]at hp;cases hp
  right;change SamT F0 H2 H'/\∃(J2:Nat),g2=BJ J2/\(∃mp' n',H' F0=BJ (kn P w F0 mp' n')/\FmOk ps m mp'/\n'<=n+2)/\σ=[!!a,!!t,~~~!m,!!F0,!!p,BJ ⇑(wAt ps (pkA ps tr) J1),BJ ⇑(wAt ps (pkB ps tr) J2)]
  ·rfl';exact#[_,x4 (s2 _ _ hpF hp),_,rfl,WV (WR s2 hF1 (hA.same s1)) hN hok hF2 hM2 ⋯ hg2 (λJ mp' n' H' e a1 a2 a3 a4=>#[a1,J,e,#[mp',n',a2,a3,⋯],rfl]) λe H' s'=>q2 (.inr e) H' (s12.trans (x8 s'))]
  rintro σ H3 ⟨s3,J2,e2,⟨mp2,n2,hF3,hM3,hn3⟩,rfl⟩:0;rfl';exact q1 J1 J2 mp2 n2 H3 e1 e2 (s12.trans s3) hF3 hM3 hn3
def ZJ(K:tF)(CH:tG):Sp:=λvs H Q Z=>∃(y o q:tG) (ps:List zK),vs=[.ref y]/\KJ K CH H y o q ps/\∀(r:tG) (H':Hp),Same H H'->LsA K H' r (ps.map dR)->H r=BK->Q (.ref r) H'
def vI:sQz 1 ["self"] yM:=by nofun
def vJ(B:Bt mg)(TS:zex K mg CH)(F:Fun K "rules_told" "System.rules_told" yM f fd):(1&&&["self"]) (ZJ K CH):=by
 exists F.ok vI
 ·let#[y,o,q,ps,rfl,hy,k]:=h;refine#[_,(zg (zk (xl yT rfl B.list jb0 (za (ur (pv 0) rfl) ze)))),?_];have s16:=zU;rfl';let#[dx,xs,h1,h2,h3]:=hy;exact#[_,_,_,h1,TS.cl,TS.nr,_,rfl,_,rfl,_,.inl (x6 h2),λr hr'=>k r _ (zf hr') #[xs,zd,ja1 (zf hr') _ _ h3] hr']
def goJ(ps:List zK)(m:Nat)(v:()):Option Nat:=(aM (m+1)).find? λj=>(zC (wAt ps v j) ps).isNone
def uF(e:goJ ps m v=BJ i):i<=m/\VH ps v i/\zC (wAt ps v i) ps=BK:=by
 unfold goJ at e;have h1:=eF e;have h2:zC (wAt ps v i) ps=BK:=Option.isNone_iff_eq_none.mp h1;have hm:=BX.mp (fj e);refine#[⋯,λn hn hno=>?_,h2];let#[_,as,bs,e2,h3]:=List.find?_eq_some_iff_append.mp e
 have hlen:as.length=i:=by
  have:=congrArg (λl=>l[as.length]?) e2;erw[bN (ak _),fB,dj]at this;let#[h7,h8]:=BP.mp this;rw[gp]at h8;exact h8
 have h9:(aM (m+1))[n]? = as[n]?:=by rw[e2,cG ⋯]
 have h10:n<(aM (m+1)).length:=by rw[cL];lia
 rw[ah h10,gp]at h9;have:=h3 n (ag h9.symm);rw[hno]at this;cases this
def ZF(e:goJ ps m v=BK):∀j,j<=m->zC (wAt ps v j) ps≠BK:=λj hj hno=>by
 unfold goJ at e;have:=Cm.mp e j (BX.mpr ⋯);rw[hno]at this;exact this rfl
theorem UG(hl:∀j,j<=m->(wAt ps v j).length<=10000)(hm:m<=10000):zdZ ps (m:Int) v (goJ ps m v):=by
 cases e:goJ ps m v with
 | some i =>
  let#[h1,h2,h3]:=uF e;exact .yes #[h2,λj hj=>hl j ⋯,⋯] h3 ⋯
 | none =>
  have h:=ZF e;exact .no (J:=m) #[λi hi=>h i ⋯,λj hj=>hl j hj,hm] (h m (ak _)) rfl
def zgq(ps:List zK)(m:Nat)(v:()):():=wAt ps v ((goJ ps m v).getD 0)
def za4(ps:List zK)(m:Nat)(t:N3):Bool:=decide (zgq ps m (pkA ps t)=zgq ps m (pkB ps t))
def OkG(ps:List zK)(m:Nat)(t:N3):Prop:=(goJ ps m (pkA ps t)).isSome=BL/\(goJ ps m (pkB ps t)).isSome=BL
def zhi(ps:List zK)(m:Nat):Prop:=m<=10000/\∀t ∈ ovA ps ps.length,(∀j,j<=m->(wAt ps (pkA ps t) j).length<=10000)/\∀j,j<=m->(wAt ps (pkB ps t) j).length<=10000
def QT(e1:goJ ps m (pkA ps t)=BJ J1)(e2:goJ ps m (pkB ps t)=BJ J2):decide (wAt ps (pkA ps t) J1=wAt ps (pkB ps t) J2)=za4 ps m t:=by unfold za4 zgq;rw[e1,e2];rfl
def zeg(h:goJ ps m (pkA ps t)=BK\/goJ ps m (pkB ps t)=BK):¬ OkG ps m t:=λho=>by
 let#[h1,h2]:=ho;rcases h with h | h
 ·rw[h]at h1;cases h1
 ·rw[h]at h2;cases h2
def FmOk.nil : FmOk ps m λZ=>BK:=λk v e=>by cases e
theorem Xt(s:SamT F H H')(hF:H F=BJ (kn P w F mp n)):∀{ts:List N3} {vs:List V},Iss K H (ts.map d3) vs->Iss K H' (ts.map d3) vs
 | [],vs,h=>by erw[aJ,Iss]at h ⊢;exact h
 | t::ts,vs,h=>by
  erw[ao,Iss]at h ⊢;let#[v,r,e,h3,h4]:=h;refine#[v,r,e,?_,Xt s hF h4];erw[d3,Is]at h3 ⊢;let#[a,xs,e1,e2,e3]:=h3;refine#[a,xs,e1,jU s hF e2,?_];erw[Iss,Is]at e3 ⊢;exact e3
def unG(ps:List zK)(m:Nat):List N3:=(ovA ps ps.length).filter λt=>!za4 ps m t
def uB(K:tF)(CH CF:tG):Sp:=λvs H Q E=>∃(y o q:tG) (ps:List zK) (m:Nat),vs=[.ref y,.int (m:Nat)]/\KJ K CH H y o q ps/\NeL ps/\jc ps/\(ovA ps ps.length).length<=4000/\zhi ps m /\
 ((∀t ∈ ovA ps ps.length,OkG ps m t)->∀D H',Same H H'->H D=BK->LsA K H' D ((unG ps m).map d3)->Q (.ref D) H')/\(∀t ∈ ovA ps ps.length,¬ OkG ps m t->∀H',Same H H'->E (.ref CF) BK H')
def pw:sQz 2 ["system","most","rules","forms"] wa:=by nofun
def zaC(B:Bt mg)(TS:zex K mg CH)(F:FunD K "unmet" "unmet" wa dV f fd)(sv:(2<<<"overlaps") ["rules"] [] (ue K))(sK:(6>>>"is_met") ["rules","overlap","most","forms"] [] (Zw P w K CF))(M_system_rules_told:DM P w K mg base CX0 1 CH "rules_told" ["self"] (ZJ K CH)):(7|||["system","most"]) (uB K CH CF):=by
 exists FunD.okX F pw,0
 ·let#[y,o,q,ps,m,rfl,hy,hN,hok,hlen,hE,k1,k2]:=h;refine#[_,(zh (jH (i:=2) pw.nd rfl (Or.inr rfl) (me0 M_system_rules_told TS.cl hr (pv 0))) (zh (jH (i:=3) pw.nd rfl (Or.inr rfl) zb4) (zg (zk (YO (EX:=E) (own:=["overlap"]) (caps:=["rules","most","forms"]) (ix:=[2,1,3]) (tt:=(zdT (tBl (uZ (Zw P w K CF) [] E (zO (ym 1) (zO (ym 0) (zO (ym 2) (zO (ym 3) xI)))))))) (te:=(ym 0)) rfl (zS (sc:=zi wa) rfl (!0) (!0) (!0) rfl (!0) (!0) rfl) #[rfl,rfl] hx (yv (cl0 sv hr .nil rfl (za (pv 2) ze))) (λZ Z Z Z Z Z=>zq (i:=0) (show List.Nodup [_,_,_,_] by decide) rfl (.inl rfl)) (λZ Z Z Z Z Z Z hx'=>(Ql (zX (yB (clP hx' sK hr .nil rfl (za (pv 1) (za (pv 0) (za (pv 2) (za (pv 3) ze))))) (λZ=>rfl))))) (λZ Z Z Z Z Z Z Z=>(pv 0))))))),?_];have s16:=zU;let#[dx,xs0,h1,h2,h3]:=id hy;change Same H H'/\∃r:tG,LsA K H' r (ps.map dR)/\σ=[!!y,-~~~m,!!r,BK]
  ·rfl';exact#[_,_,h1,rfl,y,o,q,ps,rfl,hy,λr H1 s1 hA hr'=>#[s1,r,hA,rfl]]
  rintro σ H1 ⟨s1,r,hA,rfl⟩:0;change Same H H'/\LsA K H' r (ps.map dR)/\∃F:tG,H F=BK/\H' F=BJ (kn P w F (λZ=>BK) 0)/\σ=[!!y,-~~~m,!!r,!!F]
  ·rfl';erw[zez];intro F hF;have s2:=zf (o:=kn P w F (λZ=>BK) 0) hF;rfl';exact#[s1.trans s2,hA.same s2,F,s1.free hF,zd,rfl]
  rintro σ H2 ⟨s2,hA2,F,hF0,hF,rfl⟩:0;rfl';refine Y8 hA2.is hok λO H3 hO s3 hL=>#[O,rfl,?_,λD hD=>?_]
  ·let#[xs,hX,_]:=hL;exact#[_,x6 hX]
  let#[xs,hX,hI]:=hL;have hxl:=hI.len;rw[aa]at hxl;have hF3:=s3 _ _ hF;have s03:=s2.trans s3;have hDF:D≠F:=λz=>by rw[z,hF3]at hD;cases hD
  have hOF:O≠F:=λz=>by rw[z,hF3]at hX;cases hX
  have back:∀{G:Hp},SamT F H3 G->Same H G:=λ{G} sT b o' e=>sT b o' (λz=>by rw[z,hF0]at e;cases e) (s03 b o' e);refine jb1 (xs:=xs) (λi acc H'=>SamT F H3 H'/\H' D=BJ (.lst acc)/\(∃(mp:tK->Option V) (n:Nat),H' F=BJ (kn P w F mp n)/\FmOk ps (m:Nat) mp/\n<=2 * i)/\Iss K H3 ((((ovA ps ps.length).take i).filter λt=>!za4 ps m t).map d3) acc/\∀t ∈ (ovA ps ps.length).take i,OkG ps m t) #[x8 (zf hD),zd,#[_,0,by rw[zo (λz=>hDF z.symm)];exact hF3,FmOk.nil,⋯],by erw[cq,dL,aJ,Iss],λt ht=>by simp at ht] (λi acc H' Z h=>x6 (h.1 _ _ hOF hX)) ?_ ?_
  ·refine nm4 ?_;rintro i x acc H' hx ⟨sT,hH,⟨mp,n,hFm,hM,hn⟩,hI',hle⟩:_;have hil:=(BP.mp hx).1;let#[t,p,ht,rfl,hp]:=hI.get3 hx;have htm:=ag ht;have hE':=hE.2 t htm
   have hal:acc.length<=i:=by
    have:=hI'.len;rw[aa]at this;have h5:=dw (λt=>!za4 ps m t) ((ovA ps ps.length).take i);rw[aL]at h5;lia
   right;erw[zdT,tBl];rfl';refine#[xH,r,p,F,ps,t,(m:Nat),n,mp,_,_,rfl,WR sT hF3 (hA2.same s3),hN,hok,jU sT hF3 hp,htm,hFm,hM,⋯,UG hE'.1 hE.1,UG hE'.2 hE.1,λJ1 J2 mp' n' H5 e1 e2 s5 hF5 hM5 hn5=>?_,λh H5 s5=>k2 t htm (zeg h) H5 (back (sT.trans s5))]
   have hle':∀t' ∈ (ovA ps ps.length).take (i+1),OkG ps m t':=λt' ht'=>by
    rw[yb ht]at ht';rcases BS.mp ht' with h | h
    ·exact hle t' h
    ·rw[BV.mp h];exact#[by rw[e1];rfl,by rw[e2];rfl]
   rw[QT e1 e2]
   have hcase:∀b,za4 ps m t=b->(!b)=BL->Iss K H3 ((((ovA ps ps.length).take (i+1)).filter λt=>!za4 ps m t).map d3) (acc ++ [.ref p]):=λb hb hb'=>by
    rw[yb ht,dk,ar];refine jb2 hI' ?_;rw[fA,hb,y9 hb'];erw[dL,ao,aJ,Iss];refine#[_,[],rfl,?_,rfl];erw[d3,Is,Iss];exact#[p,_,rfl,hp,_,_,rfl,rfl,_,_,rfl,rfl,_,_,rfl,rfl,rfl]
   refine#[_,rfl,?_]
   cases hb:za4 ps m t with
   | false =>
    rw[y9 rfl];refine#[s5 _ _ hDF hH,⋯,ja0 hil #[λb o' hbF e=>?_,zd,#[mp',n',by rw[zo (λz=>hDF z.symm)];exact hF5,hM5,⋯],hcase _ hb rfl,hle']];rw[zo (λz=>by rw[z,hD]at e;cases e)];exact s5 b o' hbF (sT b o' hbF e)
   | true =>
    rw[z9 ∅];refine ja0 hil #[sT.trans s5,s5 _ _ hDF hH,#[mp',n',hF5,hM5,⋯],?_,hle'];rw[yb ht,dk,fA,hb];erw[gf,be,if_false,dL,aZ];exact hI'
  ·refine nmB ?_;rintro acc H' ⟨sT,hH,_,hI',hle⟩:_;rw[hxl,aP]at hI' hle;right;exact k1 hle D H' (back sT) (s03.free hD) #[acc,hH,Xt sT hF3 hI']
abbrev zhT(mg:tK->Option tH):Prop:=mg "any" = BK
theorem zha(h:SqT K H p [a,b])(k:R ((σ.set i (BJ a)).set j (BJ b)) H):zdz K 2 (ko (yH i) (ko (yH j) zcZ)) (.ref p) σ H R:=by
 erw[zdz,ko,yH,zcZ]
 first
 | exact⟨_,_,rfl,h,rfl,_,_,rfl,_,_,rfl,rfl,k⟩
 | exact⟨_,_,rfl,.inr h,rfl,_,_,rfl,_,_,rfl,rfl,k⟩
theorem EnsA.app(hf:EnsA K H fs us):∀{es:List Ent} {vs:List V},EnsA K H es vs->EnsA K H (es ++ fs) (vs ++ us)
 | [],vs,h=>by
  erw[EnsA]at h;subst h;exact hf
 | e::es,vs,h=>by
  erw[EnsA]at h;let#[x,r,rfl,hx,hr]:=h;erw[bx,EnsA];exact#[x,r ++ us,rfl,hx,hf.app hr]
abbrev MkS(P:tL)(w:tP)(K:tF)(mg:tK->Option tH)(base:tT)(CO CR CW CT CH:tG):Prop:=DMk P w K mg base (CXx P w) 5 CH ["self","order","rules"] (qX K CO CR CW CT CH)
def zdw{Q:tG->Hp->Prop}{CO CR CW CT CH o a:tG}(ho:OrdAt CO CR CW H o k l ns)(hG:OG l ns k)(hA:LsA K H a (ps.map dR))(hin:InL l ps)(hf:vh k l ns ps 0=BK)(q:∀(y qa:tG) (H':Hp),Same H H'->KJ K CH H' y o qa ps->Q y H'):∀x dx,H x=BK->H dx=BK->dx≠x->qX K CO CR CW CT CH [.ref x,.ref o,.ref a] (upd (upd H dx (.own x)) x (.ins CH dx [])) (λv H'=>v=.non/\Q x H') E0:=by
 intro x dx hx hdx hne;let#[xs,hX,hI]:=hA;have sd:=zf (o:=.own x) hdx
 have k1:Same H (upd (upd H dx (.own x)) x (.ins CH dx [])):=λb' o' e=>by
  rw[zo (zE e hx)];exact sd _ _ e
 refine#[x,dx,o,a,k,l,ns,ps,xs,rfl,zd,ho.same k1,hG,k1 _ _ hX,ja1 k1 _ _ hI,hin,(λi e=>by rw[hf]at e;cases e),λZ q1 H'' kp hx' hq' hqn=>#[rfl,?_]];have k3:Same H H'':=λb' o' e=>kp b' o' (λz=>by rw[z,hx]at e;cases e) (k1 _ _ e);exact q x q1 H'' k3 #[dx,xs,hx',hq',ja1 k3 _ _ hI]
def BG.inL(h:BG k l ns bs):InL l (zc bs):=λp hp=>by
 let#[e,he,rfl]:=BQ.mp hp;have b:=h.e e he;exact#[aB b.a ∅,aB b.b ∅,b.ma,b.mb]
def BG.fault(h:BG k l ns bs):vh k l ns (zc bs) 0=BK:=qd λm p e=>by
 let#[e',he,rfl]:=BQ.mp (ag e);exact h.lt e' he
def Vv(K:tF)(CO CR CW CH:tG):Sp:=λvs H Q Z=>∃(o a:tG) (k:Nat) (l:()) (ns:List Int) (bs:List Ent),vs=[.ref o,.ref a]/\OrdAt CO CR CW H o k l ns/\OG l ns k/\EnsL K H a bs/\BG k l ns bs/\∀(y qa:tG) (H':Hp),Same H H'->KJ K CH H' y o qa (zc bs)->Q (.ref y) H'
def Xb:sQz 2 ["order","entries"] ug:=by nofun
def YL{f CO CR CW CT CH:tG}(B:Bt mg)(TS:zex K mg CH)(MS:MkS P w K mg base CO CR CW CT CH)(F:("system_by"^^^ug))(gZ:(1<<<"pairs_of") ["entries"] [] (wD K)):(7&&&["order","entries"]) (Vv K CO CR CW CH):=by
 exists F.ok Xb
 ·let#[o,a,k,l,ns,bs,rfl,ho,hG,hA,hB,q]:=h;refine#[_,(zg (zk (zeO xe0 MS hr rfl TS.g (za (pv 0) (za (cl0 gZ hr .nil rfl (za (pv 1) ze)) ze))))),?_];have s16:=zU;ac_rfl;refine wq hA.is (by have:=hB.n;lia) λD H' Z s' hL=>?_;exact zdw (ho.same s') hG hL hB.inL hB.fault λy qa H'' s'' hy=>q y qa H'' (s'.trans s'') hy
def fE(i:Nat)(p:zK):Ent:=(p.1,p.2,[((i:Int),(0:Int),BL)])
def fEs(rs:List zK):Nat->List Ent
 | 0=>[]
 | n+1=>fEs rs n ++ ((rs[n]?).map (fE n)).toList
def Vb(h:rs[n]? = BJ p):fEs rs (n+1)=fEs rs n ++ [fE n p]:=by show fEs rs n ++ ((rs[n]?).map (fE n)).toList=_;rw[h];rfl
theorem QQ(rs:List zK):∀n,(fEs rs n).length<=n
 | 0=>ak _
 | n+1=>by
  have:=QQ rs n;show (fEs rs n ++ ((rs[n]?).map (fE n)).toList).length<=_;rw[am]
  cases rs[n]? with
  | none=>simp;lia
  | some p=>simp;lia
theorem Zy : ∀{n:Nat} {e:Ent},e ∈ fEs rs n->∃i p,i<n/\rs[i]? = BJ p/\e=fE i p
 | 0,e,h=>(nomatch h)
 | n+1,e,h=>by
  have h':e ∈ fEs rs n ++ ((rs[n]?).map (fE n)).toList:=h;rcases BS.mp h' with h | h
  ·let#[i,p,hi,hp,he]:=Zy h;exact#[i,p,⋯,hp,he]
  ·cases hn:rs[n]? with
   | none=>rw[hn]at h;simp at h
   | some p =>
    rw[hn]at h;exact#[n,p,⋯,hn,by simpa using h]
def Vz(K:tF):Sp:=λvs H Q Z=>∃(a:tG) (rs:List zK),vs=[.ref a]/\LsA K H a (rs.map dR)/\rs.length<=20/\∀(D:tG) (H':Hp),Same H H'->H D=BK->EnsM K H' D (fEs rs rs.length)->Q (.ref D) H'
def qF:sQz 1 ["pacts"] yV:=by nofun
def qC(B:Bt mg)(F:("first_entries"^^^yV)):(1&&&["pacts"]) (Vz K):=by
 exists F.ok qF
 ·let#[a,rs,rfl,hA,hrl,q]:=h;refine#[_,(zg (zk (xB (g:=zdz K 2 (ko (yH 0) (ko (yH 1) zcZ))) (own:=["number","pact"]) (caps:=[]) (ix:=[]) (tt:=wP) (te:=(Kg (zO (tOp (jd K) (ym 1) (tC (.int 0))) (zO (tOp (jd K) (ym 1) (tC (.int 1))) (zO (zfB (zO (Kg (zO (ym 0) (zO (tC (.int 0)) (zO (tC (.bl BL)) xI)))) xI)) xI))))) rfl (zS (sc:=zi yV) rfl (!0) (!0) (!0) rfl (!0) (!0) rfl) (wC rfl B.enum (za (pv 0) ze)) (λZ Z Z Z Z Z=>wN (n:=2) rfl (zL (zq (i:=0) (show List.Nodup [_,_] by decide) rfl (.inl rfl)) (zL (zq (i:=1) (show List.Nodup [_,_] by decide) rfl (.inl rfl)) y8))) (λZ Z Z Z Z Z=>yP) (λZ Z Z Z Z Z=>(zN (za (!-1) (za (!-1) (za (yF (za (zN (za (pv 0) (za zb (za yJ ze)))) ze)) ze)))))))),?_];have s16:=zU;let#[xs,hX,hI]:=id hA;have hxl:=hI.len;rw[aa]at hxl;ac_rfl;rw[zfc];ac_rfl;refine#[#[_,x6 hX],λD hD=>CompEL.by (xs:=xs) (λi acc H'=>Same H H'/\H' D=BJ (.lst acc)/\acc.length<=i/\EnsA K (kE D H') (fEs rs i) acc) #[zf hD,zd,ak _,rfl] (λi acc H' Z h=>x6 (h.1 _ _ hX)) ?_ ?_]
  ·refine nmE ?_;rintro i x acc H' p hx ⟨hs,hH,hal,hEn⟩ hp:_;have hil:=(BP.mp hx).1;let#[r,pr,hri,rfl,hqr]:=hI.getR hx;have u1:=zf (o:=HO.tup [.int (i:Nat),.ref pr]) hp;have hq:=zy (hs.trans u1) hqr;right;dsimp only;refine zha (x4 zd) ?_;erw[wP];rfl';refine#[zbz,_,hq,_,rfl,_,hq,_,rfl,⋯,λp1 hp1=>#[⋯,λp2 hp2=>#[⋯,λp3 hp3=>?_]]];have u2:=zf (o:=HO.tup [.int (i:Nat),.int 0,.bl BL]) hp1;have u3:=zf (o:=HO.lst [.ref p1]) hp2;have u4:=zf (o:=HO.tup [⇑r.1,⇑r.2,.ref p2]) hp3;have u:=u1.trans (u2.trans (u3.trans u4));have hD4:=u _ _ hH;have hp2D:p2≠D:=λz=>by rw[z,u2 _ _ (u1 _ _ hH)]at hp2;cases hp2
   refine#[hD4,⋯,ja0 hil #[zI (hs.trans u) hD,zd,by rw[am];erw[aF,bH];lia,?_]];rw[Vb hri];refine (hEn.same ((wU u).trans xL)).snoc (EnA.same ?_ xL);refine EnA.new (e:=fE i r) hD4 zd #[_,u4 _ _ zd,?_] hp2D;show Iss K _ [dSt ((i:Int),(0:Int),BL)] _;exact zds (Zi (x4 (u4 _ _ (u3 _ _ zd))))
  ·refine nmB ?_;rintro acc H' ⟨hs,hH,hal,hEn⟩:_;rw[hxl]at hEn;right;exact q D H' hs hD #[acc,hH,hEn.same vp]
def j8(es:List Ent):Bool:=decide (12<es.length) || es.any λe=>decide (10<max e.1.length e.2.1.length)
structure TMc(mg:tK->Option tH):Prop where
 u:∃t,mg "MOST_USES_completing" = BJ (.int 40 t)
 e:∃t,mg "MOST_ENTRIES" = BJ (.int 12 t)
 d:∃t,mg "MOST_SIDE_completing" = BJ (.int 10 t)
 p:∃t,mg "MOST_PEAKS" = BJ (.int 8 t)
def Xj(K:tF):Sp:=λvs H Q Z=>∃(a:tG) (es:List Ent),vs=[.ref a]/\EnsL K H a es/\es.length<64/\(∀e ∈ es,e.1.length<=10000/\e.2.1.length<=10000)/\∀H',Same H H'->Q (.bl (j8 es)) H'
def Xi:sQz 1 ["entries"] wF:=by nofun
def YB(B:Bt mg)(hany:zhT mg)(TM:TMc mg)(F:("is_beyond"^^^wF)):(1&&&["entries"]) (Xj K):=by
 let#[#[t9,g9],#[t8,g8]]:=And.intro TM.e TM.d;exists F.ok Xi
 ·let#[a,es,rfl,hA,hl,hE,q]:=h
  refine#[_,(zh (zJ (zu Zn (zF B.len (pv 0)) (yy (v:=.int 12) rfl g9 #[t9,rfl]) (zt _)) (zg (zk yJ))
    zp) (zg (zk (xg (zhb rfl) rfl hany PyProof.Rows.boot_any (za (xB (own:=["entry"]) (caps:=[]) (ix:=[]) (tt:=wP) (te:=(tOp zfO (tCB zac (zO (tCB (Uf K) (zO (tOp (jd K) (ym 0) (tC (.int 0))) xI)) (zO (tCB (Uf K) (zO (tOp (jd K) (ym 0) (tC (.int 1))) xI)) xI))) (tC (.int 10)))) rfl (zS (sc:=zi wF) rfl (!0) (!0) (!0) rfl (!0) (!0) rfl) (yv (pv 0)) (λZ Z Z Z Z Z=>zq (i:=0) (show List.Nodup [_] by decide) rfl (.inl rfl)) (λZ Z Z Z Z Z=>yP) (λZ Z Z Z Z Z=>(ya Zn (xg (UC rfl) rfl B.max qJ (za (zF B.len (!-0)) (za (zF B.len (!-0)) ze))) (yy (v:=.int 10) rfl g8 #[t8,rfl]) (zt _)))) ze))))),?_]
  have s16:=zU;let#[xs,hX,hEn]:=id hA;have hxl:=hEn.len;change H'=H/\¬ 12<es.length/\σ=[!!a]
  ·ac_rfl;refine#[_,.inl #[_,hX,rfl],yd (λh=>?_) λh=>by lia]
   have e:j8 es=BL:=by
    unfold j8;rw[y3 ⋯,Bool.true_or]
   rw[<- e];exact q H (x9 _)
  rintro σ H1 ⟨rfl,h12,rfl⟩:0;ac_rfl;refine#[#[_,hX],λD hD=>jb1 (xs:=xs) (λi acc H'=>Same H1 H'/\H' D=BJ (.lst acc)/\acc=((es.take i).map λe=>decide (10<max e.1.length e.2.1.length)).map V.bl) #[zf hD,zd,rfl] (λi acc H' Z h=>h.1.seq hX) ?_ ?_]
  ·refine nm4 ?_;rintro i x acc H' hx ⟨hs,hH,rfl⟩:_;have hil:=(BP.mp hx).1;let#[e,p,s,he,rfl,hp,_]:=hEn.get hx;have hq:=zy hs hp;have hb:=hE e (ag he);right;erw[wP];rfl';refine#[xH,_,hq,_,rfl,_,#[by rw[yj];lia,rfl],_,hq,_,rfl,_,#[by rw[yj];lia,rfl],hH,by rw[aa,aa,aL];lia,ja0 hil #[zI hs hD,zd,?_]];rw[yb he,ar,ar,yj,yj];congr 1;show [V.bl _]=[V.bl _];congr 2;refine decide_eq_decide.mpr ?_;split <;> lia
  ·refine nmB ?_;rintro acc H' ⟨hs,hH,rfl⟩:_;rw[hxl,aP]at hH;right;refine#[D,_,rfl,x6 hH,?_]
   have e:(es.map λe=>decide (10<max e.1.length e.2.1.length)).any id=j8 es:=by
    unfold j8;rw[y4 h12,Bool.false_or,eD];rfl
   rw[e];exact q H' hs
def WA(h:j8 es=BM):es.length<=12/\∀e ∈ es,e.1.length<=10/\e.2.1.length<=10:=by unfold j8 at h;rw[Bool.or_eq_false_iff]at h;refine#[by have:=of_decide_eq_false h.1;lia,λe he=>?_];have:=List.any_eq_false.mp h.2 e he;have h2:¬ 10<max e.1.length e.2.1.length:=λz=>this (y3 z);lia
def zbe(K:tF)(CO CR CW T:tG):Sp:=λvs H Q Z=>∃(o a:tG) (k:Nat) (l:()) (ns:List Int) (es:List Ent),vs=[.ref o,.ref a]/\OrdAt CO CR CW H o k l ns/\OG l ns k/\EnsL K H a es/\es.length<64/\(∀e ∈ es,EB l e)/\TabOk H T lp lq /\
 (∀(bs:List Ent) (D:tG) (H':Hp),uS k l ns 20 es (BJ bs)->BG k l ns bs->j8 bs=BM->SamT T H H'->TabOk H' T lp lq->EnsM K H' D bs->Q (.ref D) H')/\((uS k l ns 20 es BK\/∃bs,uS k l ns 20 es (BJ bs)/\j8 bs=BL)->∀H',SamT T H H'->TabOk H' T lp lq->Q .non H')
structure zgU(K:tF)(CF:tG):Prop where
 s:cN K (.ref CF) (.ref CF)=BJ BL
def mP:sQz 2 ["order","entries","slim"] xq:=by nofun
def qh{f CO CR CW TB CF:tG}(B:Bt mg)(TFx:zdG K mg CF)(TSb:zgU K CF)(F:("thinned_within"^^^xq))(sF:(7>>>"thinned") ["order","entries"] [] (Qc K CO CR CW TB CF))(si:(1<<<"is_beyond") ["entries"] [] (Xj K)):(8&&&["order","entries"]) (zbe K CO CR CW TB):=by
 exists F.ok mP
 ·let#[o,a,k,l,ns,es,rfl,ho,hG,hA,hz,hE,hTab,q1,q2]:=h;refine#[_,(zh (zab (i:=2) (th:=(zbN (tC .non))) mP.nd rfl (.inl rfl) (.inl rfl) #[rfl,rfl] (clX sF hr .nil rfl (za (pv 0) (za (pv 1) ze))) rfl TFx.g TFx.xi.ok (λe=>(zg (zk yh)))) (zg (zk (vv (yB (cl0 si hr .nil rfl (za (pv 2) ze)) (λZ=>rfl)) yh (pv 2))))),?_];have s16:=zU;change SamT TB H H'/\TabOk H' TB lp lq/\∃(bs:List Ent) (D:tG),uS k l ns 20 es (BJ bs)/\BG k l ns bs/\EnsM K H' D bs/\σ=[!!o,!!a,!!D]
  ·erw[zbi];ac_rfl;exact#[o,a,k,l,ns,es,rfl,ho,hG,hA,hz,hE,hTab,λbs D H' h1 h2 h3 h4 h5=>#[h3,h4,bs,h1,h2,D,h5,rfl],λh H' h3 h4=>#[CF,rfl,TSb.s,λx hx=>q2 (.inl h) _ (h3.trans (x8 (zf hx))) (h4.same (zf hx))]]
  rintro σ H1 ⟨s1,hT1,bs,D,hTh,hB,hM,rfl⟩:0;ac_rfl;exact#[D,bs,rfl,hM.l,hB.n,λe he=>#[aB (hB.e e he).a ∅,aB (hB.e e he).b ∅],λH' s'=>#[_,rfl,yd (λh=>q2 (.inr #[bs,hTh,h]) H' (s1.trans (x8 s')) (hT1.same s')) λh=>q1 bs D H' hTh hB ↥h (s1.trans (x8 s')) (hT1.same s') (hM.same s')]]
def qP(w:())(k:Int)(o n:()):(yZ w k o n).length<=w.length+n.length:=by unfold yZ;rw[am,am,aL,bq,cY];exact Nat.add_le_add_right (zhf _ _ _) _
def BG.ok(h:BG k l ns bs)(hl:bs.length<=30):jc (zc bs):=by refine#[by unfold zc;rw[aa];exact hl,λr hr=>?_];let#[e,he,rfl]:=BQ.mp hr;exact#[aB (h.e e he).a ∅,aB (h.e e he).b ∅]
def zeI(hok:∀r ∈ ps,r.1.length<=60/\r.2.length<=60)(ht:t ∈ ovA ps ps.length):(pkA ps t).length<=180/\(pkB ps t).length<=180:=by
 let#[i1,i2,i3,i4]:=jm ht;obtain⟨r,hr⟩:∃r,ps[t.1]? = BJ r:=#[_,ah i1];obtain⟨r2,hr2⟩:∃r,ps[t.2.1]? = BJ r:=#[_,ah i2];have l1:=uq hr;have l2:=uq hr2;have d1:ps.getD t.1 ([],[])=r:=by rw[ac,hr];rfl
 have d2:ps.getD t.2.1 ([],[])=r2:=by rw[ac,hr2];rfl
 rw[l1]at i3;have b1:=hok r (ag hr);have b2:=hok r2 (ag hr2);have hp:=uE r.1 r2.1 t.2.2 ⋯;have p1:=qP (yD r.1 r2.1 t.2.2) 0 r.1 r.2;have p2:=qP (yD r.1 r2.1 t.2.2) (t.2.2:Nat) r2.1 r2.2;unfold pkA pkB;rw[l1,l2,d1,d2];lia
def zeT(hN:NeL ps)(hok:∀r ∈ ps,r.1.length<=60/\r.2.length<=60):zhi ps 40:=by
 refine#[∅,λt ht=>?_];let#[h1,h2]:=zeI hok ht
 have key:∀(v:()),v.length<=180->∀j,j<=40->(wAt ps v j).length<=10000:=λv hv j hj=>by
  have:=jv (l:=v) hN (λp hp=>(hok p hp).2) j;have h3:j * 60<=40 * 60:=fR hj (ak _);lia
 exact#[key _ h1,key _ h2]
def zaU(K:tF)(CO CR CW:tG):Sp:=λvs H Q Z=>∃(o a:tG) (k:Nat) (l:()) (ns:List Int) (bs:List Ent),vs=[.ref o,.ref a]/\OrdAt CO CR CW H o k l ns/\OG l ns k/\EnsL K H a bs/\BG k l ns bs/\bs.length<=30/\(ovA (zc bs) (zc bs).length).length<=4000 /\
 ((∀t ∈ ovA (zc bs) (zc bs).length,OkG (zc bs) 40 t)->∀D H',Same H H'->LsA K H' D ((unG (zc bs) 40).map d3)->Q (.ref D) H')/\(∀t ∈ ovA (zc bs) (zc bs).length,¬ OkG (zc bs) 40 t->∀H',Same H H'->Q .non H')
def jA:sQz 2 ["order","entries"] xT:=by nofun
def jE{f CO CR CW CF CH:tG}(B:Bt mg)(TFx:zdG K mg CF)(TSb:zgU K CF)(TM:TMc mg)(F:("unmet_within"^^^xT))(sQ:(7>>>"unmet") ["system","most"] [] (uB K CH CF))(DD_unmet:(7>>>"unmet") ["system","most"] [.int 4000 pA] (uB K CH CF))(sk:(7<<<"system_by") ["order","entries"] [] (Vv K CO CR CW CH)):(9&&&["order","entries"]) (zaU K CO CR CW):=by
 let#[t9,g9]:=TM.u;exists F.ok jA
 ·let#[o,a,k,l,ns,bs,rfl,ho,hG,hA,hB,hbl,hol,q1,q2]:=h;refine#[_,(zg (Vn (th:=(zbN (tC .non))) #[rfl,rfl] (clX sQ hr .nil rfl (za (cl0 sk hr .nil rfl (za (pv 0) (za (pv 1) ze))) (za (yy (v:=.int 40) rfl g9 #[t9,rfl]) ze))) rfl TFx.g TFx.xi.ok (λe=>(zg (zk yh))))),?_];have s16:=zU;have s16:=zU;erw[J6];ac_rfl
  have hsd:∀r ∈ zc bs,r.1.length<=60/\r.2.length<=60:=λr hr=>by
   let#[e,he,rfl]:=BQ.mp hr;exact#[(hB.e e he).a,(hB.e e he).b]
  exact#[o,a,k,l,ns,bs,rfl,ho,hG,hA,hB,λy qa H' s' hy=>#[y,o,qa,zc bs,40,rfl,hy,hB.ne hG,hB.ok hbl,hol,zeT (hB.ne hG) hsd,λh D H'' s'' Z hL=>q1 h D H'' (s'.trans s'') hL,λt ht h H'' s''=>#[CF,rfl,TSb.s,λx hx=>q2 t ht h _ (s'.trans (s''.trans (zf hx)))]]]
def jo(es:List Ent)(t:N3):Ent:=(pkA (zc es) t,pkB (zc es) t,byL es [((t.1:Int),(0:Int),BM),((t.2.1:Int),(t.2.2:Int),BL)])
def Z8(K:tF):Sp:=λvs H Q Z=>∃(a t:tG) (es:List Ent) (tr:N3),vs=[.ref a,.ref t]/\EnsL K H a es/\SqT K H t [.int (tr.1:Nat),.int (tr.2.1:Nat),.int (tr.2.2:Nat)]/\tr ∈ ovA (zc es) (zc es).length/\jc (zc es)/\(∀e ∈ es,e.2.2.length<=600)/\∀(p s:tG) (H':Hp),Same H H'->H' p=BJ (.tup [⇑(jo es tr).1,⇑(jo es tr).2.1,.ref s])->LsA K H' s ((jo es tr).2.2.map dSt)->H s=BK->Q (.ref p) H'
def nN:sQz 2 ["entries","overlap","sides","steps"] uR:=by nofun
def WH(B:Bt mg)(F:("entry_of"^^^uR))(rT:(4<<<"peak") ["rules","overlap"] [] (Yf K))(iT:(2<<<"by_pacts") ["entries","steps"] [] (UK K))(gZ:(1<<<"pairs_of") ["entries"] [] (wD K)):(5&&&["entries","overlap"]) (Z8 K):=by
 exists F.ok nN
 ·let#[a,t,es,tr,rfl,hA,ht,htr,hok,hst,q]:=h;refine#[_,(zh (zB 2 nN.nd (cl0 rT hr .nil rfl (za (cl0 gZ hr .nil rfl (za (pv 0) ze)) (za (pv 1) ze)))) (zh (zB 3 nN.nd (cl0 iT hr .nil rfl (za (pv 0) (za (yF (za (zN (za (!-1) (za zb (za yJ ze)))) (za (zN (za (!-1) (za (!-1) (za yJ ze)))) ze))) ze)))) (zg (zk (zN (za (!-2) (za (!-2) (za (pv 3) ze)))))))),?_];have s16:=zU;have hlp:(zc es).length=es.length:=by unfold zc;rw[aa]
  let#[i1,i2,i3,i4]:=jm htr;obtain⟨r,hr1⟩:∃r,(zc es)[tr.1]? = BJ r:=#[_,ah i1];obtain⟨r2,hr2⟩:∃r,(zc es)[tr.2.1]? = BJ r:=#[_,ah i2];have l1:=uq hr1;have l2:=uq hr2;have d1:(zc es).getD tr.1 ([],[])=r:=by rw[ac,hr1];rfl
  have d2:(zc es).getD tr.2.1 ([],[])=r2:=by rw[ac,hr2];rfl
  have eA:pkA (zc es) tr=yZ (yD r.1 r2.1 tr.2.2) 0 r.1 r.2:=by unfold pkA;rw[l1,l2,d1]
  have eB:pkB (zc es) tr=yZ (yD r.1 r2.1 tr.2.2) (tr.2.2:Nat) r2.1 r2.2:=by unfold pkB;rw[l1,l2,d2]
  rw[l1]at i3;rw[l1,l2]at i4;change Same H H'/\∃p:tG,(∃x,H' p=BJ (.tup [x,⇑(pkA (zc es) tr),⇑(pkB (zc es) tr)]))/\σ=[!!a,!!t,!!p,BK]
  ·rfl';refine wq hA.is (by have:=hok.1;lia) λD H1 Z s1 hL=>?_;exact Vk hL.is (zy s1 ht) hok hr1 hr2 ⋯ i4 λp H' Z s' hp=>#[s1.trans s',p,#[_,by rw[eA,eB];exact hp],rfl]
  rintro σ H1 ⟨s1,p,⟨x,hp⟩,rfl⟩:0;change Same H1 H'/\∃S:tG,H S=BK/\LsA K H' S ((jo es tr).2.2.map dSt)/\σ=[!!a,!!t,!!p,!!S]
  ·have ht1:=zy s1 ht;rfl';refine#[_,ht1,_,rfl,⋯,λp1 hp1=>?_];have u1:=zf (o:=HO.tup [.int (tr.1:Nat),.int 0,.bl BM]) hp1;refine#[_,zy u1 ht1,_,rfl,_,zy u1 ht1,_,rfl,⋯,λp2 hp2=>#[⋯,λp3 hp3=>?_]];have u2:=zf (o:=HO.tup [.int (tr.2.1:Nat),.int (tr.2.2:Nat),.bl BL]) hp2;have u3:=zf (o:=HO.lst [.ref p1,.ref p2]) hp3;have u:=u1.trans (u2.trans u3);refine Vm (us:=[((tr.1:Int),(0:Int),BM),((tr.2.1:Int),(tr.2.2:Int),BL)]) (hA.same (s1.trans u)).is (LsA.is #[_,zd,?_]) (by simp) hst (λv hv=>?_) λD H' hDn s' hL=>#[u.trans s',D,(s1.trans u).free hDn,hL,rfl]
   ·erw[ao,aJ,Iss];exact#[_,_,rfl,Zi (x4 (u3 _ _ (u2 _ _ zd))),_,_,rfl,Zi (x4 (u3 _ _ zd)),rfl]
   ·erw[bF,bM,or_false]at hv;rcases hv with rfl | rfl
    ·exact#[by simp,by show (tr.1:Int)<_;lia]
    ·exact#[by simp,by show (tr.2.1:Int)<_;lia]
  rintro σ H2 ⟨s2,S,hSn,hS,rfl⟩:0;rfl';exact#[_,x4 (s2 _ _ hp),_,rfl,_,x4 (s2 _ _ hp),_,rfl,⋯,λp' hp'=>q p' S _ (s1.trans (s2.trans (zf hp'))) zd (hS.same (zf hp')) hSn]
def zaE(h:¬ qM e):¬ qM (yw k l ns e):=by
 unfold yw;split
 ·exact h
 ·unfold qM at h ⊢;rw[yK];show ¬ (240<e.2.2.length\/60<e.2.1.length\/60<e.1.length);lia
theorem Uu(h:xv k l ns bs es r):(∀e ∈ bs,¬ qM e)->∀fs,r=BJ fs->∀e ∈ fs,¬ qM e:=by
 induction h with
 | nil bs=>exact λh fs e=>by cases e;exact h
 | same _ _ _ _ ih=>exact ih
 | new _ _ _ h4 _ ih =>
  intro h;refine ih λe he=>?_;rcases BS.mp he with he | he
  ·exact h e he
  ·rw[BV.mp he];exact zaE h4
 | far _ _ _ _=>exact λZ fs e=>by cases e
 | stuck _=>exact λZ fs e=>by cases e
theorem jg(h:uS k l ns n es r):∀fs,r=BJ fs->∀e ∈ fs,¬ qM e:=by
 induction h with
 | out es=>exact λfs e=>by cases e
 | bad _ _=>exact λfs e=>by cases e
 | done _ h2 _=>exact λfs e=>by cases e;exact Uu h2 (λe he=>(nomatch he)) _ rfl
 | more _ _ _ _ ih=>exact ih
def JO(h:∀e ∈ es,e.2.2.length<=M)(u:Stp):(VI es u).length<=M:=by
 have hg:(es.getD u.1.toNat ([],[],[])).2.2.length<=M:=by
  rw[ac]
  cases e:es[u.1.toNat]? with
  | none=>exact ax _
  | some x=>exact h x (ag e)
 unfold VI;rw[Xr];split
 ·exact hg
 ·rw[yK];exact hg
inductive Cpl(k:Nat)(l:())(ns:List Int):Nat->List Ent->List Ent->Bool->List Ent->Prop where
 | out (kept fresh:List Ent):Cpl k l ns 0 kept fresh BM kept
 | slim {n:Nat} {kept fresh:List Ent} (h:uS k l ns 20 fresh BK\/∃bs,uS k l ns 20 fresh (BJ bs)/\j8 bs=BL):Cpl k l ns (n+1) kept fresh BM kept
 | far {n:Nat} {kept fresh bs:List Ent} {t:N3} (h:uS k l ns 20 fresh (BJ bs)) (hb:j8 bs=BM) (ht:t ∈ ovA (zc bs) (zc bs).length) (ho:¬ OkG (zc bs) 40 t):Cpl k l ns (n+1) kept fresh BM bs
 | whole {n:Nat} {kept fresh bs:List Ent} (h:uS k l ns 20 fresh (BJ bs)) (hb:j8 bs=BM) (ho:∀t ∈ ovA (zc bs) (zc bs).length,OkG (zc bs) 40 t) (hu:unG (zc bs) 40=[]):Cpl k l ns (n+1) kept fresh BL bs
 | more {n:Nat} {kept fresh bs es:List Ent} {w:Bool} (h:uS k l ns 20 fresh (BJ bs)) (hb:j8 bs=BM) (ho:∀t ∈ ovA (zc bs) (zc bs).length,OkG (zc bs) 40 t) (hu:unG (zc bs) 40≠[]) (r:Cpl k l ns n bs (bs ++ ((unG (zc bs) 40).take 8).map (jo bs)) w es):Cpl k l ns (n+1) kept fresh w es
def zea(hl:ps.length<=12)(h:∀r ∈ ps,r.1.length<=10):(ovA ps ps.length).length<=4000:=by
 have lfl:∀i,(lf ps i).length<=10:=λi=>by
  cases e:ps[i]? with
  | none=>unfold lf;rw[ac,e];exact ax _
  | some r=>rw[uq e];exact h r (ag e)
 have oI:∀i m,(ovI ps i m).length<=m * 10:=λi m=>by
  induction m with
  | zero=>exact ax _
  | succ m ih =>
   rw[qR,am];have h1:=qI ps i m (lf ps i).length;have h2:=lfl i;lia
 have oA:∀m,(ovA ps m).length<=m * 120:=λm=>by
  induction m with
  | zero=>exact ax _
  | succ m ih =>
   rw[Yr,am];have h1:=oI m ps.length;lia
 have:=oA ps.length;lia
def zg8{l:()}(hin:∀r ∈ ps,(∀c ∈ r.1,c ∈ l)/\∀c ∈ r.2,c ∈ l)(h10:∀r ∈ ps,r.1.length<=10/\r.2.length<=10)(ht:t ∈ ovA ps ps.length):((pkA ps t).length<=40/\∀c ∈ pkA ps t,c ∈ l)/\(pkB ps t).length<=40/\∀c ∈ pkB ps t,c ∈ l:=by
 let#[i1,i2,i3,i4]:=jm ht;obtain⟨r,hr⟩:∃r,ps[t.1]? = BJ r:=#[_,ah i1];obtain⟨r2,hr2⟩:∃r,ps[t.2.1]? = BJ r:=#[_,ah i2];have l1:=uq hr;have l2:=uq hr2;have d1:ps.getD t.1 ([],[])=r:=by rw[ac,hr];rfl
 have d2:ps.getD t.2.1 ([],[])=r2:=by rw[ac,hr2];rfl
 rw[l1]at i3;have b1:=h10 r (ag hr);have b2:=h10 r2 (ag hr2);have n1:=hin r (ag hr);have n2:=hin r2 (ag hr2);have hp:=uE r.1 r2.1 t.2.2 ⋯;have p1:=qP (yD r.1 r2.1 t.2.2) 0 r.1 r.2;have p2:=qP (yD r.1 r2.1 t.2.2) (t.2.2:Nat) r2.1 r2.2
 have hw:∀c ∈ yD r.1 r2.1 t.2.2,c ∈ l:=λc hc=>by
  unfold yD at hc;rcases BS.mp hc with h | h
  ·exact n1.1 c h
  ·exact n2.1 c (dg h)
 have put:∀(k:Int) (o n:()),(∀c ∈ n,c ∈ l)->∀c ∈ yZ (yD r.1 r2.1 t.2.2) k o n,c ∈ l:=λk o n hn c hc=>by
  unfold yZ at hc;rcases BS.mp hc with hc | hc
  ·rcases BS.mp hc with hc | hc
   ·exact hw c (bu hc)
   ·exact hn c hc
  ·exact hw c (dg hc)
 unfold pkA pkB;rw[l1,l2,d1,d2];exact#[#[⋯,put _ _ _ n1.2],⋯,put _ _ _ n2.2]
def U5(hB:BG k l ns bs)(hb:j8 bs=BM)(hs:∀e ∈ bs,e.2.2.length<=240)(ht:t ∈ ovA (zc bs) (zc bs).length):EB l (jo bs t):=by
 let#[b1,b2]:=WA hb
 let#[h1,h2]:=zg8 (l:=l) (ps:=zc bs) (λr hr=>by
  let#[e,he,rfl]:=BQ.mp hr
  exact#[(hB.e e he).ma,(hB.e e he).mb]) (λr hr=>by
  let#[e,he,rfl]:=BQ.mp hr
  exact b2 e he) ht
 refine#[aB h1.1 ∅,aB h2.1 ∅,?_,h1.2,h2.2];show (byL bs [((t.1:Int),(0:Int),BM),((t.2.1:Int),(t.2.2:Int),BL)]).length<=600;unfold byL;rw[dX,dX,List.flatMap_nil,aZ,am];have o1:=JO hs ((t.1:Int),(0:Int),BM);have o2:=JO hs ((t.2.1:Int),(t.2.2:Int),BL);lia
def EnsM.samT(h:EnsM K H a es)(s:SamT T H H')(hT:H T=BJ (.tbl ps)):EnsM K H' a es:=by let#[xs,h1,h2]:=h;exact#[xs,s.at hT h1 (λZ z=>by cases z),EnsA.samT s hT h2]
def zgF(K:tF)(T:tG)(H:Hp)(k:Nat)(l:())(ns:List Int)(rs:List zK)(m n:Nat)(H':Hp)(Dk Df:tG):Prop:=∃kept fresh:List Ent,SamT T H H'/\TabOk H' T lp lq/\EnsM K H' Dk kept/\EnsL K H' Df fresh/\fresh.length<64/\(∀e ∈ fresh,EB l e)/\BG k l ns kept/\∀w es,Cpl k l ns n kept fresh w es->Cpl k l ns m [] (fEs rs rs.length) w es
def zbA(K:tF)(CO CR CW T:tG):Sp:=λvs H Q Z=>∃(o a:tG) (k:Nat) (l:()) (ns:List Int) (rs:List zK) (m:Nat),vs=[.ref o,.ref a,.int (m:Nat)]/\OrdAt CO CR CW H o k l ns/\OG l ns k/\LsA K H a (rs.map dR)/\rs.length<=20/\InL l rs/\(∀r ∈ rs,r.1.length<=60/\r.2.length<=60)/\m<=1000/\TabOk H T lp lq/\∀(w:Bool) (es:List Ent) (p D:tG) (H':Hp),Cpl k l ns (m+1) [] (fEs rs rs.length) w es->BG k l ns es->SamT T H H'->TabOk H' T lp lq->H' p=BJ (.tup [.bl w,.ref D])->EnsM K H' D es->Q (.ref p) H'
def ic:sQz 3 ["order","pacts","rounds","kept","fresh","turn","slim","lacking"] wL:=by nofun
def YE{f CO CR CW TB:tG}(B:Bt mg)(TM:TMc mg)(F:("completed"^^^wL))(pT:(1<<<"first_entries") ["pacts"] [] (Vz K))(pB:(8<<<"thinned_within") ["order","entries"] [] (zbe K CO CR CW TB))(rn:(9<<<"unmet_within") ["order","entries"] [] (zaU K CO CR CW))(sw:(5<<<"entry_of") ["entries","overlap"] [] (Z8 K)):(10&&&["order","pacts","rounds"]) (zbA K CO CR CW TB):=by
 let#[t9,g9]:=TM.p;exists F.ok ic
 ·let#[o,a,k,l,ns,rs,m,rfl,ho,hG,hA,hrl,hin,h60,hm,hTab,q]:=h
  refine#[_,(zh (jH (i:=3) ic.nd rfl (Or.inr rfl) (yF ze)) (zh (zB 4 ic.nd (cl0 pT hr .nil rfl (za (pv 1) ze))) (zh (zW u5 rfl (yg rfl B.range (za (zr yq (pv 2) zb) ze)) (zq (i:=5) ic.nd rfl (.inl rfl)) (zh (zB 6 ic.nd (cl0 pB hr .nil rfl (za (pv 0) (za (pv 4) ze)))) (zh (zJ (zu op_isN' (pv 6) yh (zt _)) (zg (zk (zN (za yJ (za (pv 3) ze)))))
     zp) (zh (jH (i:=3) ic.nd rfl (Or.inr rfl) (pv 6)) (zh (zB 7 ic.nd (cl0 rn hr .nil rfl (za (pv 0) (za (pv 3) ze)))) (zh (zJ (zu op_isN' (pv 7) yh (zt _)) (zg (zk (zN (za yJ (za (pv 3) ze)))))
     zp) (zh (zJ (zu yQ (zF B.len (pv 7)) zb (zt _)) (zg (zk (zN (za yJ (za (pv 3) ze)))))
     zp) (zg (zB 4 ic.nd (zr zZ (pv 3) (xB (own:=["overlap"]) (caps:=["kept"]) (ix:=[3]) (tt:=wP) (te:=(uZ (Z8 K) [] E0 (zO (ym 1) (zO (ym 0) xI)))) rfl (zS (sc:=zi wL) rfl (!0) (!0) (!0) rfl (!0) (!0) rfl) (yv (yk ZH (pv 7) xS (yc (yy (v:=.int 8) rfl g9 #[t9,rfl])))) (λZ Z Z Z Z Z=>zq (i:=0) (show List.Nodup [_,_] by decide) rfl (.inl rfl)) (λZ Z Z Z Z Z=>yP) (λZ Z Z Z Z Z=>(cl0 sw hr .nil rfl (za (pv 1) (za (pv 0) ze))))))))))))))) (zg (zk (zN (za yJ (za (pv 3) ze)))))))),?_]
  have s16:=zU;have hTt:=hTab;let#[tp,htp,_]:=hTt;change Same H H'/\∃Dk:tG,H' Dk=BJ (.lst [])/\σ=%[!!o,!!a,-~~~m,!!Dk|4]
  ·ac_rfl;exact#[⋯,λp hp=>#[zf hp,zd]]
  rintro σ H1 ⟨s1,Dk0,hDk0,rfl⟩:_
  have hE0:∀e ∈ fEs rs rs.length,EB l e:=λe he=>by
   let#[i,p,hi,hp,rfl]:=Zy he;have h1:=h60 p (ag hp);have h2:=hin p (ag hp);exact#[h1.1,h1.2,by show ([((i:Int),(0:Int),BL)]:List Stp).length<=600;simp,h2.2.2.1,h2.2.2.2]
  right;change ∃Df:tG,zgF K TB H k l ns rs (m+1) (m+1) H' Dk0 Df/\σ=%[!!o,!!a,-~~~m,!!Dk0,!!Df|3]
  ·ac_rfl;exact#[a,rs,rfl,hA.same s1,hrl,λDf H' s' Z hM=>#[Df,#[[],fEs rs rs.length,x8 (s1.trans s'),hTab.same (s1.trans s'),#[[],s' _ _ hDk0,rfl],hM.l,by have:=QQ rs rs.length;lia,hE0,#[by simp,λe he=>(nomatch he),λe he=>(nomatch he)],λw es h=>h],rfl]]
  rintro σ H2 ⟨Df0,hC0,rfl⟩:0;change ∃(Dk Df:tG) (v5 v6 v7:Option V),zgF K TB H k l ns rs (m+1) 0 H' Dk Df/\σ=[!!o,!!a,-~~~m,!!Dk,!!Df,v5,v6,v7]
  ·ac_rfl;refine#[⋯,⋯,ja2 (λi σ H'=>∃(Dk Df:tG) (v5 v6 v7:Option V),zgF K TB H k l ns rs (m+1) (m+1 - i) H' Dk Df/\σ=[!!o,!!a,-~~~m,!!Dk,!!Df,v5,v6,v7]) #[Dk0,Df0,BK,BK,BK,hC0,rfl] ?_ ?_]
   ·refine nm3 ?_;rintro i σ H' hi ⟨Dk,Df,v5,v6,v7,⟨kept,fresh,sT,hT,hK,hF,hfl,hfE,hB,hcp⟩,rfl⟩:_;have hi':i<m+1:=⋯;have en:m+1 - i=(m+1 - (i+1))+1:=⋯;rw[en]at hcp;have hTt:=hT;let#[tq,htq,_]:=hTt;have ho':=ho.samT sT htp;right;erw[yH,aX,aW];refine zj (λσ' G=>SamT TB H' G/\TabOk G TB lp lq/\(((uS k l ns 20 fresh BK\/∃bs,uS k l ns 20 fresh (BJ bs)/\j8 bs=BL)/\σ'=[!!o,!!a,-~~~m,!!Dk,!!Df,BJ (.int (0+(i:Int))),BJ (.non),v7])\/∃(bs:List Ent) (D:tG),uS k l ns 20 fresh (BJ bs)/\BG k l ns bs/\j8 bs=BM/\EnsM K G D bs/\σ'=[!!o,!!a,-~~~m,!!Dk,!!Df,BJ (.int (0+(i:Int))),!!D,v7])) ?_ ?_
    ·ac_rfl;exact#[o,Df,k,l,ns,fresh,rfl,ho',hG,hF,hfl,hfE,hT,λbs D G h1 h2 h3 h4 h5 h6=>#[h4,h5,.inr #[bs,h1,h2,h3,D,h6,rfl]],λh G h4 h5=>#[h4,h5,.inl #[h,rfl]]]
    rintro σ' G1 ⟨g1,hT1,hcase⟩:_;have hK1:=hK.samT g1 htq;right;refine zj (λσ' G=>Same G1 G/\∃(bs:List Ent) (D:tG),uS k l ns 20 fresh (BJ bs)/\BG k l ns bs/\j8 bs=BM/\EnsM K G D bs/\σ'=[!!o,!!a,-~~~m,!!Dk,!!Df,BJ (.int (0+(i:Int))),!!D,v7]) ?_ ?_
    ·rcases hcase with ⟨hno,rfl⟩ | ⟨bs,D,h1,h2,h3,h4,rfl⟩
     ·ac_rfl;exact#[⋯,λp hp=>q BM kept p Dk _ (hcp _ _ (.slim hno)) hB (sT.trans (g1.trans (x8 (zf hp)))) (hT1.same (zf hp)) zd (hK1.same (zf hp))]
     ·ac_rfl;exact#[x9 _,bs,h1,h2,h3,h4]
    rintro σ' G2 ⟨s2,bs,D,hTh,hBb,hbey,hD,rfl⟩:_;clear hcase;right;refine zj (λσ' G=>G=G2/\σ'=[!!o,!!a,-~~~m,!!D,!!Df,BJ (.int (0+(i:Int))),!!D,v7]) ?_ ?_
    ·ac_rfl
    rintro σ' G3 ⟨rfl,rfl⟩:_;have sT3:SamT TB H G3:=sT.trans (g1.trans (x8 s2));have hT3:=hT1.same s2;have ho3:=ho.samT sT3 htp;let#[b12,b10]:=WA hbey;have hpl:(zc bs).length=bs.length:=by unfold zc;rw[aa]
    have hol:=zea (ps:=zc bs) ⋯ λr hr=>by
     let#[e,he,rfl]:=BQ.mp hr;exact (b10 e he).1
    have hnear:∀e ∈ bs,e.2.2.length<=240:=λe he=>by
     have:=jg hTh bs rfl e he;unfold qM at this;lia
    right;refine zj (λσ' G=>Same G3 G/\(((∃t ∈ ovA (zc bs) (zc bs).length,¬ OkG (zc bs) 40 t)/\σ'=[!!o,!!a,-~~~m,!!D,!!Df,BJ (.int (0+(i:Int))),!!D,BJ (.non)])\/∃L:tG,(∀t ∈ ovA (zc bs) (zc bs).length,OkG (zc bs) 40 t)/\LsA K G L ((unG (zc bs) 40).map d3)/\σ'=[!!o,!!a,-~~~m,!!D,!!Df,BJ (.int (0+(i:Int))),!!D,!!L])) ?_ ?_
    ·ac_rfl;exact#[o,D,k,l,ns,bs,rfl,ho3,hG,hD.l,hBb,⋯,hol,λh L G s' hL=>#[s',.inr #[h,L,hL,rfl]],λt ht h G s'=>#[s',.inl #[#[t,ht,h],rfl]]]
    rintro σ' G4 ⟨s4,hcase⟩:0;refine zj (λσ' G=>Same G3 G/\∃L:tG,(∀t ∈ ovA (zc bs) (zc bs).length,OkG (zc bs) 40 t)/\LsA K G L ((unG (zc bs) 40).map d3)/\σ'=[!!o,!!a,-~~~m,!!D,!!Df,BJ (.int (0+(i:Int))),!!D,!!L]) ?_ ?_
    ·rcases hcase with ⟨⟨t,ht,hno⟩,rfl⟩ | ⟨L,h1,h2,rfl⟩
     ·ac_rfl;exact#[⋯,λp hp=>q BM bs p D _ (hcp _ _ (.far hTh hbey ht hno)) hBb (sT3.trans (x8 (s4.trans (zf hp)))) (hT3.same (s4.trans (zf hp))) zd (hD.same (s4.trans (zf hp)))]
     ·ac_rfl;exact#[s4,h1,h2]
    rintro σ' G5 ⟨s5,L,hok,hL,rfl⟩:_;clear hcase;right;refine zj (λσ' G=>G=G5/\unG (zc bs) 40≠[]/\σ'=[!!o,!!a,-~~~m,!!D,!!Df,BJ (.int (0+(i:Int))),!!D,!!L]) ?_ ?_
    ·ac_rfl;let#[xs,hX,hI]:=id hL;have hxl:=hI.len;rw[aa]at hxl;refine#[_,.inl #[_,x6 hX,rfl],yd (λh=>#[⋯,λp hp=>q BL bs p D _ (hcp _ _ (.whole hTh hbey hok (List.length_eq_zero_iff.mp ⋯))) hBb (sT3.trans (x8 (s5.trans (zf hp)))) (hT3.same (s5.trans (zf hp))) zd (hD.same (s5.trans (zf hp)))]) λh z=>h ?_];rw[z]at hxl;show ((xs.length:Nat):Int)=0;rw[hxl];rfl
    rintro σ' G6 ⟨rfl,hne,rfl⟩:0;ac_rfl;let#[xs,hX,hI]:=id hL;have hxl:=hI.len;rw[aa]at hxl;have hct:zay xs BK (BJ 8)=xs.take 8:=YC xs (k:=8) ∅;refine#[_,x6 hX,λp hp=>?_];rw[hct];have u1:=zf (o:=HO.lst (xs.take 8)) hp;have hS7:(upd G6 p (.lst (xs.take 8))) p=BJ (.lst (xs.take 8)):=zd;have hX7:=ja1 u1 _ _ hI;have hD7:=hD.same (s5.trans u1);refine#[#[_,x6 hS7],λE1 hE1=>?_];generalize upd G6 p (.lst (xs.take 8))=G7 at *;refine jb1 (xs:=xs.take 8) (λj acc H'=>Same G7 H'/\H' E1=BJ (.lst acc)/\acc.length<=j/\EnsA K (kE E1 H') (((unG (zc bs) 40).take j).map (jo bs)) acc) #[zf hE1,zd,ak _,rfl] (λj acc H' Z h=>x6 (h.1 _ _ hS7)) ?_ ?_
    ·refine nm4 ?_;rintro j x acc H' hx ⟨hs,hH,hal,hEn⟩:_;have hjl:=(BP.mp hx).1;have hj8:j<8:=by rw[aL]at hjl;lia
     rw[dh hj8]at hx;let#[t,pt,ht,rfl,hpt]:=hX7.get3 hx;have htm:=(BY.mp (ag ht)).1;right;erw[wP];rfl';refine#[xH,D,pt,bs,t,rfl,(hD7.same hs).l,zy hs hpt,htm,hBb.ok ⋯,λe he=>(hBb.e e he).s,λp' s' H5 h1 h2 h3 h4=>?_];have hH5:=h1 _ _ hH;have hsE:s'≠E1:=λz=>by rw[z,hH]at h4;cases h4
     refine#[hH5,⋯,ja0 hjl #[zI (hs.trans h1) hE1,zd,by rw[am];erw[aF,bH];lia,?_]];rw[yb ht,ar];exact (hEn.same ((wU h1).trans xL)).snoc ((EnA.new (e:=jo bs t) hH5 h2 h3 hsE).same xL)
    ·refine nmB ?_;rintro acc H' ⟨hs,hH,hal,hEn⟩:_
     have hEn':EnsA K H' (((unG (zc bs) 40).take 8).map (jo bs)) acc:=by
      have h1:=hEn.same vp;rw[aL,hxl]at h1
      have e:(unG (zc bs) 40).take (min 8 (unG (zc bs) 40).length)=(unG (zc bs) 40).take 8:=by
       rw[<- fY,aP]
      rw[e]at h1;exact h1
     have hal8:acc.length<=8:=by rw[aL]at hal;lia
     let#[xk,hxk,hek]:=hD7.same hs;have hkl:=hek.len;right;refine#[E1,rfl,xk,hxk,acc,hH,⋯,λp2 hp2=>#[D,p2,#[bs,_,sT3.trans (x8 (s5.trans (u1.trans (hs.trans (zf hp2))))),hT3.same (s5.trans (u1.trans (hs.trans (zf hp2)))),#[xk,zf hp2 _ _ hxk,hek.same (zf hp2)],#[xk ++ acc,x6 zd,(hEn'.same (zf hp2)).app (hek.same (zf hp2))],?_,λe he=>?_,hBb,λw es h=>hcp w es (.more hTh hbey hok hne h)],rfl,rfl]]
     ·rw[am,aa,aL];lia
     ·rcases BS.mp he with he | he
      ·exact hBb.e e he
      ·let#[t,ht,rfl]:=BQ.mp he;exact U5 hBb hbey hnear (BY.mp (bu ht)).1
   ·refine nmB ?_;rintro σ H' ⟨Dk,Df,v5,v6,v7,hC,rfl⟩:_;rw[show ((m:Int)+1).toNat=m+1 by lia,fB]at hC;right;exact#[Dk,Df,hC,_,_,_,rfl]
  rintro σ H3 ⟨Dk,Df,v5,v6,v7,⟨kept,fresh,sT,hT,hK,hF,hfl,hfE,hB,hcp⟩,rfl⟩:0;ac_rfl;exact#[⋯,λp hp=>q BM kept p Dk _ (hcp _ _ (.out kept fresh)) hB (sT.trans (x8 (zf hp))) (hT.same (zf hp)) zd (hK.same (zf hp))]
def ThinL.pairs(h:ThinL k l ns zs)(hp:zc bs=zc zs)(hE:∀e ∈ bs,EB l e):ThinL k l ns bs:=by
 have key:∀(i:Nat) (a:Ent),bs[i]? = BJ a->∃z,zs[i]? = BJ z/\z.1=a.1/\z.2.1=a.2.1:=λi a ha=>by
  have h1:(zc bs)[i]? = BJ (a.1,a.2.1):=by unfold zc;rw[au,ha];rfl
  rw[hp]at h1;unfold zc at h1;rw[au]at h1;let#[z,hz,e]:=BW.mp h1;exact#[z,hz,(Prod.ext_iff.mp e).1,(Prod.ext_iff.mp e).2]
 refine#[#[hE,λe he=>?_],λi j a b ha hb hij=>?_,λi j a b ha hb hij=>?_,λi j a b ha hb=>?_]
 ·let#[i,hi]:=Cg.mp he;let#[z,hz,e1,e2]:=key i e hi;rw[<- e1,<- e2];exact h.rl.lt z (ag hz)
 all_goals
  let#[x,hx,e1,e2]:=key i a ha;let#[y,hy,f1,f2]:=key j b hb;rw[<- f1]
 ·rw[<- e1];exact h.up i j x y hx hy hij
 ·rw[<- e1];exact h.no1 i j x y hx hy hij
 ·rw[<- e2];exact h.no2 i j x y hx hy
def ZU{w:()}{i:Nat}(hr:ps[i]? = BJ r)(h:zv w q (sdl r f).1=BL):yx ps w ((i:Int),q,f)=BJ (yZ w q (sdl r f).1 (sdl r f).2):=by
 have hi:=(BP.mp hr).1
 have e:ps.getD ((i:Int),q,f).1.toNat ([],[])=r:=by
  show ps.getD ((i:Int)).toNat ([],[])=r;rw[aO,ac,hr];rfl
 rw[yL (show 0<=((i:Int),q,f).1/\((i:Int),q,f).1<ps.length by constructor <;> simp <;> lia),e,y9 h]
def Vc(h:e ∈ fEs rs n):EOk rs e:=by
 let#[i,p,hi,hp,rfl]:=Zy h;show z7 rs p.1 [((i:Int),(0:Int),BL)]=BJ p.2
 have hs:zv p.1 0 (sdl p BL).1=BL:=by
  show zv p.1 0 p.1=BL;refine y3 #[⋯,⋯,?_];show (p.1.drop 0).take p.1.length=p.1;rw[dQ,aP]
 erw[z7,ZU hp hs,cC];show BJ (yZ p.1 0 p.1 p.2)=BJ p.2;congr 1;unfold yZ;show p.1.take 0 ++ p.2 ++ p.1.drop (0+p.1.length)=p.2;rw[cq,bS,bh ⋯,aZ]
def zce(hb:∀e ∈ bs,EOk rs e)(ht:t ∈ ovA (zc bs) (zc bs).length):EOk rs (jo bs t):=by
 let#[i1,i2,i3,i4]:=jm ht;obtain⟨r,hr⟩:∃r,(zc bs)[t.1]? = BJ r:=#[_,ah i1];obtain⟨r2,hr2⟩:∃r,(zc bs)[t.2.1]? = BJ r:=#[_,ah i2];have l1:=uq hr;have l2:=uq hr2;have d1:(zc bs).getD t.1 ([],[])=r:=by rw[ac,hr];rfl
 have d2:(zc bs).getD t.2.1 ([],[])=r2:=by rw[ac,hr2];rfl
 rw[l1]at i3;rw[l1,l2]at i4;have eA:pkA (zc bs) t=yZ (yD r.1 r2.1 t.2.2) 0 r.1 r.2:=by unfold pkA;rw[l1,l2,d1]
 have eB:pkB (zc bs) t=yZ (yD r.1 r2.1 t.2.2) (t.2.2:Nat) r2.1 r2.2:=by unfold pkB;rw[l1,l2,d2]
 refine jD hb ?_;show z7 (zc bs) (pkA (zc bs) t) [((t.1:Int),(0:Int),BM),((t.2.1:Int),(t.2.2:Int),BL)]=BJ (pkB (zc bs) t);let#[b1,b2]:=W5 r.2 (Zg r.1 r2.1 t.2.2);rw[eA,eB];have h1:=ZU (f:=BM) (q:=0) hr (w:=yZ (yD r.1 r2.1 t.2.2) 0 r.1 r.2) b1;have h2:=ZU (f:=BL) (q:=(t.2.2:Int)) hr2 (w:=yD r.1 r2.1 t.2.2) (jp ⋯ i4)
 have h1':yx (zc bs) (yZ (yD r.1 r2.1 t.2.2) 0 r.1 r.2) ((t.1:Int),(0:Int),BM)=BJ (yD r.1 r2.1 t.2.2):=by
  rw[h1];congr 1
 have h2':yx (zc bs) (yD r.1 r2.1 t.2.2) ((t.2.1:Int),(t.2.2:Int),BL)=BJ (yZ (yD r.1 r2.1 t.2.2) (t.2.2:Nat) r2.1 r2.2):=h2;erw[z7,h1',h2',cC]
def JP(h:uS k l ns 20 es (BJ bs))(hb:j8 bs=BM)(hz:ThinL k l ns zs)(hp:zc bs=zc zs):BG k l ns bs:=by
 let#[b1,_]:=WA hb
 have key:∀e ∈ bs,∃z ∈ zs,z.1=e.1/\z.2.1=e.2.1:=λe he=>by
  have:(e.1,e.2.1) ∈ zc zs:=by rw[<- hp];exact BQ.mpr #[e,he,rfl]
  let#[z,hz,e2]:=BQ.mp this;injection e2 with h1 h2;exact#[z,hz,h1,h2]
 refine#[⋯,λe he=>?_,λe he=>?_]
 ·let#[z,hzm,h1,h2]:=key e he;have hE:=hz.rl.e z hzm;have hn:=jg h bs rfl e he;unfold qM at hn;exact#[⋯,⋯,⋯,by rw[<- h1];exact hE.ma,by rw[<- h2];exact hE.mb]
 ·let#[z,hzm,h1,h2]:=key e he;rw[<- h1,<- h2];exact hz.rl.lt z hzm
def Gd(rs:List zK)(k:Nat)(l:())(ns:List Int)(es:List Ent):Prop:=(∀e ∈ es,EOk rs e)/\(es=[]\/(ThinL k l ns es/\j8 es=BM/\BG k l ns es))
def Wg(G:OG l ns k)(h:uS k l ns 20 es (BJ bs))(hb:j8 bs=BM)(he:∀e ∈ es,EB l e)(ho:∀e ∈ es,EOk rs e):Gd rs k l ns bs:=by let#[h1,zs,hz,hp]:=WS (rs:=rs) G h bs rfl he ho;have hB:=JP h hb hz hp;exact#[h1,.inr #[hz.pairs hp hB.e,hb,hB]]
theorem zbf(G:OG l ns k){kept fresh es:List Ent}{w:Bool}(h:Cpl k l ns n kept fresh w es):(∀e ∈ fresh,EB l e)->(∀e ∈ fresh,EOk rs e)->Gd rs k l ns kept->Gd rs k l ns es:=by
 induction h with
 | out kept fresh=>exact λZ Z h=>h
 | slim _=>exact λZ Z h=>h
 | far h hb _ _=>exact λhe ho Z=>Wg G h hb he ho
 | whole h hb _ _=>exact λhe ho Z=>Wg G h hb he ho
 | @more n kept fresh bs es w h hb ho' hu r ih =>
  intro he ho _;have hg:=Wg (rs:=rs) G h hb he ho
  have hB:BG k l ns bs:=by
   let#[h1,zs,hz,hp]:=WS (rs:=rs) G h bs rfl he ho;exact JP h hb hz hp
  have hnear:∀e ∈ bs,e.2.2.length<=240:=λe hm=>by
   have:=jg h bs rfl e hm;unfold qM at this;lia
  refine ih (λe hm=>?_) (λe hm=>?_) hg
  ·rcases BS.mp hm with hm | hm
   ·exact hB.e e hm
   ·let#[t,ht,rfl]:=BQ.mp hm;exact U5 hB hb hnear (BY.mp (bu ht)).1
  ·rcases BS.mp hm with hm | hm
   ·exact hg.1 e hm
   ·let#[t,ht,rfl]:=BQ.mp hm;exact zce hg.1 (BY.mp (bu ht)).1
def Kt{w o:()}{q:Nat}(h:zv w (q:Int) o=BL):w.take q ++ o ++ w.drop (q+o.length)=w:=by
 unfold zv at h;let#[_,_,e]:=w9 h;rw[aO]at e
 calc w.take q ++ o ++ w.drop (q+o.length)=w.take q ++ ((w.drop q).take o.length ++ (w.drop q).drop o.length):=by rw[e,eQ,aS]
  _=w.take q ++ w.drop q:=by rw[bV]
  _=w:=bV q w
def Rw(ps:List zK)(u v:()):Prop:=∃p,p ∈ ps/\∃a b,u=a ++ p.1 ++ b/\v=a ++ p.2 ++ b
def Rw.ctx(h:Rw ps u v)(c d:()):Rw ps (c ++ u ++ d) (c ++ v ++ d):=by let#[p,hp,a,b,rfl,rfl]:=h;exact#[p,hp,c ++ a,b ++ d,by erw[aS],by erw[aS]]
def Qo{w:()}{p:zK}{q:Nat}(h:zv w (q:Int) p.1=BL):w=w.take q ++ p.1 ++ w.drop (q+p.1.length)/\yZ w (q:Int) p.1 p.2=w.take q ++ p.2 ++ w.drop (q+p.1.length):=by refine#[(Kt h).symm,?_];unfold yZ;rw[aO]
end
section
variable{k:Nat}{l:()}{ws:List Int}{ps:List zK}
end in def mu(k:Nat)(l:())(ws:List Int)(Ws:List (()))(v:()):Nat:=Ws.countP λy=>zM k l ws y v
end
inductive EqR(ps:List zK):()->()->Prop where
 | refl (u:()):EqR ps u u
 | symm {u v:()} (h:EqR ps u v):EqR ps v u
 | trans {u v w:()} (h:EqR ps u v) (h2:EqR ps v w):EqR ps u w
 | one {u v:()} (h:Rw ps u v):EqR ps u v
theorem zae(ps:List zK):Ke (EqR ps):=#[.refl,.symm,.trans,λ{u v} a b h=>by
 induction h with
 | refl u=>exact .refl _
 | symm _ ih=>exact .symm ih
 | trans _ _ i1 i2=>exact .trans i1 i2
 | one h=>exact .one (h.ctx a b)]
def zc8(h:p ∈ ps):EqR ps p.1 p.2:=.one #[p,h,[],[],by simp,by simp]
theorem zb8(hR:Ke R)(hp:∀p ∈ ps,R p.1 p.2)(h:EqR ps u v):R u v:=by
 induction h with
 | refl u=>exact hR.refl _
 | symm _ ih=>exact hR.symm ih
 | trans _ _ i1 i2=>exact hR.trans i1 i2
 | one h =>
  let#[p,hm,a,b,rfl,rfl]:=h;exact hR.ctx a b (hp p hm)
def zcT(hR:Ke R)(hp:∀p ∈ rs,R p.1 p.2)(h:yx rs u s=BJ v):R u v:=by
 by_cases hb:0<=s.1/\s.1<rs.length
 ·rw[yL hb]at h
  have hm:rs.getD s.1.toNat ([],[]) ∈ rs:=by
   rw[ac,ah ⋯];exact d8 _
  generalize rs.getD s.1.toNat ([],[])=r at *;by_cases hs:zv u s.2.1 (sdl r s.2.2).1=BL
  ·rw[y9 hs]at h;have h0:0<=s.2.1:=(w9 hs).1;obtain⟨q,hq⟩:∃q:Nat,s.2.1=(q:Int):=#[s.2.1.toNat,⋯];rw[hq]at h hs;let#[e1,e2]:=Qo (p:=sdl r s.2.2) hs;rw[e2]at h;cases h
   conv=>arg 1;rw[e1]
   refine hR.ctx _ _ ?_;unfold sdl;split
   ·exact hp r hm
   ·exact hR.symm (hp r hm)
  ·rw[z9 hs]at h;cases h
 ·rw[xa hb]at h;cases h
theorem Jp(hR:Ke R)(hp:∀p ∈ rs,R p.1 p.2):∀{ss:List Stp} {u v:()},z7 rs u ss=BJ v->R u v
 | [],u,v,h=>by cases h;exact hR.refl _
 | s::ss,u,v,h=>by
  let#[w1,h1,h2]:=uD h;exact hR.trans (zcT hR hp h1) (Jp hR hp h2)
section
variable{k:Nat}{l:()}{ws:List Int}{ps:List zK}
end
section
variable{k:Nat}{l:()}{ws:List Int}{es fs:List Ent}
end
mutual section
def Va(K:tF):List V->Hp->VK->Prop:=λxs H Q=>∃p ys,xs=[.ref p]/\(SqL K H p ys\/SqT K H p ys)/\∀l,H l=BK->Q (.ref l) (upd H l (.lst ys))
structure TabAt(H:Hp)(t:tG)(rs:List tG)(tab:List (List Int)):Prop where
 top:H t=BJ (.lst (rs.map V.ref))
 len:rs.length=tab.length
 row:∀(i:Nat) (r:tG) (x:List Int),rs[i]? = BJ r->tab[i]? = BJ x->H r=BJ (.lst (x.map V.int))
def TabAt.same{H H':Hp}{t:tG}{rs:List tG}{tab:List (List Int)}(h:TabAt H t rs tab)(e:Same H H'):TabAt H' t rs tab:=#[e _ _ h.top,h.len,λi r x h1 h2=>e _ _ (h.row i r x h1 h2)]
structure xY(l:())(tab:List (List Int)):Prop where
 lo:1<=tab.length
 hi:tab.length<=8
 wd:∀x ∈ tab,x.length=l.length
 rm:∀x ∈ tab,∀n ∈ x,0<=n/\n<(tab.length:Int)
def TabAt.get(h:TabAt H t rs tab)(h0:0<=i)(h1:i<(tab.length:Int)):∃r x,atI (rs.map V.ref) i=BJ (.ref r)/\tab[i.toNat]? = BJ x/\H r=BJ (.lst (x.map V.int)):=by have hl:=h.len;let#[v,e1,e2]:=qv (xs:=rs.map V.ref) h0 (by rw[aa];lia);rw[au]at e2;let#[r,hr,rfl]:=BW.mp e2;have hx:tab[i.toNat]? = BJ (tab[i.toNat]'⋯):=ah ⋯;exact#[r,_,e1,hx,h.row _ _ _ hr hx]
def Ue{D:tG}(hg:g=yH 0)(h:TabAt H t rs tab)(hb:tab.length<=1000)(hD:H D=BK)(q:∀(rs':List tG) (H':Hp),Same H H'->TabAt H' D rs' tab->(∀r ∈ D::rs',H r=BK)->D ∉ rs'->Q (.ref D) H') :
  CompL K t g wP (tCB (Va K) (zO (ym 0) xI)) 1 [] σ H Q D:=by
 have s16:=zU;have hl:=h.len;subst hg;refine jb1 (xs:=rs.map V.ref) (λi acc H'=>∃rs':List tG,acc=rs'.map V.ref/\rs'.length=i/\Same H H'/\H' D=BJ (.lst acc)/\(∀r ∈ rs',H r=BK/\r≠D)/\∀(j:Nat) (r:tG) (x:List Int),rs'[j]? = BJ r->tab[j]? = BJ x->H' r=BJ (.lst (x.map V.int))) #[[],rfl,rfl,zf hD,zd,λr h=>(nomatch h),λj r x h=>by simp at h] (λi acc H' Z h'=>by let#[_,_,_,hs,_]:=h';exact x6 (hs _ _ h.top)) ?_ ?_
 ·refine nm4 ?_;rintro i v acc H' hv ⟨rs',rfl,hi,hs,hH,hf,hr⟩:_;rw[au]at hv;let#[r,hr0,rfl]:=BW.mp hv;have hil:=(BP.mp hr0).1;have hx:tab[i]? = BJ (tab[i]'⋯):=ah ⋯;right;generalize tab[i]'⋯=x at hx;have hrow:=hs _ _ (h.row i r x hr0 hx);erw[wP];rfl';erw[Va];rfl';refine#[xH,_,.inl (x6 hrow),λp hp=>#[zf hp _ _ hH,by rw[aa];lia,ja0 (by rw[aa];lia) #[rs' ++ [p],by rw[ar];rfl,by rw[am,hi];rfl,zI (hs.trans (zf hp)) hD,zd,?_,?_]]]
  ·intro r' hr';rcases BS.mp hr' with h' | h'
   ·exact hf r' h'
   ·rw[BV.mp h'];refine#[?_,λe=>by rw[e]at hp;rw[hp]at hH;cases hH]
    cases e:H p with
    | none=>rfl
    | some o=>have:=hs _ _ e;rw[hp]at this;cases this
  ·intro j r' x' h1 h2;by_cases hj:j<i
   ·rw[cG ⋯]at h1;have hm:=hf r' (ag h1);rw[zo hm.2];exact zf hp _ _ (hr j r' x' h1 h2)
   ·rw[bN ⋯]at h1
    have hj0:j=i:=by
     have:=(BP.mp h1).1;simp at this;lia
    subst hj0;rw[hi,fB]at h1;cases h1;rw[hx]at h2;cases h2;rw[zo (λe=>by rw[e]at hp;rw[hp]at hH;cases hH)];exact zd
 ·refine nmB ?_;rintro acc H' ⟨rs',rfl,hi,hs,hH,hf,hr⟩:_;rw[aa]at hi;right
  exact q rs' H' hs #[hH,⋯,hr] (λr hr'=>by
   rcases BR.mp hr' with rfl | h'
   ·exact hD
   ·exact (hf r h').1) λh'=>(hf D h').2 rfl
def Jl{D:tG}(hg:g=yH 0)(h:TabAt H t rs tab)(hb:tab.length<=1000)(hD:H D=BK)(q:∀(rs':List tG) (H':Hp),Same H H'->TabAt H' D rs' tab->(∀r ∈ D::rs',H r=BK)->Q (.ref D) H') :
  CompL K t g wP (tCB (Va K) (zO (ym 0) xI)) 1 [] σ H Q D :=
 Ue hg h hb hD λrs' H' s' t' f' Z=>q rs' H' s' t' f'
structure ze4(K:tF)(mg:tK->Option tH)(C:tG):Prop where
 xi:XI K C
 ini:af K (.ref C) "__init__" = BJ (BJ (.builtin "ValueError.__init__"))
 g:mg "NoWorld" = BJ (.ref C)
 most:∃t,mg "MOST_ROOMS" = BJ (.int 8 t)
def jq:Sp:=λvs H Q Z=>∃(l:()) (a:tG) (rs:List tG) (tab:List (List Int)),vs=[⇑l,.ref a]/\l.length<=6/\TabAt H a rs tab/\xY l tab/\∀(t:tG) (rs':List tG) (H':Hp),Same H H'->TabAt H' t rs' tab->(∀r ∈ t::rs',H r=BK)->Q (.ref t) H'
def nO:sQz 2 ["letters","table","row","room"] vE:=by nofun
def WF(B:Bt mg)(TNw:ze4 K mg CQ)(F:("table_of"^^^vE)):(1|||["letters","table"]) jq:=by
 let#[t6,g6]:=TNw.most;exists Fun.okX F nO,0
 ·let#[l,a,rs,tab,rfl,hl6,hT,hG,q]:=h
  refine#[_,(zh (zJ (zX (uu xu xu zb (zF B.len (pv 1)) (yy (v:=.int 8) rfl g6 #[t6,rfl]))) (zg (yf hx rfl TNw.xi.toXC TNw.ini rfl TNw.g (za zP ze)))
    zp) (zh (zW PassesOwn.leaving rfl (yv (pv 1)) (zq (i:=2) nO.nd rfl (.inl rfl)) (zG (zJ (zu qb (zF B.len (pv 2)) (zF B.len (pv 0)) (zt _)) (zg (yf hx rfl TNw.xi.toXC TNw.ini rfl TNw.g (za zP ze)))
     zp) (zg (zW PassesOwn.leaving rfl (yv (pv 2)) (zq (i:=3) nO.nd rfl (.inl rfl)) (zg (zJ (zX (uu xu QF zb (pv 3) (zF B.len (pv 1)))) (zg (yf hx rfl TNw.xi.toXC TNw.ini rfl TNw.g (za zP ze)))
      zp)))))) (zg (zk (xB (own:=["row"]) (caps:=[]) (ix:=[]) (tt:=wP) (te:=(tCB (Va K) (zO (ym 0) xI))) rfl (zS (sc:=zi vE) rfl (!0) (!0) (!0) rfl (!0) (!0) rfl) (yv (pv 1)) (λZ Z Z Z Z Z=>zq (i:=0) (show List.Nodup [_] by decide) rfl (.inl rfl)) (λZ Z Z Z Z Z=>yP) (λZ Z Z Z Z Z=>(xl yT rfl B.list jb0 (za (pv 0) ze)))))))),?_]
  have s16:=zU;have hlen:=hT.len;have hlo:=hG.lo;have hhi:=hG.hi;change H'=H/\σ=%[~~~l,!!a|2]
  ·ac_rfl;exact#[_,.inl #[_,x6 hT.top,rfl],yd (λZ=>yd (λh=>y6 (by rw[aa];lia) h) λZ=>trivial) λh=>y6 (by rw[aa];lia) h]
  rintro σ H1 ⟨rfl,rfl⟩:0;change H'=H1/\∃v2 v3,σ=[~~~l,!!a,v2,v3]
  ·ac_rfl;refine#[#[_,x6 hT.top],ja3 (xs:=rs.map V.ref) (λi σ H'=>H'=H1/\∃v2 v3,σ=[~~~l,!!a,v2,v3]) #[rfl,BK,BK,rfl] (λi σ H' Z h=>by rw[h.1];exact x6 hT.top) ?_ λσ H' h=>h];refine nm4 ?_;rintro i y σ H' hy ⟨rfl,v2,v3,rfl⟩:_;rw[au]at hy;let#[r,hr,rfl]:=BW.mp hy;have hil:=(BP.mp hr).1;have hx:tab[i]? = BJ (tab[i]'⋯):=ah ⋯;right;generalize tab[i]'⋯=x at hx;have hrow:=hT.row i r x hr hx;have hmx:=ag hx;have hw:=hG.wd x hmx;ac_rfl;refine#[_,.inl #[_,x6 hrow,rfl],⋯,yd (λh=>y6 (by rw[aa];lia) h) λZ=>#[#[_,x6 hrow],ja3 (xs:=x.map V.int) (λi σ H''=>H''=H'/\∃v2 v3,σ=[~~~l,!!a,v2,v3]) #[rfl,_,_,rfl] (λi σ H'' Z h=>by rw[h.1];exact x6 hrow) ?_ λσ H' h=>h]];refine nm4 ?_;rintro j y σ H'' hy ⟨rfl,v2,v3,rfl⟩:_;rw[au]at hy;let#[n,hn,rfl]:=BW.mp hy;let#[n1,n2]:=hG.rm x hmx n (ag hn);right;ac_rfl;exact yd (λZ=>#[_,.inl #[_,x6 hT.top,rfl],yd (λh=>y6 (by rw[aa];lia) h) λZ=>trivial]) λh=>y6 n1 h
  rintro σ H2 ⟨rfl,v2,v3,rfl⟩:0;ac_rfl;exact#[#[_,x6 hT.top],λD hD=>Jl rfl hT ⋯ hD λrs' H' s' t' f'=>q D rs' H' s' t' f']
structure zbH(K:tF)(mg:tK->Option tH)(CV:tG):Prop where
 cl:Cls K CV
 g:mg "World" = BJ (.ref CV)
 nl:NoAttr K CV "letters"
 nt:NoAttr K CV "table"
def WorAt(CV:tG)(H:Hp)(o:tG)(l:())(t:tG)(rs:List tG)(tab:List (List Int)):Prop:=∃dx,H o=BJ (.ins CV dx [("letters",⇑l),("table",.ref t)])/\TabAt H t rs tab
def WorAt.same{CV:tG}{H H':Hp}{o t:tG}{l:()}{rs:List tG}{tab:List (List Int)}(h:WorAt CV H o l t rs tab)(e:Same H H'):WorAt CV H' o l t rs tab:=by let#[dx,h1,h2]:=h;exact#[dx,e _ _ h1,h2.same e]
def TabAt.updI(hp:H p=BJ (.ins C dx fs))(h:TabAt H t rs tab):TabAt (upd H p (.ins C dx gs)) t rs tab:=by
 refine#[?_,h.len,λi r x h1 h2=>?_]
 ·rw[zo (λe=>by have:=h.top;rw[e,hp]at this;cases this)];exact h.top
 ·have h3:=h.row i r x h1 h2;rw[zo (λe=>by rw[e,hp]at h3;cases h3)];exact h3
def uH(CV:tG):Sp:=λvs H Q Z=>∃(x dx a:tG) (l:()) (rs:List tG) (tab:List (List Int)),vs=[.ref x,⇑l,.ref a]/\wv l=BL/\TabAt H a rs tab/\xY l tab/\H x=BJ (.ins CV dx []) /\
 ∀(t:tG) (rs':List tG) (H':Hp),(∀b o,b≠x->H b=BJ o->H' b=BJ o)->(∀r ∈ t::rs',H r=BK)->WorAt CV H' x l t rs' tab->Q .non H'
def Z1:sQz 3 ["self","letters","table"] vb:=by nofun
def Yh(B:Bt mg)(CLw:zbH K mg CV)(F:Fun K "__init__" "World.__init__" vb f fd)(mS:(2>>>"letters_of") ["text"] [] (wJ C))(sy:(1>>>"table_of") ["letters","table"] [] jq):(4|||["self","letters","table"]) (uH CV):=by
 exists Fun.okX F Z1,0
 ·let#[x,dx,a,l,rs,tab,rfl,hg,hT,hG,hX,q]:=h;refine#[_,(zh (Zh (pv 0) (clP hx mS hr .nil rfl (za (pv 1) ze)) rfl) (zg (Zh (pv 0) (clP hx sy hr .nil rfl (za (pv 1) (za (pv 2) ze))) rfl))),?_];have s16:=zU;have hg':=w9 hg;change H'=upd H x (.ins CV dx [("letters",⇑l)])/\σ=[!!x,~~~l,!!a]
  ·ac_rfl;exact#[l,rfl,⋯,λZ=>#[_,_,_,hX,CLw.cl,CLw.nl,∅,rfl],λe=>by rw[hg]at e;cases e]
  rintro σ H1 ⟨rfl,rfl⟩:0;ac_rfl;refine#[l,a,rs,tab,rfl,⋯,hT.updI hX,hG,λt rs' H' s' t' f'=>?_];have hX2:=s' _ _ (zd (H:=H) (a:=x) (o:=.ins CV dx [("letters",⇑l)]))
  have fr:∀r ∈ t::rs',H r=BK/\r≠x:=λr hr'=>by
   have h1:=f' r hr';have h2:r≠x:=λe=>by rw[e,zd]at h1;cases h1
   rw[zo h2]at h1;exact#[h1,h2]
  exact#[_,_,_,hX2,CLw.cl,CLw.nt,by show 1<1000;decide,q t rs' _ (λb o hb e=>by rw[zo hb];exact s' _ _ (by rw[zo hb];exact e)) (λr hr'=>(fr r hr').1) #[dx,zd,t'.updI hX2]]
theorem QS{R:tG->Hp->Prop}(hg:wv l=BL)(hT:TabAt H a rs tab)(hG:xY l tab)(q:∀(x t:tG) (rs':List tG) (H':Hp),Same H H'->H x=BK->(∀r ∈ t::rs',H r=BK)->WorAt CV H' x l t rs' tab->R x H') :
  ∀x dx,H x=BK->H dx=BK->dx≠x->uH CV [.ref x,⇑l,.ref a] (upd (upd H dx (.own x)) x (.ins CV dx [])) (λv H2=>v=.non/\R x H2) E:=by
 intro x dx hx hdx hne;have sd:=zf (o:=.own x) hdx;have hx1:(upd H dx (.own x)) x=BK:=by rw[zo hne.symm];exact hx
 have sx:=sd.trans (zf (o:=.ins CV dx []) hx1);refine#[x,dx,a,l,rs,tab,rfl,hg,hT.same sx,hG,zd,λt rs' H' k f hc=>#[rfl,q x t rs' H' (λb o e=>k b o (zE e hx) (sx b o e)) hx (λr hr=>?_) hc]]
 cases e:H r with
 | none=>rfl
 | some o=>have:=sx _ _ e;rw[f r hr]at this;cases this
def qU(CV:tG):Sp:=λvs H Q Z=>∃(o t:tG) (l:()) (rs:List tG) (tab:List (List Int)),vs=[.ref o]/\WorAt CV H o l t rs tab/\Q (.int (tab.length:Nat)) H
def kq:sQz 1 ["self"] wE:=by nofun
def kN(B:Bt mg)(CLw:zbH K mg CV)(F:Fun K "rooms" "World.rooms" wE f fd):(1&&&["self"]) (qU CV):=by
 exists F.ok kq
 ·let#[o,t,l,rs,tab,rfl,hW,q]:=h;refine#[_,(zg (zk (zF B.len (ur (pv 0) rfl)))),?_];have s16:=zU;rfl';let#[dx,ho,hT]:=hW;exact#[_,_,_,ho,CLw.cl,CLw.nt,_,rfl,_,.inl #[_,x6 hT.top,rfl],by rw[aa,hT.len];exact q]
def Ju(h:WorAt CV H o l t rs tab)(q:Q (.int (tab.length:Nat)) H):qU CV [.ref o] H Q E:=#[o,t,l,rs,tab,rfl,h,q]
def kB(l:())(tab:List (List Int))(r:Int)(c:Nat):Int:=(tab.getD r.toNat []).getD (l.idxOf c) 0
def uA(l:())(tab:List (List Int))(r:Int)(w:()):Int:=w.foldl (kB l tab) r
def zak(hG:xY l tab)(h0:0<=r)(h1:r<(tab.length:Int))(hc:c ∈ l):0<=kB l tab r c/\kB l tab r c<(tab.length:Int):=by have hx:tab[r.toNat]? = BJ (tab[r.toNat]'⋯):=ah ⋯;generalize tab[r.toNat]'⋯=x at hx;have hm:=ag hx;have hi:=bK hc;rw[<- hG.wd x hm]at hi;have hn:x[l.idxOf c]? = BJ x[l.idxOf c]:=ah hi;unfold kB;rw[ac (l:=tab),hx,cT,ac,hn,cT];exact hG.rm x hm _ (ag hn)
theorem Qk(hG:xY l tab):∀{w:()} {r:Int},0<=r->r<(tab.length:Int)->(∀c ∈ w,c ∈ l)->0<=uA l tab r w/\uA l tab r w<(tab.length:Int)
 | [],r,h0,h1,_=>#[h0,h1]
 | c::w,r,h0,h1,hw=>by
  let#[a,b]:=zak hG h0 h1 (hw c (by simp));exact Qk hG (w:=w) a b λx hx=>hw x (by simp [hx])
def Jd{w:()}(h:w[i]? = BJ c):uA l tab r (w.take (i+1))=kB l tab (uA l tab r (w.take i)) c:=by unfold uA;rw[yb h,List.foldl_append];rfl
def zeS(hG:xY l tab){x:List Int}(hx:tab[r.toNat]? = BJ x){c:Nat}(hc:c ∈ l):atI (x.map V.int) ((l.idxOf c:Nat):Int)=BJ (.int (kB l tab r c)):=by have hm:=ag hx;have hi:=bK hc;rw[<- hG.wd x hm]at hi;have hn:x[l.idxOf c]? = BJ x[l.idxOf c]:=ah hi;refine vW ?_;unfold kB;rw[au,hn,ac (l:=tab),hx,cT,ac,hn];rfl
def jb(CV:tG):Sp:=λvs H Q Z=>∃(o t:tG) (l:()) (rs:List tG) (tab:List (List Int)) (r:Int) (w:()),vs=[.ref o,.int r,⇑w]/\WorAt CV H o l t rs tab/\xY l tab/\0<=r/\r<(tab.length:Int)/\(∀c ∈ w,c ∈ l)/\Q (.int (uA l tab r w)) H
def mU:sQz 3 ["self","room","word","letter"] vZ:=by nofun
def YH(B:Bt mg)(CLw:zbH K mg CV)(F:Fun K "led" "World.led" vZ f fd):(1&&&["self","room","word"]) (jb CV):=by
 exists F.ok mU
 ·let#[o,t,l,rs,tab,r,w,rfl,hW,hG,h0,h1,hw,q]:=h;refine#[_,(zG (zW u5 rfl (Ve (pv 2)) (zq (i:=3) mU.nd rfl (.inl rfl)) (zg (zB 1 mU.nd (zm ix_list (zm ix_list (ur (pv 0) rfl) (pv 1)) (qz cX fO fP QX (ur (pv 0) rfl) (za (pv 3) ze)))))) (zg (zk (pv 1)))),?_];have s16:=zU;rfl';let#[dx,ho,hT]:=hW;refine ForS.by (λi σ H'=>H'=H/\∃v3,σ=[!!o,BJ (.int (uA l tab r (w.take i))),~~~w,v3]) #[rfl,BK,rfl] ?_ ?_
  ·refine nm4 ?_;rintro i c σ H' hc ⟨rfl,v3,rfl⟩:_;have hcl:=hw c (ag hc);let#[a,b]:=Qk hG (w:=w.take i) h0 h1 λx hx=>hw x (bu hx);let#[r',x,e1,e2,e3]:=hT.get a b;right;ac_rfl;exact#[_,_,_,ho,CLw.cl,CLw.nt,_,rfl,_,rfl,_,x6 hT.top,_,e1,_,_,_,ho,CLw.cl,CLw.nl,_,rfl,trivial,_,rfl,_,zbK hcl,_,rfl,_,x6 e3,by rw[Jd hc];exact zeS hG e2 hcl]
  ·refine nmB ?_;rintro σ H' ⟨rfl,v3,rfl⟩:0;rfl';rw[aP];exact q
def qK{w:()}(h:WorAt CV H o l t rs tab)(hG:xY l tab)(h0:0<=r)(h1:r<(tab.length:Int))(hw:∀c ∈ w,c ∈ l)(q:Q (.int (uA l tab r w)) H):jb CV [.ref o,.int r,⇑w] H Q E:=#[o,t,l,rs,tab,r,w,rfl,h,hG,h0,h1,hw,q]
def vH(l:())(tab:List (List Int))(u v:()):Option Nat:=(aM tab.length).find? λr=>decide (uA l tab (r:Int) u≠uA l tab (r:Int) v)
def vO:Option Nat->V
 | none=>.non
 | some r=>.int (r:Nat)
def JA{r:Nat}(h1:r<tab.length)(h2:uA l tab (r:Int) u≠uA l tab (r:Int) v)(h3:∀j:Nat,j<r->uA l tab (j:Int) u=uA l tab (j:Int) v):vH l tab u v=BJ r:=by unfold vH;rw[List.find?_eq_some_iff_getElem];refine#[by simpa using h2,r,by simpa using h1,by simp,λj hj=>?_];simpa using h3 j hj
def JM(h:∀j:Nat,j<tab.length->uA l tab (j:Int) u=uA l tab (j:Int) v):vH l tab u v=BK:=by unfold vH;rw[eS];intro j hj;simpa using h j ↥hj
def vx(CV:tG):Sp:=λvs H Q Z=>∃(o t:tG) (l:()) (rs:List tG) (tab:List (List Int)) (u v:()),vs=[.ref o,⇑u,⇑v]/\WorAt CV H o l t rs tab/\xY l tab/\(∀c ∈ u,c ∈ l)/\(∀c ∈ v,c ∈ l)/\Q (vO (vH l tab u v)) H
def XH(h:WorAt CV H o l t rs tab)(hG:xY l tab)(hu:∀c ∈ u,c ∈ l)(hv:∀c ∈ v,c ∈ l)(q:Q (vO (vH l tab u v)) H):vx CV [.ref o,⇑u,⇑v] H Q E:=#[o,t,l,rs,tab,u,v,rfl,h,hG,hu,hv,q]
def nI:sQz 3 ["self","one","other","room"] wb:=by nofun
def jy(B:Bt mg)(CL:zbH K mg CV)(F:Fun K "parted" "World.parted" wb f fd)(M_world_rooms:DM P w K mg base CX0 1 CV "rooms" ["self"] (qU CV))(M_world_led:DM P w K mg base CX0 1 CV "led" ["self","room","word"] (jb CV)):(2&&&["self","one","other"]) (vx CV):=by
 exists F.ok nI
 ·let#[o,t,l,rs,tab,u,v,rfl,hW,hG,hu,hv,q]:=h
  refine#[_,(zG (zW u5 rfl (yg rfl B.range (za (me0 M_world_rooms CL.cl hr (pv 0)) ze)) (zq (i:=3) nI.nd rfl (.inl rfl)) (zg (zJ (zu qb (me1 M_world_led CL.cl hr (pv 0) (za (pv 3) (za (pv 1) ze))) (me1 M_world_led CL.cl hr (pv 0) (za (pv 3) (za (pv 2) ze))) (zt _)) (zg (zk (pv 3)))
     zp))) (zg (zk yh))),?_]
  have s16:=zU;rfl';let#[dx,ho,hT]:=id hW;have hhi:=hG.hi;refine#[_,_,ho,rfl,Ju hW ?_];refine#[_,rfl,⋯,⋯,ja2 (λi σ H'=>H'=H/\(∀j:Nat,j<i->uA l tab (j:Int) u=uA l tab (j:Int) v)/\∃v3,σ=[!!o,~~~u,~~~v,v3]) #[rfl,λj h=>y6 h (bI j),BK,rfl] ?_ ?_]
  ·refine nm3 ?_;rintro i σ H' hi ⟨rfl,hb,v3,rfl⟩:_;have hi':i<tab.length:=⋯;have e0:(0:Int)+(i:Int)=(i:Int):=⋯;right;ac_rfl;refine#[_,_,ho,rfl,qK hW hG ⋯ ⋯ hu #[_,_,ho,rfl,qK hW hG ⋯ ⋯ hv ?_]];rw[e0];ac_rfl;refine yd (λh=>?_) λh j hj=>?_
   ·rw[JA hi' h hb]at q;exact q
   ·by_cases hj':j<i
    ·exact hb j hj'
    ·have:j=i:=⋯;rw[this];exact Decidable.not_not.mp h
  ·refine nmB ?_;rintro σ H' ⟨rfl,hb,v3,rfl⟩:0;ac_rfl;rw[JM λj hj=>hb j ⋯]at q;exact q
def wl(l:())(tab:List (List Int)):List zK->Nat->Option (Nat × Nat)
 | [],_=>BK
 | p::ps,i=>match vH l tab p.1 p.2 with
  | some r=>BJ (i,r)
  | none=>wl l tab ps (i+1)
theorem k8 : ∀{ps:List zK} {i k:Nat} {p:zK},ps[i]? = BJ p->(∀(j:Nat) (q:zK),j<i->ps[j]? = BJ q->vH l tab q.1 q.2=BK)->∀r,vH l tab p.1 p.2=BJ r->wl l tab ps k=BJ (k+i,r)
 | q::ps,0,k,p,h,_,r,hr=>by
  cases h;erw[wl,hr,Nat.add_zero]
 | q::ps,i+1,k,p,h,hb,r,hr=>by
  have h0:=hb 0 q ⋯ rfl;erw[wl,h0];rw[k8 (ps:=ps) (i:=i) (k:=k+1) h (λj q' hj e=>hb (j+1) q' ⋯ e) r hr];congr 2;lia
theorem Za : ∀{ps:List zK} {k:Nat},(∀(j:Nat) (q:zK),ps[j]? = BJ q->vH l tab q.1 q.2=BK)->wl l tab ps k=BK
 | [],_,_=>rfl
 | q::ps,k,hb=>by
  erw[wl,hb 0 q rfl];exact Za λj q' e=>hb (j+1) q' e
def qg(K:tF)(CV:tG):Sp:=λvs H Q Z=>∃(o t a:tG) (l:()) (rs:List tG) (tab:List (List Int)) (ps:List zK),vs=[.ref o,.ref a]/\LsA K H a (ps.map dR)/\WorAt CV H o l t rs tab/\xY l tab/\(∀p ∈ ps,(∀c ∈ p.1,c ∈ l)/\∀c ∈ p.2,c ∈ l) /\
 (wl l tab ps 0=BK->∀H',Same H H'->Q .non H')/\∀i r,wl l tab ps 0=BJ (i,r)->∀p H',Same H H'->H' p=BJ (.tup [.int (i:Nat),.int (r:Nat)])->Q (.ref p) H'
def iP:sQz 2 ["self","pacts","number","pact","room"] wc:=by nofun
def je(B:Bt mg)(CL:zbH K mg CV)(F:Fun K "broken" "World.broken" wc f fd)(M_world_parted:DM P w K mg base CX0 2 CV "parted" ["self","one","other"] (vx CV)):(3&&&["self","pacts"]) (qg K CV):=by
 exists F.ok iP
 ·let#[o,t,a,l,rs,tab,ps,rfl,hA,hW,hG,hp,q1,q2]:=h
  refine#[_,(zG (zW u5 rfl (wC rfl B.enum (za (pv 1) ze)) (wN (n:=2) rfl (zL (zq (i:=2) iP.nd rfl (.inl rfl)) (zL (zq (i:=3) iP.nd rfl (.inl rfl)) y8))) (zG (zB 4 iP.nd (me1 M_world_parted CL.cl hr (pv 0) (za (!-3) (za (!-3) ze)))) (zg (zJ (zu op_notN' (pv 4) yh (zt _)) (zg (zk (zN (za (pv 2) (za (pv 4) ze)))))
     zp)))) (zg (zk yh))),?_]
  have s16:=zU;rfl';let#[xs,hX,hI]:=id hA;have hXL:=hI.len;rw[aa]at hXL;refine#[#[_,x6 hX],ForEL.by (xs:=xs) (λi σ H'=>Same H H'/\(∀(j:Nat) (p:zK),j<i->ps[j]? = BJ p->vH l tab p.1 p.2=BK)/\∃v2 v3 v4,σ=[!!o,!!a,v2,v3,v4]) #[x9 _,λj p h=>y6 h (bI j),_,_,_,rfl] ?_ ?_ ?_]
  ·rintro i σ H' _ ⟨hs,_⟩;exact x6 (hs _ _ hX)
  ·refine nmE ?_;rintro i x σ H' p hx ⟨hs,hb,v2,v3,v4,rfl⟩ hpn:_;let#[r,pr,hri,rfl,hqr]:=hI.getR hx;have hm:=hp r (ag hri);have s2:=hs.trans (zf (o:=.tup [.int (i:Nat),.ref pr]) hpn);have hW2:=hW.same s2;let#[dx,ho,_]:=id hW2;have hq2:=zy s2 hqr;right;ac_rfl;refine#[_,x4 zd,rfl,_,_,rfl,_,_,rfl,rfl,_,_,ho,rfl,_,rfl,_,hq2,_,rfl,_,rfl,_,hq2,_,rfl,XH hW2 hG hm.1 hm.2 ?_]
   cases e:vH l tab r.1 r.2 with
   | none =>
    erw[vO];ac_rfl;refine#[s2,λj p' hj hp'=>?_];by_cases hj':j<i
    ·exact hb j p' hj' hp'
    ·have:j=i:=⋯;rw[this,hri]at hp';cases hp';exact e
   | some z =>
    erw[vO];ac_rfl;have hbr:=k8 (k:=0) hri hb z e;rw[eE]at hbr;exact#[⋯,λp3 hp3=>q2 i z hbr p3 _ (s2.trans (zf hp3)) zd]
  ·refine nmB ?_;rintro σ H' ⟨hs,hb,v2,v3,v4,rfl⟩:0;ac_rfl;exact q1 (Za λj p' e=>hb j p' (by have:=(BP.mp e).1;lia) e) H' hs
structure Qe(K:tF)(mg:tK->Option tH)(CM:tG):Prop where
 xi:XI K CM
 ini:af K (.ref CM) "__init__" = BJ (BJ (.builtin "ValueError.__init__"))
 g:mg "TooMany" = BJ (.ref CM)
 most:∃t,mg "MOST_TABLES" = BJ (.int 1000 t)
def zf3(h1:n<=8)(h2:k<=6):n * k<=48:=fR h1 h2
def qW:Sp:=λvs H Q Z=>∃(l:()) (n:Nat),vs=[⇑l,.int (n:Nat)]/\l.length<=6/\n<=8/\Q (.int ((n ^ (n * l.length):Nat):Int)) H
def Xo(h1:l.length<=6)(h2:n<=8)(q:Q (.int ((n ^ (n * l.length):Nat):Int)) H):qW [⇑l,.int (n:Nat)] H Q E:=#[l,n,rfl,h1,h2,q]
def WU(n i:Nat):((n ^ i:Nat):Int) * (n:Int)=((n ^ (i+1):Nat):Int):=by rw[Nat.pow_succ,dM]
def iV:sQz 2 ["letters","rooms","count","cell"] wI:=by nofun
def kH(B:Bt mg)(F:("table_count"^^^wI)):(1&&&["letters","rooms"]) qW:=by
 exists F.ok iV
 ·let#[l,n,rfl,h1,h2,q]:=h;refine#[_,(zG (zB 2 iV.nd zb) (zG (zW u5 rfl (yg rfl B.range (za (zr yN (pv 1) (zF B.len (pv 0))) ze)) (zq (i:=3) iV.nd rfl (.inl rfl)) (zg (zB 2 iV.nd (zr yN (pv 2) (pv 1))))) (zg (zk (pv 2))))),?_];have s16:=zU;rfl';have hm:=zf3 h2 h1;have em:((n:Int) * (l.length:Int))=((n * l.length:Nat):Int):=by rw[dM]
  refine#[⋯,.inl #[⋯,⋯],?_];rw[em];refine#[⋯,⋯,ja2 (λi σ H'=>H'=H/\∃v3,σ=[~~~l,-~~~n,BJ (.int ((n ^ i:Nat):Int)),v3]) #[rfl,_,rfl] ?_ ?_]
  ·refine nm3 ?_;rintro i σ H' hi ⟨rfl,v3,rfl⟩:0;rfl';exact#[.inr #[⋯,⋯],WU n i]
  ·refine nmB ?_;rintro σ H' ⟨rfl,v3,rfl⟩:0;rfl';rw[aO];exact q
def uC:Sp:=λvs H Q Z=>∃(l:()) (n:Nat),vs=[⇑l,.int (n:Nat)]/\l.length<=6/\n<=8/\Q (.bl (decide (n ^ (n * l.length)<=1000))) H
def Zf(h1:l.length<=6)(h2:n<=8)(q:Q (.bl (decide (n ^ (n * l.length)<=1000))) H):uC [⇑l,.int (n:Nat)] H Q E:=#[l,n,rfl,h1,h2,q]
def K4(a:Nat):decide ((a:Int)<=1000)=decide (a<=1000):=by
 by_cases h:a<=1000
 ·rw[y3 h,y3 ⋯]
 ·rw[y4 h,y4 ⋯]
def qG:sQz 2 ["letters","rooms"] xC:=by nofun
def qB(B:Bt mg)(TM:Qe K mg CM)(F:("tables_within"^^^xC))(mw:(1<<<"table_count") ["letters","rooms"] [] qW):(2&&&["letters","rooms"]) uC:=by
 let#[t9,g9]:=TM.most;exists F.ok qG
 ·let#[l,n,rfl,h1,h2,q]:=h;refine#[_,(zg (zk (ya xu (cl0 mw hr .nil rfl (za (pv 0) (za (pv 1) ze))) (yy (v:=.int 1000) rfl g9 #[t9,rfl]) (zt _)))),?_];have s16:=zU;rfl';refine Xo h1 h2 ?_;rfl';rw[K4];exact q
def kC(n N i:Nat):Int:=((N / n ^ i % n:Nat):Int)
def zdW(n k N r:Nat):List Int:=(aM k).map λj=>kC n N (n * k - 1 - (r * k+j))
def Yd(n k N:Nat):List (List Int):=(aM n).map λr=>zdW n k N r
def zdQ(h:1<=n):0<=kC n N i/\kC n N i<(n:Int):=by have:=Nat.mod_lt (N / n ^ i) (show 0<n by lia);unfold kC;lia
def Yy(n k N:Nat):(Yd n k N).length=n:=by simp [Yd]
def Yk(N:Nat)(h1:1<=n)(h8:n<=8):xY l (Yd n l.length N):=by
 refine#[by rw[Yy];exact h1,by rw[Yy];exact h8,λx hx=>?_,λx hx z hz=>?_]
 ·let#[r,_,rfl]:=BQ.mp hx;simp [zdW]
 ·let#[r,_,rfl]:=BQ.mp hx;let#[j,_,rfl]:=BQ.mp hz;rw[Yy];exact zdQ h1
def zcP(hr:r<n):((((aM (n * k)).map (kC n N)).reverse).drop (r * k)).take k=zdW n k N r:=by
 have hb:r * k+k<=n * k:=by
  have:=eI k (show r+1<=n by lia);rw[Nat.add_mul,Nat.one_mul]at this;exact this
 apply List.ext_getElem?;intro j;by_cases hj:j<k
 ·rw[dh hj,List.getElem?_drop,bG (by simp;lia),au,eM (by simp;lia),zdW,au,eM hj];simp
 ·rw[cE (by simp [aL];lia),cE (by simp [zdW];lia)]
def Qn(n N i:Nat):N / n ^ i / n=N / n ^ (i+1):=by rw[Nat.div_div_eq_div_mul,Nat.pow_succ]
def uc:Sp:=λvs H Q Z=>∃(l:()) (n N:Nat),vs=[⇑l,.int (n:Nat),.int (N:Nat)]/\1<=l.length/\l.length<=6/\1<=n/\n<=8/\∀(t:tG) (rs:List tG) (H':Hp),Same H H'->TabAt H' t rs (Yd n l.length N)->(∀r ∈ t::rs,H r=BK)->Q (.ref t) H'
def YJ(h1:1<=l.length)(h2:l.length<=6)(h3:1<=n)(h4:n<=8)(q:∀(t:tG) (rs:List tG) (H':Hp),Same H H'->TabAt H' t rs (Yd n l.length N)->(∀r ∈ t::rs,H r=BK)->Q (.ref t) H'):uc [⇑l,.int (n:Nat),.int (N:Nat)] H Q E:=#[l,n,N,rfl,h1,h2,h3,h4,q]
def zdr(h1:1<=n)(h2:1<=k):(r8 0 ((n * k:Nat):Int) (k:Int)).toNat=n:=by
 have hp:0<n * k:=Nat.mul_pos h1 h2;unfold r8;rw[y9 ⋯,y9 ⋯];have e:(((n * k:Nat):Int) - 0 - 1)=((n * k - 1:Nat):Int):=⋯
 have e2:(n * k - 1) / k=n - 1:=by
  obtain⟨m,rfl⟩:∃m,n=m+1:=#[n - 1,⋯];rw[Nat.add_mul,Nat.one_mul,show m * k+k - 1=(k - 1)+m * k by lia,Nat.add_mul_div_right _ _ ⋯,Nat.div_eq_of_lt ⋯];lia
 rw[e,<- Int.natCast_ediv,e2];lia
def QZ{D:tG}(hg:g=yH 0)(hte:te=tSl (zeh K) (ym 1) (YS (ym 0)) (YS (tOp Xk (ym 0) (tCB (Uf K) (zO (ym 2) xI)))))(hi:vM σ 1 ix=[BK,!!c,~~~l])(hc:H c=BJ (.lst ((((aM (n * l.length)).map (kC n N)).reverse).map V.int)))(h1:1<=l.length)(h2:l.length<=6)(h3:1<=n)(h4:n<=8)(hD:H D=BK)(q:∀(rs:List tG) (H':Hp),Same H H'->TabAt H' D rs (Yd n l.length N)->(∀r ∈ D::rs,H r=BK)->Q (.ref D) H'):CompK 0 (l.length:Nat) n g wP te 1 ix σ H Q D:=by
 have s16:=zU;have hmm:=zf3 h4 h2;subst hg hte;refine CompK.by (λi acc H'=>∃rs:List tG,acc=rs.map V.ref/\rs.length=i/\Same H H'/\H' D=BJ (.lst acc)/\(∀r ∈ rs,H r=BK/\r≠D)/\∀(j:Nat) (r:tG),rs[j]? = BJ r->H' r=BJ (.lst ((zdW n l.length N j).map V.int))) #[[],rfl,rfl,zf hD,zd,λr h=>(nomatch h),λj r h=>by simp at h] ?_ ?_
 ·refine nm3 ?_;rintro i acc H' hin ⟨rs,rfl,hrl,hs,hH,hf,hr⟩:_;have hc':=hs _ _ hc;have ei:(0:Int)+(i:Int) * (l.length:Int)=((i * l.length:Nat):Int):=by rw[Int.zero_add,dM]
  right;dsimp only;rw[ei];have hil:i * l.length<=48:=aB (eI _ (by lia:i<=n)) hmm;erw[wP,yH,hi];rfl';refine#[xH,⋯,_,x6 hc',λp hp=>?_];rw[Y7 _ ⋯ ⋯];have e1:(((i * l.length:Nat):Int)).toNat=i * l.length:=aO _;have e2:(((i * l.length:Nat):Int)+(l.length:Int) - ((i * l.length:Nat):Int)).toNat=l.length:=⋯;rw[e1,e2,zcP hin];have hpD:p≠D:=λe=>by rw[e]at hp;rw[hp]at hH;cases hH
  refine#[zf hp _ _ hH,by rw[aa];lia,ja0 hin #[rs ++ [p],by rw[ar];rfl,by rw[am,hrl];rfl,zI (hs.trans (zf hp)) hD,zd,λr' hr'=>?_,λj r' h1=>?_]]
  ·rcases BS.mp hr' with h' | h'
   ·exact hf r' h'
   ·rw[BV.mp h'];refine#[?_,hpD]
    cases e:H p with
    | none=>rfl
    | some o=>have:=hs _ _ e;rw[hp]at this;cases this
  ·by_cases hj:j<i
   ·rw[cG ⋯]at h1;rw[zo (hf r' (ag h1)).2];exact zf hp _ _ (hr j r' h1)
   ·rw[bN ⋯]at h1
    have hj0:j=i:=by
     have:=(BP.mp h1).1;simp at this;lia
    subst hj0;rw[hrl,fB]at h1;cases h1;rw[zo hpD];exact zd
 ·refine nmB ?_;rintro acc H' ⟨rs,rfl,hrl,hs,hH,hf,hr⟩:0
  refine q rs H' hs #[hH,by rw[Yy,hrl],λi r x h1 h2=>?_] λr hr'=>by
   rcases BR.mp hr' with rfl | h'
   ·exact hD
   ·exact (hf r h').1
  rw[hr i r h1];unfold Yd at h2;rw[au]at h2;let#[z,hz,rfl]:=BW.mp h2;have:=(BP.mp hz).2;simp at this;rw[this]
def mv:sQz 3 ["letters","rooms","number","cells","cell"] vA:=by nofun
def XW(B:Bt mg)(F:("table_at"^^^vA)):(1&&&["letters","rooms","number"]) uc:=by
 exists F.ok mv
 ·let#[l,n,N,rfl,h1,h2,h3,h4,q]:=h;refine#[_,(zh (jH (i:=3) mv.nd rfl (Or.inr rfl) (yF ze)) (zh (zW u5 rfl (yg rfl B.range (za (zr yN (pv 1) (zF B.len (pv 0))) ze)) (zq (i:=4) mv.nd rfl (.inl rfl)) (zG (xU (qz bB cf ci xG (pv 3) (za (zr zR (pv 2) (pv 1)) ze))) (zg (zB 2 mv.nd (zr yO (pv 2) (pv 1)))))) (zh (xU (zfb bB PySem.F.slot_list_reverse PySem.F.type_list_reverse VX (pv 3))) (zg (zk (xB (own:=["start"]) (caps:=["cells","letters"]) (ix:=[3,0]) (tt:=wP) (te:=(tSl (zeh K) (ym 1) (YS (ym 0)) (YS (tOp Xk (ym 0) (tCB (Uf K) (zO (ym 2) xI)))))) rfl (zS (sc:=zi vA) rfl (!0) (!0) (!0) rfl (!0) (!0) rfl) (U3 rfl B.range (za zb (za (zF B.len (pv 3)) (za (zF B.len (pv 0)) ze)))) (λZ Z Z Z Z Z=>zq (i:=0) (show List.Nodup [_,_,_] by decide) rfl (.inl rfl)) (λZ Z Z Z Z Z=>yP) (λZ Z Z Z Z Z=>(yk zaZ (pv 1) (yc (pv 0)) (yc (zr zZ (pv 0) (zF B.len (pv 2)))))))))))),?_];have s16:=zU;have hm:=zf3 h4 h2;have em:((n:Int) * (l.length:Int))=((n * l.length:Nat):Int):=by rw[dM]
  change ∃c,H c=BK/\Same H H'/\H' c=BJ (.lst [])/\σ=[~~~l,-~~~n,-~~~N,!!c,BK]
  ·rfl';exact#[⋯,λc hc=>#[c,hc,zf hc,zd,rfl]]
  rintro σ H1 ⟨c,hcn,s1,hc,rfl⟩:0;change ∃v2 v4,Same H H'/\H' c=BJ (.lst (((aM (n * l.length)).map (kC n N)).map V.int))/\σ=[~~~l,-~~~n,v2,!!c,v4]
  ·rfl';refine#[⋯,.inl #[⋯,⋯],?_];rw[em];refine#[⋯,⋯,ja2 (λi σ H'=>∃v4,Same H H'/\H' c=BJ (.lst (((aM i).map (kC n N)).map V.int))/\σ=[~~~l,-~~~n,BJ (.int ((N / n ^ i:Nat):Int)),!!c,v4]) #[_,s1,hc,by rw[Nat.pow_zero,Nat.div_one]] ?_ ?_]
   ·refine nm3 ?_;rintro i σ H' hi ⟨v4,hs,hc',rfl⟩:_;rw[aO]at hi;right;rfl';refine#[.inl #[_,x6 hc'],⋯,_,hc',by erw[aa,cL];lia,#[⋯,⋯],?_];refine#[zI hs hcn,?_,?_]
    ·rw[zd,db,ar,ar,<- Int.natCast_emod];rfl
    ·rw[<- Int.natCast_ediv,Qn]
   ·refine nmB ?_;rintro σ H' ⟨v4,hs,hc',rfl⟩:_;rw[aO]at hc';right;exact#[hs,hc',_,_,rfl]
  rintro σ H2 ⟨v2,v4,s2,hc2,rfl⟩:0;change Same H H'/\H' c=BJ (.lst ((((aM (n * l.length)).map (kC n N)).reverse).map V.int))/\σ=[~~~l,-~~~n,v2,!!c,v4]
  ·rfl';erw[Vo];rfl';refine#[.inl #[_,x6 hc2],_,hc2,zI s2 hcn,?_];rw[zd,fz]
  rintro σ H3 ⟨s3,hc3,rfl⟩:0;erw[zbN,zfD];rfl';refine#[_,.inl #[_,x6 hc3,rfl],⋯,∅,∅,⋯,by erw[aa,di,cL];lia,⋯,⋯,λD hD=>?_]
  have en:(r8 0 (((List.map V.int ((List.map (kC n N) (aM (n * l.length))).reverse)).length:Nat):Int) (l.length:Nat)).toNat=n:=by
   rw[aa,di,aa,cL];exact zdr h3 h1
  rw[en]
  exact QZ rfl rfl rfl hc3 h1 h2 h3 h4 hD λrs H' s' hT hf=>q D rs H' (s3.trans s') hT λr hr'=>by
   cases e:H r with
   | none=>rfl
   | some o=>have:=s3 _ _ e;rw[hf r hr']at this;cases this
def vt(l:())(tab:List (List Int))(ps:List zK)(u v:()):Bool:=decide (uA l tab 0 u≠uA l tab 0 v) && (wl l tab ps 0).isNone
abbrev zdV(l:())(u:()):Prop:=∀c ∈ u,c ∈ l
abbrev InP(l:())(ps:List zK):Prop:=∀p ∈ ps,(∀c ∈ p.1,c ∈ l)/\∀c ∈ p.2,c ∈ l
def ZZ(K:tF)(CV:tG):Sp:=λvs H Q Z=>∃(o t a:tG) (l:()) (rs:List tG) (tab:List (List Int)) (ps:List zK) (u v:()),vs=[.ref o,.ref a,⇑u,⇑v]/\LsA K H a (ps.map dR)/\WorAt CV H o l t rs tab/\xY l tab/\InP l ps/\zdV l u/\zdV l v/\∀H',Same H H'->Q (.bl (vt l tab ps u v)) H'
def Jz(h1:LsA K H a (ps.map dR))(h2:WorAt CV H o l t rs tab)(h3:xY l tab)(h4:InP l ps)(h5:zdV l u)(h6:zdV l v)(q:∀H',Same H H'->Q (.bl (vt l tab ps u v)) H'):ZZ K CV [.ref o,.ref a,⇑u,⇑v] H Q E:=#[o,t,a,l,rs,tab,ps,u,v,rfl,h1,h2,h3,h4,h5,h6,q]
def kJ:sQz 4 ["world","pacts","one","other"] wG:=by nofun
def kL(B:Bt mg)(CL:zbH K mg CV)(F:("tells_apart"^^^wG))(M_world_led:DM P w K mg base CX0 1 CV "led" ["self","room","word"] (jb CV))(M_world_broken:DM P w K mg base CX0 3 CV "broken" ["self","pacts"] (qg K CV)):(4&&&["world","pacts","one","other"]) (ZZ K CV):=by
 exists F.ok kJ
 ·let#[o,t,a,l,rs,tab,ps,u,v,rfl,hA,hW,hG,hp,hu,hv,q]:=h
  refine#[_,(zG (zJ (zu yQ (me1 M_world_led CL.cl hr (pv 0) (za zb (za (pv 2) ze))) (me1 M_world_led CL.cl hr (pv 0) (za zb (za (pv 3) ze))) (zt _)) (zg (zk yJ))
    zp) (zg (zk (ya op_isN' (me1 M_world_broken CL.cl hr (pv 0) (za (pv 1) ze)) yh (zt _))))),?_]
  have s16:=zU;rfl';let#[dx,ho,hT]:=id hW;have hlo:=hG.lo;refine#[_,_,ho,rfl,qK hW hG ⋯ ⋯ hu #[_,_,ho,rfl,qK hW hG ⋯ ⋯ hv ?_]];rfl';refine yd (λh=>?_) λh=>?_
  ·have e:vt l tab ps u v=BM:=by
    unfold vt;rw[y4 (λg=>g h)];rfl
   rw[e]at q;exact q _ (x9 _)
  ·have e:vt l tab ps u v=(wl l tab ps 0).isNone:=by
    unfold vt;rw[y3 h,gg]
   rw[e]at q;refine#[_,_,ho,rfl,o,t,a,l,rs,tab,ps,rfl,hA,hW,hG,hp,λhb H' s'=>?_,λi r hb p H' s' hp'=>?_]
   ·rw[hb]at q;exact q H' s'
   ·rw[hb]at q;exact q H' s'
def Ear(l:())(ps:List zK)(u v:())(n N:Nat):Prop:=∀n' N':Nat,1<=n'->N'<n' ^ (n' * l.length)->(n'<n\/n'=n/\N'<N)->vt l (Yd n' l.length N') ps u v=BM
def Kw : Ear l ps u v 1 0:=λn' N' h1 Z h=>by lia
def Kn(h:Ear l ps u v n N)(hf:vt l (Yd n l.length N) ps u v=BM):Ear l ps u v n (N+1):=λn' N' h1 h2 h3=>by
 rcases h3 with h3 | ⟨rfl,h3⟩
 ·exact h n' N' h1 h2 (.inl h3)
 ·by_cases e:N'=N
  ·rw[e];exact hf
  ·exact h n' N' h1 h2 (.inr #[rfl,⋯])
def zdl(h:Ear l ps u v n (n ^ (n * l.length))):Ear l ps u v (n+1) 0:=λn' N' h1 h2 h3=>by
 rcases et n' n with h4 | h4
 ·exact h n' N' h1 h2 (.inl h4)
 ·have e:n'=n:=⋯;subst e;exact h n' N' h1 h2 (.inr #[rfl,h2])
def zag(h1:1<=n)(h:n<=m):n ^ (n * k)<=m ^ (m * k):=aB (Nat.pow_le_pow_left h _) (Nat.pow_le_pow_right ⋯ (eI k h))
def VM(K:tF)(CM:tG):Sp:=λvs H Q E=>∃(a:tG) (l:()) (ps:List zK) (u v:()) (m:Nat),vs=[⇑l,.ref a,⇑u,⇑v,.int (m:Nat)]/\wv l=BL/\LsA K H a (ps.map dR)/\InP l ps/\zdV l u/\zdV l v/\m<=8/\(1000<m ^ (m * l.length)->E (.ref CM) BK H) /\
 (m ^ (m * l.length)<=1000->Ear l ps u v (m+1) 0->∀H',Same H H'->Q .non H') /\
 (m ^ (m * l.length)<=1000->∀n N:Nat,1<=n->n<=m->N<n ^ (n * l.length)->vt l (Yd n l.length N) ps u v=BL->Ear l ps u v n N->∀(t:tG) (rs:List tG) (H':Hp),Same H H'->TabAt H' t rs (Yd n l.length N)->(∀r ∈ t::rs,H r=BK)->Q (.ref t) H')
def iW:sQz 5 ["letters","pacts","one","other","most","rooms","number","table"] ww:=by nofun
def kz(B:Bt mg)(TM:Qe K mg CM)(CL:zbH K mg CV)(F:("world_apart"^^^ww))(lx:(2<<<"tables_within") ["letters","rooms"] [] uC)(mw:(1<<<"table_count") ["letters","rooms"] [] qW)(sB:(1<<<"table_at") ["letters","rooms","number"] [] uc)(rF:(4<<<"tells_apart") ["world","pacts","one","other"] [] (ZZ K CV))(M_world_init:DMk P w K mg base (CXx P w) 4 CV ["self","letters","table"] (uH CV)):(6|||["letters","pacts","one","other","most"]) (VM K CM):=by
 exists Fun.okX F iW,0
 ·let#[a,l,ps,u,v,m,rfl,hg,hA,hp,hu,hv,m8,q1,q2,q3]:=h
  refine#[_,(zh (zJ (zX (yB (cl0 lx hr .nil rfl (za (pv 0) (za (pv 4) ze))) (λZ=>rfl))) (zg (yf hx rfl TM.xi.toXC TM.ini rfl TM.g (za zP ze)))
    zp) (zh (zW PassesOwn.leaving rfl (Xx rfl B.range (za zb (za (zr zZ (pv 4) zb) ze))) (zq (i:=5) iW.nd rfl (.inl rfl)) (zg (zW PassesOwn.leaving rfl (yg rfl B.range (za (cl0 mw hr .nil rfl (za (pv 0) (za (pv 5) ze))) ze)) (zq (i:=6) iW.nd rfl (.inl rfl)) (zh (zB 7 iW.nd (cl0 sB hr .nil rfl (za (pv 0) (za (pv 5) (za (pv 6) ze))))) (zg (zJ (yB (cl0 rF hr .nil rfl (za (zeO hx M_world_init hr rfl CL.g (za (pv 0) (za (pv 7) ze))) (za (pv 1) (za (pv 2) (za (pv 3) ze))))) (λZ=>rfl)) (zg (zk (pv 7)))
      zp)))))) (zg (zk yh)))),?_]
  have s16:=zU;let#[l1,l6,_,_]:=w9 hg;change H'=H/\m ^ (m * l.length)<=1000/\σ=%[~~~l,!!a,~~~u,~~~v,-~~~m|3]
  ·rfl';refine Zf ⋯ m8 #[_,rfl,?_];by_cases hw:m ^ (m * l.length)<=1000
   ·rw[y3 hw];rfl';exact hw
   ·rw[y4 hw];rfl';exact#[⋯,q1 ⋯]
  rintro σ H1 ⟨rfl,hw,rfl⟩:0;change Same H1 H'/\Ear l ps u v (m+1) 0/\∃v5 v6 v7,σ=[~~~l,!!a,~~~u,~~~v,-~~~m,v5,v6,v7]
  ·rfl';refine#[⋯,⋯,⋯,⋯,ja2 (λi σ H'=>Same H1 H'/\Ear l ps u v (i+1) 0/\∃v5 v6 v7,σ=[~~~l,!!a,~~~u,~~~v,-~~~m,v5,v6,v7]) #[x9 _,Kw,_,_,_,rfl] ?_ ?_]
   ·refine nm3 ?_;rintro i σ H' hi ⟨hs,hE,v5,v6,v7,rfl⟩:_;have him:i+1<=m:=⋯;have e0:(1:Int)+(i:Int)=((i+1:Nat):Int):=⋯;have hpw:=zag (k:=l.length) ⋯ him;right;dsimp only;rw[e0];rfl';refine Xo ⋯ ⋯ ?_;refine#[_,rfl,⋯,⋯,ja2 (λj σ H'=>Same H1 H'/\Ear l ps u v (i+1) j/\∃v6 v7,σ=[~~~l,!!a,~~~u,~~~v,-~~~m,BJ (.int ((i+1:Nat):Int)),v6,v7]) #[hs,hE,_,_,rfl] ?_ ?_]
    ·refine nm3 ?_;rintro j σ H'' hj ⟨hs2,hE2,v6,v7,rfl⟩:_;rw[aO]at hj;have e1:(0:Int)+(j:Int)=(j:Int):=⋯;right;dsimp only;rw[e1];erw[yH,aX,aW];refine zj (λσ G=>∃(t:tG) (rs:List tG),Same H1 G/\TabAt G t rs (Yd (i+1) l.length j)/\(∀r ∈ t::rs,H1 r=BK)/\σ=[~~~l,!!a,~~~u,~~~v,-~~~m,BJ (.int ((i+1:Nat):Int)),BJ (.int (j:Int)),!!t]) ?_ ?_
     ·rfl'
      exact YJ l1 ⋯ ⋯ ⋯ λt rs G sG hT hf=>#[hs2.trans sG,t,rs,hT,(λr hr=>by
       cases e:H1 r with
       | none=>rfl
       | some o=>have:=hs2 _ _ e;rw[hf r hr]at this;cases this),rfl]
     rintro σ G ⟨t,rs,sG,hT,hf,rfl⟩:_;have hG:=Yk (l:=l) j (show 1<=i+1 by lia) ⋯;right;rfl';refine QS hg hT hG λx t' rs' H' s' Z Z hW=>Jz ((hA.same sG).same s') hW hG hp hu hv λH'' s''=>#[_,rfl,?_];have sA:=sG.trans (s'.trans s'')
     cases hfit:vt l (Yd (i+1) l.length j) ps u v with
     | true =>
      rfl';exact q3 hw (i+1) j ⋯ him hj hfit hE2 t rs H'' sA (hT.same (s'.trans s'')) hf
     | false =>
      rfl';exact#[sA,Kn hE2 hfit]
    ·refine nmB ?_;rintro σ H'' ⟨hs2,hE2,v6,v7,rfl⟩:_;rw[aO]at hE2;right;exact#[hs2,zdl hE2,_,_,_,rfl]
   ·refine nmB ?_;rintro σ H' ⟨hs,hE,v5,v6,v7,rfl⟩:0;exact#[hs,by rw[show (((m:Nat):Int)+1 - 1).toNat=m by lia]at hE;exact hE,_,_,_,rfl]
  rintro σ H2 ⟨s2,hE,v5,v6,v7,rfl⟩:0;rfl';exact q2 hw hE H2 s2
structure TMj(mg:tK->Option tH):Prop where
 u:∃t,mg "MOST_USES_judging" = BJ (.int 40 t)
 s:∃t,mg "MOST_STEPS_judging" = BJ (.int 2000 t)
def zfG(K:tF):Sp:=λvs H Q Z=>∃(a:tG) (k:Nat) (l:()) (ns:List Int) (bs:List Ent) (w:()),vs=[.ref a,⇑w]/\OG l ns k/\EnsL K H a bs/\BG k l ns bs/\w.length<=60 /\
 (∀(i:Nat) (p S:tG) (H':Hp),zD (zc bs) w i->Same H H'->H' p=BJ (.tup [.ref S,⇑(wAt (zc bs) w i)])->LsA K H' S ((stS (sAt (zc bs) w i)).map dSt)->Q (.ref p) H')/\((∀i,¬ zD (zc bs) w i)->∀H',Same H H'->Q .non H')
def kA:sQz 2 ["entries","word"] wH:=by nofun
def kr(B:Bt mg)(TFx:zdG K mg CF)(TSb:zgU K CF)(TM:TMj mg)(F:("gone_within"^^^wH))(nP:(4>>>"gone") ["rules","word","most"] [] (xR K CF))(DD_gone:(4>>>"gone") ["rules","word","most"] [.int 4000 nQ] (xR K CF))(gZ:(1<<<"pairs_of") ["entries"] [] (wD K)):(5&&&["entries","word"]) (zfG K):=by
 let#[t9,g9]:=TM.u;exists F.ok kA
 ·let#[a,k,l,ns,bs,w,rfl,hG,hA,hB,hw,q1,q2]:=h;refine#[_,(zg (Vn (th:=(zbN (tC .non))) #[rfl,rfl] (clX nP hr .nil rfl (za (cl0 gZ hr .nil rfl (za (pv 0) ze)) (za (pv 1) (za (yy (v:=.int 40) rfl g9 #[t9,rfl]) ze)))) rfl TFx.g TFx.xi.ok (λe=>(zg (zk yh))))),?_];have s16:=zU;have hpl:=uM bs;have hbl:=hB.n;erw[J6];ac_rfl;exact wq hA.is ⋯ λD H1 Z s1 hL=>qc hL (hB.ne hG) ⋯ hB.le hw (λi p S H' hi s' hp hS Z=>q1 i p S H' hi (s1.trans s') hp (by rw[J3]at hS;exact hS)) λhno H' s'=>#[CF,rfl,TSb.s,λx hx=>q2 hno _ ((s1.trans s').trans (zf hx))]
def GwV(K:tF)(ps:List zK)(w:())(H:Hp)(v:V):Prop:=(v=.non/\∀i,¬ zD ps w i)\/∃(i:Nat) (p S:tG),v=.ref p/\zD ps w i/\H p=BJ (.tup [.ref S,⇑(wAt ps w i)])/\LsA K H S ((stS (sAt ps w i)).map dSt)
def GwV.same{ps:List zK}{w:()}{H H':Hp}{v:V}(h:GwV K ps w H v)(s:Same H H'):GwV K ps w H' v:=by
 rcases h with h | ⟨i,p,S,h1,h2,h3,h4⟩
 ·exact .inl h
 ·exact .inr #[i,p,S,h1,h2,s _ _ h3,h4.same s]
abbrev qD(bs:List Ent)(u v:())(i j:Nat):List Stp:=byL bs (stS (sAt (zc bs) u i) ++ yI (stS (sAt (zc bs) v j)))
def NoR(bs:List Ent)(b:Bool)(u v:()):Prop:=(∀i,¬ zD (zc bs) u i)\/(∀j,¬ zD (zc bs) v j)\/∃i j,zD (zc bs) u i/\zD (zc bs) v j/\((wAt (zc bs) u i≠wAt (zc bs) v j/\b=BM)\/(wAt (zc bs) u i=wAt (zc bs) v j/\2000<(qD bs u v i j).length))
def zbs(K:tF):Sp:=λvs H Q Z=>∃(a:tG) (k:Nat) (l:()) (ns:List Int) (bs:List Ent) (b:Bool) (u v:()),vs=[.bl b,.ref a,⇑u,⇑v]/\OG l ns k/\EnsL K H a bs/\BG k l ns bs/\u.length<=60/\v.length<=60/\(NoR bs b u v->∀H',Same H H'->Q .non H') /\
 (∀(i j:Nat) (p:tG) (H':Hp),b=BL->zD (zc bs) u i->zD (zc bs) v j->wAt (zc bs) u i≠wAt (zc bs) v j->Same H H'->H' p=BJ (.tup [.str "forms",.ref a,⇑(wAt (zc bs) u i),⇑(wAt (zc bs) v j)])->Q (.ref p) H') /\
 ∀(i j:Nat) (p S:tG) (H':Hp),zD (zc bs) u i->zD (zc bs) v j->wAt (zc bs) u i=wAt (zc bs) v j->Same H H'->H' p=BJ (.tup [.str "alike",.ref S])->LsA K H' S ((qD bs u v i j).map dSt)->(qD bs u v i j).length<=2000->Q (.ref p) H'
def io:sQz 4 ["whole","kept","one","other","ahead","behind","steps"] y0:=by nofun
def ux(B:Bt mg)(TM:TMj mg)(F:("judged_by_roads"^^^y0))(og:(5<<<"gone_within") ["entries","word"] [] (zfG K))(iT:(2<<<"by_pacts") ["entries","steps"] [] (UK K))(mT:(1<<<"back") ["steps"] [] (qj K)):(6&&&["whole","kept","one","other"]) (zbs K):=by
 let#[t9,g9]:=TM.s;exists F.ok io
 ·let#[a,k,l,ns,bs,b,u,v,rfl,hG,hA,hB,hu,hv,q1,q3,q2]:=h
  refine#[_,(zh (zB 4 io.nd (cl0 og hr .nil rfl (za (pv 1) (za (pv 2) ze)))) (zh (zB 5 io.nd (cl0 og hr .nil rfl (za (pv 1) (za (pv 3) ze)))) (zh (zJ (PW.pt (wA (zu op_isN' (pv 4) yh (zt _)) (xN (zu op_isN' (pv 5) yh (zt _))))) (zg (zk yh))
    zp) (zh (zJ (zu qb (!-4) (!-5) (zt _)) (zg (zk (vv (yB (pv 0) (λZ=>rfl)) (zN (za zP (za (pv 1) (za (!-4) (za (!-5) ze))))) yh)))
    zp) (zh (zB 6 io.nd (cl0 iT hr .nil rfl (za (pv 1) (za (zr WL (!-4) (cl0 mT hr .nil rfl (za (!-5) ze))) ze)))) (zg (zk (vv (zu xu (zF B.len (pv 6)) (yy (v:=.int 2000) rfl g9 #[t9,rfl]) (zt _)) (zN (za zP (za (pv 6) ze))) yh)))))))),?_]
  have s16:=zU;have hbl:=hB.n;have hpl:=uM bs;have hst:∀e ∈ bs,e.2.2.length<=600:=λe he=>(hB.e e he).s;change Same H H'/\∃v4,GwV K (zc bs) u H' v4/\σ=%[BJ (.bl b),!!a,~~~u,~~~v,BJ (v4)|2]
  ·rfl';exact#[a,k,l,ns,bs,u,rfl,hG,hA,hB,hu,λi p S H' h1 s' h2 h3=>#[s',.inr #[i,p,S,rfl,h1,h2,h3]],λhno H' s'=>#[s',.inl #[rfl,hno]]]
  rintro σ H1 ⟨s1,v4,hv4,rfl⟩:0;change Same H1 H'/\∃v5,GwV K (zc bs) v H' v5/\σ=[BJ (.bl b),!!a,~~~u,~~~v,BJ (v4),BJ (v5),BK]
  ·rfl';exact#[a,k,l,ns,bs,v,rfl,hG,hA.same s1,hB,hv,λi p S H' h1 s' h2 h3=>#[s',.inr #[i,p,S,rfl,h1,h2,h3]],λhno H' s'=>#[s',.inl #[rfl,hno]]]
  rintro σ H2 ⟨s2,v5,hv5,rfl⟩:_;have s12:=s1.trans s2;have hv4':=hv4.same s2;right;change H'=H2/\v4≠.non/\v5≠.non/\σ=[BJ (.bl b),!!a,~~~u,~~~v,BJ (v4),BJ (v5),BK]
  ·rfl';refine yd (λh=>?_) λh=>yd (λh'=>?_) λh'=>#[h,h']
   ·rcases hv4' with ⟨_,hno⟩ | ⟨i,p,S,e,_⟩
    ·exact q1 (.inl hno) _ s12
    ·rw[e]at h;cases h
   ·rcases hv5 with ⟨_,hno⟩ | ⟨i,p,S,e,_⟩
    ·exact q1 (.inr (.inl hno)) _ s12
    ·rw[e]at h';cases h'
  rintro σ H3 ⟨rfl,n4,n5,rfl⟩:_;let#[i,p1,S1,rfl,hi,hp1,hS1]:=hv4'.resolve_left λz=>n4 z.1;let#[j,p2,S2,rfl,hj,hp2,hS2]:=hv5.resolve_left λz=>n5 z.1;right;change H'=H3/\wAt (zc bs) u i=wAt (zc bs) v j/\σ=[BJ (.bl b),!!a,~~~u,~~~v,!!p1,!!p2,BK]
  ·rfl';refine#[_,x4 hp1,_,rfl,_,x4 hp2,_,rfl,rfl,yd (λh=>yd (λhb'=>#[_,x4 hp1,_,rfl,_,x4 hp2,_,rfl,⋯,λp hp=>q3 i j p _ hb' hi hj (λz=>h (by rw[z])) (s12.trans (zf hp)) zd]) λhb'=>q1 (.inr (.inr #[i,j,hi,hj,.inl #[λz=>h (by rw[z]),by simpa using hb']])) _ s12) λh=>?_];have:=Classical.not_not.mp h;injection this with this;exact wu this
  rintro σ H4 ⟨rfl,he,rfl⟩:_;have him:=hi.most;have hjm:=hj.most;have hl1:(stS (sAt (zc bs) u i)).length=i:=by rw[Ya,jn]
  have hl2:(stS (sAt (zc bs) v j)).length=j:=by rw[Ya,jn]
  right;change Same H4 H'/\∃S:tG,LsA K H' S ((qD bs u v i j).map dSt)/\σ=[BJ (.bl b),!!a,~~~u,~~~v,!!p1,!!p2,!!S]
  ·rfl';refine#[_,x4 hp1,_,rfl,_,x4 hp2,_,rfl,qQ hS2.is ⋯ λB1 G1 Z t1 hB1=>?_];let#[c1,hc1,ic1]:=hS1.same t1;let#[c2,hc2,ic2]:=id hB1;have n1:=ic1.len;have n2:=ic2.len;rw[aa]at n1 n2;rw[yK]at n2;refine#[S1,rfl,B1,rfl,c1,hc1,c2,hc2,⋯,λp hp=>?_];have sp:=zf (o:=.lst (c1 ++ c2)) hp;refine Vm (Is.same (s12.trans (t1.trans sp)) _ _ hA.is) (LsA.is #[_,zd,by rw[ar];exact jb2 (ja1 sp _ _ ic1) (ja1 sp _ _ ic2)]) (by rw[am,yK];lia) hst (λx hx=>?_) λD H' Z s' hL=>#[t1.trans (sp.trans s'),D,hL,rfl];rw[<- hpl];rcases BS.mp hx with h | h
   ·exact Vx hi.live x h
   ·exact UM (Vx hj.live) x h
  rintro σ H5 ⟨s5,S,hS,rfl⟩:_;let#[xs,hX,hI]:=id hS;have hxl:=hI.len;rw[aa]at hxl;right;rfl';exact#[_,.inl #[_,x6 hX,rfl],yd (λhn=>#[⋯,λp hp=>q2 i j p S _ hi hj he ((s12.trans s5).trans (zf hp)) zd (hS.same (zf hp)) ⋯]) λhn=>q1 (.inr (.inr #[i,j,hi,hj,.inr #[he,⋯]])) _ (s12.trans s5)]
abbrev RIn(l:())(rs:List zK):Prop:=∀p ∈ rs,p.1.length<=60/\p.2.length<=60/\(∀c ∈ p.1,c ∈ l)/\∀c ∈ p.2,c ∈ l
theorem YK : ∀{ps:List zK} {i:Nat},(wl l tab ps i).isNone=BL->∀p ∈ ps,vH l tab p.1 p.2=BK
 | [],_,_,p,hp=>(nomatch hp)
 | q::ps,i,h,p,hp=>by
  cases e:vH l tab q.1 q.2 with
  | none =>
   erw[wl,e]at h;rcases BR.mp hp with rfl | hp
   ·exact e
   ·exact YK h p hp
  | some r =>
   erw[wl,e]at h;cases h
def zaK(h:vH l tab u v=BK)(h0:0<=r)(h1:r<(tab.length:Int)):uA l tab r u=uA l tab r v:=by unfold vH at h;rw[eS]at h;have:=h r.toNat (BX.mpr ⋯);rw[show ((r.toNat:Nat):Int)=r by lia]at this;simpa using this
theorem JN(hG:xY l tab):0<=kB l tab r c/\kB l tab r c<(tab.length:Int):=by
 have hlo:=hG.lo;unfold kB;rw[ac (l:=tab)]
 cases e:tab[r.toNat]? with
 | none=>simp;lia
 | some x =>
  rw[cT,ac]
  cases e2:x[l.idxOf c]? with
  | none=>simp;lia
  | some n=>exact hG.rm x (ag e) n (ag e2)
theorem UN(hG:xY l tab):∀{w:()} {r:Int},0<=r->r<(tab.length:Int)->0<=uA l tab r w/\uA l tab r w<(tab.length:Int)
 | [],r,h0,h1=>#[h0,h1]
 | c::w,r,h0,h1=>UN hG (w:=w) (JN hG).1 (JN hG).2
def Z9(l:())(tab:List (List Int))(r:Int)(u v:()):uA l tab r (u ++ v)=uA l tab (uA l tab r u) v:=List.foldl_append
def VY(hG:xY l tab):Ke λu v=>∀r:Int,0<=r->r<(tab.length:Int)->uA l tab r u=uA l tab r v :=
 #[λZ Z Z Z=>rfl,λh r a b=>(h r a b).symm,λh g r a b=>(h r a b).trans (g r a b),λ{u v} a b h r h0 h1=>by
  rw[Z9,Z9,Z9,Z9,h _ (UN hG h0 h1).1 (UN hG h0 h1).2]]
theorem K0(hG:xY l tab)(h:EqR rs u v):vt l tab rs u v=BM:=by
 cases e:vt l tab rs u v with
 | false=>rfl
 | true =>
  unfold vt at e;rw[aU]at e;have hlo:=hG.lo;have:=zb8 (VY hG) (λp hp r h0 h1=>zaK (YK e.2 p hp) h0 h1) h 0 ⋯ ⋯;exact y6 this (w9 e.1)
def ka(hE:∀e ∈ bs,EOk rs e)(hi:zD (zc bs) u i)(hj:zD (zc bs) v j)(he:wAt (zc bs) u i=wAt (zc bs) v j):z7 rs u (qD bs u v i j)=BJ v:=by refine jD hE ?_;rw[xP,uk hi.live,he];exact vj (uk hj.live)
def zbI(h:RIn l rs):∀e ∈ fEs rs rs.length,EB l e:=λe he=>by
 let#[i,p,hi,hp,rfl]:=Zy he;let#[g1,g2,g3,g4]:=h p (ag hp);exact#[g1,g2,by show ([((i:Int),(0:Int),BL)]:List Stp).length<=600;simp,g3,g4]
def zbv(K:tF):Sp:=λvs H Q Z=>∃(a:tG) (l:()) (ps:List zK) (u v:()) (m:Nat),vs=[⇑l,.ref a,⇑u,⇑v,.int (m:Nat)]/\wv l=BL/\LsA K H a (ps.map dR)/\InP l ps/\(∀c ∈ u,c ∈ l)/\(∀c ∈ v,c ∈ l)/\m<=8/\m ^ (m * l.length)<=1000/\(Ear l ps u v (m+1) 0->∀(p:tG) (H':Hp),Same H H'->H' p=BJ (.tup [.str "open"])->Q (.ref p) H') /\
 ∀(n N:Nat) (p t:tG) (rs:List tG) (H':Hp),1<=n->n<=m->N<n ^ (n * l.length)->vt l (Yd n l.length N) ps u v=BL->Ear l ps u v n N->Same H H'->H' p=BJ (.tup [.str "world",.ref t])->TabAt H' t rs (Yd n l.length N)->Q (.ref p) H'
def JwV(l:())(ps:List zK)(u v:())(m:Nat)(H:Hp)(x:V):Prop:=(x=.non/\Ear l ps u v (m+1) 0)\/∃(n N:Nat) (t:tG) (rs:List tG),x=.ref t/\1<=n/\n<=m/\N<n ^ (n * l.length)/\vt l (Yd n l.length N) ps u v=BL/\Ear l ps u v n N/\TabAt H t rs (Yd n l.length N)
def lT:sQz 5 ["letters","pacts","one","other","most","table"] yX:=by nofun
def ub(B:Bt mg)(F:("judged_by_worlds"^^^yX))(rG:(6>>>"world_apart") ["letters","pacts","one","other","most"] [] (VM K CM)):(7&&&["letters","pacts","one","other","most"]) (zbv K):=by
 exists F.ok lT
 ·let#[a,l,ps,u,v,m,rfl,hg,hA,hp,hu,hv,m8,hm,q1,q2]:=h;refine#[_,(zh (zB 5 lT.nd (clP xe0 rG hr .nil rfl (za (pv 0) (za (pv 1) (za (pv 2) (za (pv 3) (za (pv 4) ze))))))) (zg (zk (vv (zu op_isN' (pv 5) yh (zt _)) (zN (za zP ze)) (zN (za zP (za (pv 5) ze))))))),?_];have s16:=zU;change Same H H'/\∃x,JwV l ps u v m H' x/\σ=[~~~l,!!a,~~~u,~~~v,-~~~m,BJ (x)]
  ·rfl';exact#[a,l,ps,u,v,m,rfl,hg,hA,hp,hu,hv,m8,λh=>by lia,λZ h H' s'=>#[s',.inl #[rfl,h]],λZ n N h1 h2 h3 h4 h5 t rs H' s' h6 Z=>#[s',.inr #[n,N,t,rs,rfl,h1,h2,h3,h4,h5,h6]]]
  rintro σ H1 ⟨s1,x,hx,rfl⟩:0;rcases hx with ⟨rfl,hE⟩ | ⟨n,N,t,rs,rfl,h1,h2,h3,h4,h5,h6⟩
  ·rfl';exact#[⋯,λp hp=>q1 hE p _ (s1.trans (zf hp)) zd]
  ·rfl';exact#[⋯,λp hp=>q2 n N p t rs _ h1 h2 h3 h4 h5 (s1.trans (zf hp)) zd (h6.same (zf hp))]
inductive JOut(K:tF)(H:Hp)(k:Nat)(l:())(ns:List Int)(rs:List zK)(u v:())(r m:Nat)(p:tG):Prop where
 | alike (w:Bool) (es:List Ent) (i j:Nat) (S:tG) (hc:Cpl k l ns (r+1) [] (fEs rs rs.length) w es) (hb:BG k l ns es) (hi:zD (zc es) u i) (hj:zD (zc es) v j) (he:wAt (zc es) u i=wAt (zc es) v j) (hl:(qD es u v i j).length<=2000) (hp:H p=BJ (.tup [.str "alike",.ref S])) (hS:LsA K H S ((qD es u v i j).map dSt))
 | forms (es:List Ent) (i j:Nat) (D:tG) (hc:Cpl k l ns (r+1) [] (fEs rs rs.length) BL es) (hb:BG k l ns es) (hi:zD (zc es) u i) (hj:zD (zc es) v j) (hn:wAt (zc es) u i≠wAt (zc es) v j) (hp:H p=BJ (.tup [.str "forms",.ref D,⇑(wAt (zc es) u i),⇑(wAt (zc es) v j)])) (hD:EnsM K H D es)
 | world (w:Bool) (es:List Ent) (n N:Nat) (t:tG) (ts:List tG) (hc:Cpl k l ns (r+1) [] (fEs rs rs.length) w es) (hb:BG k l ns es) (hno:NoR es w u v) (h1:1<=n) (h2:n<=m) (h3:N<n ^ (n * l.length)) (h4:vt l (Yd n l.length N) rs u v=BL) (h5:Ear l rs u v n N) (hp:H p=BJ (.tup [.str "world",.ref t])) (ht:TabAt H t ts (Yd n l.length N))
 | open_ (w:Bool) (es:List Ent) (hc:Cpl k l ns (r+1) [] (fEs rs rs.length) w es) (hb:BG k l ns es) (hno:NoR es w u v) (h5:Ear l rs u v (m+1) 0) (hp:H p=BJ (.tup [.str "open"]))
def zff(K:tF)(CO CR CW TB CM:tG):Sp:=λvs H Q E=>∃(o a:tG) (k:Nat) (l:()) (ns:List Int) (rs:List zK) (u v:()) (r m:Nat),vs=[.ref o,.ref a,⇑u,⇑v,.int (r:Nat),.int (m:Nat)]/\OrdAt CO CR CW H o k l ns/\OG l ns k/\LsA K H a (rs.map dR)/\rs.length<=20/\RIn l rs/\u.length<=60/\v.length<=60/\(∀c ∈ u,c ∈ l)/\(∀c ∈ v,c ∈ l)/\r<=1000/\m<=8/\TabOk H TB lp lq/\(1000<m ^ (m * l.length)->E (.ref CM) BK H) /\
 (m ^ (m * l.length)<=1000->∀(p:tG) (H':Hp),SamT TB H H'->TabOk H' TB lp lq->JOut K H' k l ns rs u v r m p->Q (.ref p) H')
def JrV(K:tF)(H:Hp)(es:List Ent)(w:Bool)(u v:())(D:tG)(x:V):Prop:=(x=.non/\NoR es w u v)\/∃p:tG,x=.ref p/\((∃i j,w=BL/\zD (zc es) u i/\zD (zc es) v j/\wAt (zc es) u i≠wAt (zc es) v j/\H p=BJ (.tup [.str "forms",.ref D,⇑(wAt (zc es) u i),⇑(wAt (zc es) v j)]))\/∃i j S,zD (zc es) u i/\zD (zc es) v j/\wAt (zc es) u i=wAt (zc es) v j/\(qD es u v i j).length<=2000/\H p=BJ (.tup [.str "alike",.ref S])/\LsA K H S ((qD es u v i j).map dSt))
def oB:sQz 6 ["order","pacts","one","other","rounds","most","outcome","answer"] Zz:=by nofun
def J5{f CO CR CW TB CM:tG}(B:Bt mg)(TO:TOrd K mg CO CR CW)(TM:Qe K mg CM)(F:("judged"^^^Zz))(sr:(10<<<"completed") ["order","pacts","rounds"] [] (zbA K CO CR CW TB))(oZ:(6<<<"judged_by_roads") ["whole","kept","one","other"] [] (zbs K))(lx:(2<<<"tables_within") ["letters","rooms"] [] uC)(oE:(7<<<"judged_by_worlds") ["letters","pacts","one","other","most"] [] (zbv K)):(11|||["order","pacts","one","other","rounds","most"]) (zff K CO CR CW TB CM):=by
 exists Fun.okX F oB,0
 ·let#[o,a,k,l,ns,rs,u,v,r,m,rfl,ho,hG,hA,hrl,hrs,hul,hvl,hu,hv,hr',hm8,hTab,qe,q]:=h
  refine#[_,(zh (zJ (zX (yB (cl0 lx hr .nil rfl (za (ur (pv 0) rfl) (za (pv 5) ze))) (λZ=>rfl))) (zg (yf hx rfl TM.xi.toXC TM.ini rfl TM.g (za zP ze)))
    zp) (zh (zB 6 oB.nd (cl0 sr hr .nil rfl (za (pv 0) (za (pv 1) (za (pv 4) ze))))) (zh (zB 7 oB.nd (cl0 oZ hr .nil rfl (za (!-6) (za (!-6) (za (pv 2) (za (pv 3) ze)))))) (zh (zJ (zu op_isN' (pv 7) yh (zt _)) (zg (zk (cl0 oE hr .nil rfl (za (ur (pv 0) rfl) (za (pv 1) (za (pv 2) (za (pv 3) (za (pv 5) ze))))))))
    zp) (zg (zk (pv 7))))))),?_]
  have s16:=zU;let#[l1,l6,lsm,lnd]:=w9 hG.g;let#[C,dy,fs,hf,ho1,_,hlk]:=ho.fam
  have hC:Cls K C/\NoAttr K C "letters":=by
   rcases hf with rfl | rfl | rfl
   ·exact#[TO.cO,TO.lO]
   ·exact#[TO.cR,TO.lR]
   ·exact#[TO.cW,TO.lW]
  change m ^ (m * l.length)<=1000/\H'=H/\σ=%[!!o,!!a,~~~u,~~~v,-~~~r,-~~~m|2]
  ·rfl';refine#[_,_,_,ho1,hC.1,hC.2,_,hlk,Zf l6 hm8 ?_];by_cases hm:m ^ (m * l.length)<=1000
   ·rw[y3 hm];exact#[BL,rfl,kG #[hm,rfl]]
   ·rw[y4 hm];exact#[BM,rfl,yd (λZ=>#[⋯,qe ⋯]) λh=>y6 rfl h]
  rintro σ H1 ⟨hm,rfl,rfl⟩:_;have q:=q hm;right;change SamT TB H1 H'/\TabOk H' TB lp lq/\∃(w:Bool) (es:List Ent) (p D:tG),Cpl k l ns (r+1) [] (fEs rs rs.length) w es/\BG k l ns es/\H' p=BJ (.tup [.bl w,.ref D])/\EnsM K H' D es/\σ=[!!o,!!a,~~~u,~~~v,-~~~r,-~~~m,!!p,BK]
  ·rfl';exact#[o,a,k,l,ns,rs,r,rfl,ho,hG,hA,hrl,λp hp=>#[by have:=hrs p hp;lia,by have:=hrs p hp;lia,(hrs p hp).2.2],λp hp=>#[(hrs p hp).1,(hrs p hp).2.1],hr',hTab,λw es p D H' h1 h2 h3 h3' h4 h5=>#[h3,h3',w,es,h1,h2,p,D,h4,h5,rfl]]
  rintro σ H2 ⟨s2,hT2,w,es,p,D,hCp,hB,hp,hD,rfl⟩:_;let#[tbl,htb,_]:=id hTab;right;change Same H2 H'/\∃v7,JrV K H' es w u v D v7/\σ=[!!o,!!a,~~~u,~~~v,-~~~r,-~~~m,!!p,BJ (v7)]
  ·rfl';exact#[_,x4 hp,_,rfl,_,x4 hp,_,rfl,D,k,l,ns,es,w,u,v,rfl,hG,hD.l,hB,hul,hvl,λhno H' s'=>#[s',.inl #[rfl,hno]],λi j p H' hw hi hj hn s' h1=>#[s',.inr #[p,rfl,.inl #[i,j,hw,hi,hj,hn,h1]]],λi j p S H' hi hj hij s' h1 h2 h3=>#[s',.inr #[p,rfl,.inr #[i,j,S,hi,hj,hij,h3,h1,h2]]]]
  rintro σ H3 ⟨s3,v7,hv7,rfl⟩:_;have sT:=s2.trans (x8 s3);have hT3:=hT2.same s3;have hA3:=hA.samT sT htb;right;rcases hv7 with ⟨rfl,hno⟩ | ⟨p',rfl,hv7⟩
  ·refine kX (λZ Z=>False) ?_ λZ Z h=>h.elim;rfl';exact#[_,_,_,sT.at htb ho1 (λZ z=>by cases z),hC.1,hC.2,_,hlk,a,l,rs,u,v,m,rfl,hG.g,hA3,λp hp=>(hrs p hp).2.2,hu,hv,hm8,hm,λhE p H' s' h=>q p H' (sT.trans (x8 s')) (hT3.same s') (.open_ w es hCp hB hno hE h),λn N p t ts H' h1 h2 h3 h4 h5 s' h6 h7=>q p H' (sT.trans (x8 s')) (hT3.same s') (.world w es n N t ts hCp hB hno h1 h2 h3 h4 h5 h6 h7)]
  ·change H'=H3/\σ=[!!o,!!a,~~~u,~~~v,-~~~r,-~~~m,!!p,!!p']
   ·rfl'
   rintro σ H4 ⟨rfl,rfl⟩:0;rfl';refine q p' _ sT hT3 ?_;rcases hv7 with ⟨i,j,rfl,hi,hj,hn,h1⟩ | ⟨i,j,S,hi,hj,he,hl,h1,h2⟩
   ·exact .forms es i j D hCp hB hi hj hn h1 (hD.same s3)
   ·exact .alike w es i j S hCp hB hi hj he hl h1 h2
structure KXs(K:tF):Prop where
 ss:aN K (.type "str") (.type "str")=BJ BL
def JF(K:tF):Sp:=λvs H Q Z=>∃(a:tG) (es:List Ent),vs=[.ref a]/\Is K H (.lst (es.map dE)) (.ref a)/\Q (.bl BL) H
def pV:sQz 1 ["_law_found","_law_entry"] km:=by nofun
def UB(B:Bt mg)(T:TLs K)(TX:KXs K)(F:("_law_entries"^^^km))(rp:(2<<<"_law_steps") ["_law_found"] [] (ZQ K)):(3&&&["_law_found"]) (JF K):=by
 exists F.ok pV
 ·let#[a,es,rfl,hA,q]:=h
  refine#[_,(zh (zJ (zX (yB (yR rfl B.isi (pv 0) rfl B.list jb0) (λZ=>rfl))) (zg (zk yJ))
    zp) (zh (zW u5 rfl (yv (pv 0)) (zq (i:=1) pV.nd rfl (.inl rfl)) (zh (zJ (PW.pt (wA (zX (yB (yR rfl B.isi (pv 1) rfl B.tuple jc0) (λZ=>rfl))) (wA (zu qb (zF B.len (pv 1)) zb (zt _)) (xN (zX (yB (cl0 rp hr .nil rfl (za (!-1) ze)) (λZ=>rfl))))))) (zg (zk yJ))
     zp) (zg (zJ (PW.pt (wA (zX (yB (yR rfl B.isi (!-1) rfl B.str jb3) (λZ=>rfl))) (xN (zX (yB (yR rfl B.isi (!-1) rfl B.str jb3) (λZ=>rfl)))))) (zg (zk yJ))
     zp)))) (zg (zk yJ)))),?_]
  have s16:=zU;erw[Is]at hA;let#[_,xs,e,hX,hI]:=hA;cases e;change H'=H/\σ=[!!a,BK]
  ·rfl';exact#[_,.inr (.inr (.inl #[_,_,rfl,rfl,hX])),BL,T.ll,kG trivial]
  rintro σ H1 ⟨rfl,rfl⟩:0;change H'=H1/\∃v1,σ=[!!a,v1]
  ·rfl';refine#[#[_,hX],ja3 (xs:=xs) (λi σ H'=>H'=H1/\∃v1,σ=[!!a,v1]) #[rfl,_,rfl] (λi σ H' Z h=>by rw[h.1];exact hX) ?_ λσ H' h=>h];refine nm4 ?_;rintro i x σ H' hx ⟨rfl,v1,rfl⟩:_;let#[e,pe,se,hei,rfl,hqe,hse]:=WO hI hx;right;erw[yH,aX,aW];refine zj (λσ H''=>H''=H'/\σ=[!!a,!!pe]) ?_ ?_
   ·rfl';exact#[_,.inr (.inr (.inr #[_,_,rfl,rfl,hqe])),BL,T.tt,kG #[_,.inr #[_,hqe,rfl],yd (λh=>y6 rfl h) λZ=>#[_,hqe,_,rfl,se,e.2.2,rfl,hse,BL,rfl,kG rfl]]]
   rintro σ G ⟨rfl,rfl⟩:0;rfl';exact#[_,hqe,_,rfl,_,.inl (.str _),BL,TX.ss,kG #[_,hqe,_,rfl,_,.inl (.str _),BL,TX.ss,kG trivial]]
  rintro σ H2 ⟨rfl,v1,rfl⟩:0;rfl';exact q
def Q2(K:tF):Sp:=λvs H Q Z=>∃(t:tG) (rs:List tG) (tab:List (List Int)) (l:()),vs=[.ref t,.int (l.length:Nat)]/\TabAt H t rs tab/\xY l tab/\l.length<=6/\∀H',Same H H'->Q (.bl BL) H'
def zcm(h1:TabAt H t rs tab)(h2:xY l tab)(h3:l.length<=6)(q:∀H',Same H H'->Q (.bl BL) H'):Q2 K [.ref t,.int (l.length:Nat)] H Q E:=#[t,rs,tab,l,rfl,h1,h2,h3,q]
def pq:sQz 2 ["_law_table","_law_many","_law_row"] vF:=by nofun
def WE(B:Bt mg)(T:TLs K)(F:("_law_table_ok"^^^vF))(oV:(1<<<"_law_whole") ["_law_found"] [] uO):(2&&&["_law_table","_law_many"]) (Q2 K):=by
 exists F.ok pq
 ·let#[t,rs,tab,l,rfl,hT,hG,l6,q]:=h
  refine#[_,(zh (zJ (PW.pt (wA (zX (yB (yR rfl B.isi (pv 0) rfl B.list jb0) (λZ=>rfl))) (xN (zu V5 (zF B.len (pv 0)) zb (zt _))))) (zg (zk yJ))
    zp) (zh (zW u5 rfl (yv (pv 0)) (zq (i:=2) pq.nd rfl (.inl rfl)) (zh (zJ (PW.pt (wA (zX (yB (yR rfl B.isi (pv 2) rfl B.list jb0) (λZ=>rfl))) (xN (zu qb (zF B.len (pv 2)) (pv 1) (zt _))))) (zg (zk yJ))
     zp) (zg (zJ (zX (yB (xg (zg3 rfl) rfl B.all PyProof.Rows.boot_all (za (xB (own:=["_law_room"]) (caps:=["_law_table"]) (ix:=[0]) (tt:=wP) (te:=(VU (uZ uO [] E0 (zO (ym 0) xI)) (Zo zfT zfX (tC (.int 0)) (ym 0) (tCB (Uf K) (zO (ym 1) xI))))) rfl (zS (sc:=zi vF) rfl (!0) (!0) (!0) rfl (!0) (!0) rfl) (yv (pv 2)) (λZ Z Z Z Z Z=>zq (i:=0) (show List.Nodup [_,_] by decide) rfl (.inl rfl)) (λZ Z Z Z Z Z=>yP) (λZ Z Z Z Z Z=>(vN (cl0 oV hr .nil rfl (za (pv 0) ze)) (vP (WZ xu QF zb (pv 0) (zF B.len (pv 1))))))) ze)) (λZ=>rfl))) (zg (zk yJ))
     zp)))) (zg (zk yJ)))),?_]
  have s16:=zU;have hlo:=hG.lo;have hhi:=hG.hi;have hln:=hT.len;change H'=H/\σ=[!!t,BJ (.int (l.length:Nat)),BK]
  ·rfl';exact#[_,.inr (.inr (.inl #[_,_,rfl,rfl,x6 hT.top])),BL,T.ll,kG #[_,.inl #[_,x6 hT.top,rfl],yd (λh=>by rw[aa]at h;lia) λZ=>trivial]]
  rintro σ H1 ⟨rfl,rfl⟩:0;change Same H1 H'/\∃v2,σ=[!!t,BJ (.int (l.length:Nat)),v2]
  ·rfl';refine#[#[_,x6 hT.top],ja3 (xs:=rs.map V.ref) (λi σ H'=>Same H1 H'/\∃v2,σ=[!!t,BJ (.int (l.length:Nat)),v2]) #[x9 _,_,rfl] (λi σ H' Z h=>x6 (h.1 _ _ hT.top)) ?_ λσ H' h=>h];refine nm4 ?_;rintro i x σ H' hx ⟨hs,v2,rfl⟩:_;rw[au]at hx;let#[r,hr,rfl]:=BW.mp hx;have hil:=(BP.mp hr).1;have hy:tab[i]? = BJ (tab[i]'⋯):=ah ⋯;right;generalize tab[i]'⋯=y at hy;have hym:=ag hy;have hR:=hs _ _ (hT.row i r y hr hy);erw[yH,aX,aW];refine zj (λσ G=>G=H'/\σ=[!!t,BJ (.int (l.length:Nat)),!!r]) ?_ ?_
   ·rfl';exact#[_,.inr (.inr (.inl #[_,_,rfl,rfl,x6 hR])),BL,T.ll,kG #[_,.inl #[_,x6 hR,rfl],yd (λh=>y6 (by rw[aa,hG.wd y hym]) h) λZ=>trivial]]
   rintro σ H2 ⟨rfl,rfl⟩:0;rfl';refine#[#[_,x6 hR],λD hD=>jb1 (xs:=y.map V.int) (λi acc G=>Same H2 G/\G D=BJ (.lst acc)/\acc=ay i (V.bl BL)) #[zf hD,zd,rfl] (λi acc G Z h=>x6 (h.1 _ _ hR)) ?_ ?_]
   ·refine nm4 ?_;rintro n x acc G hx ⟨hs2,hH,rfl⟩:_;rw[au]at hx;let#[z,hz,rfl]:=BW.mp hx;have hzl:=(BP.mp hz).1;have hzb:=hG.rm y hym z (ag hz);have hyl:=hG.wd y hym;right;erw[wP];rfl';have ht2:=hs2 _ _ (hs _ _ hT.top);refine#[xH,jB #[BL,rfl,zfl (yd (λZ=>#[_,.inl #[_,x6 ht2,rfl],hH,by rw[bj];lia,ja0 (by rw[aa];exact hzl) #[zI hs2 hD,zd,?_]]) λh=>y6 hzb.1 h)]];rw[aa,y3 ⋯,List.replicate_succ']
   ·refine nmB ?_;rintro acc G ⟨hs2,hH,rfl⟩:0;refine#[D,ay y.length BL,rfl,?_,?_]
    ·rw[dP,aa]at *;exact x6 hH
    ·have e:(ay y.length BL).all id=BL:=by simp
     rw[e];exact#[BL,rfl,kG (hs.trans hs2)]
  rintro σ H2 ⟨s2,v2,rfl⟩:0;rfl';exact q _ s2
structure TAn(K:tF):Prop where
 tt:aN K (.type "tuple") (.type "tuple")=BJ BL
 ss:aN K (.type "str") (.type "str")=BJ BL
inductive AnsJ(K:tF)(H:Hp)(l:())(p:tG):Prop where
 | open_ (h:H p=BJ (.tup [.str "open"]))
 | alike (S:tG) (ss:List Stp) (h:H p=BJ (.tup [.str "alike",.ref S])) (hS:LsA K H S (ss.map dSt))
 | forms (D:tG) (es:List Ent) (f g:()) (h:H p=BJ (.tup [.str "forms",.ref D,⇑f,⇑g])) (hD:EnsM K H D es)
 | world (t:tG) (ts:List tG) (tab:List (List Int)) (h:H p=BJ (.tup [.str "world",.ref t])) (ht:TabAt H t ts tab) (hG:xY l tab)
theorem JOut.ans(h:JOut K H k l ns rs u v r m p)(hm:m<=8):AnsJ K H l p:=by
 cases h with
 | alike w es i j S hc hb hi hj he hl hp hS=>exact .alike S _ hp hS
 | forms es i j D hc hb hi hj hn hp hD=>exact .forms D es _ _ hp hD
 | world w es n N t ts hc hb hno h1 h2 h3 h4 h5 hp ht=>exact .world t ts _ hp ht (Yk N h1 ⋯)
 | open_ w es hc hb hno h5 hp=>exact .open_ hp
def Yi(K:tF):Sp:=λvs H Q Z=>∃(p:tG) (l:()),vs=[.ref p,.int (l.length:Nat)]/\l.length<=6/\AnsJ K H l p/\∀H',Same H H'->Q (.bl BL) H'
def J9:sQz 2 ["_law_found","_law_many"] Yn:=by nofun
def Qw(B:Bt mg)(T:TAn K)(F:("_law_answer"^^^Yn))(rp:(2<<<"_law_steps") ["_law_found"] [] (ZQ K))(sC:(2<<<"_law_table_ok") ["_law_table","_law_many"] [] (Q2 K))(sI:(3<<<"_law_entries") ["_law_found"] [] (JF K)):(4&&&["_law_found","_law_many"]) (Yi K):=by
 exists F.ok J9
 ·let#[p,l,rfl,l6,hA,q]:=h
  refine#[_,(zh (zJ (PW.pt (wA (zX (yB (yR rfl B.isi (pv 0) rfl B.tuple jc0) (λZ=>rfl))) (wA (zu QF (zF B.len (pv 0)) zb (zt _)) (xN (zX (yB (yR rfl B.isi (!-0) rfl B.str jb3) (λZ=>rfl))))))) (zg (zk yJ))
    zp) (zh (zJ (zu yQ (!-0) zP (zt _)) (zg (zk (vN (ya yQ (zF B.len (pv 0)) zb (zt _)) (vP (cl0 rp hr .nil rfl (za (!-0) ze))))))
    zp) (zh (zJ (zu yQ (!-0) zP (zt _)) (zh (zJ (PW.pt (wA (zu qb (zF B.len (pv 0)) zb (zt _)) (xN (zX (yB (cl0 sI hr .nil rfl (za (!-0) ze)) (λZ=>rfl)))))) (zg (zk yJ))
     zp) (zg (zk (vN (yR rfl B.isi (!-0) rfl B.str jb3) (vP (yR rfl B.isi (!-0) rfl B.str jb3))))))
    zp) (zh (zJ (zu yQ (!-0) zP (zt _)) (zg (zk (vN (ya yQ (zF B.len (pv 0)) zb (zt _)) (vP (cl0 sC hr .nil rfl (za (!-0) (za (pv 1) ze)))))))
    zp) (zg (zk (ya (YY (ud hr)) (pv 0) (zN (za zP ze)) (zt _)))))))),?_]
  have s16:=zU;change H'=H/\σ=[!!p,BJ (.int (l.length:Nat))]
  ·rfl'
   have key:∀(a:tK) (xs:List V),H p=BJ (.tup (.str a::xs))->∃x,TyX K H (.ref p) x/\∃x_1,aN K x (.type "tuple")=BJ x_1/\if x_1=BM then Q (.bl BM) H else ∃x,((∃xs,SqL K H p xs/\x=xs.length)\/∃xs,SqT K H p xs/\x=xs.length)/\if (x:Int)<1 then Q (.bl BM) H else ∃xs,SqT K H p xs/\∃v,atI xs 0=BJ v/\∃x,TyX K H v x/\∃x_2,aN K x (.type "str")=BJ x_2/\if x_2=BM then Q (.bl BM) H else True:=λa xs h =>
    #[_,.inr (.inr (.inr #[_,_,rfl,rfl,x4 h])),BL,T.tt,kG #[_,.inr #[_,x4 h,rfl],yd (λz=>by rw[aF]at z;lia) λZ=>#[_,x4 h,.str a,vW (j:=0) rfl,_,.inl (.str _),BL,T.ss,kG trivial]]]
   cases hA with
   | open_ h=>exact key _ _ h
   | alike S ss h hS=>exact key _ _ h
   | forms D es f g h hD=>exact key _ _ h
   | world t ts tab h ht hG=>exact key _ _ h
  rintro σ H1 ⟨rfl,rfl⟩:_;have skip:∀{a b:tK} {xs:List V} {A:Prop} {B:Prop},H1 p=BJ (.tup (.str a::xs))->a≠b->B->∃xs,SqT K H1 p xs/\∃v,atI xs 0=BJ v/\Kf v (.str b)=BL/\if v=.str b then A else B:=λ{a b xs A B} h hne hB=>#[_,x4 h,.str a,vW (j:=0) rfl,rfl,yd (λz=>y6 (V.str.inj z) hne) λZ=>hB];right
  cases hA with
  | alike S ss h hS =>
   refine kX (λZ Z=>False) ?_ λZ Z h=>h.elim;rfl';exact#[_,x4 h,_,rfl,rfl,yd (λZ=>#[_,.inr #[_,x4 h,rfl],yd (λZ=>#[_,x4 h,_,rfl,S,ss,rfl,hS.is,q _ (x9 _)]) λz=>y6 rfl z]) λz=>y6 rfl z]
  | forms D es f g h hD =>
   change H'=H1/\σ=[!!p,BJ (.int (l.length:Nat))]
   ·rfl';exact skip h ∅ trivial
   rintro σ H2 ⟨rfl,rfl⟩:0;refine kX (λZ Z=>False) ?_ λZ Z h=>h.elim;rfl';refine#[_,x4 h,_,rfl,rfl,yd (λZ=>?_) λz=>y6 rfl z];change H'=H2/\σ=[!!p,BJ (.int (l.length:Nat))]
   ·rfl';exact#[_,.inr #[_,x4 h,rfl],yd (λz=>y6 rfl z) λZ=>#[_,x4 h,_,rfl,D,es,rfl,hD.l.is,BL,rfl,kG rfl]]
   rintro σ H3 ⟨rfl,rfl⟩:0;rfl';exact#[_,x4 h,_,rfl,_,.inl (.str _),BL,T.ss,zfl #[_,x4 h,_,rfl,_,.inl (.str _),BL,T.ss,q _ (x9 _)]]
  | world t ts tab h ht hG =>
   change H'=H1/\σ=[!!p,BJ (.int (l.length:Nat))]
   ·rfl';exact skip h ∅ trivial
   rintro σ H2 ⟨rfl,rfl⟩:0;change H'=H2/\σ=[!!p,BJ (.int (l.length:Nat))]
   ·rfl';exact skip h ∅ trivial
   rintro σ H3 ⟨rfl,rfl⟩:0;refine kX (λZ Z=>False) ?_ λZ Z h=>h.elim;rfl';exact#[_,x4 h,_,rfl,rfl,yd (λZ=>#[_,.inr #[_,x4 h,rfl],yd (λZ=>#[_,x4 h,_,rfl,zcm ht hG l6 q]) λz=>y6 rfl z]) λz=>y6 rfl z]
  | open_ h =>
   change H'=H1/\σ=[!!p,BJ (.int (l.length:Nat))]
   ·rfl';exact skip h ∅ trivial
   rintro σ H2 ⟨rfl,rfl⟩:0;change H'=H2/\σ=[!!p,BJ (.int (l.length:Nat))]
   ·rfl';exact skip h ∅ trivial
   rintro σ H3 ⟨rfl,rfl⟩:0;change H'=H3/\σ=[!!p,BJ (.int (l.length:Nat))]
   ·rfl';exact skip h ∅ trivial
   rintro σ H4 ⟨rfl,rfl⟩:0;rfl';refine#[⋯,λp1 hp1=>jP (l:=[.str "open"]) (m:=[.str "open"]) (.inr #[?_,?_]) ∅ ?_]
   ·erw[Is,Iss];exact#[_,_,rfl,x4 (zf hp1 _ _ h),_,_,rfl,rfl,rfl]
   ·erw[Is,Iss];exact#[_,_,rfl,x4 zd,_,_,rfl,rfl,rfl]
   ·rw[xm];exact q _ (zf hp1)
abbrev Inj(f:Nat->Nat):Prop:=∀a b,f a=f b->a=b
end
section
mutual section
variable{f:Nat->Nat}
def mp(f:Nat->Nat)(p:zK):zK:=(p.1.map f,p.2.map f)
theorem vT(hf:Inj f):∀{u v:()},u.map f=v.map f ↔ u=v
 | [],[]=>#[λZ=>rfl,λZ=>rfl]
 | [],b::v=>#[(nomatch ·),(nomatch ·)]
 | a::u,[]=>#[(nomatch ·),(nomatch ·)]
 | a::u,b::v=>by
  rw[ao,ao,List.cons.injEq,List.cons.injEq,vT hf];exact#[λh=>#[hf _ _ h.1,h.2],λh=>#[by rw[h.1],h.2]]
def ze3(hf:Inj f):mp f p=mp f q ↔ p=q:=by unfold mp;rw[Prod.mk.injEq,vT hf,vT hf];exact#[λh=>Prod.ext h.1 h.2,λh=>#[by rw[h],by rw[h]]]
theorem Jf(hf:Inj f):∀{u v:List zK},u.map (mp f)=v.map (mp f) ↔ u=v
 | [],[]=>#[λZ=>rfl,λZ=>rfl]
 | [],b::v=>#[(nomatch ·),(nomatch ·)]
 | a::u,[]=>#[(nomatch ·),(nomatch ·)]
 | a::u,b::v=>by
  rw[ao,ao,List.cons.injEq,List.cons.injEq,Jf hf,ze3 hf]
def K5(ps:List zK)(n:Nat):(ps.map (mp f)).getD n ([],[])=mp f (ps.getD n ([],[])):=by rw[ac,ac,au];cases ps[n]? <;> rfl
def zh6(hf:Inj f)(w p:())(q:Int):zv (w.map f) q (p.map f)=zv w q p:=by unfold zv;rw[aa,aa,<- d5,<- d4];exact decide_eq_decide.mpr #[λh=>#[h.1,h.2.1,(vT hf).mp h.2.2],λh=>#[h.1,h.2.1,(vT hf).mpr h.2.2]]
def Wj(hf:Inj f)(w:())(ps:List zK):zC (w.map f) (ps.map (mp f))=zC w ps:=by
 have e:∀q,stJ (w.map f) (ps.map (mp f)) q=stJ w ps q:=λq=>funext λj=>by
  unfold stJ;rw[au]
  cases ps[j]? with
  | none=>rfl
  | some p=>exact zh6 hf _ _ _
 unfold zC xp vG;erw[e,aa]
def KG(w o n:())(k:Int):yZ (w.map f) k (o.map f) (n.map f)=(yZ w k o n).map f:=by unfold yZ;rw[ar,ar,d4,d5,aa]
def zhI(ps:List zK)(i:Nat):lf (ps.map (mp f)) i=(lf ps i).map f:=by unfold lf;rw[K5];rfl
def zhZ(hf:Inj f)(ps:List zK)(m:Nat):ovA (ps.map (mp f)) m=ovA ps m:=by unfold ovA ovI Xl xM;simp only[zhI,aa,<- d5,<- d4,vT hf]
def zhY(ps:List zK)(t:N3):pkA (ps.map (mp f)) t=(pkA ps t).map f/\pkB (ps.map (mp f)) t=(pkB ps t).map f:=by unfold pkA pkB yD;simp only[zhI,K5,aa,<- d5,<- ar];exact#[KG _ _ _ _,KG _ _ _ _]
theorem zgP(hf:Inj f)(l:())(c:Nat):(l.map f).idxOf (f c)=l.idxOf c:=by
 induction l with
 | nil=>rfl
 | cons a l ih =>
  rw[ao,fJ,fJ,ih];by_cases e:a=c
  ·subst e;simp
  ·rw[beq_eq_false_iff_ne.mpr λh=>e (hf _ _ h),beq_eq_false_iff_ne.mpr e]
end
end
end in abbrev EL:=zK × Nat
end in def elE(e:Ent):EL:=((e.1,e.2.1),e.2.2.length)
end in def elL(es:List Ent):List EL:=es.map elE
end in def mE(f:Nat->Nat)(e:EL):EL:=(mp f e.1,e.2)
end in def rdX(ps:List zK):Nat->()->Option (() × ())
 | 0,w=>match zC w ps with
  | none=>BJ ([],w)
  | some _=>BK
 | m+1,w=>match zC w ps with
  | none=>BJ ([],w)
  | some u=>(rdX ps m (qr w ps u)).map λx=>(u.1::x.1,x.2)
end in def lnX(bs:List EL)(ks:()):Nat:=(ks.map λk=>(bs.getD k (([],[]),0)).2).sum
section
variable(dm:()->Bool)(lt:()->()->Bool)
end in def X1(e:EL):EL:=if lt e.1.2 e.1.1=BL then e else ((e.1.2,e.1.1),e.2)
end in def QE(es:List EL):List EL:=(es.filter λe=>!decide (e.1.1=e.1.2)).map (X1 lt)
end in def Ut(a b:EL):Bool:=if a.1.1=b.1.1 then lt a.1.2 b.1.2 else lt a.1.1 b.1.1
end in def zhH(p:EL):List EL->List EL
 | []=>[p]
 | q::r=>if Ut lt q p=BL then q::zhH p r else p::q::r
end in def zeo(ps:List EL):List EL:=ps.foldr (zhH lt) []
end in def zd0(ps zs:List EL):Bool:=zs.isPerm ps && decide (zs.Pairwise λa b=>Ut lt b a=BM) && (zs.all λa=>zs.all λb=>Ut lt a b || Ut lt b a || decide (a=b)) && zs.all λe=>dm e.1.1 && dm e.1.2
end in def zbO:List EL->List EL->Option (Option (List EL))
 | bs,[]=>BJ (BJ bs)
 | bs,e::es=>match rdX (bs.map Prod.fst) 40 e.1.1,rdX (bs.map Prod.fst) 40 e.1.2 with
  | some x,BJ y=>if x.2=y.2 then zbO bs es else
    if 240<lnX bs x.1+e.2+lnX bs y.1\/60<x.2.length\/60<y.2.length then BJ BK else
    if dm x.2 && dm y.2 then zbO (bs ++ [X1 lt ((x.2,y.2),lnX bs x.1+e.2+lnX bs y.1)]) es else BK
  | _,_=>BJ BK
end in def zd3:Nat->List EL->Option (Option (List EL))
 | 0,_=>BJ BK
 | n+1,es=>if zd0 dm lt (QE lt es) (zeo lt (QE lt es))=BL then
   match zbO dm lt [] (zeo lt (QE lt es))with
   | none=>BK
   | some BK=>BJ BK
   | some (BJ bs)=>if bs.map Prod.fst=(zeo lt (QE lt es)).map Prod.fst then BJ (BJ bs)else zd3 n bs
  else BK
end in def zdY(ps:List zK):Bool:=decide (12<ps.length) || ps.any λe=>decide (10<max e.1.length e.2.length)
end in def unX(ps:List zK):Option (List N3) :=
 if (ovA ps ps.length).all (λt=>(rdX ps 40 (pkA ps t)).isSome && (rdX ps 40 (pkB ps t)).isSome)=BL then
  BJ ((ovA ps ps.length).filter λt=>!decide ((rdX ps 40 (pkA ps t)).map Prod.snd=(rdX ps 40 (pkB ps t)).map Prod.snd))else BK
end in def KR:Nat->List EL->List EL->Option (Bool × List EL)
 | 0,kept,_=>BJ (BM,kept)
 | n+1,kept,fresh=>match zd3 dm lt 20 fresh with
  | none=>BK
  | some BK=>BJ (BM,kept)
  | some (BJ bs)=>if zdY (bs.map Prod.fst)=BL then BJ (BM,kept)else
   match unX (bs.map Prod.fst)with
   | none=>BJ (BM,bs)
   | some ts=>if ts=[]then BJ (BL,bs)else KR n bs (bs ++ (ts.take 8).map λt=>((pkA (bs.map Prod.fst) t,pkB (bs.map Prod.fst) t),lnX bs [t.1,t.2.1]))
end
theorem wm{w:()}(h:zC w ps=BJ u):∀i,wAt ps w (i+1)=wAt ps (qr w ps u) i
 | 0=>wB (j:=0) h
 | i+1=>by
  show Xw ps (wAt ps w (i+1))=Xw ps _;rw[wm h i]
def Q8{w:()}(h:zC w ps=BJ u)(i:Nat):sAt ps w (i+1)=u::sAt ps (qr w ps u) i:=by
 unfold sAt;rw[cU,ao,bc];congr 1
 ·show (zC w ps).getD (0,0)=u;rw[h];rfl
 ·refine bp λj Z=>?_;show (zC (wAt ps w (j+1)) ps).getD (0,0)=_;rw[wm h]
theorem W7 : ∀{m i:Nat} {w:()},VH ps w i->zC (wAt ps w i) ps=BK->i ≤ m->rdX ps m w=BJ ((sAt ps w i).map Prod.fst,wAt ps w i)
 | m,0,w,_,h,_=>by
  have h':zC w ps=BK:=h;cases m <;> (unfold rdX;rw[h'];rfl)
 | 0,i+1,w,_,_,h=>y6 h ⋯
 | m+1,i+1,w,hL,h,hi=>by
  cases e:zC w ps with
  | none=>exact y6 e (hL 0 ⋯)
  | some u =>
   unfold rdX;rw[e];simp only;rw[W7 (m:=m) (i:=i) (w:=qr w ps u) (λj hj=>by rw[<- wm e];exact hL (j+1) ⋯) (by rw[<- wm e];exact h) ⋯,Q8 e,wm e];rfl
theorem zbC : ∀{m:Nat} {w:()},(∀i ≤ m,zC (wAt ps w i) ps≠BK)->rdX ps m w=BK
 | 0,w,h=>by
  unfold rdX
  cases e:zC w ps with
  | none=>exact y6 e (h 0 (ak _))
  | some u=>rfl
 | m+1,w,h=>by
  unfold rdX
  cases e:zC w ps with
  | none=>exact y6 e (h 0 (ax _))
  | some u =>
   simp only;rw[zbC (m:=m) λi hi=>by rw[<- wm e];exact h (i+1) ⋯];rfl
theorem jj(ps:List zK)(m:Nat)(w:()):rdX ps m w=(goJ ps m w).map λi=>((sAt ps w i).map Prod.fst,wAt ps w i):=by
 cases e:goJ ps m w with
 | none=>exact zbC λi hi=>ZF e i hi
 | some i =>
  let#[h1,h2,h3]:=uF e;exact W7 h2 h3 h1
theorem zch{w:()}(h:zD ps w i):goJ ps 40 w=BJ i:=by
 cases e:goJ ps 40 w with
 | none=>exact y6 h.end_ (ZF e i h.most)
 | some j =>
  let#[_,h2,h3]:=uF e;rw[uK h2 h3 h.live h.end_]
theorem ze6{w:()}(h:∀i,¬ zD ps w i):goJ ps 40 w=BK:=by
 cases e:goJ ps 40 w with
 | none=>rfl
 | some i =>
  let#[h1,h2,h3]:=uF e;exact y6 #[h2,h3,h1] (h i)
theorem qo(es:List Ent):∀us:List Stp,(byL es us).length=(us.map λu=>(es.getD u.1.toNat ([],[],[])).2.2.length).sum
 | []=>rfl
 | u::us=>by
  have ih:=qo es us;unfold byL at ih ⊢;rw[dX,am,ao,aQ,ih];congr 1;unfold VI;rw[Xr];split
  ·rfl
  ·exact yK _
theorem ze1(es:List Ent)(f:Nat->Nat)(B:List EL)(hB:elL es=B.map (mE f))(n:Nat):(es.getD n ([],[],[])).2.2.length=(B.getD n (([],[]),0)).2:=by
 have h:=congrArg (λz=>z[n]?) hB;erw[elL,au]at h;rw[ac,ac]
 cases e1:es[n]? with
 | none =>
  rw[e1]at h
  cases e2:B[n]? with
  | none=>rfl
  | some y=>rw[e2]at h;cases h
 | some x =>
  rw[e1]at h
  cases e2:B[n]? with
  | none=>rw[e2]at h;cases h
  | some y =>
   rw[e2]at h;have:=Option.some.inj h;exact congrArg Prod.snd this
def Ux(hB:elL es=B.map (mE f))(us:List (Nat × Nat)):(byL es (stS us)).length=lnX B (us.map Prod.fst)/\(byL es (yI (stS us))).length=lnX B (us.map Prod.fst):=by
 have key:(byL es (stS us)).length=lnX B (us.map Prod.fst):=by
  rw[qo];unfold stS lnX;rw[bc,bc];congr 1;exact bp λu Z=>ze1 es f B hB u.1
 refine#[key,?_];rw[<- key,qo,qo];unfold yI;rw[bc];exact ((List.reverse_perm (stS us)).map _).sum_nat
abbrev LtX(dm:()->Bool)(lt:()->()->Bool)(f:Nat->Nat)(k:Nat)(l:())(ns:List Int):Prop:=∀u v,dm u=BL->dm v=BL->zM k l ns (u.map f) (v.map f)=lt u v
section
variable{f:Nat->Nat}{dm:()->Bool}{lt:()->()->Bool}{k:Nat}{l:()}{ns:List Int}
def zga(ps:List zK)(w:())(u:Nat × Nat):qr (w.map f) (ps.map (mp f)) u=(qr w ps u).map f:=by unfold qr Zp;rw[K5];exact KG _ _ _ _
theorem zcX(hf:Inj f)(ps:List zK):∀(m:Nat) (w:()),rdX (ps.map (mp f)) m (w.map f)=(rdX ps m w).map λx=>(x.1,x.2.map f)
 | 0,w=>by
  unfold rdX;rw[Wj hf];cases zC w ps <;> rfl
 | m+1,w=>by
  unfold rdX;rw[Wj hf]
  cases zC w ps with
  | none=>rfl
  | some u =>
   simp only;rw[zga,zcX hf ps m];cases rdX ps m (qr w ps u) <;> rfl
def wV{B:List EL}(h:elL es=B.map (mE f)):zc es=(B.map Prod.fst).map (mp f):=by have:=congrArg (List.map Prod.fst) h;unfold elL at this;rw[bc,bc]at this;rw[bc];exact this
def Qb(hlt:LtX dm lt f k l ns)(h:elE e=mE f x)(h1:dm x.1.1=BL)(h2:dm x.1.2=BL):elE (yw k l ns e)=mE f (X1 lt x):=by
 have e1:e.1=x.1.1.map f:=congrArg (λz:EL=>z.1.1) h;have e2:e.2.1=x.1.2.map f:=congrArg (λz:EL=>z.1.2) h;have e3:e.2.2.length=x.2:=congrArg (λz:EL=>z.2) h;unfold yw X1;rw[e1,e2,hlt _ _ h2 h1];split
 ·exact h
 ·show ((_,_),(yI e.2.2).length)=_;rw[yK,e3];rfl
theorem zaI(hf:Inj f)(hlt:LtX dm lt f k l ns):∀{es:List Ent} {F:List EL},elL es=F.map (mE f)->(∀z ∈ QE lt F,dm z.1.1=BL/\dm z.1.2=BL)->(ql k l ns es).map elE=(QE lt F).map (mE f)
 | [],[],_,_=>rfl
 | [],_::_,h,_=>nomatch h
 | _::_,[],h,_=>nomatch h
 | e::es,x::F,h,hd=>by
  have h0:elE e=mE f x:=(List.cons.inj h).1;have e1:e.1=x.1.1.map f:=congrArg (λz:EL=>z.1.1) h0;have e2:e.2.1=x.1.2.map f:=congrArg (λz:EL=>z.1.2) h0
  have hq:decide (e.1=e.2.1)=decide (x.1.1=x.1.2):=by
   rw[e1,e2];exact decide_eq_decide.mpr (vT hf)
  have ih:=zaI hf hlt (es:=es) (F:=F) (List.cons.inj h).2;unfold ql QE at ih ⊢;unfold QE at hd
  cases hx:decide (x.1.1=x.1.2)with
  | true =>
   rw[cQ (by simp [hq,hx]),cQ (by simp [hx])];rw[cQ (by simp [hx])]at hd;exact ih hd
  | false =>
   rw[cr (by simp [hq,hx]),cr (by simp [hx]),ao,ao,ao,ao,ih λz hz=>hd z (by rw[cr (by simp [hx])];exact aw _ hz)];congr 1;have:=hd (X1 lt x) (by rw[cr (by simp [hx])];exact aC);unfold X1 at this;split at this
   ·exact Qb hlt h0 this.1 this.2
   ·exact Qb hlt h0 this.2 this.1
abbrev FrX(dm:()->Bool)(lt:()->()->Bool)(f:Nat->Nat)(k:Nat)(l:())(ns:List Int)(es:List Ent)(F:List EL):Prop:=zd0 dm lt (QE lt F) (zeo lt (QE lt F))=BL->((ql k l ns es).map elE).Perm ((QE lt F).map (mE f))
def Wv(hf:Inj f)(hlt:LtX dm lt f k l ns)(hr:((ql k l ns es).map elE).Perm (F.map (mE f)))(h:Lined k l ns es zs)(hk:zd0 dm lt F ys=BL):elL zs=ys.map (mE f):=by
 unfold zd0 at hk;rw[aU,aU,aU]at hk;let#[#[#[h1,h2],h3],h4]:=hk
 have hdm:∀e ∈ ys,dm e.1.1=BL/\dm e.1.2=BL:=λe he=>by
  have:=BZ.mp h4 e he
  rwa [aU]at this
 have hless:∀a ∈ ys,∀b ∈ ys,(if (mE f a).1.1=(mE f b).1.1 then zM k l ns (mE f a).1.2 (mE f b).1.2 else zM k l ns (mE f a).1.1 (mE f b).1.1)=Ut lt a b:=λa ha b hb=>by
  unfold Ut;show (if a.1.1.map f=b.1.1.map f then zM k l ns (a.1.2.map f) (b.1.2.map f)else zM k l ns (a.1.1.map f) (b.1.1.map f))=_;erw[vT hf,hlt _ _ (hdm a ha).1 (hdm b hb).1,hlt _ _ (hdm a ha).2 (hdm b hb).2]
 have hp:(elL zs).Perm (ys.map (mE f)):=(h.perm.map elE).trans (hr.trans ((Cr.mp h1).symm.map _));refine List.Perm.eq_of_pairwise (le:=λa b:EL=>(if b.1.1=a.1.1 then zM k l ns b.1.2 a.1.2 else zM k l ns b.1.1 a.1.1)=BM) (λa b ha hb g1 g2=>?_) (Cs.mpr h.srt) ?_ hp
 ·let#[a',ha',rfl]:=BQ.mp (hp.mem_iff.mp ha);let#[b',hb',rfl]:=BQ.mp hb;rw[hless b' hb' a' ha']at g1;rw[hless a' ha' b' hb']at g2;have:=BZ.mp (BZ.mp h3 a' ha') b' hb';rw[g1,g2]at this;rw[show a'=b' by simpa using this]
 ·refine Cs.mpr (List.Pairwise.imp_of_mem (λ{a b} ha hb g=>?_) (w9 h2));rw[hless b hb a ha];exact g
def zdp(hk:zd0 dm lt F (zeo lt F)=BL):∀z ∈ F,dm z.1.1=BL/\dm z.1.2=BL:=λz hz=>by
 unfold zd0 at hk;rw[aU,aU,aU]at hk;let#[#[#[h1,_],_],h4]:=hk;have:=BZ.mp h4 z ((Cr.mp h1).mem_iff.mpr hz)
 rwa [aU]at this
set_option tactic.hygienic true in
theorem UT(hf:Inj f)(hlt:LtX dm lt f k l ns)(h:xv k l ns bs es r):∀{B E:List EL} {x:Option (List EL)},elL bs=B.map (mE f)->elL es=E.map (mE f)->zbO dm lt B E=BJ x->r.map elL=x.map λz=>z.map (mE f):=by
 have road:∀{bs:List Ent} {B:List EL} (hB:elL bs=B.map (mE f)) {w u:()} {i:Nat} (hw:w=u.map f),zD (zc bs) w i->∃x,rdX (B.map Prod.fst) 40 u=BJ x/\wAt (zc bs) w i=x.2.map f/\(sAt (zc bs) w i).map Prod.fst=x.1:=λ{bs B} hB {w u i} hw hE=>by
  have e:=jj (zc bs) 40 w;rw[zch hE,wV hB,hw,zcX hf]at e
  cases hx:rdX (B.map Prod.fst) 40 u with
  | none=>rw[hx]at e;cases e
  | some x =>
   rw[hx]at e;have e:=Option.some.inj e;refine#[x,rfl,?_,?_]
   ·rw[wV hB,hw];exact (congrArg Prod.snd e).symm
   ·rw[wV hB,hw];exact (congrArg Prod.fst e).symm
 have noroad:∀{bs:List Ent} {B:List EL} (hB:elL bs=B.map (mE f)) {w u:()} (hw:w=u.map f),(∀i,¬ zD (zc bs) w i)->rdX (B.map Prod.fst) 40 u=BK:=λ{bs B} hB {w u} hw hE=>by
  have e:=jj (zc bs) 40 w;rw[ze6 hE,wV hB,hw,zcX hf]at e
  cases hx:rdX (B.map Prod.fst) 40 u with
  | none=>rfl
  | some x=>rw[hx]at e;cases e
 induction h with
 | nil bs =>
  intro B E x hB hE hx
  cases E with
  | cons _ _=>cases hE
  | nil=>cases hx;show BJ _=BJ _;rw[hB]
 | @same bs es e i j r h1 h2 h3 h4 ih =>
  intro B E x hB hE hx
  cases E with
  | nil=>cases hE
  | cons y E =>
   have h0:=(List.cons.inj hE).1;have y1:e.1=y.1.1.map f:=congrArg (λz:EL=>z.1.1) h0;have y2:e.2.1=y.1.2.map f:=congrArg (λz:EL=>z.1.2) h0;let#[a,ha,a1,a2]:=road hB y1 h1;let#[b,hb,b1,b2]:=road hB y2 h2;unfold zbO at hx;rw[ha,hb]at hx;erw[y9 ((vT hf).mp (a1.symm.trans (h3.trans b1)))]at hx;exact ih hB (List.cons.inj hE).2 hx
 | @new bs es e i j r h1 h2 h3 h4 h5 ih =>
  intro B E x hB hE hx
  cases E with
  | nil=>cases hE
  | cons y E =>
   have h0:elE e=mE f y:=(List.cons.inj hE).1;have y1:e.1=y.1.1.map f:=congrArg (λz:EL=>z.1.1) h0;have y2:e.2.1=y.1.2.map f:=congrArg (λz:EL=>z.1.2) h0;let#[a,ha,a1,a2]:=road hB y1 h1;let#[b,hb,b1,b2]:=road hB y2 h2;have e3:e.2.2.length=y.2:=congrArg (λz:EL=>z.2) h0
   have hl:(yC bs e i j).2.2.length=lnX B a.1+y.2+lnX B b.1:=by
    unfold yC;erw[am];rw[(Ux hB _).2,(Ux hB _).1,a2,b2,e3]
   have hd:elE (yC bs e i j)=mE f ((a.2,b.2),lnX B a.1+y.2+lnX B b.1):=by
    unfold elE mE;rw[hl];show ((wAt _ _ i,wAt _ _ j),_)=_;rw[a1,b1];rfl
   unfold zbO at hx;rw[ha,hb]at hx;simp only at hx;rw[z9 (λz=>h3 (by rw[a1,b1,z]))]at hx;rw[z9 (λz=>h4 (by unfold qM;rw[hl];show _\/60<(wAt _ _ i).length\/60<(wAt _ _ j).length;rw[a1,b1,aa,aa];exact z))]at hx;split at hx
   ·rename_i hdd;rw[aU]at hdd;refine ih (B:=B ++ [X1 lt ((a.2,b.2),lnX B a.1+y.2+lnX B b.1)]) ?_ (List.cons.inj hE).2 hx;unfold elL at hB ⊢;rw[ar,ar,hB,ao,aJ,ao,aJ,Qb hlt hd hdd.1 hdd.2]
   ·cases hx
 | @far bs es e i j h1 h2 h3 h4 =>
  intro B E x hB hE hx
  cases E with
  | nil=>cases hE
  | cons y E =>
   have h0:elE e=mE f y:=(List.cons.inj hE).1;have y1:e.1=y.1.1.map f:=congrArg (λz:EL=>z.1.1) h0;have y2:e.2.1=y.1.2.map f:=congrArg (λz:EL=>z.1.2) h0;let#[a,ha,a1,a2]:=road hB y1 h1;let#[b,hb,b1,b2]:=road hB y2 h2;have e3:e.2.2.length=y.2:=congrArg (λz:EL=>z.2) h0
   have hl:(yC bs e i j).2.2.length=lnX B a.1+y.2+lnX B b.1:=by
    unfold yC;erw[am];rw[(Ux hB _).2,(Ux hB _).1,a2,b2,e3]
   unfold qM at h4;rw[hl,show (yC bs e i j).1=wAt _ _ i from rfl,show (yC bs e i j).2.1=wAt _ _ j from rfl,a1,b1,aa,aa]at h4;unfold zbO at hx;rw[ha,hb]at hx;simp only at hx;rw[z9 (λz=>h3 (by rw[a1,b1,z])),y9 h4]at hx;cases hx;rfl
 | @stuck bs es e h =>
  intro B E x hB hE hx
  cases E with
  | nil=>cases hE
  | cons y E =>
   have h0:elE e=mE f y:=(List.cons.inj hE).1;unfold zbO at hx;rcases h with h | h
   ·rw[noroad hB (congrArg (λz:EL=>z.1.1) h0) h]at hx;cases hx;rfl
   ·rw[noroad hB (congrArg (λz:EL=>z.1.2) h0) h]at hx;cases hz:rdX (B.map Prod.fst) 40 y.1.1 <;> (rw[hz]at hx;cases hx;rfl)
set_option tactic.hygienic true in
theorem YQ(hf:Inj f)(hlt:LtX dm lt f k l ns)(h:uS k l ns n es r):∀{F:List EL} {x:Option (List EL)},FrX dm lt f k l ns es F->zd3 dm lt n F=BJ x->r.map elL=x.map λz=>z.map (mE f):=by
 have fstE:∀{zs:List Ent} {Z:List EL},elL zs=Z.map (mE f)->∀{bs:List Ent} {B:List EL},elL bs=B.map (mE f)->(zc bs=zc zs ↔ B.map Prod.fst=Z.map Prod.fst):=λ{zs Z} hz {bs B} hb=>by
  rw[wV hz,wV hb];exact Jf hf
 induction h with
 | out es=>intro F x _ hx;cases hx;rfl
 | bad h1 h2 =>
  intro F x hr hx;unfold zd3 at hx;split at hx
  ·rename_i hk;have hz:=Wv hf hlt (hr hk) h1 hk;split at hx
   ·cases hx
   ·cases hx;rfl
   ·rename_i bs hb;have:=UT hf hlt h2 (B:=[]) rfl hz hb;cases this
  ·cases hx
 | done h1 h2 h3 =>
  intro F x hr hx;unfold zd3 at hx;split at hx
  ·rename_i hk;have hz:=Wv hf hlt (hr hk) h1 hk;split at hx
   ·cases hx
   ·rename_i hb;have:=UT hf hlt h2 (B:=[]) rfl hz hb;cases this
   ·rename_i bs hb;have e:=Option.some.inj (UT hf hlt h2 (B:=[]) rfl hz hb);rw[y9 ((fstE hz e).mp h3)]at hx;cases hx;exact congrArg BJ e
  ·cases hx
 | more h1 h2 h3 h4 ih =>
  intro F x hr hx;unfold zd3 at hx;split at hx
  ·rename_i hk;have hz:=Wv hf hlt (hr hk) h1 hk;split at hx
   ·cases hx
   ·rename_i hb;have:=UT hf hlt h2 (B:=[]) rfl hz hb;cases this
   ·rename_i bs hb;have e:=Option.some.inj (UT hf hlt h2 (B:=[]) rfl hz hb);rw[z9 λz=>h3 ((fstE hz e).mpr z)]at hx;refine ih (λhk=>?_) hx;rw[zaI hf hlt e (zdp hk)]
  ·cases hx
def zdU(hf:Inj f){B:List EL}(hB:elL es=B.map (mE f)):unX (B.map Prod.fst)=unX (zc es)/\(∀t,pkA (zc es) t=(pkA (B.map Prod.fst) t).map f/\pkB (zc es) t=(pkB (B.map Prod.fst) t).map f)/\zdY (B.map Prod.fst)=j8 es:=by
 have e:=wV hB;have hp:∀t,pkA (zc es) t=(pkA (B.map Prod.fst) t).map f/\pkB (zc es) t=(pkB (B.map Prod.fst) t).map f:=λt=>by rw[e];exact zhY _ t
 refine#[?_,hp,?_]
 ·have ho:ovA (zc es) (zc es).length=ovA (B.map Prod.fst) (B.map Prod.fst).length:=by rw[e,aa,zhZ hf]
  have h1:∀t,(rdX (zc es) 40 (pkA (zc es) t))=(rdX (B.map Prod.fst) 40 (pkA (B.map Prod.fst) t)).map (λx=>(x.1,x.2.map f)):=λt=>by rw[(hp t).1,e,zcX hf]
  have h2:∀t,(rdX (zc es) 40 (pkB (zc es) t))=(rdX (B.map Prod.fst) 40 (pkB (B.map Prod.fst) t)).map (λx=>(x.1,x.2.map f)):=λt=>by rw[(hp t).2,e,zcX hf]
  unfold unX;rw[ho];erw[h1,h2,e9,Option.map_map];congr 2;refine fg λt Z=>?_;congr 1;refine decide_eq_decide.mpr ?_;cases rdX (B.map Prod.fst) 40 (pkA (B.map Prod.fst) t) <;> cases rdX (B.map Prod.fst) 40 (pkB (B.map Prod.fst) t) <;> simp [vT hf]
 ·have:=congrArg (λz=>zdY (z.map Prod.fst)) hB
  have e2:zdY ((elL es).map Prod.fst)=j8 es:=by
   unfold zdY j8 elL;rw[bc,eD,aa];rfl
  rw[<- e2,this];unfold zdY;rw[bc,eD,eD,aa,aa];congr 2;funext x;show decide (10<max (x.1.1.length) (x.1.2.length))=decide (10<max (x.1.1.map f).length (x.1.2.map f).length);rw[aa,aa]
set_option tactic.hygienic true in
def un_is :(unX ps=BK->∃t ∈ ovA ps ps.length,¬ OkG ps 40 t)/\∀ts,unX ps=BJ ts->(∀t ∈ ovA ps ps.length,OkG ps 40 t)/\unG ps 40=ts:=by
 have ok:∀t,((rdX ps 40 (pkA ps t)).isSome && (rdX ps 40 (pkB ps t)).isSome)=BL ↔ OkG ps 40 t:=λt=>by
  rw[aU,jj,jj,e9,e9];rfl
 refine#[λh=>?_,λts h=>?_]
 ·unfold unX at h;split at h
  ·cases h
  ·rename_i hn;rw[List.all_eq_true]at hn;let#[t,ht]:=Classical.not_forall.mp hn;let#[h1,h2]:=Classical.not_imp.mp ht;exact#[t,h1,λz=>h2 ((ok t).mpr z)]
 ·unfold unX at h;split at h
  ·rename_i ha;have ha':∀t ∈ ovA ps ps.length,OkG ps 40 t:=λt ht=>(ok t).mp (BZ.mp ha t ht);refine#[ha',?_];rw[<- Option.some.inj h];unfold unG;refine fg λt ht=>?_;let#[g1,g2]:=ha' t ht;let#[i,hi]:=Cc.mp g1;let#[j,hj]:=Cc.mp g2;rw[jj,jj,hi,hj,<- QT hi hj];simp
  ·cases h
set_option tactic.hygienic true in
theorem zgu(hf:Inj f)(hlt:LtX dm lt f k l ns){kept fresh es:List Ent}{w:Bool}(h:Cpl k l ns n kept fresh w es):∀{D F:List EL} {x:Bool × List EL},elL kept=D.map (mE f)->FrX dm lt f k l ns fresh F->KR dm lt n D F=BJ x->w=x.1/\elL es=x.2.map (mE f):=by
 induction h with
 | out kept fresh=>intro D F x hD _ hx;cases hx;exact#[rfl,hD]
 | @slim n kept fresh h =>
  intro D F x hD hr hx;unfold KR at hx;split at hx
  ·cases hx
  ·cases hx;exact#[rfl,hD]
  ·rename_i bs ht;rcases h with h | ⟨zs,h,hb⟩
   ·have:=YQ hf hlt h hr ht;cases this
   ·have e:=Option.some.inj (YQ hf hlt h hr ht);rw[(zdU hf e).2.2,hb,y9 rfl]at hx;cases hx;exact#[rfl,hD]
 | @far n kept fresh bs t h hb ht ho =>
  intro D F x hD hr hx;unfold KR at hx;split at hx
  ·cases hx
  ·rename_i ht;have:=YQ hf hlt h hr ht;cases this
  ·rename_i B hth;have e:elL bs=B.map (mE f):=Option.some.inj (YQ hf hlt h hr hth);rw[(zdU hf e).2.2,hb,z9 (λz=>nomatch z),(zdU hf e).1]at hx;split at hx
   ·cases hx;exact#[rfl,e]
   ·rename_i ts hts;exact y6 ((un_is.2 ts hts).1 t ht) ho
 | @whole n kept fresh bs h hb ho hu =>
  intro D F x hD hr hx;unfold KR at hx;split at hx
  ·cases hx
  ·rename_i ht;have:=YQ hf hlt h hr ht;cases this
  ·rename_i B hth;have e:elL bs=B.map (mE f):=Option.some.inj (YQ hf hlt h hr hth);rw[(zdU hf e).2.2,hb,z9 (λz=>nomatch z),(zdU hf e).1]at hx;split at hx
   ·rename_i hn;let#[t,h1,h2]:=un_is.1 hn;exact y6 (ho t h1) h2
   ·rename_i ts hts;rw[y9 (by rw[<- (un_is.2 ts hts).2,hu])]at hx;cases hx;exact#[rfl,e]
 | @more n kept fresh bs es w h hb ho hu r ih =>
  intro D F x hD hr hx;unfold KR at hx;split at hx
  ·cases hx
  ·rename_i ht;have:=YQ hf hlt h hr ht;cases this
  ·rename_i B hth;have e:elL bs=B.map (mE f):=Option.some.inj (YQ hf hlt h hr hth);have hU:=zdU hf e;rw[hU.2.2,hb,z9 (λz=>nomatch z),hU.1]at hx;split at hx
   ·rename_i hn;let#[t,h1,h2]:=un_is.1 hn;exact y6 (ho t h1) h2
   ·rename_i ts hts;have ets:=(un_is.2 ts hts).2;rw[z9 (by rw[<- ets];exact hu)]at hx;refine ih e (λhk=>?_) hx;rw[zaI hf hlt (F:=B ++ (ts.take 8).map λt=>((pkA (B.map Prod.fst) t,pkB (B.map Prod.fst) t),lnX B [t.1,t.2.1])) ?_ (zdp hk)];rw[ets];unfold elL at e ⊢;rw[ar,ar,e,bc,bc];congr 1;refine bp λt Z=>?_;show ((pkA (zc bs) t,pkB (zc bs) t),_)=((_,_),_);rw[(hU.2.1 t).1,(hU.2.1 t).2,show (jo bs t).2.2=byL bs [((t.1:Int),(0:Int),BM),((t.2.1:Int),(t.2.2:Int),BL)]from rfl,qo];erw[ao,aJ,aQ,eG,aO,ze1 bs f B e];rfl
end
mutual section
def nmL(l:())(n:Nat):Nat:=(l[n]?).getD (n+l.sum+1)
theorem XR(h:l.Nodup)(a b:Nat)(e:nmL l a=nmL l b):a=b:=by
 have ls:∀{l:()} {c},c ∈ l->c ≤ l.sum:=λ{l c} h=>by
  induction l with
  | nil=>cases h
  | cons a l ih =>
   rw[aQ];rcases BR.mp h with rfl | h
   ·lia
   ·have:=ih h;lia
 have le:∀{i c},l[i]? = BJ c->c ≤ l.sum:=λh=>ls (ag h);unfold nmL at e
 cases ha:l[a]? with
 | none =>
  cases hb:l[b]? with
  | none=>rw[ha,hb]at e;erw[dA]at e;lia
  | some c=>rw[ha,hb]at e;erw[dA,cT]at e;have:=le hb;lia
 | some c =>
  cases hb:l[b]? with
  | none=>rw[ha,hb]at e;erw[dA,cT]at e;have:=le ha;lia
  | some d =>
   rw[ha,hb]at e;erw[cT]at e;subst e;exact (List.getElem?_inj (BP.mp ha).1 h).mp (by rw[ha,hb])
def J8(hf:Inj f)(k:Nat)(l:())(ns:List Int)(u v:()):zM k (l.map f) ns (u.map f) (v.map f)=zM k l ns u v:=by
 have c:∀(w:()) (a:Nat),(w.map f).count (f a)=w.count a:=λw a=>by
  induction w with
  | nil=>rfl
  | cons b w ih =>
   rw[ao,eg,eg,ih];congr 1;by_cases e:b=a
   ·rw[e];simp
   ·rw[z9 (by simpa using λz=>e (hf _ _ z)),z9 ↥e]
 have W:∀w:(),zA k (l.map f) ns (w.map f)=zA k l ns w:=λw=>by
  unfold zA jt;rw[aa,List.zip_map_left,bc];congr 2;exact bp λp Z=>by show ((w.map f).count (f p.1):Int) * p.2=_;rw[c]
 have r:∀w:(),um k (l.map f) (w.map f)=um k l w:=λw=>by
  have s:yY k (w.map f)=(yY k w).map f:=by
   unfold yY;split
   ·exact List.map_reverse.symm
   ·rfl
  unfold um jS;rw[s,bc];exact bp λc Z=>by show (((l.map f).idxOf (f c):Nat):Int)=_;rw[zgP hf]
 unfold zM;rw[W,W,r,r]
def zfI(f:Nat->Nat)(R:List zK):elL (fEs (R.map (mp f)) R.length)=(R.map λp=>(p,1)).map (mE f):=by
 have key:∀n,n ≤ R.length->elL (fEs (R.map (mp f)) n)=((R.take n).map λp=>(p,1)).map (mE f):=λn=>by
  induction n with
  | zero=>intro _;rfl
  | succ n ih =>
   intro hn;have h1:R[n]? = BJ R[n]:=ah ⋯;rw[Vb (p:=mp f R[n]) (by rw[au,h1];rfl),List.take_succ,h1];unfold elL at ih ⊢;rw[ar,ih ⋯,ar,ar];rfl
 have:=key R.length (ak _)
 rwa [aP]at this
def JD{lt:()->()->Bool}(hf:Inj f)(hlt:LtX dm lt f k l ns){R:List zK}{w:Bool}(h:Cpl k l ns n [] (fEs (R.map (mp f)) R.length) w es)(hx:KR dm lt n [] (R.map λp=>(p,1))=BJ x):w=x.1/\elL es=x.2.map (mE f) :=
 zgu hf hlt h (D:=[]) rfl (λhk=>by rw[zaI hf hlt (zfI f R) (zdp hk)]) hx
def isX(a:Option (Bool × List EL))(b:Bool × List EL):Bool:=match a with | some x=>decide (x=b) | none=>BM
def za7(h:isX a b=BL):a=BJ b:=by
 unfold isX at h;split at h
 ·rw[w9 h]
 ·cases h
def tenY:():=[1,1,1,1,1,1,1,1,1,1]
def setK:List (()):=[[0,0],tenY,tenY ++ [0],0::tenY]
def zbX(u:()):Bool:=setK.contains u
def hvK(h:Int):Int:=if h<10 then 6 else if h=10 then 10 else 11
def lK(q:Bool):():=if q then [0,1]else [1,0]
def nK(q:Bool)(h:Int):List Int:=if q then [h,1]else [1,h]
def rK(p:Bool):zK:=if p then ([0,0],tenY)else (tenY,[0,0])
def zdq:∀q ∈ [BL,BM],∀h ∈ [(6:Int),10,11],∀p ∈ [BL,BM],∀r ∈ [0,1,2,3,4,5,6],isX (KR zbX (zM 2 (lK q) (nK q h)) (r+1) [] [(rK p,1)]) (BM,[(([0,0],tenY),1)])=BL:=by symm
abbrev SgK(a b c d:Int):Prop:=(a=b ↔ c=d)/\(a<b ↔ c<d)
def zas{a c:Int}:SgK a a c c:=#[#[λZ=>rfl,λZ=>rfl],λh=>y6 h (eX _),λh=>y6 h (eX _)]
def Uv{a b c d:Int}(h:a<b)(g:c<d):SgK a b c d:=#[#[λe=>y6 h (e ▸ eX _),λe=>y6 g (e ▸ eX _)],λZ=>g,λZ=>h]
def Ku{a b c d:Int}(h:SgK a b c d):SgK b a d c:=⋯
end
set_option tactic.hygienic true in
mutual section
def zee(hh:6 ≤ h)(hu:zbX u=BL)(hv:zbX v=BL):zM 2 (lK q) (nK q h) u v=zM 2 (lK q) (nK q (hvK h)) u v:=by
 have W:∀z,zbX z=BL->∀g:Int,jt (lK q) (nK q g) z=(z.count 0:Int) * g+z.count 1:=λz Z g=>by
  cases q
  ·show (([(1,(1:Int)),(0,g)]).map λp=>(z.count p.1:Int) * p.2).sum=_;erw[ao,aJ,aQ,eG];lia
  ·show (([(0,g),(1,(1:Int))]).map λp=>(z.count p.1:Int) * p.2).sum=_;erw[ao,aJ,aQ,eG];lia
 have m:∀z,zbX z=BL->((z.count 0:Int)=2/\(z.count 1:Int)=0)\/((z.count 0:Int)=0/\(z.count 1:Int)=10)\/((z.count 0:Int)=1/\(z.count 1:Int)=10):=λz hz=>by
  have:z ∈ setK:=by simpa [zbX] using hz
  unfold setK at this;erw[bF,bM,or_false]at this;rcases this with rfl | rfl | rfl | rfl <;> decide
 have key:(jt (lK q) (nK q h) u=jt (lK q) (nK q h) v ↔ jt (lK q) (nK q (hvK h)) u=jt (lK q) (nK q (hvK h)) v)/\(jt (lK q) (nK q h) u<jt (lK q) (nK q h) v ↔ jt (lK q) (nK q (hvK h)) u<jt (lK q) (nK q (hvK h)) v):=by
  rw[W u hu,W v hv,W u hu,W v hv];have p:∀g:Int,6 ≤ g->0 * g+10<2 * g+0/\0 * g+10<1 * g+10:=λg Z=>by lia
  let#[a1,a2]:=p h hh
  have hg:6 ≤ hvK h/\SgK (2 * h+0) (1 * h+10) (2 * hvK h+0) (1 * hvK h+10):=by
   unfold hvK;split
   ·exact#[∅,Uv ⋯ ∅]
   ·split
    ·rename_i e;rw[e];exact#[∅,zas]
    ·exact#[∅,Ku (Uv ⋯ ∅)]
  let#[b1,b2]:=p _ hg.1;rcases m u hu with ⟨a,b⟩ | ⟨a,b⟩ | ⟨a,b⟩ <;> rcases m v hv with ⟨c,d⟩ | ⟨c,d⟩ | ⟨c,d⟩ <;> rw[a,b,c,d]
  ·exact zas
  ·exact Ku (Uv a1 b1)
  ·exact hg.2
  ·exact Uv a1 b1
  ·exact zas
  ·exact Uv a2 b2
  ·exact Ku hg.2
  ·exact Ku (Uv a2 b2)
  ·exact zas
 have e:∀g z,zA 2 (lK q) (nK q g) z=jt (lK q) (nK q g) z:=λg z=>rfl;unfold zM;rw[e,e,e,e];erw[key.1,key.2]
def zgl{q p w:Bool}(hxy:x≠y)(hh:6 ≤ h)(hr:r<7)(hc:Cpl 2 ((lK q).map (nmL [x,y])) (nK q h) (r+1) [] (fEs [mp (nmL [x,y]) (rK p)] 1) w es):elL es=[(([x,x],tenY.map (nmL [x,y])),1)]:=by
  have hf:=XR (l:=[x,y]) (by simp [hxy]);have hq:q ∈ [BL,BM]:=by cases q <;> simp
  have hp:p ∈ [BL,BM]:=by cases p <;> simp
  have hv:hvK h ∈ [(6:Int),10,11]:=by unfold hvK;split <;> (try split) <;> simp
  have:=(JD (dm:=zbX) (R:=[rK p]) hf (λu v hu hv=>(J8 hf 2 (lK q) (nK q h) u v).trans (zee hh hu hv)) hc (za7 (zdq q hq _ hv p hp r (by erw[bF,bM,or_false];lia)))).2;exact this
def fourP:List zK:=[([1],[]),([1,1],[0]),([0,0,0,0,0,0,0,0,0,0],[2]),([2,2,2,2,2,2,2],[3])]
def fourE:List EL:=[(([0],[]),3),(([1],[]),1),(([2],[]),31),(([3],[]),218)]
def zad:∀r ∈ [0,1,2,3],isX (KR (λZ=>BL) (zM 0 [0,1,2,3] []) (r+1) [] (fourP.map λp=>(p,1))) (BL,fourE)=BL:=by symm
theorem zbh{w:()}(h:rdX ps 40 w=BJ x):∃i,zD ps w i/\wAt ps w i=x.2/\(sAt ps w i).map Prod.fst=x.1:=by
 rw[jj]at h
 cases e:goJ ps 40 w with
 | none=>rw[e]at h;cases h
 | some i =>
  rw[e]at h;cases h;let#[h1,h2,h3]:=uF e;exact#[i,#[h2,h3,h1],rfl,rfl]
theorem JOut.road(h:JOut K H k l ns rs u v r m p)(hG:OG l ns k)(hrs:RIn l rs)(hm:m ≤ 8)(hX:∀w es,Cpl k l ns (r+1) [] (fEs rs rs.length) w es->∃i j,zD (zc es) u i/\zD (zc es) v j/\wAt (zc es) u i=wAt (zc es) v j/\(qD es u v i j).length=N) :
  (N ≤ 2000/\∃(S:tG) (ss:List Stp),H p=BJ (.tup [.str "alike",.ref S])/\LsA K H S (ss.map dSt)/\ss.length=N/\z7 rs u ss=BJ v)\/(2000<N/\H p=BJ (.tup [.str "open"])):=by
 have one:∀{es:List Ent} {w:()} {i j:Nat},zD (zc es) w i->zD (zc es) w j->i=j:=λa b=>uK a.live a.end_ b.live b.end_;have ok:∀{w es},Cpl k l ns (r+1) [] (fEs rs rs.length) w es->∀e ∈ es,EOk rs e:=λhc=>(zbf (rs:=rs) hG hc (zbI hrs) (λe he=>Vc he) #[λe h=>(nomatch h),.inl rfl]).1
 have no:∀{w es},Cpl k l ns (r+1) [] (fEs rs rs.length) w es->NoR es w u v->2000<N/\EqR rs u v:=λ{w es} hc hn=>by
  let#[i,j,hi,hj,he,hl]:=hX w es hc;rcases hn with hn | hn | ⟨i',j',hi',hj',hn⟩
  ·exact y6 hi (hn i)
  ·exact y6 hj (hn j)
  ·cases one hi hi';cases one hj hj';rcases hn with ⟨hn,_⟩ | ⟨_,hn⟩
   ·exact y6 he hn
   ·exact#[⋯,Jp (zae _) (λp hp=>zc8 hp) (ka (ok hc) hi hj he)]
 cases h with
 | alike w es i j S hc hb hi hj he hl hp hS =>
  let#[i',j',hi',hj',_,hl']:=hX w es hc;cases one hi hi';cases one hj hj';exact .inl #[⋯,S,_,hp,hS,hl',ka (ok hc) hi hj he]
 | forms es i j D hc hb hi hj hn hp hD =>
  let#[i',j',hi',hj',he',_]:=hX BL es hc;cases one hi hi';cases one hj hj';exact y6 he' hn
 | world w es n N' t ts hc hb hno h1 h2 h3 h4 h5 hp ht =>
  rw[K0 (Yk N' h1 ⋯) (no hc hno).2]at h4;cases h4
 | open_ w es hc hb hno h5 hp=>exact .inr #[(no hc hno).1,hp]
def K1(hB:elL es=B.map (mE f)):(qD es u v i j).length=lnX B ((sAt (zc es) u i).map Prod.fst)+lnX B ((sAt (zc es) v j).map Prod.fst):=by show (byL es (_ ++ _)).length=_;rw[qo,ar,List.sum_append,<- qo,<- qo,(Ux hB _).1,(Ux hB _).2]
def QD(hf:Inj f)(hB:elL es=B.map (mE f))(hu:rdX (B.map Prod.fst) 40 u=BJ (a,z))(hv:rdX (B.map Prod.fst) 40 v=BJ (b,z)):∃i j,zD (zc es) (u.map f) i/\zD (zc es) (v.map f) j/\wAt (zc es) (u.map f) i=wAt (zc es) (v.map f) j/\(qD es (u.map f) (v.map f) i j).length=lnX B a+lnX B b:=by have e:=wV hB;let#[i,h1,h2,h3]:=zbh (ps:=zc es) (w:=u.map f) (x:=(a,z.map f)) (by rw[e,zcX hf,hu];rfl);let#[j,g1,g2,g3]:=zbh (ps:=zc es) (w:=v.map f) (x:=(b,z.map f)) (by rw[e,zcX hf,hv];rfl);exact#[i,j,h1,g1,by rw[h2,g2],by rw[K1 hB,h3,g3]]
def wK(a b:Nat):():=ay a 1 ++ [0,0] ++ ay b 1
def vK(a b:Nat):():=ay a 1 ++ tenY ++ ay b 1
def isR(a:Option (() × ()))(b:() × ()):Bool:=match a with | some x=>decide (x=b) | none=>BM
def zbo(h:isR a b=BL):a=BJ b:=by
 unfold isR at h;split at h
 ·rw[w9 h]
 ·cases h
def zb3:∀a ∈ [0,1,2,3,4,5],∀b ∈ [0,1,2,3,4],(isR (rdX [([0,0],tenY)] 40 (wK a b)) ([0],vK a b) && isR (rdX [([0,0],tenY)] 40 (vK a b)) ([],vK a b))=BL:=by symm
def JOut.known{q p s:Bool}(hxy:x≠y)(hh:6<=h)(hr:r<7)(ha:a<6)(hb:b<5)(hm:m<=8)(hG:OG ((lK q).map (nmL [x,y])) (nK q h) 2)(hJ:JOut K H 2 ((lK q).map (nmL [x,y])) (nK q h) [mp (nmL [x,y]) (rK p)] ((if s then wK a b else vK a b).map (nmL [x,y])) ((if s then vK a b else wK a b).map (nmL [x,y])) r m pp)(hrs:∀z ∈ [mp (nmL [x,y]) (rK p)],z.1.length<=60/\z.2.length<=60/\(∀c ∈ z.1,c ∈ (lK q).map (nmL [x,y]))/\∀c ∈ z.2,c ∈ (lK q).map (nmL [x,y])) :
  ∃(S:tG) (ss:List Stp),H pp=BJ (.tup [.str "alike",.ref S])/\LsA K H S (ss.map dSt)/\ss.length=1/\z7 [mp (nmL [x,y]) (rK p)] ((if s then wK a b else vK a b).map (nmL [x,y])) ss=BJ ((if s then vK a b else wK a b).map (nmL [x,y])):=by
 have hf:=XR (l:=[x,y]) (by simp [hxy]);have hk:=zb3 a (by erw[bF,bM,or_false];lia) b (by erw[bF,bM,or_false];lia);rw[aU]at hk;have k1:=zbo hk.1;have k2:=zbo hk.2
 have:=hJ.road (N:=1) hG hrs hm λw es hc=>by
  have hB:elL es=[((([0,0],tenY):zK),1)].map (mE (nmL [x,y])):=zgl hxy hh hr hc;cases s
  ·exact QD hf hB k2 k1
  ·exact QD hf hB k1 k2
 rcases this with ⟨_,S,ss,h⟩ | ⟨h,_⟩
 ·exact#[S,ss,h]
 ·lia
def Um(hc:c<4)(w:()):zC (c::w) (fourE.map Prod.fst)=BJ (c,0):=by
 have e:vG (c::w) (fourE.map Prod.fst) 0 4=[(c,0)]:=by
  have s:∀j,j<4->stJ (c::w) (fourE.map Prod.fst) 0 j=decide (c=j):=λj hj=>by
   have:j=0\/j=1\/j=2\/j=3:=⋯;rcases this with rfl | rfl | rfl | rfl <;> (unfold stJ zv;simp [fourE];intro _;lia)
  have:c=0\/c=1\/c=2\/c=3:=⋯;unfold vG;rw[show (aM 4).filter (stJ (c::w) (fourE.map Prod.fst) 0)=(aM 4).filter λj=>decide (c=j)from fg λj hj=>s j (BX.mp hj)];rcases this with rfl | rfl | rfl | rfl <;> rfl
 unfold zC xp;rw[aF,cU,dX,show (fourE.map Prod.fst).length=4 from rfl,e];rfl
theorem Wf:∀(w:()) (m:Nat),(∀c ∈ w,c<4)->w.length<=m->rdX (fourE.map Prod.fst) m w=BJ (w,[])
 | [],0,_,_=>rfl
 | [],m+1,_,_=>rfl
 | c::w,0,_,h=>y6 h (by simp)
 | c::w,m+1,hw,h=>by
  have hc:=hw c aC;unfold rdX;rw[Um hc];simp only
  have e:qr (c::w) (fourE.map Prod.fst) (c,0)=w:=by
   have:c=0\/c=1\/c=2\/c=3:=⋯;rcases this with rfl | rfl | rfl | rfl <;> rfl
  rw[e,Wf w m (λx hx=>hw x (aw _ hx)) ↥h];rfl
def szF(c:Nat):Nat:=[3,1,31,218].getD c 0
theorem Wl:∀(w:()),(∀c ∈ w,c<4)->lnX fourE w=(w.map szF).sum
 | [],_=>rfl
 | c::w,h=>by
  have ih:=Wl w λx hx=>h x (aw _ hx);unfold lnX at ih ⊢;rw[ao,aQ,ih,ao,aQ];have hc:=h c aC;have:c=0\/c=1\/c=2\/c=3:=⋯;rcases this with rfl | rfl | rfl | rfl <;> rfl
def JOut.four{l u v:()}(hl:l.length=4)(hn:l.Nodup)(hr:r<4)(hm:m<=8)(hG:OG l ns 0)(hu:∀c ∈ u,c<4)(hv:∀c ∈ v,c<4)(ul:u.length<=10)(vl:v.length<=10)(hrs:∀z ∈ fourP.map (mp (nmL l)),z.1.length<=60/\z.2.length<=60/\(∀c ∈ z.1,c ∈ l)/\∀c ∈ z.2,c ∈ l)(hJ:JOut K H 0 l ns (fourP.map (mp (nmL l))) (u.map (nmL l)) (v.map (nmL l)) r m p) :
  (((u ++ v).map szF).sum<=2000/\∃(S:tG) (ss:List Stp),H p=BJ (.tup [.str "alike",.ref S])/\LsA K H S (ss.map dSt)/\ss.length=((u ++ v).map szF).sum/\z7 (fourP.map (mp (nmL l))) (u.map (nmL l)) ss=BJ (v.map (nmL l)))\/(2000<((u ++ v).map szF).sum/\H p=BJ (.tup [.str "open"])):=by
 have hf:=XR hn
 have el:[0,1,2,3].map (nmL l)=l:=by
  match l,hl with
  | [a,b,c,d],_=>rfl
 refine hJ.road hG hrs hm λw es hc=>?_
 have hB:=(JD (dm:=λZ=>BL) (lt:=zM 0 [0,1,2,3] []) (R:=fourP) hf (λx y Z Z=>by
  have e:=J8 hf 0 [0,1,2,3] ns x y;rw[el]at e
  exact e) hc (za7 (zad r (by erw[bF,bM,or_false];lia)))).2
 let#[i,j,h1,h2,h3,h4]:=QD hf hB (Wf u 40 hu ⋯) (Wf v 40 hv ⋯);exact#[i,j,h1,h2,h3,by rw[h4,Wl u hu,Wl v hv,ar,List.sum_append]]
def Vs:Sp:=λvs H Q Z=>∃(n m:Nat),vs=[.int (n:Nat),.int (m:Nat)]/\n<=6/\m<=8/\Q (.bl (decide (m ^ (m * n)<=1000))) H
def nJ:sQz 2 ["_law_many","_law_rooms","_law_count","_law_k"] Z5:=by nofun
def Qp(B:Bt mg)(F:("_law_within"^^^Z5)):(1&&&["_law_many","_law_rooms"]) Vs:=by
 exists F.ok nJ
 ·let#[n,m,rfl,h1,h2,q]:=h;refine#[_,(zG (zB 2 nJ.nd zb) (zG (zW u5 rfl (yg rfl B.range (za (zr yN (pv 0) (pv 1)) ze)) (zq (i:=3) nJ.nd rfl (.inl rfl)) (zg (zB 2 nJ.nd (zr yN (pv 2) (pv 1))))) (zg (zk (ya xu (pv 2) zb (zt _)))))),?_];have s16:=zU;rfl';have hm:=zf3 h2 h1;have em:((n:Int) * (m:Int))=((m * n:Nat):Int):=by rw[Nat.mul_comm,dM]
  refine#[.inl #[⋯,⋯],?_];rw[em];refine#[⋯,⋯,ja2 (λi σ H'=>H'=H/\∃v3,σ=[-~~~n,-~~~m,BJ (.int ((m ^ i:Nat):Int)),v3]) #[rfl,_,rfl] ?_ ?_]
  ·refine nm3 ?_;rintro i σ H' hi ⟨rfl,v3,rfl⟩:0;rfl';exact#[.inr #[⋯,⋯],WU m i]
  ·refine nmB ?_;rintro σ H' ⟨rfl,v3,rfl⟩:0;rfl';rw[aO,show decide (((m ^ (m * n):Nat):Int)<=1000)=decide (m ^ (m * n)<=1000)from decide_eq_decide.mpr ⋯];exact q
structure zhJ(K:tF)(mg:tK->Option tH)(CM CE CF:tG):Prop where
 gE:mg "LetterError" = BJ (.ref CE)
 gF:mg "TooFar" = BJ (.ref CF)
 xE:XI K CE
 sE:cN K (.ref CM) (.ref CE)=BJ BL
 kM:aN K (.ref CM) (.ref CM)=BJ BL
 kF:aN K (.ref CM) (.ref CF)=BJ BM
def Yg(K:tF)(CO CR CW TB:tG):Sp:=λvs H Q Z=>∃(o a t:tG) (k:Nat) (l:()) (ns:List Int) (rs:List zK) (u v:()) (r m:Nat),vs=[.ref o,.ref a,.ref t,.int (r:Nat),.int (m:Nat)]/\SqT K H t [⇑u,⇑v]/\OrdAt CO CR CW H o k l ns/\OG l ns k/\LsA K H a (rs.map dR)/\rs.length<=20/\RIn l rs/\u.length<=60/\v.length<=60/\(∀c ∈ u,c ∈ l)/\(∀c ∈ v,c ∈ l)/\r<=1000/\m<=8/\TabOk H TB lp lq /\
 (1000<m ^ (m * l.length)->∀(p:tG) (H':Hp),Same H H'->H' p=BJ (.tup [.non,.bl BL])->Q (.ref p) H') /\
 (m ^ (m * l.length)<=1000->∀(p f:tG) (H1 H':Hp),SamT TB H H1->TabOk H1 TB lp lq->JOut K H1 k l ns rs u v r m f->Same H1 H'->H' p=BJ (.tup [.ref f,.bl BM])->Q (.ref p) H')
def mV:sQz 5 ["_law_order_here","_law_pacts","_law_words","_law_rounds","_law_most","_law_found","_law_refused","e"] Wn:=by nofun
def zaP{f CO CR CW TB CM CE CF:tG}(B:Bt mg)(TA:zhJ K mg CM CE CF)(TM:Qe K mg CM)(F:("_law_asked"^^^Wn))(sL:(11>>>"judged") ["order","pacts","one","other","rounds","most"] [] (zff K CO CR CW TB CM)):(12&&&["_law_order_here","_law_pacts","_law_words","_law_rounds","_law_most"]) (Yg K CO CR CW TB):=by
 exists F.ok mV
 ·let#[o,a,t,k,l,ns,rs,u,v,r,m,rfl,ht,ho,hG,hA,hrl,hrs,hul,hvl,hu,hv,hr',hm8,hTab,q1,q2]:=h;refine#[_,(zh (zB 5 mV.nd yh) (zh (zB 6 mV.nd yJ) (zh (zeP (i:=5) mV.nd rfl (.inl rfl) (.inl rfl) #[rfl,rfl] (clX sL hr .nil rfl (za (pv 0) (za (pv 1) (za (!-2) (za (!-2) (za (pv 3) (za (pv 4) ze))))))) (zb2 (ts:=(zde (VU (tCB (zcF K) (zO (ym 7) (zO (tC (.ref CM)) xI))) (V6 (tCB (zcF K) (zO (ym 7) (zO (tC (.ref CF)) xI))))) (yH 6))) 7 (λe=>(zg (zB 6 mV.nd (vN (zaT rfl B.isi (pv 7) rfl TM.g) (vP (Jg (zaT rfl B.isi (pv 7) rfl TA.gF))))))) rfl TA.gE rfl rfl TA.xE.ok .nil)) (zg (zk (zN (za (pv 5) (za (pv 6) ze)))))))),?_];have s16:=zU;change H'=H/\σ=%[!!o,!!a,!!t,-~~~r,-~~~m,BJ (.non)|2]
  ·rfl'
  rintro σ H1 ⟨rfl,rfl⟩:0;change H'=H1/\σ=[!!o,!!a,!!t,-~~~r,-~~~m,BJ (.non),BJ (.bl BM),BK]
  ·rfl'
  rintro σ H2 ⟨rfl,rfl⟩:0;refine kX (λσ H'=>(1000<m ^ (m * l.length)/\Same H2 H'/\σ=[!!o,!!a,!!t,-~~~r,-~~~m,BJ (.non),BJ (.bl BL),BK])\/∃f:tG,(m ^ (m * l.length)<=1000/\SamT TB H2 H'/\TabOk H' TB lp lq/\JOut K H' k l ns rs u v r m f)/\σ=[!!o,!!a,!!t,-~~~r,-~~~m,!!f,BJ (.bl BM),BK]) ?_ ?_
  ·erw[zfS];ac_rfl;have ty:∀{H':Hp} {x:tG},TyX K (upd H' x (XT x CM BK)) (.ref x) (.ref CM):=λ{H' x}=>.inr (.inl #[x,CM,BK,[],rfl,rfl,#[zd,.inl #[rfl,rfl]],TM.xi]);exact#[_,ht,_,rfl,_,ht,_,rfl,o,a,k,l,ns,rs,u,v,r,m,rfl,ho,hG,hA,hrl,hrs,hul,hvl,hu,hv,hr',hm8,hTab,λhb=>#[CM,rfl,λx hx=>#[BL,TA.sE,zfl #[_,ty,BL,TA.kM,zfl #[_,ty,BM,TA.kF,#[hb,zf hx,rfl]]]]],λhb p H' s' hT' hJ=>#[hb,s',hT',p,hJ,rfl]]
  rintro σ H3 (⟨hb,s3,rfl⟩ | ⟨f,⟨hb,s3,hT3,hJ⟩,rfl⟩)
  ·rfl';exact#[⋯,λp hp=>q1 hb p _ (s3.trans (zf hp)) zd]
  ·rfl';exact#[⋯,λp hp=>q2 hb p f H3 _ s3 hT3 hJ (zf hp) zd]
theorem u7(y n:Nat):(ay n [y]).flatten=ay n y:=by
 induction n with
 | zero=>rfl
 | succ n ih=>rw[cz,e7,ih];rfl
def YT{CO CR CW E1 x dx:tG}(hg:wv l=BL)(hwl:ws.length=l.length)(hwb:∀n ∈ ws,1<=n/\n<=1000000)(hE:H E1=BK)(hx:(upd H E1 (.lst (ws.map V.int))) x=BK)(hdx:(upd H E1 (.lst (ws.map V.int))) dx=BK)(q:∀H',Same H H'->OrdAt CO CR CW H' x 2 l ws->Q .non H'):qY K CW [.ref x,⇑l,.ref E1] (upd (upd (upd H E1 (.lst (ws.map V.int))) dx (.own x)) x (.ins CW dx [])) Q E:=by
 have se:=zf (o:=.lst (ws.map V.int)) hE;have sd:=zf (o:=.own x) hdx
 have k1:∀b o',(upd H E1 (.lst (ws.map V.int))) b=BJ o'->(upd (upd (upd H E1 (.lst (ws.map V.int))) dx (.own x)) x (.ins CW dx [])) b=BJ o':=λb o' e=>by
  rw[zo (zE e hx)];exact sd _ _ e
 exact#[x,dx,E1,l,ws,rfl,hg,x6 (k1 _ _ zd),hwl,hwb,zd,λw H' hw hwx kp ht hx'=>q _ (λb o' e=>kp b o' (zE (se _ _ e) hx) (k1 b o' (se _ _ e))) #[dx,.inr (.inr #[rfl,hwl,w,hx',ht])]]
def zao(h:wv (x::y::t)=BL):x≠y/\wv [x,y]=BL/\wv [y,x]=BL:=by
 let#[h1,h2,h3,h4]:=w9 h;have hn:x≠y:=λe=>(Cb.mp h4).1 (by rw[e];exact aC);have hx:=h3 x aC;have hy:=h3 y (aw _ aC);refine#[hn,y3 #[by simp,by simp,?_,by simp [hn]],y3 #[by simp,by simp,?_,by simp [hn.symm]]] <;>
 ·intro c hc;erw[bF,bM,or_false]at hc;rcases hc with rfl | rfl <;> assumption
def zbD(a b:Nat):(wK a b).map (nmL [x,y])=ay a y ++ [x] ++ [x] ++ ay b y/\(vK a b).map (nmL [x,y])=ay a y ++ ay 10 y ++ ay b y:=by
 unfold wK vK;erw[ar,dP,aS];exact#[rfl,rfl]
def zcL{q s:Bool}:(∀c ∈ (if s then wK a b else vK a b).map (nmL [x,y]),c ∈ (lK q).map (nmL [x,y]))/\((if s then wK a b else vK a b).map (nmL [x,y])).length<=a+b+10:=by
 have k:∀c ∈ (if s then wK a b else vK a b),c=0\/c=1:=λc hc=>by
  cases s <;> erw[wK,vK,tenY,if_true,be,if_false,List.mem_append,List.mem_replicate,bF,bM,or_false]at hc <;> lia
 refine#[λc hc=>?_,?_]
 ·let#[d,hd,rfl]:=BQ.mp hc;refine BQ.mpr #[d,?_,rfl];rcases k d hd with rfl | rfl <;> cases q <;> decide
 ·rw[aa];cases s <;> erw[wK,vK,tenY,if_true,be,if_false,am,bj,aF,bH] <;> lia
def zdO : ∀z ∈ [mp (nmL [x,y]) (rK p)],z.1.length<=60/\z.2.length<=60/\(∀c ∈ z.1,c ∈ (lK q).map (nmL [x,y]))/\∀c ∈ z.2,c ∈ (lK q).map (nmL [x,y]):=λz hz=>by
 rw[BV.mp hz]
 have k:∀w:(),(∀c ∈ w,c=0\/c=1)->∀c ∈ w.map (nmL [x,y]),c ∈ (lK q).map (nmL [x,y]):=λw hw c hc=>by
  let#[d,hd,rfl]:=BQ.mp hc;refine BQ.mpr #[d,?_,rfl];rcases hw d hd with rfl | rfl <;> cases q <;> decide
 cases p
 ·exact#[by show 10<=60;decide,by show 2<=60;decide,k tenY ∅,k [0,0] ∅]
 ·exact#[by show 2<=60;decide,by show 10<=60;decide,k [0,0] ∅,k tenY ∅]
def JQ{D P1:tG}(hD:H D=BJ (.lst [.ref P1]))(hP:H P1=BJ (.tup [⇑r.1,⇑r.2])):LsA K H D ([r].map dR):=#[_,hD,by
 erw[ao,aJ,Iss];refine#[_,_,rfl,?_,rfl];unfold dR;erw[Is]
 exact#[P1,_,rfl,x4 hP,V0]]
def Vj(K:tF)(TB:tG):Sp:=λvs H Q Z=>∃(a:tG) (ns:List Int) (l:()),vs=[.ref a,⇑l]/\SqL K H a (ns.map V.int)/\(∀z ∈ ns,vU z)/\wv l=BL/\2<=l.length/\TabOk H TB lp lq/\∀H',Q (.bl BL) H'
def gU:sQz 2 ["_law_script","_law_letters_here","_law_cell_here","_law_heavy","_law_x","_law_y","_law_order_here","_law_pact","_law_ahead","_law_behind","_law_words","_law_found","_law_refused"] Wr:=by nofun
def Ks{f CO CR CW TB:tG}(B:Bt mg)(T:TWS P w K mg base CO CR CW)(F:("_law_known"^^^Wr))(iE:(1<<<"_law_cell") ["_law_script","_law_k"] [] (u8 K))(nU:(12<<<"_law_asked") ["_law_order_here","_law_pacts","_law_words","_law_rounds","_law_most"] [] (Yg K CO CR CW TB))(oW:(2<<<"_law_end") ["_law_pacts","_law_word_here","_law_steps_here"] [] (Y5 K))(gL:(1<<<"_law_mixed") ["_law_cell_here","_law_turn"] [] xx)(mX:(4<<<"_law_answer") ["_law_found","_law_many"] [] (Yi K)):(13&&&["_law_script","_law_letters_here"]) (Vj K TB):=by
 exists F.ok gU
 ·let#[a,ns,l,rfl,hS,hB,hg,hl2,hTab,q]:=h
  refine#[_,(zh (zB 2 gU.nd (cl0 iE hr .nil rfl (za (pv 0) (za zb ze)))) (zh (zB 3 gU.nd (zr zZ zb (zr zR (cl0 gL hr .nil rfl (za (pv 2) (za zb ze))) zb))) (zh (zB 4 gU.nd (zm Zk (pv 1) zb)) (zh (zB 5 gU.nd (zm Zk (pv 1) zb)) (zh (zB 6 gU.nd (zeO xe0 T.mW hr rfl T.gW (za (zr zZ (pv 4) (pv 5)) (za (yF (za (pv 3) (za zb ze))) ze)))) (zh (zJ (zu yQ (zr zR (cl0 gL hr .nil rfl (za (pv 2) (za zb ze))) zb) zb (zt _)) (zg (zB 6 gU.nd (zeO xe0 T.mW hr rfl T.gW (za (zr zZ (pv 5) (pv 4)) (za (yF (za zb (za (pv 3) ze))) ze)))))
    zp) (zh (zB 7 gU.nd (zN (za (zr zZ (pv 4) (pv 4)) (za (zr yN (pv 5) zb) ze)))) (zh (zJ (zu yQ (zr zR (cl0 gL hr .nil rfl (za (pv 2) (za zb ze))) zb) zb (zt _)) (zg (zB 7 gU.nd (zN (za (zr yN (pv 5) zb) (za (zr zZ (pv 4) (pv 4)) ze)))))
    zp) (zh (zB 8 gU.nd (zr yN (pv 5) (zr zR (cl0 gL hr .nil rfl (za (pv 2) (za zb ze))) zb))) (zh (zB 9 gU.nd (zr yN (pv 5) (zr zR (cl0 gL hr .nil rfl (za (pv 2) (za zb ze))) zb))) (zh (zB 10 gU.nd (zN (za (zr zZ (zr zZ (zr zZ (pv 8) (pv 4)) (pv 4)) (pv 9)) (za (zr zZ (zr zZ (pv 8) (zr yN (pv 5) zb)) (pv 9)) ze)))) (zh (zJ (zu yQ (zr zR (cl0 gL hr .nil rfl (za (pv 2) (za zb ze))) zb) zb (zt _)) (zg (zB 10 gU.nd (zN (za (!-10) (za (!-10) ze)))))
    zp) (zh (jX (cl0 nU hr .nil rfl (za (pv 6) (za (yF (za (pv 7) ze)) (za (pv 10) (za (zr zR (pv 2) zb) (za (zr zZ zb (zr zR (zr yO (pv 2) zb) zb)) ze)))))) (wN (n:=2) rfl (zL (zq (i:=11) gU.nd rfl (.inl rfl)) (zL (zq (i:=12) gU.nd rfl (.inl rfl)) y8)))) (zh (zJ (PW.pt (wA (yB (pv 12) (λZ=>rfl)) (wA (zX (yB (cl0 mX hr .nil rfl (za (pv 11) (za zb ze))) (λZ=>rfl))) (xN (zu qb (!-11) zP (zt _)))))) (zg (zk yJ))
    zp) (zg (zk (ya yQ (cl0 oW hr .nil rfl (za (yF (za (pv 7) ze)) (za (!-10) (za (!-11) ze)))) (!-10) (zt _)))))))))))))))))),?_]
  have s16:=zU;obtain⟨x,y,t,rfl⟩:∃x y t,l=x::y::t:=match l,hl2 with | x::y::t,_=>#[x,y,t,rfl]
  let#[hxy,g1,g2]:=zao hg;change H'=H/\∃c:Int,vU c/\σ=%[!!a,BJ ⇑(x::y::t),~~~!c|10]
  ·rfl';exact xh hS hB ∅ λc hc=>#[rfl,c,hc,rfl]
  rintro σ H1 ⟨rfl,c,hc,rfl⟩:0;change H'=H1/\∃h:Int,(6<=h/\h<=1000000)/\σ=%[!!a,BJ ⇑(x::y::t),~~~!c,~~~!h|9]
  ·rfl';exact zQ hc ∅ ∅ λz hz=>#[_,rfl,∅,rfl,6+z % 999995,⋯,⋯,rfl]
  rintro σ H1 ⟨rfl,h,⟨h6,hM⟩,rfl⟩:0;change H'=H1/\σ=%[!!a,BJ ⇑(x::y::t),~~~!c,~~~!h,BJ ⇑[x]|8]
  ·rfl';exact#[by have:=(w9 hg).2.1;erw[aF]at this;lia,vW (j:=0) rfl]
  rintro σ H1 ⟨rfl,rfl⟩:0;change H'=H1/\σ=%[1|7]
  ·rfl';exact#[by have:=(w9 hg).2.1;erw[aF]at this;lia,vW (j:=1) rfl]
  rintro σ H1 ⟨rfl,rfl⟩:0;change Same H1 H'/\∃o:tG,OrdAt CO CR CW H' o 2 [x,y] [h,1]/\σ=%[1,!!o|6]
  ·rfl';refine#[⋯,⋯,λp hp z dx hz hdx hne=>YT (ws:=[h,1]) g1 rfl (by simp;lia) hp hz hdx λH' s' ho=>#[rfl,s',ho]]
  rintro σ H2 ⟨s2,o1,ho1,rfl⟩:0;change Same H2 H'/\∃(o:tG),(∃qq:Bool,OrdAt CO CR CW H' o 2 ((lK qq).map (nmL [x,y])) (nK qq h))/\σ=%[1,!!o|6]
  ·rfl';exact zQ hc ∅ ∅ λz hz=>#[_,rfl,∅,yd (λZ=>#[⋯,⋯,λp hp z dx hz hdx hne=>YT (ws:=[1,h]) g2 rfl (by simp;lia) hp hz hdx λH' s' ho=>#[rfl,s',BM,ho]]) λZ=>#[x9 _,BL,ho1]]
  rintro σ H3 ⟨s3,o,⟨qq,ho⟩,rfl⟩:0;change Same H3 H'/\∃P0:tG,H' P0=BJ (.tup [⇑[x,x],⇑(ay 10 y)])/\σ=%[1,!!o,!!P0|5]
  ·rfl';exact#[⋯,∅,∅,∅,⋯,λp hp=>#[zf hp,zd]]
  rintro σ H4 ⟨s4,P0,hP0,rfl⟩:0;change Same H4 H'/\∃P1:tG,(∃pp:Bool,H' P1=BJ (.tup [⇑(mp (nmL [x,y]) (rK pp)).1,⇑(mp (nmL [x,y]) (rK pp)).2]))/\σ=%[1,!!o,!!P1|5]
  ·rfl';exact zQ hc ∅ ∅ λz hz=>#[_,rfl,∅,yd (λZ=>#[∅,∅,∅,⋯,⋯,λp hp=>#[zf hp,BM,zd]]) λZ=>#[x9 _,BL,hP0]]
  rintro σ H5 ⟨s5,P1,⟨pp,hP1⟩,rfl⟩:0;change H'=H5/\∃n:Nat,n<6/\σ=%[1,!!o,!!P1,BJ ⇑(ay n y)|4]
  ·rfl';exact zQ hc ∅ ∅ λz hz=>#[_,rfl,∅,⋯,⋯,∅,rfl,(z % 6).toNat,⋯,u7 _ _]
  rintro σ H6 ⟨rfl,n1,hn1,rfl⟩:0;change H'=H6/\∃n:Nat,n<5/\σ=%[1,!!o,!!P1,BJ ⇑(ay n1 y),BJ ⇑(ay n y)|3]
  ·rfl';exact zQ hc ∅ ∅ λz hz=>#[_,rfl,∅,⋯,⋯,∅,rfl,(z % 5).toNat,⋯,u7 _ _]
  rintro σ H6 ⟨rfl,n2,hn2,rfl⟩:0;change Same H6 H'/\∃W:tG,H' W=BJ (.tup [⇑((wK n1 n2).map (nmL [x,y])),⇑((vK n1 n2).map (nmL [x,y]))])/\σ=%[1,!!o,!!P1,BJ ⇑(ay n1 y),BJ ⇑(ay n2 y),!!W|2]
  ·rfl';erw[am,bj,u7];refine#[⋯,by simp;lia,by simp;lia,∅,∅,∅,⋯,⋯,⋯,λp hp=>#[zf hp,?_]];rw[(zbD n1 n2).1,(zbD n1 n2).2];exact zd
  rintro σ H7 ⟨s7,W0,hW0,rfl⟩:0;change Same H7 H'/\∃W:tG,(∃ss:Bool,H' W=BJ (.tup [⇑((if ss then wK n1 n2 else vK n1 n2).map (nmL [x,y])),⇑((if ss then vK n1 n2 else wK n1 n2).map (nmL [x,y]))]))/\σ=%[1,!!o,!!P1,BJ ⇑(ay n1 y),BJ ⇑(ay n2 y),!!W|2]
  ·rfl';exact zQ hc ∅ ∅ λz hz=>#[_,rfl,∅,yd (λZ=>#[_,x4 hW0,_,rfl,_,x4 hW0,_,rfl,⋯,λp hp=>#[zf hp,BM,zd]]) λZ=>#[x9 _,BL,hW0]]
  rintro σ H8 ⟨s8,W,⟨sb,hW⟩,rfl⟩:_;have s18:Same H1 H8:=(s2.trans (s3.trans (s4.trans s5))).trans (s7.trans s8);right;change ∃(f S:tG) (ss:List Stp),(H' f=BJ (.tup [.str "alike",.ref S])/\LsA K H' S (ss.map dSt)/\ss.length=1/\z7 [mp (nmL [x,y]) (rK pp)] ((if sb then wK n1 n2 else vK n1 n2).map (nmL [x,y])) ss=BJ ((if sb then vK n1 n2 else wK n1 n2).map (nmL [x,y]))/\H' P1=BJ (.tup [⇑(mp (nmL [x,y]) (rK pp)).1,⇑(mp (nmL [x,y]) (rK pp)).2])/\H' W=BJ (.tup [⇑((if sb then wK n1 n2 else vK n1 n2).map (nmL [x,y])),⇑((if sb then vK n1 n2 else wK n1 n2).map (nmL [x,y]))]))/\σ=[!!a,BJ ⇑(x::y::t),~~~!c,~~~!h,BJ ⇑[x],BJ ⇑[y],!!o,!!P1,BJ ⇑(ay n1 y),BJ ⇑(ay n2 y),!!W,!!f,BJ (.bl BM)]
  ·rfl';refine#[⋯,λp hp=>#[∅,#[∅,∅],∅,?_]];have sp:=zf (o:=.lst [.ref P1]) hp;let#[tp,htp',_]:=id ((hTab.same s18).same sp);have hP8:H8 P1=BJ (.tup [⇑(mp (nmL [x,y]) (rK pp)).1,⇑(mp (nmL [x,y]) (rK pp)).2]):=(s7.trans s8) _ _ hP1;have hr0:0<=c % 7/\c % 7<7:=#[bJ _ ∅,bE _ ∅];have hm0:0<=c / 7 % 2/\c / 7 % 2<2:=#[bJ _ ∅,bE _ ∅];have er:c % 7=((c % 7).toNat:Int):=⋯;have em:1+c / 7 % 2=(((1+c / 7 % 2).toNat:Nat):Int):=⋯;have r7:(c % 7).toNat<7:=⋯;have m2:(1+c / 7 % 2).toNat=1\/(1+c / 7 % 2).toNat=2:=⋯;rw[er,em];generalize (c % 7).toNat=r at r7;generalize (1+c / 7 % 2).toNat=m at m2;have hlen:((lK qq).map (nmL [x,y])).length=2:=by cases qq <;> rfl
   have hG:OG ((lK qq).map (nmL [x,y])) (nK qq h) 2:=by
    cases qq
    ·exact#[g2,∅,rfl,by unfold nK;simp;lia]
    ·exact#[g1,∅,rfl,by unfold nK;simp;lia]
   have i1:=zcL (x:=x) (y:=y) (a:=n1) (b:=n2) (q:=qq) (s:=sb)
   have i2:(∀c ∈ (if sb then vK n1 n2 else wK n1 n2).map (nmL [x,y]),c ∈ (lK qq).map (nmL [x,y]))/\((if sb then vK n1 n2 else wK n1 n2).map (nmL [x,y])).length<=n1+n2+10:=by
    have:=zcL (x:=x) (y:=y) (a:=n1) (b:=n2) (q:=qq) (s:=!sb);cases sb
    ·exact this
    ·exact this
   have hmT:m ^ (m * ((lK qq).map (nmL [x,y])).length)<=1000:=by rw[hlen];rcases m2 with rfl | rfl <;> decide
   have hA:LsA K (upd H8 p (.lst [.ref P1])) p ([mp (nmL [x,y]) (rK pp)].map dR):=JQ zd (sp _ _ hP8);refine#[o,p,W,2,_,_,[mp (nmL [x,y]) (rK pp)],_,_,r,m,rfl,x4 (sp _ _ hW),ho.same ((s4.trans (s5.trans (s7.trans s8))).trans sp),hG,hA,by show 1<=20;decide,zdO,⋯,⋯,i1.1,i2.1,⋯,⋯,(hTab.same s18).same sp,λhb=>y6 hb ⋯,λZ p' f' Hj H' sT hT' hJ sH hp'=>?_];let#[S,ss,j1,j2,j3,j4]:=hJ.known hxy h6 r7 hn1 hn2 ⋯ hG zdO;exact#[_,rfl,_,x4 hp',rfl,_,_,rfl,_,_,rfl,rfl,f',S,sH _ _ j1,ss,j2.same sH,j3,j4,sH _ _ (sT.at htp' (sp _ _ hP8) λZ z=>by cases z),sH _ _ (sT.at htp' (sp _ _ hW) λZ z=>by cases z),rfl,rfl]
  rintro σ H9 ⟨f,S,ss,⟨hf,hL,hsl,hwk,hP9,hW9⟩,rfl⟩:0;change Same H9 H'/\σ=[!!a,BJ ⇑(x::y::t),~~~!c,~~~!h,BJ ⇑[x],BJ ⇑[y],!!o,!!P1,BJ ⇑(ay n1 y),BJ ⇑(ay n2 y),!!W,!!f,BJ (.bl BM)]
  ·rfl';exact#[f,[0,1],rfl,∅,.alike S ss hf hL,λH' s'=>#[BL,rfl,kG #[_,x4 (s' _ _ hf),_,rfl,rfl,yd (λz=>y6 rfl z) λZ=>s']]]
  rintro σ H10 ⟨s10,rfl⟩:0;rfl';refine#[⋯,λp hp=>?_];have sp:=zf (o:=.lst [.ref P1]) hp;have i1:=zcL (x:=x) (y:=y) (a:=n1) (b:=n2) (q:=qq) (s:=sb);have hk:=zdO (x:=x) (y:=y) (q:=qq) (p:=pp) _ aC;refine#[_,x4 (sp _ _ (s10 _ _ hW9)),_,rfl,_,x4 (sp _ _ (s10 _ _ hf)),_,rfl,ZE (JQ (r:=mp (nmL [x,y]) (rK pp)) zd (sp _ _ (s10 _ _ hP9))).is #[by show 1<=30;decide,λr hr'=>?_] ⋯ ((hL.same s10).same sp).is ⋯ hwk #[_,x4 (sp _ _ (s10 _ _ hW9)),_,rfl,rfl,?_]]
  ·rw[BV.mp hr'];lia
  ·rw[y3 rfl];exact q _
def dz4(x0 x1 x2 x3:Nat):List (tK × V):=[(tx [x0],.int 3),(tx [x1],.int 1),(tx [x2],.int 31),(tx [x3],.int 218)]
structure WdL(l:())(H:Hp)(W:tG)(u v:())(m n:Nat):Prop where
 h:H W=BJ (.lst [⇑(u.map (nmL l)),⇑(v.map (nmL l))])
 hu:∀c ∈ u,c<4
 hv:∀c ∈ v,c<4
 ul:u.length<=m
 vl:v.length<=n
def WdL.at{m n i:Nat}(h:WdL l H W u v m n)(hi:i<2):∃w:(),atI [V.str (tx (u.map (nmL l))),V.str (tx (v.map (nmL l)))] (0+(i:Int))=BJ ⇑(w.map (nmL l))/\w.length<=(if i=0 then m else n)/\∀e<4,∀H':Hp,H' W=BJ (.lst ([V.str (tx (u.map (nmL l))),V.str (tx (v.map (nmL l)))].set i ⇑(w.map (nmL l) ++ [nmL l e])))->∃u' v',WdL l H' W u' v' (if i=0 then m+1 else m) (if i=0 then n else n+1):=by
 have ap:∀{w:()} {e:Nat},(∀c ∈ w,c<4)->e<4->∀c ∈ w ++ [e],c<4:=λhw he c hc=>by
  rcases BS.mp hc with hc | hc
  ·exact hw c hc
  ·rw[BV.mp hc];exact he
 have al:∀(w:()) (e k:Nat),w.length<=k->(w ++ [e]).length<=k+1:=λw e k hk=>by rw[am];exact cS hk
 rcases (show i=0\/i=1 by lia)with rfl | rfl
 ·exact#[u,rfl,h.ul,λe he H' hH=>#[u ++ [e],v,by rw[ar];exact hH,ap h.hu he,h.hv,al _ _ _ h.ul,h.vl]]
 ·exact#[v,rfl,h.vl,λe he H' hH=>#[u,v ++ [e],by rw[ar];exact hH,h.hu,ap h.hv he,h.ul,al _ _ _ h.vl]]
def zf6(h:[x0,x1,x2,x3].Nodup)(hc:c<4):YD (dz4 x0 x1 x2 x3) (λZ=>BK) (tx [nmL [x0,x1,x2,x3] c])=BJ (.int (szF c:Nat)):=by
 erw[List.nodup_cons,bF,bM,or_false,not_or]at h;let#[#[a1,a2,a3],#[b1,b2],c1,_]:=h;rcases (show c=0\/c=1\/c=2\/c=3 by lia)with rfl | rfl | rfl | rfl
 ·show (if tx [x0]=tx [x3]then _ else if tx [x0]=tx [x2]then _ else if tx [x0]=tx [x1]then _ else if tx [x0]=tx [x0]then _ else _)=_;rw[z9 (λe=>a3 (List.cons.inj (wu e)).1),z9 (λe=>a2 (List.cons.inj (wu e)).1),z9 (λe=>a1 (List.cons.inj (wu e)).1),y9 rfl];rfl
 ·show (if tx [x1]=tx [x3]then _ else if tx [x1]=tx [x2]then _ else if tx [x1]=tx [x1]then _ else _)=_;rw[z9 (λe=>b2 (List.cons.inj (wu e)).1),z9 (λe=>b1 (List.cons.inj (wu e)).1),y9 rfl];rfl
 ·show (if tx [x2]=tx [x3]then _ else if tx [x2]=tx [x2]then _ else _)=_;rw[z9 (λe=>c1 (List.cons.inj (wu e)).1),y9 rfl];rfl
 ·show (if tx [x3]=tx [x3]then _ else _)=_;rw[y9 rfl];rfl
theorem Kq(l:()):(l.map λc=>((szF c:Nat):Int)).sum=(((l.map szF).sum:Nat):Int):=by
 induction l with
 | nil=>rfl
 | cons c l ih=>rw[ao,aQ,ih,ao,aQ];lia
def Kr{l w:()}(hl:l.length=4)(h:∀c ∈ w,c<4):∀c ∈ w.map (nmL l),c ∈ l:=λc hc=>by
 let#[d,hd,rfl]:=BQ.mp hc;have hd4:=h d hd;unfold nmL;rw[ah ⋯];exact d8 _
def UF(hl:l.length=4):∀z ∈ fourP.map (mp (nmL l)),z.1.length<=60/\z.2.length<=60/\(∀c ∈ z.1,c ∈ l)/\∀c ∈ z.2,c ∈ l:=λz hz=>by
 let#[q,hq,rfl]:=BQ.mp hz;have k:∀q ∈ fourP,q.1.length<=60/\q.2.length<=60/\(∀c ∈ q.1,c<4)/\∀c ∈ q.2,c<4:=∅;let#[k1,k2,k3,k4]:=k q hq;exact#[by show (q.1.map _).length<=60;rw[aa];exact k1,by show (q.2.map _).length<=60;rw[aa];exact k2,Kr hl k3,Kr hl k4]
def qV(hp:H p=BJ (.tup [⇑r.1,⇑r.2]))(h:Iss K H (rs.map dR) vs):Iss K H ((r::rs).map dR) (.ref p::vs):=by
 erw[ao,Iss];refine#[_,_,rfl,?_,h];unfold dR;erw[Is];exact#[p,_,rfl,x4 hp,V0]
def UR(K:tF)(TB:tG):Sp:=λvs H Q Z=>∃(a:tG) (ns:List Int) (l:()),vs=[⇑l,.ref a]/\SqL K H a (ns.map V.int)/\(∀z ∈ ns,vU z)/\wv l=BL/\l.length=4/\TabOk H TB lp lq/\∀H',Q (.bl BL) H'
def gY:sQz 2 ["_law_letters_here","_law_script","_law_cell_here","_law_a","_law_b","_law_c","_law_d","_law_pacts","_law_sizes","_law_words","_law_k","_law_n","_law_steps_here","_law_found","_law_refused"] Y6:=by nofun
def zcn{f CO CR CW TB:tG}(B:Bt mg)(T:TWS P w K mg base CO CR CW)(F:("_law_long"^^^Y6))(iE:(1<<<"_law_cell") ["_law_script","_law_k"] [] (u8 K))(nU:(12<<<"_law_asked") ["_law_order_here","_law_pacts","_law_words","_law_rounds","_law_most"] [] (Yg K CO CR CW TB))(gL:(1<<<"_law_mixed") ["_law_cell_here","_law_turn"] [] xx)(mX:(4<<<"_law_answer") ["_law_found","_law_many"] [] (Yi K))(oW:(2<<<"_law_end") ["_law_pacts","_law_word_here","_law_steps_here"] [] (Y5 K)):(13&&&["_law_letters_here","_law_script"]) (UR K TB):=by
 exists F.ok gY
 ·let#[a,ns,l,rfl,hS,hB,hg,hl4,hTab,q]:=h
  refine#[_,(zh (zB 2 gY.nd (cl0 iE hr .nil rfl (za (pv 1) (za zb ze)))) (zh (jX (xB (own:=["_law_k"]) (caps:=["_law_letters_here"]) (ix:=[0]) (tt:=wP) (te:=(tOp zbd (ym 1) (ym 0))) rfl (zS (sc:=zi Y6) rfl (!0) (!0) (!0) rfl (!0) (!0) rfl) (yg rfl B.range (za zb ze)) (λZ Z Z Z Z Z=>zq (i:=0) (show List.Nodup [_,_] by decide) rfl (.inl rfl)) (λZ Z Z Z Z Z=>yP) (λZ Z Z Z Z Z=>(zm Zk (pv 1) (pv 0)))) (zcc (n:=4) rfl (zL (zq (i:=3) gY.nd rfl (.inl rfl)) (zL (zq (i:=4) gY.nd rfl (.inl rfl)) (zL (zq (i:=5) gY.nd rfl (.inl rfl)) (zL (zq (i:=6) gY.nd rfl (.inl rfl)) y8)))))) (zh (zB 7 gY.nd (yF (za (zN (za (pv 4) (za zP ze))) (za (zN (za (zr zZ (pv 4) (pv 4)) (za (pv 3) ze))) (za (zN (za (zr yN (pv 3) zb) (za (pv 5) ze))) (za (zN (za (zr yN (pv 5) zb) (za (pv 6) ze))) ze)))))) (zh (jH (i:=8) gY.nd rfl (Or.inr rfl) (zfn (Yl (pv 3) zb (Yl (pv 4) zb (Yl (pv 5) zb (Yl (pv 6) zb zeu)))) rfl (λz=>nomatch z) (Nat.le_of_ble_eq_true rfl))) (zh (zB 9 gY.nd (yF (za zP (za zP ze)))) (zh (zW u5 rfl (yg rfl B.range (za zb ze)) (zq (i:=10) gY.nd rfl (.inl rfl)) (zg (zW u5 rfl (yg rfl B.range (za (zr zR (cl0 gL hr .nil rfl (za (pv 2) (za (zr zZ zb (pv 10)) ze))) zb) ze)) (zq (i:=11) gY.nd rfl (.inl rfl)) (zg (jX (zr zZ (zm ix_list (pv 9) (pv 10)) (zm ix_list (yF (za (pv 6) (za (pv 6) (za (pv 5) (za (zm ix_list (yF (za (pv 3) (za (pv 4) ze))) (zr zR (pv 11) zb)) ze))))) (zr zR (cl0 gL hr .nil rfl (za (cl0 iE hr .nil rfl (za (pv 1) (za (zr zZ zb (pv 11)) ze))) (za (zr zZ zb (pv 10)) ze))) zb))) (zbt (pv 9) (pv 10) zaw (by intro _;rfl))))))) (zh (zJ (zu yQ (zr zR (cl0 gL hr .nil rfl (za (pv 2) (za zb ze))) zb) zb (zt _)) (zg (zB 9 gY.nd (yF (za (zr yN (pv 6) (zr zZ zb (zr zR (cl0 gL hr .nil rfl (za (pv 2) (za zb ze))) zb))) (za (zr yN (pv 6) (zr zR (cl0 gL hr .nil rfl (za (pv 2) (za zb ze))) zb)) ze)))))
    zp) (zh (zB 12 gY.nd (xg (zfj rfl) rfl B.sum fW (za (xB (own:=["_law_sign"]) (caps:=["_law_sizes"]) (ix:=[8]) (tt:=wP) (te:=(tOp (zhq P w) (ym 1) (ym 0))) rfl (zS (sc:=zi Y6) rfl (!0) (!0) (!0) rfl (!0) (!0) rfl) (Ve (zr zZ (zm ix_list (pv 9) zb) (zm ix_list (pv 9) zb))) (λZ Z Z Z Z Z=>zq (i:=0) (show List.Nodup [_,_] by decide) rfl (.inl rfl)) (λZ Z Z Z Z Z=>yP) (λZ Z Z Z Z Z=>(zm zeR (pv 1) (pv 0)))) ze))) (zh (jX (cl0 nU hr .nil rfl (za (mkC T.mO hr rfl T.gO (za (pv 0) ze)) (za (xl yT rfl B.list jb0 (za (pv 7) ze)) (za (zN (za (zm ix_list (pv 9) zb) (za (zm ix_list (pv 9) zb) ze))) (za (zr zR (pv 2) zb) (za (zr zZ zb (zr zR (zr yO (pv 2) zb) zb)) ze)))))) (wN (n:=2) rfl (zL (zq (i:=13) gY.nd rfl (.inl rfl)) (zL (zq (i:=14) gY.nd rfl (.inl rfl)) y8)))) (zh (zJ (PW.pt (wA (yB (pv 14) (λZ=>rfl)) (xN (zX (yB (cl0 mX hr .nil rfl (za (pv 13) (za zb ze))) (λZ=>rfl)))))) (zg (zk yJ))
    zp) (zh (zJ (zu Zn (pv 12) zb (zt _)) (zg (zk (ya (YY (ud hr)) (pv 13) (zN (za zP ze)) (zt _))))
    zp) (zg (zk (vN (ya yQ (!-13) zP (zt _)) (vN (ya yQ (zF B.len (!-13)) (pv 12) (zt _)) (vP (ya yQ (cl0 oW hr .nil rfl (za (pv 7) (za (zm ix_list (pv 9) zb) (za (!-13) ze)))) (zm ix_list (pv 9) zb) (zt _)))))))))))))))))),?_]
  have s16:=zU;obtain⟨x0,x1,x2,x3,rfl⟩:∃x0 x1 x2 x3,l=[x0,x1,x2,x3]:=match l,hl4 with | [x0,x1,x2,x3],_=>#[x0,x1,x2,x3,rfl]
  have hn:=(w9 hg).2.2.2;change H'=H/\∃c:Int,vU c/\σ=%[BJ ⇑[x0,x1,x2,x3],!!a,~~~!c|12]
  ·rfl';exact xh hS hB ∅ λc hc=>#[rfl,c,hc,rfl]
  rintro σ H1 ⟨rfl,c,hc,rfl⟩:0;change Same H1 H'/\σ=%[0|8]
  ·rfl';erw[zel];rfl';refine#[∅,∅,λD hD=>CompR.by (λi acc H'=>Same H1 H'/\H' D=BJ (.lst acc)/\acc=(([x0,x1,x2,x3].take i).map λx=>V.str (tx [x]))) #[zf hD,zd,rfl] ?_ ?_]
   ·refine nm3 ?_;rintro i acc H' hi ⟨hs,hH,rfl⟩:_;have h4:i=0\/i=1\/i=2\/i=3:=by have:i<4:=hi;lia
    right;erw[wP];rfl';rcases h4 with rfl | rfl | rfl | rfl <;> exact#[xH,⋯,_,rfl,hH,by rw[aa,aL];exact ba (eC _ _) ⋯,ja0 hi #[zI hs hD,zd,rfl]]
   ·refine nmB ?_;rintro acc H' ⟨hs,hH,rfl⟩:0;exact#[_,rfl,_,x6 hH,rfl,_,_,rfl,_,_,rfl,_,_,rfl,_,_,rfl,rfl,hs,rfl,rfl,rfl,rfl]
  rintro σ H2 ⟨s2,rfl⟩:0;change Same H2 H'/\∃pa:tG,LsA K H' pa ((fourP.map (mp (nmL [x0,x1,x2,x3]))).map dR)/\σ=%[0,!!pa|7]
  ·rfl';erw[u7];refine#[⋯,λp hp=>#[⋯,⋯,λp1 hp1=>#[∅,∅,∅,⋯,λp2 hp2=>#[∅,∅,∅,⋯,λp3 hp3=>#[⋯,λp4 hp4=>?_]]]]];have t0:=zf (o:=.tup [⇑[x1],⇑[]]) hp;have t1:=zf (o:=.tup [⇑[x1,x1],⇑[x0]]) hp1;have t2:=zf (o:=.tup [⇑(ay 10 x0),⇑[x2]]) hp2;have t3:=zf (o:=.tup [⇑(ay 7 x2),⇑[x3]]) hp3;have t4:=zf (o:=.lst [.ref p,.ref p1,.ref p2,.ref p3]) hp4;refine#[t0.trans (t1.trans (t2.trans (t3.trans t4))),_,zd,?_];exact qV (r:=([x1],[])) (t4 _ _ (t3 _ _ (t2 _ _ (t1 _ _ zd)))) (qV (r:=([x1,x1],[x0])) (t4 _ _ (t3 _ _ (t2 _ _ zd))) (qV (r:=(ay 10 x0,[x2])) (t4 _ _ (t3 _ _ zd)) (qV (r:=(ay 7 x2,[x3])) (t4 _ _ zd) (by erw[aJ,Iss]))))
  rintro σ H3 ⟨s3,pa,hP,rfl⟩:0;change Same H3 H'/\∃dz:tG,H' dz=BJ (zdo P w dz (YD (dz4 x0 x1 x2 x3) λZ=>BK) 4)/\σ=%[0,!!pa,!!dz|6]
  ·rfl';unfold zhG;intro p hp;erw[zfh,zhl];rfl';exact#[zd,λb o e=>by rw[zo (zE e hp),zo (zE e hp)];exact e,zd]
  rintro σ H4 ⟨s4,dz,hD',rfl⟩:0;change Same H4 H'/\∃W:tG,H4 W=BK/\H' W=BJ (.lst [⇑[],⇑[]])/\σ=%[0,!!pa,!!dz,!!W|5]
  ·rfl';exact#[⋯,λp hp=>#[zf hp,p,hp,zd,rfl]]
  rintro σ H5 ⟨s5,W0,hW0,hW,rfl⟩:0;change Same H4 H'/\∃v10 v11,(∃u v,WdL [x0,x1,x2,x3] H' W0 u v 10 10)/\σ=%[0,!!pa,!!dz,!!W0,v10,v11|3]
  ·rfl';refine#[∅,∅,ja2 (λi σ H'=>Same H4 H'/\∃v10 v11,(∃u v,WdL [x0,x1,x2,x3] H' W0 u v (if i=0 then 0 else 10) (if i<=1 then 0 else 10))/\σ=%[0,!!pa,!!dz,!!W0,v10,v11|3]) #[s5,BK,BK,#[[],[],hW,λZ h=>(nomatch h),λZ h=>(nomatch h),ax _,ax _],rfl] ?_ ?_]
   ·refine nm3 ?_;rintro i σ H' hi ⟨s',v10,v11,⟨u,v,hu⟩,rfl⟩:_;have hi2:i<2:=hi;right;rfl';refine zQ hc ⋯ ⋯ λz hz=>#[_,rfl,∅,⋯,⋯,?_];have hz11:(z % 11).toNat<=10:=⋯;refine ja2 (λj σ H'=>Same H4 H'/\∃v11,(∃u v,WdL [x0,x1,x2,x3] H' W0 u v (if i=0 then j else 10) (if i=0 then 0 else j))/\σ=%[0,!!pa,!!dz,!!W0,BJ (.int (0+(i:Int))),v11|3]) #[s',v11,#[u,v,hu.h,hu.hu,hu.hv,aB hu.ul (by split <;> simp),aB hu.vl (by split <;> split <;> lia)],rfl] ?_ ?_
    ·refine nm3 ?_;rintro j σ H7 hj ⟨s7,w11,⟨u1,v1,hW1⟩,rfl⟩:_;let#[wi,a1,a2,a3]:=hW1.at hi2
     obtain⟨e1,h1,h1'⟩:∃e,e<4/\atI [V.str (tx [x0]),V.str (tx [x1])] ((0+(j:Int)) % 2)=BJ ⇑[nmL [x0,x1,x2,x3] e]:=by
      rcases (show (0+(j:Int)) % 2=0\/(0+(j:Int)) % 2=1 by lia)with e | e <;> rw[e]
      ·exact#[0,∅,rfl]
      ·exact#[1,∅,rfl]
     have hwl:wi.length<=10:=aB a2 (by by_cases h0:i=0 <;> erw[h0,if_true,if_false] <;> lia);right;rfl';refine#[_,x6 hW1.h,_,a1,⋯,λp hp=>#[∅,_,x6 zd,_,h1',⋯,λp1 hp1=>?_]];have s72:=(zf (o:=.lst [⇑[x0],⇑[x1]]) hp).trans (zf (o:=.lst [⇑[x3],⇑[x3],⇑[x2],⇑[nmL [x0,x1,x2,x3] e1]]) hp1);refine xh (((s2.trans (s3.trans (s4.trans s7))).trans s72).seq hS) hB ⋯ λc5 hc5=>zQ hc5 ⋯ ⋯ λz5 hz5=>?_
     obtain⟨e2,h2,h2'⟩:∃e,e<4/\atI [V.str (tx [x3]),V.str (tx [x3]),V.str (tx [x2]),V.str (tx [nmL [x0,x1,x2,x3] e1])] (z5 % 4)=BJ ⇑[nmL [x0,x1,x2,x3] e]:=by
      rcases (show z5 % 4=0\/z5 % 4=1\/z5 % 4=2\/z5 % 4=3 by lia)with e | e | e | e <;> rw[e]
      ·exact#[3,∅,rfl]
      ·exact#[3,∅,rfl]
      ·exact#[2,∅,rfl]
      ·exact#[e1,h1,rfl]
     refine#[_,rfl,∅,_,x6 zd,_,h2',?_];rfl';erw[zgC,zfM];rfl';refine#[by rw[aa];lia,_,s72 _ _ hW1.h,i,by rcases (show i=0\/i=1 by lia)with rfl | rfl <;> rfl,zI (s7.trans s72) hW0,?_];have h3:=a3 e2 h2 _ (zd (H:=upd (upd H7 p (.lst [⇑[x0],⇑[x1]])) p1 (.lst [⇑[x3],⇑[x3],⇑[x2],⇑[nmL [x0,x1,x2,x3] e1]])));by_cases h0:i=0
     ·erw[h0,if_true]at h3 ⊢;exact h3
     ·erw[h0,if_false]at h3 ⊢;exact h3
    ·refine nmB ?_;rintro σ H7 ⟨s7,w11,⟨u1,v1,hW1⟩,rfl⟩:0;rfl';exact#[s7,u1,v1,hW1.h,hW1.hu,hW1.hv,aB hW1.ul (by split <;> lia),aB hW1.vl (by split <;> split <;> lia)]
   ·refine nmB ?_;rintro σ H' ⟨s',v10,v11,h,rfl⟩:0;rfl';exact#[s',h]
  rintro σ H6 ⟨s6,v10,v11,⟨u0,v0,hu0⟩,rfl⟩:0;change Same H6 H'/\∃W:tG,(∃u v,WdL [x0,x1,x2,x3] H' W u v 10 10)/\σ=%[0,!!pa,!!dz,!!W,v10,v11|3]
  ·rfl';refine zQ hc ∅ ∅ λz Z=>#[_,rfl,∅,yd (λZ=>zQ hc ∅ ∅ λz5 Z=>#[_,rfl,∅,⋯,⋯,∅,zQ hc ∅ ∅ λz6 Z=>#[_,rfl,∅,⋯,⋯,∅,⋯,λp hp=>#[zf hp,ay (1+z5 % 9).toNat 3,ay (z6 % 2).toNat 3,?_,λc hc=>by rw[(Ct.mp hc).2];decide,λc hc=>by rw[(Ct.mp hc).2];decide,by rw[bj];lia,by rw[bj];lia]]]) λZ=>#[x9 _,u0,v0,hu0]];rw[dP,dP,u7,u7];exact zd
  rintro σ H7 ⟨s7,W,⟨u,v,hW7⟩,rfl⟩:0;change Same H7 H'/\σ=%[0,!!pa,!!dz,!!W,v10,v11,BJ (.int ((((u ++ v).map szF).sum:Nat):Int))|2]
  ·rfl';refine#[_,x6 hW7.h,_,rfl,_,x6 hW7.h,_,rfl,?_];have hul:=hW7.ul;have hvl:=hW7.vl;rfl';rw[<- ar];refine#[by rw[aa,aa];lia,λD hD=>CompS.by (λi acc H'=>Same H7 H'/\H' D=BJ (.lst acc)/\acc=(((u ++ v).take i).map λc=>V.int (szF c:Nat))) #[zf hD,zd,rfl] ?_ ?_]
   ·refine nm4 ?_;rintro i c' acc H' hc' ⟨hs,hH,rfl⟩:_;rw[au]at hc';let#[c1,hc1,rfl]:=BW.mp hc';have hlt:=(BP.mp hc1).1;rw[am]at hlt;right;erw[wP];rfl';refine#[xH,dz,_,_,_,_,rfl,rfl,hs _ _ (s7 _ _ (s6 _ _ hD')),zf6 hn ((BS.mp (ag hc1)).elim (hW7.hu c1) (hW7.hv c1)),hH,by rw[aa,aL];exact ba (eC _ _) ⋯,ja0 (by rw[aa,am];lia) #[zI hs hD,zd,?_]];rw[yb hc1,ar];rfl
   ·refine nmB ?_;rintro acc H' ⟨hs,hH,rfl⟩:_;rw[aa,aP]at hH;right;refine#[D,((u ++ v).map λc=>((szF c:Nat):Int)),rfl,x6 (by rw[bc];exact hH),hs,?_];rw[Kq]
  rintro σ H8 ⟨s8,rfl⟩:0;change ∃f:tG,(LsA K H' pa ((fourP.map (mp (nmL [x0,x1,x2,x3]))).map dR)/\WdL [x0,x1,x2,x3] H' W u v 10 10/\((((u ++ v).map szF).sum<=2000/\∃(S:tG) (ss:List Stp),H' f=BJ (.tup [.str "alike",.ref S])/\LsA K H' S (ss.map dSt)/\ss.length=((u ++ v).map szF).sum/\z7 (fourP.map (mp (nmL [x0,x1,x2,x3]))) (u.map (nmL [x0,x1,x2,x3])) ss=BJ (v.map (nmL [x0,x1,x2,x3])))\/(2000<((u ++ v).map szF).sum/\H' f=BJ (.tup [.str "open"]))))/\σ=[BJ ⇑[x0,x1,x2,x3],!!a,~~~!c,BJ ⇑[x0],BJ ⇑[x1],BJ ⇑[x2],BJ ⇑[x3],!!pa,!!dz,!!W,v10,v11,BJ (.int ((((u ++ v).map szF).sum:Nat):Int)),!!f,BJ (.bl BM)]
  ·rfl';intro x dx hx hdx hne;have sd:=zf (o:=.own x) hdx
   have sx:Same H8 (upd (upd (upd H8 dx (.own x)) x (.ins CO dx [])) x (.ins CO dx [("letters",⇑[x0,x1,x2,x3])])):=λb o' e=>by
    rw[zo (zE e hx),zo (zE e hx)];exact sd _ _ e
   have hP8:=hP.same ((s4.trans s6).trans (s7.trans s8));have hW8:=s8 _ _ hW7.h;have hT8:=hTab.same ((s2.trans (s3.trans (s4.trans s6))).trans (s7.trans s8));let#[px,hPx,hPi]:=id hP8;refine#[x,CO,dx,_,rfl,hg,T.cO,T.lO,zd,rfl,px,.inl (x6 (sx _ _ hPx)),λld hld=>?_];have sl:=sx.trans (zf (o:=.lst px) hld);refine#[_,x6 (sl _ _ hW8),_,rfl,_,x6 (sl _ _ hW8),_,rfl,⋯,λp hp=>#[∅,#[∅,∅],∅,?_]];have sp:=zf (o:=.tup [⇑(u.map (nmL [x0,x1,x2,x3])),⇑(v.map (nmL [x0,x1,x2,x3]))]) hp;have sq:=sl.trans sp;let#[tp,htp,_]:=id (hT8.same sq);have er:c % 4=((c % 4).toNat:Int):=⋯;have em:1+c / 4 % 2=(((1+c / 4 % 2).toNat:Nat):Int):=⋯;have r4:(c % 4).toNat<4:=⋯;have m2:(1+c / 4 % 2).toNat=1\/(1+c / 4 % 2).toNat=2:=⋯;rw[er,em];generalize (c % 4).toNat=r at r4;generalize (1+c / 4 % 2).toNat=m at m2;have hG:OG [x0,x1,x2,x3] [1,1,1,1] 0:=#[hg,∅,rfl,by simp];have hmT:m ^ (m * [x0,x1,x2,x3].length)<=1000:=by rcases m2 with rfl | rfl <;> simp
   have hul:=hW7.ul;have hvl:=hW7.vl;have hfp:=UF hl4 (l:=[x0,x1,x2,x3]);refine#[x,ld,p,0,_,[1,1,1,1],fourP.map (mp (nmL [x0,x1,x2,x3])),_,_,r,m,rfl,x4 zd,(show OrdAt CO CR CW _ x 0 _ _ from #[dx,.inl #[rfl,zd]]).same ((zf (o:=.lst px) hld).trans sp),hG,LsA.same #[px,zd,ja1 sl _ _ hPi] sp,by show 4<=20;decide,hfp,by rw[aa];lia,by rw[aa];lia,Kr hl4 hW7.hu,Kr hl4 hW7.hv,⋯,⋯,hT8.same sq,λhb=>y6 hb ⋯,λZ p' f' Hj H' sT hT' hJ sH hp'=>?_];have j:=hJ.four hl4 hn r4 ⋯ hG hW7.hu hW7.hv hul hvl hfp;refine#[_,rfl,_,x4 hp',rfl,_,_,rfl,_,_,rfl,rfl,((hP8.same sq).samT sT htp).same sH,#[sH _ _ (sT.at htp (sq _ _ hW8) λZ z=>by cases z),hW7.hu,hW7.hv,hul,hvl],f',?_,rfl,rfl];rcases j with ⟨j0,S,ss,j1,j2,j3,j4⟩ | ⟨j0,j1⟩
   ·exact .inl #[j0,S,sH _ _ j1,ss,j2.same sH,j3,j4]
   ·exact .inr #[j0,sH _ _ j1]
  rintro σ H9 ⟨f,⟨hP9,hW9,hJ⟩,rfl⟩:0;change Same H9 H'/\σ=[BJ ⇑[x0,x1,x2,x3],!!a,~~~!c,BJ ⇑[x0],BJ ⇑[x1],BJ ⇑[x2],BJ ⇑[x3],!!pa,!!dz,!!W,v10,v11,BJ (.int ((((u ++ v).map szF).sum:Nat):Int)),!!f,BJ (.bl BM)]
  ·rfl';refine#[f,[0,0,0,0],rfl,∅,?_,λH' s'=>#[BL,rfl,kG s']];rcases hJ with ⟨_,S,ss,j1,j2,_⟩ | ⟨_,j1⟩
   ·exact .alike S ss j1 j2
   ·exact .open_ j1
  rintro σ H10 ⟨s10,rfl⟩:0;change H'=H10/\((u ++ v).map szF).sum<=2000/\σ=[BJ ⇑[x0,x1,x2,x3],!!a,~~~!c,BJ ⇑[x0],BJ ⇑[x1],BJ ⇑[x2],BJ ⇑[x3],!!pa,!!dz,!!W,v10,v11,BJ (.int ((((u ++ v).map szF).sum:Nat):Int)),!!f,BJ (.bl BM)]
  ·rfl';refine yd (λh2=>#[⋯,λp hp=>?_]) λh2=>by lia
   rcases hJ with ⟨j0,_⟩ | ⟨_,j1⟩
   ·lia
   ·have so:=zf (o:=.tup [.str "open"]) hp;refine jP (l:=[.str "open"]) (m:=[.str "open"]) (.inr #[?_,?_]) ∅ (by rw[xm];exact q _)
    ·erw[Is,Iss];exact#[f,_,rfl,x4 (so _ _ (s10 _ _ j1)),_,_,rfl,rfl,rfl]
    ·erw[Is,Iss];exact#[p,_,rfl,x4 zd,_,_,rfl,rfl,rfl]
  rintro σ H11 ⟨rfl,hle,rfl⟩:0;rcases hJ with ⟨_,S,ss,j1,j2,j3,j4⟩ | ⟨j0,_⟩
  ·let#[xs,hx1,hx2]:=id (j2.same s10);have hxl:=hx2.len;rw[aa]at hxl;have hW11:=s10 _ _ hW9.h;have hul:=hW9.ul;rfl';refine#[_,x4 (s10 _ _ j1),_,rfl,rfl,yd (λZ=>#[_,x4 (s10 _ _ j1),_,rfl,_,.inl #[_,x6 hx1,rfl],yd (λZ=>#[_,x6 hW11,_,rfl,_,x4 (s10 _ _ j1),_,rfl,ZE (hP9.same s10).is #[by show 4<=30;decide,λr hr'=>?_] (by rw[aa];lia) (j2.same s10).is ⋯ j4 #[_,x6 hW11,_,rfl,rfl,?_]]) λz=>y6 ⋯ z]) λz=>y6 rfl z]
   ·have:=UF hl4 r hr';lia
   ·rw[y3 rfl];exact q _
  ·lia
theorem JOut.gen(h:JOut K H k l ns rs u v r m p)(hG:OG l ns k)(hrs:RIn l rs) :
  (∃(S:tG) (ss:List Stp),H p=BJ (.tup [.str "alike",.ref S])/\LsA K H S (ss.map dSt)/\ss.length<=2000/\z7 rs u ss=BJ v)\/∃(s:tK) (xs:List V),H p=BJ (.tup (.str s::xs))/\s≠"alike"/\(u=v->s="open"):=by
 cases h with
 | alike w es i j S hc hb hi hj he hl hp hS=>exact .inl #[S,_,hp,hS,hl,ka (zbf (rs:=rs) hG hc (zbI hrs) (λe he=>Vc he) #[λe h=>(nomatch h),.inl rfl]).1 hi hj he]
 | forms es i j D hc hb hi hj hn hp hD=>exact .inr #[_,_,hp,∅,λe=>by
   subst e;cases uK hi.live hi.end_ hj.live hj.end_
   exact y6 rfl hn]
 | world w es n N t ts hc hb hno h1 h2 h3 h4 h5 hp ht=>exact .inr #[_,_,hp,∅,λe=>by
   subst e;unfold vt at h4;rw[y4 (λh=>h rfl)]at h4
   cases h4]
 | open_ w es hc hb hno h5 hp=>exact .inr #[_,_,hp,∅,λZ=>rfl]
theorem JOut.nil(h:JOut K H k l ns [] u v r m p):(u=v/\∃S,H p=BJ (.tup [.str "alike",.ref S])/\Is K H (.lst []) (.ref S))\/(u≠v/\∃D,H p=BJ (.tup [.str "forms",.ref D,⇑u,⇑v])/\Is K H (.lst []) (.ref D)):=by
 have nil:∀{w es},Cpl k l ns (r+1) [] (fEs [] 0) w es->w=BL/\es=[]:=λ{w es} hc=>by
  let#[h1,h2]:=JD (f:=id) (dm:=λZ=>BL) (lt:=zM k l ns) (R:=[]) (x:=(BL,[])) (λZ Z e=>e) (λx y Z Z=>by rw[List.map_id,List.map_id]) hc rfl;exact#[h1,List.map_eq_nil_iff.mp h2]
 have e0:∀{w:()} {i:Nat},zD [] w i->i=0:=λ{w i} h=>uK h.live h.end_ (λi hi=>y6 hi (bI i)) (by unfold zC xp vG;simp);have z0:∀w:(),zD [] w 0:=λw=>#[λi hi=>y6 hi (bI i),by show zC w []=BK;unfold zC xp vG;simp,ax _]
 have no:∀{w},w=BL->¬ NoR [] w u v:=λ{w} hw hn=>by
  rcases hn with hn | hn | ⟨i,j,hi,hj,hn⟩
  ·exact hn 0 (z0 u)
  ·exact hn 0 (z0 v)
  ·cases e0 hi;cases e0 hj;rcases hn with ⟨_,hn⟩ | ⟨_,hn⟩
   ·rw[hw]at hn;cases hn
   ·exact y6 hn (by show ¬ 2000<0;decide)
 cases h with
 | alike w es i j S hc hb hi hj he hl hp hS =>
  let#[_,rfl]:=nil hc;cases e0 hi;cases e0 hj;exact .inl #[he,S,hp,hS.is]
 | forms es i j D hc hb hi hj hn hp hD =>
  let#[_,rfl]:=nil hc;cases e0 hi;cases e0 hj;exact .inr #[hn,D,hp,hD.l.is]
 | world w es n N t ts hc hb hno h1 h2 h3 h4 h5 hp ht =>
  let#[hw,rfl]:=nil hc;exact y6 hno (no hw)
 | open_ w es hc hb hno h5 hp =>
  let#[hw,rfl]:=nil hc;exact y6 hno (no hw)
structure Drw(H:Hp)(k:Int)(l:())(ws:List Int)(W:tG):Prop where
 k0:0<=k
 k3:k<3
 g:wv l=BL
 l2:2<=l.length
 l3:l.length<=3
 n:ws.length=l.length
 b:∀n ∈ ws,1<=n/\n<=1000000
 w:H W=BJ (.lst (ws.map V.int))
structure PG(l:())(rs:List zK):Prop where
 n:rs.length<=6
 s:∀r ∈ rs,r.1.length<=3/\r.2.length<=3/\(∀x ∈ r.1,x ∈ l)/\∀x ∈ r.2,x ∈ l
def PG.ok(h:PG l rs):jc rs:=#[by have:=h.n;lia,λr hr=>by have:=h.s r hr;lia]
def UX(l:()):Ke λu v:()=>(∀c ∈ u,c ∈ l) ↔ ∀c ∈ v,c ∈ l :=
 #[λZ=>.rfl,.symm,.trans,λ{u v} a b h=>by
  erw[List.mem_append]
  exact#[λg c hc=>hc.elim (λhc=>hc.elim (λhc=>g c (.inl (.inl hc))) (h.mp (λc hc=>g c (.inl (.inr hc))) c)) (λhc=>g c (.inr hc)),λg c hc=>hc.elim (λhc=>hc.elim (λhc=>g c (.inl (.inl hc))) (h.mpr (λc hc=>g c (.inl (.inr hc))) c)) (λhc=>g c (.inr hc))]]
def Z3 : Is K H (.tup ds) v=∃a xs,v=.ref a/\SqT K H a xs/\Iss K H ds xs:=by erw[Is]
def zaA : Iss K H [] []:=by erw[Iss]
def Xp(h:Is K H d v)(r:Iss K H ds vs):Iss K H (d::ds) (v::vs):=by
 erw[Iss];exact#[v,vs,rfl,h,r]
theorem AnsJ.same{H H':Hp}{l:()}{p:tG}(h:AnsJ K H l p)(s:Same H H'):AnsJ K H' l p:=by
 cases h with
 | open_ h=>exact .open_ (s _ _ h)
 | alike S ss h hS=>exact .alike S ss (s _ _ h) (hS.same s)
 | forms D es f g h hD=>exact .forms D es f g (s _ _ h) (hD.same s)
 | world t ts tab h ht hG=>exact .world t ts tab (s _ _ h) (ht.same s) hG
def Jy(rs:List zK):ui (rs.map dR)<=1:=Wh λd h=>by let#[r,_,rfl]:=BQ.mp h;erw[dR,dS,dpD,ui];lia
def Vp(K:tF)(T:tG):Sp:=λvs H Q Z=>∃(a:tG) (ns:List Int),vs=[.ref a]/\SqL K H a (ns.map V.int)/\(∀z ∈ ns,vU z)/\H T=BJ (.tbl #[])/\∀H',Q (.bl BL) H'
def ij:sQz 1 ["_law_script","_law_first_cell","_law_kind","_law_letters_here","_law_weights","_law_count","_law_pacts","_law_one","_law_other","_law_handed","_law_order_here","_law_most","_law_found","_law_refused"] kD:=by nofun
def zec{f CO CR CW TB:tG}(B:Bt mg)(F:("law"^^^kD))(iE:(1<<<"_law_cell") ["_law_script","_law_k"] [] (u8 K))(tj:(3<<<"_law_draw") ["_law_cell_here"] [] JS)(ow:(1<<<"_law_word") ["_law_number","_law_letters_here","_law_most"] [] Ys)(sS:(6<<<"_law_order") ["_law_kind","_law_letters_here","_law_weights"] [] (Vq K CO CR CW))(nU:(12<<<"_law_asked") ["_law_order_here","_law_pacts","_law_words","_law_rounds","_law_most"] [] (Yg K CO CR CW TB))(sU:(13<<<"_law_known") ["_law_script","_law_letters_here"] [] (Vj K TB))(tm:(13<<<"_law_long") ["_law_letters_here","_law_script"] [] (UR K TB))(tu:(2<<<"_law_pair") ["_law_cell_here","_law_letters_here","_law_most"] [] Yq)(gL:(1<<<"_law_mixed") ["_law_cell_here","_law_turn"] [] xx)(oW:(2<<<"_law_end") ["_law_pacts","_law_word_here","_law_steps_here"] [] (Y5 K))(sM:(1<<<"_law_within") ["_law_many","_law_rooms"] [] Vs)(oz:(2<<<"_law_letters") ["_law_cell_here","_law_many"] [] vC)(sV:(3<<<"_law_chain") ["_law_pacts","_law_word_here","_law_cells","_law_most"] [] (Zu K))(mX:(4<<<"_law_answer") ["_law_found","_law_many"] [] (Yi K)):(14&&&["_law_script"]) (Vp K TB):=by
 exists F.ok ij
 ·let#[a,ns,rfl,hS,hB,hT,q]:=h
  refine#[_,(zh (zB 1 ij.nd (cl0 iE hr .nil rfl (za (pv 0) (za zb ze)))) (zh (jX (cl0 tj hr .nil rfl (za (pv 1) ze)) (wN (n:=3) rfl (zL (zq (i:=2) ij.nd rfl (.inl rfl)) (zL (zq (i:=3) ij.nd rfl (Or.inr rfl)) (zL (zq (i:=4) ij.nd rfl (.inl rfl)) y8))))) (zh (zJ (zu yQ (zr zR (cl0 iE hr .nil rfl (za (pv 0) (za zb ze))) zb) zb (zt _)) (zg (zk (cl0 sU hr .nil rfl (za (pv 0) (za (pv 3) ze)))))
    zp) (zh (zJ (zu yQ (zr zR (cl0 iE hr .nil rfl (za (pv 0) (za zb ze))) zb) zb (zt _)) (zg (zk (cl0 tm hr .nil rfl (za (cl0 oz hr .nil rfl (za (pv 1) (za zb ze))) (za (pv 0) ze)))))
    zp) (zh (zB 5 ij.nd (cl0 iE hr .nil rfl (za (pv 0) (za zb ze)))) (zh (Kc (i:=6) ij.nd rfl (.inl rfl) (.inl rfl) (own:=["_law_k"]) (caps:=["_law_script","_law_letters_here"]) (ix:=[0,3]) (tt:=wP) (te:=(uZ Yq [] E0 (zO (uZ (u8 K) [] E0 (zO (ym 1) (zO (tOp Xk (tC (.int 2)) (ym 0)) xI))) (zO (ym 2) (zO (tC (.int 3)) xI))))) rfl (zS (sc:=zi kD) rfl (!0) (!0) (!0) rfl (!0) (!0) rfl) (yg rfl B.range (za (zr zR (pv 5) zb) ze)) (λZ Z Z Z Z Z=>zq (i:=0) (show List.Nodup [_,_,_] by decide) rfl (.inl rfl)) (λZ Z Z Z Z Z=>yP) (λZ Z Z Z Z Z=>(cl0 tu hr .nil rfl (za (cl0 iE hr .nil rfl (za (pv 1) (za (zr zZ zb (pv 0)) ze))) (za (pv 2) (za zb ze)))))) (zh (zB 7 ij.nd (cl0 ow hr .nil rfl (za (cl0 gL hr .nil rfl (za (cl0 iE hr .nil rfl (za (pv 0) (za zb ze))) (za zb ze))) (za (pv 3) (za zb ze))))) (zh (zB 8 ij.nd (cl0 ow hr .nil rfl (za (cl0 gL hr .nil rfl (za (cl0 iE hr .nil rfl (za (pv 0) (za zb ze))) (za zb ze))) (za (pv 3) (za zb ze))))) (zh (zJ (zu Zn (zr zR (zr yO (pv 5) zb) zb) zb (zt _)) (zg (zB 8 ij.nd (cl0 oW hr .nil rfl (za (pv 6) (za (pv 7) (za (cl0 sV hr .nil rfl (za (pv 6) (za (pv 7) (za (yk ZH (pv 0) (yc zb) (yc zb)) (za zb ze))))) ze))))))
    zp) (zh (zB 9 ij.nd (xl yT rfl B.list jb0 (za (pv 6) ze))) (zh (zB 10 ij.nd (cl0 sS hr .nil rfl (za (pv 2) (za (pv 3) (za (pv 4) ze))))) (zh (zB 11 ij.nd (zr yq zb (zr zR (zr yO (pv 5) zb) zb))) (zh (zJ (zu yQ (zr zR (zr yO (pv 5) zb) zb) zb (zt _)) (zg (zB 11 ij.nd (zr yq zb (zr zR (zr yO (pv 5) zb) zb))))
    zp) (zh (jX (cl0 nU hr .nil rfl (za (pv 10) (za (pv 9) (za (zN (za (pv 7) (za (pv 8) ze))) (za (zr zR (zr yO (pv 5) zb) zb) (za (pv 11) ze)))))) (wN (n:=2) rfl (zL (zq (i:=12) ij.nd rfl (.inl rfl)) (zL (zq (i:=13) ij.nd rfl (.inl rfl)) y8)))) (zh (zJ (zu (zeA (ud hr)) (pv 9) (pv 6) (zt _)) (zg (zk yJ))
    zp) (zh (zJ (zX (yB (cl0 sM hr .nil rfl (za (zF B.len (pv 3)) (za (pv 11) ze))) (λZ=>rfl))) (zg (zk (vN (pv 13) (vP (ya op_isN' (pv 12) yh (zt _))))))
    zp) (zh (zJ (PW.pt (wA (yB (pv 13) (λZ=>rfl)) (xN (zX (yB (cl0 mX hr .nil rfl (za (pv 12) (za (zF B.len (pv 3)) ze))) (λZ=>rfl)))))) (zg (zk yJ))
    zp) (zh (zJ (PW.pt (zbB (zu yQ (zF B.len (pv 6)) zb (zt _)) (JJ (zu yQ (pv 7) (pv 8) (zt _))))) (zg (zk (ya (YY (ud hr)) (pv 12) (zN (za zP (za (yF ze) ze))) (zt _))))
    zp) (zh (zJ (zu yQ (zF B.len (pv 6)) zb (zt _)) (zg (zk (ya (YY (ud hr)) (pv 12) (zN (za zP (za (yF ze) (za (pv 7) (za (pv 8) ze))))) (zt _))))
    zp) (zh (zJ (zu qb (!-12) zP (zt _)) (zg (zk (zf9 (ya qb (pv 7) (pv 8) (zt _)) (vP (ya yQ (!-12) zP (zt _))))))
    zp) (zg (zk (vN (ya xu (zF B.len (!-12)) zb (zt _)) (vP (ya yQ (cl0 oW hr .nil rfl (za (pv 6) (za (pv 7) (za (!-12) ze)))) (pv 8) (zt _)))))))))))))))))))))))))),?_]
  have s16:=zU;have hTab:TabOk H TB lp lq:=#[#[],hT,trivial,.inl rfl];change H'=H/\∃c0:Int,vU c0/\σ=%[!!a,~~~!c0|12]
  ·rfl';exact xh hS hB ∅ λc hc=>#[rfl,c,hc,rfl]
  rintro σ H1 ⟨rfl,c0,hc0,rfl⟩:0;change Same H1 H'/\∃(k:Int) (l:()) (W:tG),(∃ws,Drw H' k l ws W)/\σ=%[2|9]
  ·rfl';refine#[c0,rfl,hc0,λk l ws p W H' a1 a2 a3 a2' a3' a4 a5 s' hp hW=>?_];exact#[p,rfl,_,x4 hp,rfl,_,_,rfl,_,_,rfl,_,_,rfl,rfl,s',k,l,W,#[ws,a1,a2,a3,a2',a3',a4,a5,hW],rfl,rfl,rfl]
  rintro σ H1' ⟨s1,k,l,W,⟨ws,hw⟩,rfl⟩:_;let#[l1,l6,lsm,lnd]:=w9 hw.g;have hl2:=hw.l2;have hl3:=hw.l3;have hG:OG l ws k.toNat:=#[hw.g,by have:=hw.k0;have:=hw.k3;lia,hw.n,hw.b];have hS1:=s1.seq hS;have hT1:=hTab.same s1;right;change H'=H1'/\σ=%[2|9]
  ·rfl';exact xh hS1 hB ∅ λz hz=>#[_,rfl,∅,yd (λZ=>#[a,ns,l,rfl,hS1,hB,hw.g,hl2,hT1,q]) λZ=>rfl]
  rintro σ H1 ⟨rfl,rfl⟩:0;change H'=H1/\σ=%[2|9]
  ·rfl';exact xh hS1 hB ∅ λz hz=>#[_,rfl,∅,yd (λZ=>kj hc0 ∅ ∅ λl4 h1 h2 h3=>#[a,ns,l4,rfl,hS1,hB,y3 #[⋯,⋯,h3,h2],⋯,hT1,q]) λZ=>rfl]
  rintro σ H1 ⟨rfl,rfl⟩:0;change H'=H1/\∃n:Int,σ=%[2,~~~!n|8]
  ·rfl';exact xh hS1 hB ∅ λn Z=>#[rfl,n,rfl]
  rintro σ H1 ⟨rfl,n,rfl⟩:0;change Same H1 H'/\∃pa:tG,(∃rs,LsA K H' pa (rs.map dR)/\PG l rs)/\σ=%[2,~~~!n,!!pa|7]
  ·rfl';have e0:=bJ n (b:=4) ∅;have e1:=bE n (b:=4) ∅;refine#[∅,⋯,⋯,λD hD=>CompR.by (λi acc H'=>Same H1 H'/\H' D=BJ (.lst acc)/\∃rs:List zK,Iss K H' (rs.map dR) acc/\rs.length=i/\∀r ∈ rs,r.1.length<=3/\r.2.length<=3/\(∀x ∈ r.1,x ∈ l)/\∀x ∈ r.2,x ∈ l) #[zf hD,zd,[],by erw[aJ,Iss],rfl,λr h=>(nomatch h)] ?_ ?_]
   ·refine nm3 ?_;rintro i acc H' hi ⟨hs,hH,rs,hI,hrl,hrb⟩:_;have hal:=hI.len;rw[aa]at hal;have hi4:i<5:=⋯;right;erw[wP];rfl';refine#[xH,xh (hs.seq hS1) hB ⋯ λc3 hc3=>zaD hc3 ⋯ ⋯ ∅ ∅ λo n p ho hn mo mn hp=>#[zf hp _ _ hH,⋯,ja0 hi #[zI (hs.trans (zf hp)) hD,zd,rs ++ [(o,n)],?_,by rw[am,hrl];rfl,λr hr'=>?_]]]
    ·rw[ar];exact qS hH hI hp V0 (WJ rs) (by erw[z8,xw,and_self])
    ·rcases BS.mp hr' with h | h
     ·exact hrb r h
     ·rw[BV.mp h];exact#[by show o.length<=3;lia,by show n.length<=3;lia,mo,mn]
   ·refine nmB ?_;rintro acc H' ⟨hs,hH,rs,hI,hrl,hrb⟩:0;exact#[hs,D,#[rs,#[acc,hH,hI],⋯,hrb],rfl]
  rintro σ H2 ⟨s2,pa,⟨rs,hP,hPG⟩,rfl⟩:_;have hpn:=hPG.n;have hS2:=s2.seq hS1;right;change H'=H2/\∃w:(),w.length<=6/\(∀c ∈ w,c ∈ l)/\σ=%[2,~~~!n,!!pa,~~~w|6]
  ·rfl';exact xh hS2 hB ∅ λc hc=>zQ hc ∅ ∅ λz hz=>qN hz ⋯ ⋯ ∅ ∅ λw hw1 hw2=>#[rfl,w,⋯,hw2,rfl]
  rintro σ H3 ⟨rfl,u,hul,hui,rfl⟩:0;change H'=H3/\∃w:(),w.length<=60/\(∀c ∈ w,c ∈ l)/\σ=%[2,~~~!n,!!pa,~~~u,~~~w|5]
  ·rfl';exact xh hS2 hB ∅ λc hc=>zQ hc ∅ ∅ λz hz=>qN hz ⋯ ⋯ ∅ ∅ λw hw1 hw2=>#[rfl,w,⋯,hw2,rfl]
  rintro σ H3 ⟨rfl,v0,hv0l,hv0i,rfl⟩:0;change Same H3 H'/\∃v:(),v.length<=60/\(∀c ∈ v,c ∈ l)/\σ=%[2,~~~!n,!!pa,~~~u,~~~v|5]
  ·rfl';refine#[#[∅,∅],∅,yd (λZ=>#[_,hS2,λp hp=>?_]) λZ=>#[x9 _,v0,hv0l,hv0i,rfl]];rw[Y7 ns ∅ ∅];have hcb:∀z ∈ (ns.drop (7:Int).toNat).take ((24:Int) - 7).toNat,vU z:=λz hz=>hB z (dg (bu hz));have hcl:((ns.drop (7:Int).toNat).take ((24:Int) - 7).toNat).length<=56:=by rw[aL];exact aB (eC _ _) ∅
   generalize (ns.drop (7:Int).toNat).take ((24:Int) - 7).toNat=cs at hcb hcl ⊢;have sp:=zf (o:=.lst (cs.map V.int)) hp;exact QJ (hP.same sp).is hPG.ok ⋯ ∅ (x6 zd) hcb ⋯ λT H6 ss w' hT s6 hL6 hwk hw' hsl Z=>ZE (hP.same (sp.trans s6)).is hPG.ok ⋯ hL6.is ⋯ hwk #[sp.trans s6,w',hw',(Jp (UX l) (λp hp=>#[λZ=>(hPG.s p hp).2.2.2,λZ=>(hPG.s p hp).2.2.1]) hwk).mp hui,rfl]
  rintro σ H4 ⟨s4,v,hvl,hvi,rfl⟩:0;change Same H4 H'/\∃hd:tG,LsA K H' hd (rs.map dR)/\σ=%[2,~~~!n,!!pa,~~~u,~~~v,!!hd|4]
  ·rfl';let#[px,hPx,hPi]:=id (hP.same s4);exact#[px,.inl (x6 hPx),λhh hh'=>#[zf hh',px,zd,ja1 (zf hh') _ _ hPi]]
  rintro σ H5 ⟨s5,hd,hHd,rfl⟩:0;change Same H5 H'/\∃o:tG,OrdAt CO CR CW H' o k.toNat l ws/\σ=%[2,~~~!n,!!pa,~~~u,~~~v,!!hd,!!o|3]
  ·rfl';exact#[k,l,W,ws,rfl,hw.k0,hw.k3,hw.g,(s2.trans (s4.trans s5)) _ _ hw.w,hw.n,hw.b,λo H' s' ho=>#[s',o,ho,rfl]]
  rintro σ H6 ⟨s6,o,ho,rfl⟩:0;change H'=H6/\∃m:Nat,m<=8/\σ=%[2,~~~!n,!!pa,~~~u,~~~v,!!hd,!!o,-~~~m|2]
  ·rfl';exact#[#[∅,∅],∅,(1+n / 36 % 2).toNat,⋯,⋯]
  rintro σ H6 ⟨rfl,m0,hm0,rfl⟩:0;change H'=H6/\∃m:Nat,m<=8/\σ=%[2,~~~!n,!!pa,~~~u,~~~v,!!hd,!!o,-~~~m|2]
  ·rfl';exact#[#[∅,∅],∅,yd (λZ=>#[#[∅,∅],∅,(3+n / 288 % 6).toNat,⋯,⋯]) λZ=>#[m0,hm0,rfl]]
  rintro σ H6 ⟨rfl,m,hm8,rfl⟩:_;have s36:Same H3 H6:=s4.trans (s5.trans s6);right;change ∃(fv:V) (b:Bool),(LsA K H' pa (rs.map dR)/\LsA K H' hd (rs.map dR)/\((1000<m ^ (m * l.length)/\fv=.non/\b=BL)\/(m ^ (m * l.length)<=1000/\b=BM/\∃(f:tG) (r:Nat) (Hj:Hp),fv=.ref f/\JOut K Hj k.toNat l ws rs u v r m f/\Same Hj H')))/\σ=[!!a,~~~!c0,~~~!k,~~~l,!!W,~~~!n,!!pa,~~~u,~~~v,!!hd,!!o,-~~~m,BJ (fv),BJ (.bl b)]
  ·rfl';refine#[⋯,λp hp=>#[#[∅,∅],∅,?_]];have sp:=zf (o:=.tup [⇑u,⇑v]) hp;have hT6:=(hT1.same (s2.trans s36)).same sp;let#[tp,htp,_]:=id hT6;have hP6:=(hP.same s36).same sp;have hH6:=(hHd.same s6).same sp;rw[show n / 12 % 3=((n / 12 % 3).toNat:Int) by lia];refine#[o,hd,p,k.toNat,l,ws,rs,u,v,_,m,rfl,x4 zd,ho.same sp,hG,hH6,⋯,λp hp=>#[by have:=hPG.s p hp;lia,by have:=hPG.s p hp;lia,(hPG.s p hp).2.2],⋯,hvl,hui,hvi,⋯,hm8,hT6,λhb p' H' s' hp'=>?_,λhb p' f' Hj H' sT hT' hJ sH hp'=>?_]
   ·exact#[_,rfl,_,x4 hp',rfl,_,_,rfl,_,_,rfl,rfl,hP6.same s',hH6.same s',_,_,.inl #[hb,rfl,rfl],rfl,rfl]
   ·exact#[_,rfl,_,x4 hp',rfl,_,_,rfl,_,_,rfl,rfl,(hP6.samT sT htp).same sH,(hH6.samT sT htp).same sH,_,_,.inr #[hb,rfl,f',rfl,_,Hj,hJ,sH],rfl,rfl]
  rintro σ H7 ⟨fv,b,⟨hP7,hH7,hJ⟩,rfl⟩:0;change H'=H7/\σ=[!!a,~~~!c0,~~~!k,~~~l,!!W,~~~!n,!!pa,~~~u,~~~v,!!hd,!!o,-~~~m,BJ (fv),BJ (.bl b)]
  ·rfl';exact zcp (.inl #[hH7.is,hP7.is]) (ba (Jy _) ∅) #[_,rfl,yd (λe=>by rw[xm]at e;cases e) λZ=>rfl]
  rintro σ H7 ⟨rfl,rfl⟩:0;change H'=H7/\∃(f:tG) (r:Nat) (Hj:Hp),(JOut K Hj k.toNat l ws rs u v r m f/\Same Hj H7)/\σ=[!!a,~~~!c0,~~~!k,~~~l,!!W,~~~!n,!!pa,~~~u,~~~v,!!hd,!!o,-~~~m,!!f,BJ (.bl BM)]
  ·rfl';refine#[⋯,l.length,m,rfl,⋯,hm8,?_];rcases hJ with ⟨hb,rfl,rfl⟩ | ⟨hb,rfl,f,r,Hj,rfl,hJ,sj⟩
   ·rw[y4 ⋯];exact#[BM,rfl,yd (λZ=>yd (λZ=>q _) λz=>y6 rfl z) λz=>y6 rfl z]
   ·rw[y3 hb];exact#[BL,rfl,kG #[rfl,f,r,Hj,hJ,sj,rfl,rfl]]
  rintro σ H7 ⟨rfl,f,r,Hj,⟨hJ,sj⟩,rfl⟩:0;change Same H7 H'/\σ=[!!a,~~~!c0,~~~!k,~~~l,!!W,~~~!n,!!pa,~~~u,~~~v,!!hd,!!o,-~~~m,!!f,BJ (.bl BM)]
  ·rfl';exact#[⋯,f,l,rfl,l6,(hJ.ans hm8).same sj,λH' s'=>#[BL,rfl,kG s']]
  rintro σ H8 ⟨s8,rfl⟩:0;change H'=H8/\¬ (rs=[]/\u=v)/\σ=[!!a,~~~!c0,~~~!k,~~~l,!!W,~~~!n,!!pa,~~~u,~~~v,!!hd,!!o,-~~~m,!!f,BJ (.bl BM)]
  ·rfl';let#[px,hPx,hPi]:=id (hP7.same s8);have hpl:=hPi.len;rw[aa]at hpl;refine#[_,.inl #[_,x6 hPx,rfl],yd (λh0=>yd (λhuv=>#[⋯,λp hp=>#[⋯,λp1 hp1=>?_]]) λhuv h=>huv h.2) λh0 h=>h0 (by rw[h.1]at hpl;simpa using hpl)];have e:rs=[]:=bW ⋯;subst e;have so:=(zf (o:=.lst []) hp).trans (zf (o:=.tup [.str "alike",.ref p]) hp1);rcases hJ.nil with ⟨_,S,h1,h2⟩ | ⟨h,_⟩
   ·refine jP (l:=[.str "alike",.lst []]) (m:=[.str "alike",.lst []]) (.inr #[?_,?_]) ∅ (by rw[xm];exact q _)
    ·rw[Z3];exact#[f,_,rfl,x4 (so _ _ (s8 _ _ (sj _ _ h1))),Xp rfl (Xp (Is.same (sj.trans (s8.trans so)) _ _ h2) zaA)]
    ·rw[Z3];exact#[p1,_,rfl,x4 zd,Xp rfl (Xp (LsA.is #[[],zf hp1 _ _ zd,zaA]) zaA)]
   ·exact y6 huv h
  rintro σ H8 ⟨rfl,hne,rfl⟩:0;change H'=H8/\rs≠[]/\σ=[!!a,~~~!c0,~~~!k,~~~l,!!W,~~~!n,!!pa,~~~u,~~~v,!!hd,!!o,-~~~m,!!f,BJ (.bl BM)]
  ·rfl';let#[px,hPx,hPi]:=id (hP7.same s8);have hpl:=hPi.len;rw[aa]at hpl;refine#[_,.inl #[_,x6 hPx,rfl],yd (λh0=>#[⋯,λp hp=>#[⋯,λp1 hp1=>?_]]) λh0 h=>h0 (by rw[h]at hpl;simpa using hpl)];have e:rs=[]:=bW ⋯;subst e;have so:=(zf (o:=.lst []) hp).trans (zf (o:=.tup [.str "forms",.ref p,⇑u,⇑v]) hp1);rcases hJ.nil with ⟨h,_⟩ | ⟨_,D,h1,h2⟩
   ·exact y6 #[rfl,h] hne
   ·refine jP (l:=[.str "forms",.lst [],dS u,dS v]) (m:=[.str "forms",.lst [],dS u,dS v]) (.inr #[?_,?_]) (by simp [ui,dpD,dS]) (by rw[xm];exact q _)
    ·rw[Z3];exact#[f,_,rfl,x4 (so _ _ (s8 _ _ (sj _ _ h1))),Xp rfl (Xp (Is.same (sj.trans (s8.trans so)) _ _ h2) V0)]
    ·rw[Z3];exact#[p1,_,rfl,x4 zd,Xp rfl (Xp (LsA.is #[[],zf hp1 _ _ zd,zaA]) V0)]
  rintro σ H8 ⟨rfl,hne2,rfl⟩:_;have hrs:RIn l rs:=λp hp=>#[by have:=hPG.s p hp;lia,by have:=hPG.s p hp;lia,(hPG.s p hp).2.2];right;rcases hJ.gen hG hrs with ⟨S,ss,h1,h2,h3,h4⟩ | ⟨st,xs,h1,h2,h3⟩
  ·have hf:=s8 _ _ (sj _ _ h1);let#[ys,hy1,hy2]:=id (h2.same (sj.trans s8));have hyl:=hy2.len;rw[aa]at hyl;change H'=H8/\σ=[!!a,~~~!c0,~~~!k,~~~l,!!W,~~~!n,!!pa,~~~u,~~~v,!!hd,!!o,-~~~m,!!f,BJ (.bl BM)]
   ·rfl';exact#[_,x4 hf,_,rfl,rfl,yd (λz=>y6 rfl z) λZ=>trivial]
   rintro σ H9 ⟨rfl,rfl⟩:0;rfl';refine#[_,x4 hf,_,rfl,_,.inl #[_,x6 hy1,rfl],yd (λZ=>#[_,x4 hf,_,rfl,ZE (hP7.same s8).is hPG.ok ⋯ (h2.same (sj.trans s8)).is ⋯ h4 #[rfl,by rw[y3 rfl];exact q _]]) λz=>y6 ⋯ z]
  ·have hf:=s8 _ _ (sj _ _ h1);refine kX (λZ Z=>False) ?_ λZ Z h=>h.elim;rfl';have at0:atI (V.str st::xs) 0=BJ (.str st):=vW (j:=0) rfl;refine#[_,x4 hf,_,at0,rfl,yd (λZ=>yd (λZ=>q _) λhuv=>#[_,x4 hf,_,at0,rfl,?_]) λz=>y6 (λe=>h2 (V.str.inj e)) z];rw[h3 (Decidable.not_not.mp huv),y3 rfl];exact q _
end
end
mutual section
def FnE(K:tF)(x q:tK)(st:tM)(f:tG):Prop:=∃fd,Fun K x q st f fd
def FnA(K:tF)(x:tK)(st:tM)(f:tG):Prop:=az K tB x=BJ (BJ (.ref f))/\FnE K x x st f
def FnA.mk{K:tF}{x:tK}{st:tM}{f:tG}{h:tT}{mg:tK->Option tH}(q:FnA K x st f)(X:K.In h)(G:h.Ns tB mg):mg x=BJ (.ref f)/\aK K (.ref f)=BL/\FnE K x x st f:=by let#[a,fd,F]:=q;exact#[aG X G a,F.kp,fd,F]
def YI{us:List tH}(h:us.length=1):∃a,us=[a]:=List.length_eq_one_iff.mp h
theorem wQ{us:List tH}(h:us.length=2):∃a0 a1,us=[a0,a1]:=by
 cases us with
 | nil=>cases h
 | cons a r =>
  let#[a1,rfl]:=YI (Nat.succ.inj h);exact#[a,a1,rfl]
theorem Z4{us:List tH}(h:us.length=3):∃a0 a1 a2,us=[a0,a1,a2]:=by
 cases us with
 | nil=>cases h
 | cons a r =>
  let#[a1,a2,rfl]:=wQ (Nat.succ.inj h);exact#[a,a1,a2,rfl]
theorem zbp{us:List tH}(h:us.length=4):∃a0 a1 a2 a3,us=[a0,a1,a2,a3]:=by
 cases us with
 | nil=>cases h
 | cons a r =>
  let#[a1,a2,a3,rfl]:=Z4 (Nat.succ.inj h);exact#[a,a1,a2,a3,rfl]
theorem zf1{us:List tH}(h:us.length=5):∃a0 a1 a2 a3 a4,us=[a0,a1,a2,a3,a4]:=by
 cases us with
 | nil=>cases h
 | cons a r =>
  let#[a1,a2,a3,a4,rfl]:=zbp (Nat.succ.inj h);exact#[a,a1,a2,a3,a4,rfl]
theorem zhw{us:List tH}(h:us.length=6):∃a0 a1 a2 a3 a4 a5,us=[a0,a1,a2,a3,a4,a5]:=by
 cases us with
 | nil=>cases h
 | cons a r =>
  let#[a1,a2,a3,a4,a5,rfl]:=zf1 (Nat.succ.inj h);exact#[a,a1,a2,a3,a4,a5,rfl]
def dfm(P:tL)(w:tP){K:tF}{mg:tK->Option tH}(base:tT){CX:CXT}{k:Nat}{f:tG}{fd:An}{nm:tK}{ps:List tK}{sp:Sp}(h:zV P w K mg base CX k f fd ps sp)(m:mg nm=BJ (.ref f))(p:aK K (.ref f)=BL)(b:Binds K fd ps []):Df P w K mg base CX k nm ps [] sp:=#[_,_,h,m,p,b]
def FnA.df(P:tL)(w:tP){K:tF}{h:tT}{mg:tK->Option tH}(base:tT){x:tK}{st:tM}{f:_}{CX:CXT}{k:Nat}{ps:List tK}{sp:Sp}(q:FnA K x st f)(X:K.In h)(G:h.Ns tB mg)(H:∀{fd},Fun K x x st f fd->zV P w K mg base CX k f fd ps sp)(hb:∀(kV doc pm:tH) (an:Option tG) (cdv ct:tH) (us:List tH),us.length=ps.length->bindArgs (bv x x (yW st) (yt st) (zi st) .none kV doc pm an cdv ct) #[us,[]]=pure (ps.zip us)):Df P w K mg base CX k x ps [] sp:=by let#[M,p,_,F]:=q.mk X G;exact dfm P w base (H F) M p (F.binds hb)
end
local macro_rules | `(tactic| injections)=>do let o<-(zzI "YI wQ Z4 zbp zf1 zhw").mapM λt=>`(tactic| (have h:=$t hl;(repeat obtain⟨_,h⟩:=h);rfl));`(tactic| (intro _ _ _ _ _ _ us hl;first $[| $o:tactic]*))
local macro_rules | `(nofun)=>`(by injections)
def all_mk{l:PySem.W.OpenLaw}{w:tP}{K:tF}{h:tT}{mg:tK->Option tH}{fa f0 f1 f2 f3 f4 f5 f6 f7 f8 f9 f10 f11 f12 f13 f14 f15 f16 f17 f18 f19 f20 f21 f22 f23 f24 f25 f26 f27 f28 f29 f30 f31 f32 f33 f34 f35 f36 f37 f38 f39 f40 f41 f42 f43 f44 f45 f46 f47 f48 f49 f50 f51 f52 f53 f54 f55 f56 f57 f58 f59 f60 gP gT ie gH gG gD gK gM il gN ig gJ gQ cc TB:tG}(X:K.In h)(G:h.Ns tB mg)(g0:mg "law" = BJ (.ref fa))(hlam:∃a o fd,mg "in_order" = BJ (.ref a)/\h.get? a=BJ o/\o.data=.func fd/\fd.code=.ref cc)(hgT:tB≠TB){g7 i0 i5 i6 i7 i8 i9 l0:Option tG}{l5 l7 l8 l9:Array (Option tH)}{m7 m9 n6 n8 n9 o0 o3 o4 o5 o6 o7 o8 o9 p0 p7 p8 p9 A4 A5 A6 A7 A8 A9 B0:tH}{t6 t7:AV}{fI:tG}{B2 B3:Option tG}{B4:Array (Option tH)}{B5 B6 B7 B8 B9 Cu:tH}{t8:AV}{fU:tG}{Cv Cw:Option tG}{Cy:Array (Option tH)}{Cz CA CB CD CG CI:tH}{t9 CJ CK CP CS CY CZ C0 C4 C5 C6 C7:AV}{iF iQ ln iX iY iK iG ip lZ iw mx md mY ly lA oX:tG}{nQ:AV}{C8:tH}{C9:Option tG}{Da:Nat}{Db:Array (Option tH)}{nV:tG}{pA:AV}{Dc:tH}{De:Option tG}{Dg:Nat}{Dh:Array (Option tH)}(a0:FnA K "is_small_letter" xb f0)(a1:FnA K "letters_of" vm f1)(a2:FnA K "stands_at" vY f2)(a3:FnA K "put" zcl f3)(a4:FnA K "first_within" xV f4)(a5:FnA K "first_from" ve f5)(a6:"gone"∪f6)(l6:K.lookup f6=BJ #[m7,g7,.func (bv "gone" "gone" (yW vQ) (yt vQ) (zi vQ) (.ref oX) m9 n6 n8 i0 n9 o0),l5])(k6:cp K n9 "gone" = BL)(p6:aK K (.ref f6)=BL)(a7:FnA K "back" WX f7)(a8:FnA K "moved" Ym f8)(a9:FnA K "by_pacts" uQ f9)(a10:FnA K "pairs_of" vw f10)(a11:FnA K "as_rule" ju f11)(a12:"in_order"∪f12)(l12:K.lookup f12=BJ #[o3,i5,.func (bv "in_order" "in_order" (yW yS) (yt yS) (zi yS) .none o4 o5 o6 i6 o7 o8),l7])(k12:cp K o7 "in_order" = BL)(p12:aK K (.ref f12)=BL)(a13:FnA K "brought_down" xW f13)(a14:FnA K "refuse_beyond" xD f14)(a15:FnA K "built_anew" vn f15)(a16:FnA K "thinned" jC f16)(a17:FnA K "_law_cell" Qs f17)(a18:FnA K "_law_mixed" X7 f18)(a19:FnA K "_law_letters" jW f19)(a20:FnA K "_law_word" US f20)(a21:FnA K "_law_pair" Qg f21)(a22:FnA K "_law_whole" XU f22)(a23:FnA K "_law_steps" X2 f23)(a24:FnA K "_law_used" J7 f24)(a25:FnA K "_law_uses" QK f25)(a26:FnA K "_law_chain" Wq f26)(a27:FnA K "_law_end" zb6 f27)(a28:FnA K "_law_order" XO f28)(a29:FnA K "_law_draw" Qq f29)(a30:FnA K "agree" XZ f30)(a31:FnA K "overlaps" uP f31)(a32:FnA K "peak" Qx f32)(a33:FnA K "form_of" jw f33)(a34:FnA K "is_met" ZP f34)(a35:"unmet"∪f35)(l35:K.lookup f35=BJ #[o9,i7,.func (bv "unmet" "unmet" (yW wa) (yt wa) (zi wa) (.ref nV) p0 p7 p8 i8 p9 A4),l8])(k35:cp K p9 "unmet" = BL)(p35:aK K (.ref f35)=BL)(a36:FnA K "system_by" ug f36)(a37:FnA K "first_entries" yV f37)(a38:FnA K "is_beyond" wF f38)(a39:FnA K "thinned_within" xq f39)(a40:FnA K "unmet_within" xT f40)(a41:FnA K "entry_of" uR f41)(a42:FnA K "completed" wL f42)(a43:FnA K "table_of" vE f43)(a44:FnA K "table_count" wI f44)(a45:FnA K "tables_within" xC f45)(a46:FnA K "table_at" vA f46)(a47:FnA K "tells_apart" wG f47)(a48:FnA K "world_apart" ww f48)(a49:FnA K "gone_within" wH f49)(a50:FnA K "judged_by_roads" y0 f50)(a51:FnA K "judged_by_worlds" yX f51)(a52:FnA K "judged" Zz f52)(a53:FnA K "_law_entries" km f53)(a54:FnA K "_law_table_ok" vF f54)(a55:FnA K "_law_answer" Yn f55)(a56:FnA K "_law_within" Z5 f56)(a57:FnA K "_law_asked" Wn f57)(a58:FnA K "_law_known" Wr f58)(a59:FnA K "_law_long" Y6 f59)(a60:"law"∪f60)(l60:K.lookup f60=BJ #[A5,i9,.func (bv "law" "law" (yW kD) (yt kD) (zi kD) .none A6 A7 A8 l0 A9 B0),l9])(k60:cp K A9 "law" = BL)(p60:aK K (.ref f60)=BL)(Di:"LetterError"∪gP)(Dj:"NoLetters"∪gT)(Dl:"NoOrder"∪ie)(Dm:"Order"∪gH)(Do:"FromRight"∪gG)(Dp:"ByWeights"∪gD)(Dr:"NotTurned"∪gK)(Dt:"System"∪gM)(Du:"NoUse"∪il)(Dv:"TooFar"∪gN)(Dw:"NoWorld"∪ig)(Dx:"World"∪gJ)(Dy:"TooMany"∪gQ)(Dz:aN K (.type "bool") (.type "bool")=BJ BL)(kt:aN K (.type "tuple") (.type "tuple")=BJ BL)(ki:aN K (.type "int") (.type "int")=BJ BL)(kb:aN K (.type "int") (.type "bool")=BJ BM)(kl:aN K (.type "list") (.type "list")=BJ BL)(DA:XI K gT)(xi:gT∩1)(DD:XI K ie)(yi:ie∩1)(most:"MOST_LETTERS"∪(6,t6))(DE:"MOST_WEIGHT"∪(1000000,t7))(pC:bX K gH eR=BL)(pD:cu K gH=BL)(pE:cK K gH=BL)(pF:gH∩"__setattr__")(pG:cZ K gH=BL)(pH:aK K (.ref gH)=BL)(pJ:gH∩"letters"∩0)(rV:aN K (.ref gH) (.ref gH)=BJ BL)(rW:gH∩"__class__")(rX:bC K gH (.type "object")=BJ BL)(mZ:bX K gG eR=BL)(nc:cu K gG=BL)(ng:cK K gG=BL)(nh:gG∩"__setattr__")(ni:cZ K gG=BL)(nj:aK K (.ref gG)=BL)(nk:gG∩"letters"∩0)(oF:aN K (.ref gG) (.ref gH)=BJ BL)(oG:gG∩"__class__")(oH:bC K gG (.type "object")=BJ BL)(nq:bX K gD eR=BL)(nv:cu K gD=BL)(nw:cK K gD=BL)(ny:gD∩"__setattr__")(nz:cZ K gD=BL)(nA:aK K (.ref gD)=BL)(nB:gD∩"letters"∩0)(oJ:aN K (.ref gD) (.ref gH)=BJ BL)(oK:gD∩"__class__")(oM:bC K gD (.type "object")=BJ BL)(DF:gD∩"weights"∩0)(DG:dc K (.ref gH) "__getattribute__" = BJ (BJ (.builtin "type.__getattribute__")))(DH:gy K gH (.type "type")=BL)(DJ:"WINDOW"∪(128,t8))(DK:XI K gK)(nn:gK∩"number"∩0)(ini:gK∩"__init__"∩fI)(lI:K.lookup fI=BJ #[B5,B2,.func (bv "__init__" "NotTurned.__init__" (yW ye) (yt ye) (zi ye) .none B6 B7 B8 B3 B9 Cu),B4])(kI:cp K B9 "NotTurned.__init__" = BL)(pI:aK K (.ref fI)=BL)(DL:fI∩0)(oN:bX K gM eR=BL)(oO:cu K gM=BL)(oP:cK K gM=BL)(oQ:gM∩"__setattr__")(oR:cZ K gM=BL)(oS:aK K (.ref gM)=BL)(DN:gM∩"order"∩0)(DO:gM∩"rules"∩0)(DP:XI K il)(ua:il∩"at"∩0)(DQ:il∩"__init__"∩fU)(lU:K.lookup fU=BJ #[Cz,Cv,.func (bv "__init__" "NoUse.__init__" (yW yU) (yt yU) (zi yU) .none CA CB CD Cw CG CI),Cy])(kU:cp K CG "NoUse.__init__" = BL)(pU:aK K (.ref fU)=BL)(DS:fU∩0)(DT:XI K gN)(vi:gN∩1)(DU:cN K (.ref gN) (.ref gN)=BJ BL)(DV:XI K ig)(DW:ig∩1)(DX:"MOST_ROOMS"∪(8,t9))(pK:bX K gJ eR=BL)(pL:cu K gJ=BL)(pM:cK K gJ=BL)(pN:gJ∩"__setattr__")(pO:cZ K gJ=BL)(pP:aK K (.ref gJ)=BL)(pQ:gJ∩"letters"∩0)(DY:gJ∩"table"∩0)(DZ:XI K gQ)(wi:gQ∩1)(Ea:"MOST_TABLES"∪(1000,CJ))(Eb:XI K gP)(Ec:cN K (.ref gQ) (.ref gP)=BJ BL)(Ed:aN K (.ref gQ) (.ref gQ)=BJ BL)(Ee:aN K (.ref gQ) (.ref gN)=BJ BM)(ks:aN K (.type "str") (.type "str")=BJ BL)(Ef:"any"∪0)(Eg:"sorted"∪0)(Eh:"MOST_USES_thinning"∪(40,CK))(Ei:"MOST_STEPS_thinning"∪(240,CP))(Ej:"MOST_SIDE_thinning"∪(60,CS))(Ek:"MOST_PASSES"∪(20,CY))(El:"MOST_USES_completing"∪(40,CZ))(Em:"MOST_ENTRIES"∪(12,C0))(En:"MOST_SIDE_completing"∪(10,C4))(Eo:"MOST_PEAKS"∪(8,C5))(Ep:"MOST_USES_judging"∪(40,C6))(Er:"MOST_STEPS_judging"∪(2000,C7))(my:gH∩"__init__"∩iF)(mz:FnE K "__init__" "Order.__init__" w8 iF)(lr:iF∩0)(lB:gH∩"weight"∩iQ)(lC:FnE K "weight" "Order.weight" xX iQ)(iR:iQ∩0)(mB:gH∩"seen"∩ln)(mC:FnE K "seen" "Order.seen" wY ln)(lu:ln∩0)(iZ:gG∩"seen"∩iX)(la:FnE K "seen" "FromRight.seen" xn iX)(lb:iX∩0)(lc:gD∩"__init__"∩iY)(lg:FnE K "__init__" "ByWeights.__init__" xt iY)(lh:iY∩0)(iL:gD∩"weight"∩iK)(iM:FnE K "weight" "ByWeights.weight" yz iK)(iN:iK∩0)(mD:gH∩"rank"∩iG)(mF:FnE K "rank" "Order.rank" xJ iG)(iH:iG∩0)(lD:gH∩"before"∩ip)(lE:FnE K "before" "Order.before" xQ ip)(iq:ip∩0)(me:gM∩"__init__"∩lZ)(mf:FnE K "__init__" "System.__init__" wz lZ)(mh:lZ∩0)(iz:gM∩"rules_told"∩iw)(iA:FnE K "rules_told" "System.rules_told" yM iw)(iB:iw∩0)(mG:gJ∩"__init__"∩mx)(mH:FnE K "__init__" "World.__init__" vb mx)(mI:mx∩0)(mi:gJ∩"rooms"∩md)(mj:FnE K "rooms" "World.rooms" wE md)(ml:md∩0)(nC:gJ∩"led"∩mY)(nE:FnE K "led" "World.led" vZ mY)(nF:mY∩0)(lF:gJ∩"parted"∩ly)(lG:FnE K "parted" "World.parted" wb ly)(lH:ly∩0)(lJ:gJ∩"broken"∩lA)(lL:FnE K "broken" "World.broken" wc lA)(lM:lA∩0)(oY:K.lookup oX=BJ #[C8,C9,.seq #[.int 4000 nQ] Da,Db])(nW:K.lookup nV=BJ #[Dc,De,.seq #[.int 4000 pA] Dg,Dh])(Es:gz K (.ref gH) (.type "type") "__init__" = BJ (.val (.ref iF)))(Et:gG∩"__init__"∩iF)(Eu:gG∩"weight"∩iQ)(Ew:gD∩"seen"∩ln)(Ex:gG∩"rank"∩iG)(Ey:gD∩"rank"∩iG)(Ez:gG∩"before"∩ip)(EA:gD∩"before"∩ip)(b0:"len"∪0)(b1:"range"∪0)(b2:"isinstance"∪0)(b3:"str"∪0)(b4:"int"∪0)(b5:"tuple"∪0)(b6:"list"∪0)(b7:"bool"∪0)(b8:"enumerate"∪0)(b9:"all"∪0)(b10:"ValueError"∪0)(b11:"max"∪0)(b12:"reversed"∪0)(b13:"zip"∪0)(b14:"sum"∪0)(b15:"sorted"∪0)
  : ∃fd:An,(∀(s:tJ) (v:tH),Bd s fd #[[v],[]] [("_law_script",v)])/\∀base:tT,K.In base->base.Ns tB mg->base.BuiltinsAt mg TB->PySem.W.CodeHd base cc TB->zV l.prog w K mg base CX0 14 fa fd ["_law_script"] (Vp K TB):=by
 have e:=g0.symm.trans (aG X G a60);cases e;have B:Bt mg:=#[aR X G b0,aR X G b1,aR X G b2,aR X G b3,aR X G b4,aR X G b5,aR X G b6,aR X G b7,aR X G b8,aR X G b9,aR X G b10,aR X G b11,aR X G b12,aR X G b13,aR X G b14,aR X G b15];let#[M1,p1,_,F1]:=a1.mk X G;have F6:FunD K "gone" "gone" vQ (.ref oX) f6 (bv "gone" "gone" (yW vQ) (yt vQ) (zi vQ) (.ref oX) m9 n6 n8 i0 n9 o0):=⟨#[_,_,_,_,_,_,_,_,_,rfl,l6,k6]⟩;have M6:=aG X G a6;have F12:=fun_mk (st:=yS) l12 k12 p12;have M12:=aG X G a12;have F35:FunD K "unmet" "unmet" wa (.ref nV) f35 (bv "unmet" "unmet" (yW wa) (yt wa) (zi wa) (.ref nV) p0 p7 p8 i8 p9 A4):=⟨#[_,_,_,_,_,_,_,_,_,rfl,l35,k35]⟩;have M35:=aG X G a35;have F60:=fun_mk (st:=kD) l60 k60 p60;have M60:=aG X G a60
 have HCC:o7=.ref cc:=by
  let#[ai,oi,fdi,m1,m2,m3,m4]:=hlam;have e1:=m1.symm.trans (aG X G a12);cases e1;have e2:=m2.symm.trans (X _ _ l12);cases e2;cases m3;exact m4
 refine#[bv "law" "law" (yW kD) (yt kD) (zi kD) .none A6 A7 A8 l0 A9 B0,λs v=>.of_eq rfl,λbase Z Z HBT HCH=>?_];have TL:zhy K mg gT:=#[DA,xi,aG X G Dj,t6,aG X G most];have TN:zhh K mg ie:=#[DD,yi,aG X G Dl,t7,aG X G DE];have TO:TOrd K mg gH gG gD:=#[#[pC,pD,pE,pF],#[mZ,nc,ng,nh],#[nq,nv,nw,ny],aG X G Dm,aG X G Do,aG X G Dp,pJ,nk,nB,DF];have TNt:TNT K mg gK:=#[DK,aG X G Dr,nn];have FI:=fun_mk (st:=ye) lI kI pI;have TD:DNT l.prog w K mg base gK:=#[TNt,_,_,ini,DL,uW TNt FI,FI.binds nofun];have TS:zex K mg gM:=#[#[oN,oO,oP,oQ],aG X G Dt,DN,DO];have TWi:zhE mg:=#[t8,aG X G DJ];have TNu:TNU K mg il:=#[DP,aG X G Du,ua];have FU:=fun_mk (st:=yU) lU kU pU;have TUd:DNU l.prog w K mg base il:=#[TNu,_,_,DQ,DS,Z2 TNu FU,FU.binds nofun];have TF:zdG K mg gN:=#[DT,vi,aG X G Dv];have TNw:ze4 K mg ig:=#[DV,DW,aG X G Dw,t9,aG X G DX];have CLw:zbH K mg gJ:=#[#[pK,pL,pM,pN],aG X G Dx,pQ,DY];have TM:Qe K mg gQ:=#[DZ,wi,aG X G Dy,CJ,aG X G Ea];have TMk:TMo mg:=#[#[CK,aG X G Eh],#[CP,aG X G Ei],#[CS,aG X G Ej],#[CY,aG X G Ek]];have TMcc:TMc mg:=#[#[CZ,aG X G El],#[C0,aG X G Em],#[C4,aG X G En],#[C5,aG X G Eo]];have TMjj:TMj mg:=#[#[C6,aG X G Ep],#[C7,aG X G Er]];have d:=λ{x st f CX k ps sp}(q:FnA K x st f) H hb=>FnA.df l.prog w base (CX:=CX) (k:=k) (ps:=ps) (sp:=sp) q X G H hb;have D0:=d a0 (λF=>zaM F) nofun;have D1:=dfm l.prog w base (Yb B TL F1 D0) M1 p1 (F1.binds nofun);have D2:=d a2 (λF=>YU B F) nofun;have D3:=d a3 (λF=>ze8 B TUd F D2) nofun;let#[_,iI]:=mz;have mJ:=iI.binds (ps:=["self","letters"]) nofun;have rJ:DMk l.prog w K mg base CX0 3 gH ["self","letters"] (qT K):=#[_,_,#[pG,my,lr,pH],wx B iI D1,mJ];have DI:DOI l.prog w K mg base gH:=#[_,_,#[DG,DH,Es,iI.kp],wx B iI D1,mJ];let#[_,iS]:=lC;have pW:DM l.prog w K mg base CX0 1 gH "weight" ["self","word"] ZK:=#[_,_,#[lB,iR,iS.kp],va B iS,iS.binds nofun];let#[_,lv]:=mC;have rL:DM l.prog w K mg base CX0 1 gH "seen" ["self","word"] Vg:=#[_,_,#[mB,lu,lv.kp],uJ B lv,lv.binds nofun];let#[_,li]:=la;have pf:DM l.prog w K mg base CX0 1 gG "seen" ["self","word"] XB:=#[_,_,#[iZ,lb,li.kp],qi B li,li.binds nofun];let#[_,lj]:=lg;have pi:DMk l.prog w K mg base (CXx l.prog w) 4 gD ["self","letters","weights"] (qY K gD):=#[_,_,#[nz,lc,lh,nA],uU B TO TN DI lj,lj.binds nofun];let#[_,iO]:=iM;have oq:DM l.prog w K mg base CX0 1 gD "weight" ["self","word"] (XG gD):=#[_,_,#[iL,iN,iO.kp],vV B TO iO,iO.binds nofun];have TT:TWS l.prog w K mg base gH gG gD:=#[TO,rJ,#[_,_,#[ni,Et,lr,nj],wx B iI D1,mJ],pi,pW,#[_,_,#[Eu,iR,iS.kp],va B iS,iS.binds nofun],oq,rL,pf,#[_,_,#[Ew,lu,lv.kp],uJ B lv,lv.binds nofun]];let#[_,iJ]:=mF;have mL:=iJ.binds (ps:=["self","word"]) nofun;have rM:DM l.prog w K mg base CX0 2 gH "rank" ["self","word"] (jO gH gG gD):=#[_,_,#[mD,iH,iJ.kp],wy B TT iJ,mL];have DRk:DR l.prog w K mg base gH gG gD:=⟨λC h=>by rcases h with e | e | e; (rw[e];exact#[TO.cO,rM]); (rw[e];exact#[TO.cR,#[_,_,#[Ex,iH,iJ.kp],wy B TT iJ,mL]]); (rw[e];exact#[TO.cW,#[_,_,#[Ey,iH,iJ.kp],wy B TT iJ,mL]])⟩;let#[_,ir]:=lE;have lP:=ir.binds (ps:=["self","one","other"]) nofun;have pX:DM l.prog w K mg base CX0 3 gH "before" ["self","one","other"] (UI gH gG gD):=#[_,_,#[lD,iq,ir.kp],xF B DRk ir,lP];have DBk:DB l.prog w K mg base gH gG gD:=⟨λC h=>by rcases h with e | e | e; (rw[e];exact#[TO.cO,pX]); (rw[e];exact#[TO.cR,#[_,_,#[Ez,iq,ir.kp],xF B DRk ir,lP]]); (rw[e];exact#[TO.cW,#[_,_,#[EA,iq,ir.kp],xF B DRk ir,lP]])⟩;have D4:=d a4 (λF=>jx B F) nofun;have D5:=d a5 (λF=>Yc B TWi F D4) nofun;have O6:=zcO (P:=l.prog) (w:=w) (base:=base) B TF TUd F6 D5 D3;have D6:Df l.prog w K mg base (CXx l.prog w) 4 "gone" ["rules","word","most"] [] (xR K gN):=#[_,_,O6,M6,p6,λs us hK hl=>by let#[_,_,_,rfl]:=Z4 (us:=us) ↥hl;exact BindsTo.of_defaults rfl (hK _ _ oY) rfl rfl rfl];have D6d:Df l.prog w K mg base (CXx l.prog w) 4 "gone" ["rules","word","most"] [.int 4000 nQ] (xR K gN):=#[_,_,O6,M6,p6,λs us hK hl=>by let#[_,_,rfl]:=wQ (us:=us) ↥hl;exact BindsTo.of_defaults rfl (hK _ _ oY) rfl rfl rfl];have D7:=d a7 (λF=>zcD B F) nofun;have D8:=d a8 (λF=>KO B F) nofun;have D9:=d a9 (λF=>XV B F D8 D7) nofun;have D10:=d a10 (λF=>We B F) nofun;have D11:=d a11 (λF=>Uo B DBk F D7) nofun;have D12:=dfm l.prog w base (XY B DRk (aR X G Eg) HCH HBT hgT F12 HCC D11) M12 p12 (F12.binds nofun);have D13:=d a13 (λF=>kh B TMk F D10 D6 D6d D9 D7) nofun;have D14:=d a14 (λF=>qA B TF TMk F) nofun;have D15:=d a15 (λF=>ZI B F D13 D14 D11) nofun;have D16:=d a16 (λF=>Uc B TF TMk F D12 D15 D10) nofun;have D17:=d a17 (λF=>zca B F) nofun;have D18:=d a18 (λF=>zaB B F) nofun;have D19:=d a19 (λF=>Ud B F D18) nofun;have D20:=d a20 (λF=>zct B F) nofun;have D21:=d a21 (λF=>zcr B F D20 D18) nofun;have D22:=d a22 (λF=>Kk B #[ki,kb] F) nofun;have D23:=d a23 (λF=>Kv B #[kl,kt,Dz] F D22) nofun;have D24:=d a24 (λF=>zcv B F) nofun;have D25:=d a25 (λF=>zdi B F D24) nofun;have D26:=d a26 (λF=>zaG B F D25 D24 D18) nofun;have D27:=d a27 (λF=>zep B F D24) nofun;have D28:=d a28 (λF=>zaz B TT F) nofun;have D29:=d a29 (λF=>zdf B F D19 D18) nofun;let#[_,mm]:=mf;have rz:DMk l.prog w K mg base (CXx l.prog w) 5 gM ["self","order","rules"] (qX K gH gG gD gK gM):=#[_,_,#[oR,me,mh,oS],ku B TD TS DBk mm,mm.binds nofun];have MS:MkS l.prog w K mg base gH gG gD gK gM:=rz;have D30:=d a30 (λF=>zav B F) nofun;have D31:=d a31 (λF=>XM B F D30) nofun;have D32:=d a32 (λF=>zdj B F D3) nofun;have D33:=d a33 (λF=>Ua B F D6 D6d) nofun;have D34:=d a34 (λF=>QU B F D32 D33) nofun;let#[_,iC]:=iA;have nZ:DM l.prog w K mg base CX0 1 gM "rules_told" ["self"] (ZJ K gM):=#[_,_,#[iz,iB,iC.kp],vJ B TS iC,iC.binds nofun];have O35:=zaC (P:=l.prog) (w:=w) (base:=base) B TS F35 D31 D34 nZ;have D35:Df l.prog w K mg base (CXx l.prog w) 7 "unmet" ["system","most"] [] (uB K gM gN):=#[_,_,O35,M35,p35,λs us hK hl=>by let#[_,_,rfl]:=wQ (us:=us) ↥hl;exact BindsTo.of_defaults rfl (hK _ _ nW) rfl rfl rfl];have D35d:Df l.prog w K mg base (CXx l.prog w) 7 "unmet" ["system","most"] [.int 4000 pA] (uB K gM gN):=#[_,_,O35,M35,p35,λs us hK hl=>by let#[_,rfl]:=YI (us:=us) ↥hl;exact BindsTo.of_defaults rfl (hK _ _ nW) rfl rfl rfl];have D36:=d a36 (λF=>YL B TS MS F D10) nofun;have D37:=d a37 (λF=>qC B F) nofun;have D38:=d a38 (λF=>YB B (aR X G Ef) TMcc F) nofun;have D39:=d a39 (λF=>qh B TF ⟨DU⟩ F D16 D38) nofun;have D40:=d a40 (λF=>jE B TF ⟨DU⟩ TMcc F D35 D35d D36) nofun;have D41:=d a41 (λF=>WH B F D32 D9 D10) nofun;have D42:=d a42 (λF=>YE B TMcc F D37 D39 D40 D41) nofun;have D43:=d a43 (λF=>WF B TNw F) nofun;let#[_,mM]:=mH;have rO:DMk l.prog w K mg base (CXx l.prog w) 4 gJ ["self","letters","table"] (uH gJ):=#[_,_,#[pO,mG,mI,pP],Yh B CLw mM D1 D43,mM.binds nofun];let#[_,mq]:=mj;have rD:DM l.prog w K mg base CX0 1 gJ "rooms" ["self"] (qU gJ):=#[_,_,#[mi,ml,mq.kp],kN B CLw mq,mq.binds nofun];let#[_,nG]:=nE;have oU:DM l.prog w K mg base CX0 1 gJ "led" ["self","room","word"] (jb gJ):=#[_,_,#[nC,nF,nG.kp],YH B CLw nG,nG.binds nofun];let#[_,lQ]:=lG;have ra:DM l.prog w K mg base CX0 2 gJ "parted" ["self","one","other"] (vx gJ):=#[_,_,#[lF,lH,lQ.kp],jy B CLw lQ rD oU,lQ.binds nofun];let#[_,lS]:=lL;have rf:DM l.prog w K mg base CX0 3 gJ "broken" ["self","pacts"] (qg K gJ):=#[_,_,#[lJ,lM,lS.kp],je B CLw lS ra,lS.binds nofun];have D44:=d a44 (λF=>kH B F) nofun;have D45:=d a45 (λF=>qB B TM F D44) nofun;have D46:=d a46 (λF=>XW B F) nofun;have D47:=d a47 (λF=>kL B CLw F oU rf) nofun;have D48:=d a48 (λF=>kz B TM CLw F D45 D44 D46 D47 rO) nofun;have D49:=d a49 (λF=>kr B TF ⟨DU⟩ TMjj F D6 D6d D10) nofun;have D50:=d a50 (λF=>ux B TMjj F D49 D9 D7) nofun;have D51:=d a51 (λF=>ub B F D48) nofun;have D52:=d a52 (λF=>J5 B TO TM F D42 D50 D45 D51) nofun;have D53:=d a53 (λF=>UB B #[kl,kt,Dz] ⟨ks⟩ F D23) nofun;have D54:=d a54 (λF=>WE B #[kl,kt,Dz] F D22) nofun;have D55:=d a55 (λF=>Qw B #[kt,ks] F D23 D54 D53) nofun;have D56:=d a56 (λF=>Qp B F) nofun;have TA:zhJ K mg gQ gP gN:=#[aG X G Di,aG X G Dv,Eb,Ec,Ed,Ee];have D57:=d a57 (λF=>zaP B TA TM F D52) nofun;have D58:=d a58 (λF=>Ks B TT F D17 D57 D27 D18 D55) nofun;have D59:=d a59 (λF=>zcn B TT F D17 D57 D18 D55 D27) nofun;exact zec B F60 D17 D29 D20 D28 D57 D58 D59 D21 D18 D27 D56 D19 D26 D55
def walk{l:PySem.W.OpenLaw}{q:tL}{loose:List tK}{XP:(tK->Option tH)->tT->Prop}{YP:tP->tT->Prop}{d:DefRec}{K:Params->tF}(hn:l.most=BJ 63)(hdf:d.params.defaults=[])(hY:∀(w:tP) (h:tT),YP w h->(K w.params).In h) (hj:((PyProof.Rows.recsOf q).find? λr=>r.name ==("in_order" : tK)).isSome=BL) (hno:∀w:tP,zcC (K w.params)=BL)(F:∀(w:tP) (mg:tK->Option tH) (fa:tG) (h:tT) (cc T:tG),(K w.params).In h->h.Ns tB mg->mg d.name=BJ (.ref fa)->(∃a o fd,mg "in_order" = BJ (.ref a)/\h.get? a=BJ o/\o.data=.func fd/\fd.code=.ref cc)->tB≠T ->
   ∃fd:An,(∀(s:tJ) (u:tH),Bd s fd #[[u],[]] [("_law_script",u)])/\∀base:tT,(K w.params).In base->base.Ns tB mg->base.BuiltinsAt mg T->PySem.W.CodeHd base cc T->zV l.prog w (K w.params) mg base CX0 14 fa fd ["_law_script"] (Vp (K w.params) T)) :
  PySem.W.WalkO q loose XP YP l.row.toRowW d [] (λf vs=>gA f vs):=by
 let#[din,hd]:=Cc.mp hj;have hnm:din.name="in_order":=by simpa using eF hd
 exact L3.walk_ofT (n:=63) (k:=14) (x:="_law_script") (CX:=λZ=>CX0) (din:=din) (sp:=λw T=>Vp (K w.params) T) hn ∅ hdf #[rfl,∅,∅] (fj hd) hY hno (λw mg fa h cc T a b c e g=>F w mg fa h cc T a b c (by rw[hnm]at e;exact e) g) (λZ Z a ns T hl hB hT hS=>#[a,ns,rfl,hS,hB,hT,λZ=>rfl]) λZ Z Z Z Z z=>z
end LL
namespace PySem.W.Fast
local macro_rules | `(#print $s:str)=>do let c:=s.getString.toList;let d<-(List.range (c.length/10)).mapM λi=>`(def $(mkIdent (.mkSimple s!"tw{((c.drop (10*i)).take 10).foldl (λa x=>let n:=x.toNat;a*86+(n-36-if n>92 then 5 else if n>64 then 3 else if n>47 then 2 else if n>45 then 1 else 0)) 0}")):ident:=Nat);return Lean.mkNullNode d.toArray
#print ";%V,DH]DTqg%rqI0c_Im$2=dQX?=E5oKj,)&CsLU_Z_w;iNOj3,.3uL1LMqFQLci$SC$<:UlUW+X)faU6fo4VsBSfpH:.)_8b<lBQxV;+O'a=]+QXoG2ljZq](7Wk`iM8Afp^Tk]F&Z=_Dz875((9Vgexqh({V'5agM47$iz6J'.Q$G:I+RAj;MGV$uxXsC{5iylcT^i:QJrgG`]Y$ndmfzx,4Y]jW*96EN:&A^il3C>QkQHeXsAb*jZ8r,RL)uecz?$Wz7|6Q{,('41E0p~(sag'0gQLex?cRfn6QFdb:^+Bmh>5qqKK9mjZb`:U)bHggGJrn.P>:5DZCt_KK6c6c+*(Sw`z_1*gXOp,pvrf+wuYd0+I:Uovx.JLhsbNf1$07fQZ7hkHIt3+{jsZvr2zZmNqZ?91%GB3T7GD&K72B1OG?Po:]<,f.>?,'%YOFG]D:csKlD]24+gpPK;N7B$LTh6{N,vYL.WDT,5eeikX'nxf4yB;'>A)=Zxw6Nfh<Ob9wB<?'aE&:1C:Bm^u*h{$SY($AJ7:cGH`J{bsH0OIU>h}5YFhah3x3tFMANsCTUey$KhLiY(xtAbFJ2nR1+`ov|O3essi>]Ad)KYYr0r>PCh?V`)K5u<*%i~i<9D_(}w'(r=:N8)P^7O:0,vEP9ZLVBw:+$24upFsx]QHlg*mU_txL$m7N8o7pSGuuoTSxm{_D0StcPUG$8jtP9Lo8Ve(80y^lZrOLf_GUKiR8r$8(BLY7;oiA.mG$ia8ebwMf$f7;n:NhVkO^Q4c~`?2X.0>}0)^zMX1G2od%LB?&K]A`hJyUk3zs?(Q9%t'cQmYsml6Bg2(be{58n6Z}^js69w8R)3J1RUhx7'=Va2{RUjA(}kg+ya.BA}ES58d}ZI=$>9^k~6AF]o.?5BVQhVxw;g%}arc+}5BM$ES{6}:]sNHc<K(m$Z<>i;Gj,~o&bf]4HYaPAd5W^kw2IVfMk3+_{Xa<wgc|~iz5(PTO4tZBv9YuPPIfYKY321B;CeK0h71tuunqx,tvJjKTEhQSS=E6L7BwOrnC;pols*|3JQ_og,=.>weh6aIa}meG&9%PS}4|Z%D~e.U+u|cKe|W)ufZSSu*yY9NcR$?;pnI7=s_^,?.J=OgQA&eogl2^DZbJMD{1FcCQhAe>,w_)<Z{iMdr$ajgD2d'Y~FhB<:aR<1B3K?|{KwM9V7)&^3H97)FCU)'1MFNx'N&L{&{H0_PLA{c<'jbt*Ap`SrB=h+e$R~>Wlv~Rx%6;{b(2N$CmC_L.,3n^bu%hR:&Sc'81<lYaUk^P.H)dIUO3G$;O9sb%c$dh=Ub%dtJrA1bUfx05Z'SS0b2)'EwMoPsI.G'acI%w;4TYZn^$Sy.M.Ya?Fn~w+id*XG(_R}0MORx_cycCW1SjWvfFbVomGN%dZt'Cy)Y}qWrF~I7(5gNKz81+8]AGG}D4?7ewU?ocA=JM_b%,Zo7p.MSgW_Uz+~W|Dz1|Qu`75_]5NOAvM*mSwwAi;y+xKVa%^i7hS74q~W4?1K,:3rK?4lPbZ^)VAU'~K2,B&,o><>DEJNrQZ{*5^4'ez_%hKXsWAzg$SfP?)%*l8pRkd.~FQSfcrJ&]*Qb<>qMK`rPO]S|lR(Tqc2vaVc,;W:.a,>ttJg^0X$6]v7HA,a1a}79z}}H9B~ICRKsJ_oO.f7RJ>tBZMFcGJY9P,eTP^A>*96K$+CBdds=TjtbIk:W.g1;J%eLB'0:+$}^15q5(QXpAk(7j}Q'*O);;T{G+^6lSm$.5*sLy'DjYL|qjTn(u~(MG4J%TA>vdTy7*e87B&Df4F`_B;|uzNGR,IQ,L3jm=Q_<R::]SB`;xqPZ_ae0vZ:Bbc2&{y*WNpP5LYue8%b|EV6Q$dgyptWkhKv%C]0nDezvkk3q`&B670B2lGnS|'Eg3>^f>^L32>N8=|<>tDi%fcDsg6VlH8vd37ln637tdj3>O)Vg,zr{8aXb^2k't:n7GggSM>oQPPHG{;6Q)&dS'2`=}+}5_HI%5e|{x4GXb=G`168c>Hjz{hSo~mh6{8o=m:L*RJPFrJDmr50D=Haot7,_bAw:~0VfNLIwH+T2Y35kUyy_>5'2)rd^$yQ^Htx,0%C=(ZnwqcxXyjs;qe,,^1'C*.~s_WA6K0Pb^Ao((8J88n]2z^TjTL$+:br%Ylqko*=NcR$?>LKg]~NWi,m1a5J,*,G~8EM5LO}977~f7f+J:FKN6f&KMZn1^d6OMG{}blqwio?5Pf9m:QL*S`A)O1%)K2tD^m9cFVaZ~Byo*at(BZ.%l9vu&=4?;i}uqDg^H+1;JXV^ij?Nl={GJQz*LSnU}X.|3s07F?ArZ9iwwBX&fC(:*XlC.ERH~>)n;{(*f6dmhmiDCG_}pGr]`%Vfjug2o$O]5DOTnXzx]au`84>zBIL5NlN{z9B{}$bBk_rOBgXDW3(%d7.Y6BB;jOrjsKwZI5B8V]E_&fnB~s,6m(8zp>{C`&|P5t*aDnM12UsR<Re^J~(d>}fZ2T^)hZhj6]Cl0R$F;vOSg4Tn.zb4JGOPGMlc5Og15;~ML;)7B:M]`Z_CX^8nXzrL>V'=cn~<x)jkAvbT&p&yId0A(c6cE0h+tz)pH|T?m9vuX)yAM.V7iOZ_d9CLcuEq33.0u']M4{4K+6l3c7S|j:_KD)OmiqqMQf<mMR%Ko;F>G|$}.{oH~{VxMXW4F)vxqNg6yj8gi=2U_]0I`]9x`J+iO3YLl4$r_+I=<T:3E;xrf*O)I21,8p8$JlM.t|('3?4Y~(&DA|'y?c?uW.,(2R(jY_?BIoq,}Qp$L>*P)L$HrgQ>w;atI:()MJotr&_FSV{;{%jA.TS;ICyCZvIRdsy{Wi.DPJ|%VIE,YED6~%]vz~_wy5g^d>^SNZ,UxIo+ivd(e]&{Mo*&b(GIkx6|D9g:>EXQg7q{+6=C7H7a;)?U]74QUWCjs{PVE}9s8,xqgHoBxW*DA=SWk5H4i'497_=ikrM?RIOfV2%`qDO~_lh?.fE.<'93f~UxB)$Cx(AL^xG`(&`bYA*0QrN:Yo4x8Thad;tR~?SDQeM)5a}6Jt&T:S(3==82FPwm^euxjuBz_+=)_}r9MSN+iBSj?Os|r,BG=WT__K&WRDzakTYtj914)j<vt}%^5>ckns)KFd?EA4KyK4eL;,B*2c_;&Yt):{K7SXwg=gag^0fFQ*WUV0H>`M*x5pJwIovP4d<M,DWE5g$Ok:(5~k?G1va^+N3jvA.N5)RNf?'pSC&,Tp'>4W?115uQN%SrgZ,;yi:l.|y^Y+KLp7+RJ8UKxzg?zd$&b9|>_.$)Q|9bc:^~kUEf;9*U|.I('RbN?$6j&<Tkq6:*qc8q4XvGqxn*OIo(pFD,PAtwu5XNjWrDxO0E*23%,E?WLCdZv)6A3+a2.5RwtBmDs>z${N1v.5]D`&FtIch|NC)H86w>wO]U}.(.jCJ.KDBK?*8^ls6<_PK~rV&vhbr9~L%)8U>wpiZ83$5QY'Tf?oIeOscoYS>.=v}sbDmlFM}|ScP~Rf~TNooQ)ppml.~foCy=za4}ZxJL.Of30V,6%RI5lX0qp4l>}dA%IMSy%1dZ{Alx`8(0*O6%uUqlOb)0,P469njaA*3_U6Ew$^j0Nc=7uUw8:e?TGIOz+p8jC1h0y^AxQ6x]yASo=kU}GH`gwX'X;~ce;>_YJxV(x_0=emVO.7wo.>(Vv3]UTa<j}n}M<JP]82hy.I+?.2.2}E0Gi,$T:gWOmt3k:Km_]tp3{t{]IZ^K_D}h%Zq}j3`*:PfD+j.1sJS_bl38~j<l?LH'.|E()&+AS<>Z|T7e??tD]YRkHRP{:'$LEVli0S'A|OeLvT'kD,L$raX7K1h6I`vy}nhDQ(I`%YXi6hLYG0kbF8G)HaCd99]>aCiIqBrVTSBZ0+?gA}w;W6p:Nvb}TiftG9E54&B26]jlqknfn3Z`3P%jfOP*S,E?r9H%7<9TDPnHxIcPj)O>2(6HQnm^BXpaDe&<9jI8b*EE1&dP6azm=?$59r1Qxm)YMxDFYQYibL'fAwGp=IJgOC~P9ADFo(8<KyFA|)o=GF^%i]QYgJ`kTP>U(.Wq{8c9YMe.|7PSqhe`*SqMqdNzxQ]s&u)kNZXBvNt?BgICZfqSmQPBu=DS*.L:'zca7CJmtV}%VLlE))xuE(M8'<DF.>$R:]+M)Vw2KuoglZXcrY8l<Y;&ncsfHJw+T;k=d,zvnt{AA60TD,,XjRsWey{wXBCG6)HsiyBR'aED^|%dHr2`g<Q%<^s>$pCa=CbuTuUWT.;xk`;:A=s=zq<*ib0;H%OTh:rP{PXk,Ntnn0{dUrLaSOe3hL)*PAXj.Mb*+dzT%_6w|Lta3&=1j(SGXY5W$%k58D<*l'jzKMi>U~5%f;h+}F7%B1{LlSDd^{)Knb7j.Yt'V5)PcfC<rK0)idk(mMWzm~G?w'OeE]j4o2Oq)SS*guSW6PTHM:P]CV9xb:k'(Qw_9vZB|i$<.PKbpk8>T3Wc70>SJT+{%;)?tjkdl5nZ?kjWx*m9ZhfXy6)m*r^Y).td&ZU?U:g?i]Jpwhzy,mGaRUpPA:$(~*pfK,R~dK$.Kp(ktGy_YX50):cE~]q$D<NYKBX=8+$nw<BTvC.m<F3VQHKH'=M;?z1Z>5?g{z5UfTnZeE(fC~p<LLkdeu|87E;qTRwjrGn'K'L'%4PbH=aw;92u0M~N+ESe&QT|$Z0WRV?evkk,$=]FV5.(uA)Dp6,XGn0q3hI,)2gSj7up<+kfWmu{,IP^`hJDXX3n~F3Uvadb0OeW*0uNsl>$`PNZt(Du,Tu.b943KP}_&QWjYcsA$~~,CLyDoIUvsOlPJNe>ViW3UAAK^eu:hFu>BpCc=m]MY9Njy<xYEhA]Ct1`7=2%t2_&NCxJeMY9xMnqZ;B&w|.boN+da;6(>xZ}LHy5a<dE50]8_n%dxnl9:D$c;MjqS9ErDBSr<OQmIGw5OJms_^Ey|.y&:=e%JFI<rnX|&JwOec4wnX~vp3&N`wYH3(mOoNAd%AR*kmo,M`?w~$4ULl9aMSFk;67U9WJbwnW|ROibU4.64JSQ1}ykD6q2Y>;dS|kZP<`aDS=eT4&b3:Nk'}AxyD|;=iDywQu+%_^~]e,1o+MTWqz]Pn}8Q3MlLmCs(%,$p3<zs6IZ`,L:hW$e%n;UYi?)42Olf.8j'rctTK$XSOn*]LgG%Z;qx6W%,5|k1^A:&&+A39SjFq8j.jtf2'R%cuX}5Z~o7+XSN5^ZH;KSrR=L+((PS<p^sItRTiNOw1$(>bGh%ThdbAx>=P9:.XIo>>V=oMru&XF3?r}fh;hk1O_z3;F31vHH4>8TQu;ISZ;q$&C6Q={`86AF{i5)7&QaYGwV:k7'fOaAzHHP>]'?KgLHEV'T5TkI~%4SE32l*6JUL{KDfID~6.Ej+5>=]IkQR7~a7?>yeNq<p'0sK3PdJ%_XN49b>ll&*AAnQQ1dFW1eKPa9%4H$(=Z_t{vz|JA:KJeZq0t63>p8KPh`*o0L+5VEL%};+nWx%_xo_Qa.q8Y0,<{ZJ6D<L'yMzRX5PoV4<KTmu+;=YE=zB.}A|?C('y*ITChv,UV)vO3URs_hM'=Heg*$8}$nEmWN0Q2sU|~Zl$*1{n'0IzU8UZBP=R<rY%l}30vLm;'+&*NvV{R5831,WvT]]fsC]d5W9c.9NcQF_rm&CsfhcS,ryB_P4S'tv1yC7J2UnZLI3<ltPXE>a8^D'*fP>af<dM4fC9PBivTiyYQ(^.zJQw~=~X+JH7D*Z)U2w&MGP7Uy*LDTB]L9,;;D2Va+E^4i3.GI{=Vkrb>gHHe:i%6h1lxxj>jGZVB&>A7KM,*Nwa2s_k$7wonW6w4K]lNf&4(BPjUfDLpNrTG|Ochqo4qiY_i;:)G%jc%j_M+__gbM(>.thW:65I]Pq1OCK*T7G&lwuqWKJ?e1'7p8Gg4VYFPSE`>Y01^,dE^xR3r~r1MDvhiQNCyy&^12=F0}<EIx2ss:;i&;g5_cFD69D{vv)4foa++]<au5;3jeK9SonK]J?Djw_noI9)$6f{^Td_,Up2v;W;PFw*<tkO7fl=ZE,jm%5$]Yyh<lduP2*^k2kf5kDo'H}p3:^;>bD:cauYgU_'lQ'etEJbjLk*oMX31H$TZ7PS%ezmybHu1e>XF`fIG'qER:ZMdkMuw$Ev()EJy?zE3+QWuOCVyY_%Q;m3Bl`XL,9<0^&<(d5+RlwbpC$8e.Ko~;IMz.1r{7Gwi)RY:]&<=,,k?%vJT.I*Ks0WZuW+?>ifa4z4T7V;0l0_w0X}ggFgv+3f1`MaNBWc|F`*N:~My3jn?ts2mTmEj=Nzd~)+J6Pwyb%HKdk>q;;lsVAhcjo.2P,kk5x3Y$XCeUz^3+7N_'Dzf1d&rjl;T=*}kWf{gcmFE;qYOHZqC^<C+SW?HCht=F>BJq4jLOb^jRPu8r,L=9H8C8sRdMlO{M31*(j.zUo0$aS|Hj=9&1tuMMpE`}{=o'Y6XohvN4MqZ'fjt*ALGK0Yl]guDB4tV3Tt*9+Wo{l25t]p;lFki(QA*lREo?0UAML:^OE%v`d&ADH=}cA%Z.E']9o>U5~idG5f2]%`pzRzRPuA`iFz3r0JypX|QaNLv?RJOR]aeb%D7bR+|am)0X5pwC?ff=}p.wZ&|uXb7cDW80ijkO8I=Qmp2H<G<h%gx((._JNbFq]E{Jlj$TlvVUM05E6%?VL6vQ2r+e9~*84GRur<JpH)9Wpb7^y:Hd;C?PX]M9Jgm(QkJi7th9`^G>(%jtOk+.qDQh&~<<5G7=44HqS08$d*<>LnK|5^8}j;oP.::+`G&.>RzW?N]({0~vqv9p8Aj<;4.3e;RwrGV+WLPRfck:nei{89:?F&$Ecgz{NF]^x*B)Fa{uI<:0W~q`K8S$v53Wz&{g&mUZaR^O&7%oL%U?NVJXEm:wwOy?&.B;Zx&{yBRPf,De$f,BYt,cl.jqaXt?G$'=0dzMpOpQS,o|(fJJf,2gQ|PGKb8b(q$w=^Ghjd}LpC^PGeOD7ON_hfMgi%R|(bL4NjCCm9FFAk=A{_RAxoxhe04+SY<VBX,43KN&&L{U{3mZ]KW=t+itm5TbfLk`]<5e_N^'+.%=a6S(G2=~iO2YXR^H6VYBUn;6rIc>2DLn`8A`}>2?|(~7GEVK6ZhGc*~^P:8GUQDdoij},,hc.q>t{Tib(oFe9Qaw)F6C67{,D4gMi=u|Qsn+VTo%uWtn5.joP3Ii0q19X`Z.L);K`b2_WB]eyj)OiB^KdB}P}J$yTmaDZN0{cd:9F;gKh:$i'Y:kBFL^G.RaG2~B.o7}23w)f_F}*6SMkBCvYRi3}hyOTb71avga<A)m.lA<q5Qu1<Er&;hG>ERrrPl<SG{,c7q,}u)A:+MgR_%5_*zfK=i6^>mCzs1M9`eOj4XmNR1Fwm8"
end PySem.W.Fast
open PySem PySem.W PyProof.Rows
set_option maxRecDepth 100000 in
set_option maxHeartbeats 0 in
theorem PySem.Challenge.cw_letterlaw_k81_alike_walked_holds : PySem.Challenge.rw_letterlaw_k81_alike_walked.Holds := by
 w_on;o_law;k_head; (case hw=>w_witness2)
 k_fill
 refine LL.walk (l:=PySem.Challenge.rw_letterlaw_k81_alike_walked) rfl rfl (λw h Y=>PySem.W.km_in_of Y) ?hJJ ?hNN ?hFF
 case hJJ=>first | kernel_rfl | rfl | decide +kernel
 case hNN=>intro w;first | kernel_rfl | rfl
 case hFF =>
  intro w mg fa h cc T KX G hmg hlam hgT
  apply LL.all_mk KX G hmg hlam hgT
  (case a0|a1|a2|a3|a4|a5=>exact#[by k_is,_,L2.fun_mk (by k_is) (by k_is) (by k_is)])
  case a6|l6|k6|p6=>k_is
  (case a7|a8|a9|a10|a11=>exact#[by k_is,_,L2.fun_mk (by k_is) (by k_is) (by k_is)])
  case a12|l12|k12|p12=>k_is
  (case a13|a14|a15|a16|a17|a18|a19|a20|a21|a22|a23|a24|a25|a26|a27|a28|a29|a30|a31|a32|a33|a34=>exact#[by k_is,_,L2.fun_mk (by k_is) (by k_is) (by k_is)])
  case a35|l35|k35|p35=>k_is
  (case a36|a37|a38|a39|a40|a41|a42|a43|a44|a45|a46|a47|a48|a49|a50|a51|a52|a53|a54|a55|a56|a57|a58|a59=>exact#[by k_is,_,L2.fun_mk (by k_is) (by k_is) (by k_is)])
  case a60|l60|k60|p60|Di|Dj|Dl|Dm|Do|Dp|Dr|Dt|Du|Dv|Dw|Dx|Dy|xi|yi|most|DE|pF|pH|pJ|rW|rX|nh|nj|nk|oG|oH|ny|nA|nB|oK|oM|DF|DG|DJ|nn|ini|lI|kI|pI|oQ|oS|DN|DO|ua|DQ|lU|kU|pU|vi|DU|DW|DX|pN|pP|pQ|DY|wi|Ea|Ec|Ef|Eg|Eh|Ei|Ej|Ek|El|Em|En|Eo|Ep|Er|my|lB|mB|iZ|lc|iL|mD|lD|me|iz|mG|mi|nC|lF|lJ=>k_is
  (case DA|DD|DK|DP|DT|DV|DZ|Eb=>exact#[#[by first | kernel_rfl | rfl | k_is | decide +kernel,by k_is,by k_is,by k_is,by k_is],by k_is,by k_is,by k_is,by k_is])
  case oY|nW|Es|Et|Eu|Ew|Ex|Ey|Ez|EA|b0|b1|b2|b3|b4|b5|b6|b7|b8|b9|b10|b11|b12|b13|b14|b15=>k_is
  (case mz|lC|mC|la|lg|iM|mF|lE|mf|iA|mH|mj|nE|lG|lL=>exact#[_,L2.fun_mk (by k_is) (by k_is) (by k_is)])
  (case Dz|kt|ki|kb|kl|rV|oF|oJ|Ed|Ee|ks=>first | kernel_rfl | rfl)
  (case pC|pE|pG|mZ|ng|ni|nq|nw|nz|DH|oN|oP|oR|pK|pM|pO=>first | kernel_rfl | rfl | k_is | decide +kernel)
  (case pD|nc|nv|DL|oO|DS|pL|lr|iR|lu|lb|lh|iN|iH|iq|mh|iB|mI|ml|nF|lH|lM=>first | kernel_rfl | rfl | k_is)
#print axioms PySem.Challenge.cw_letterlaw_k81_alike_walked_holds
