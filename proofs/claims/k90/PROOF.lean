import PyProof.Rows.All
import Wide.All
import OpenK.AllK
import Wide.FinOn
import PyProof.EqAt
import PyProof.EqKinds
import PyProof.NeKinds
import PyProof.TupleCall
import KE.KRevIter
import PyProof.ZipIter
import PyProof.Rows.SetFrom
import PyProof.StrWalks
import PyProof.DictStraight
import PyProof.DictDisplay
import PyProof.StrLawsFrom
import PyProof.Rows.StrNews2
import KE.KMinBuiltin
import PyProof.Rows.CallKwBuiltin
import PyProof.Rows.SortShell
import KE.KSortTup
import KE.KBoundM
import KE.KLam
import KE.KDictLaws
import PyProof.DictWalks
import Lean
import PySem.Challenge.RW_letterlaw_k90_whole_thin_lists_judged
set_option compiler.extract_closed false
open Lean(mkIdent)
set_option tactic.hygienic false
local macro_rules | `(!0)=>`(by decide +kernel)
def zzP(s:Lean.Syntax):Lean.MacroM Lean.Syntax:=s.rewriteBottomUpM λs=>do if s.isIdent then `(rcasesPat| $(⟨s⟩):ident) else if s[0].getAtomVal=="#[" then `(rcasesPat| ⟨$(←s[1].getSepArgs.mapM λp=>`(Lean.Parser.Tactic.rcasesPatLo| $(⟨p⟩):rcasesPat)),*⟩) else if s[0].getAtomVal=="_" then `(rcasesPat| _) else return s
local macro_rules | `(tactic| let#[$a,*]:=$e)=>do `(tactic| obtain $(⟨←zzP (←`(#[$a,*]))⟩):rcasesPat:=$e)
local macro_rules | `(⇑$a)=>`(.str ($(mkIdent `tx) $a))
local macro_rules | `(tactic| rintro $p* : 0)=>`(tactic| (rintro $p* : _;right))
local macro_rules | `(↥$a)=>`(by simpa using $a)
open Lean in
local macro_rules | `(mutual $c* end)=>if c[0]!.raw.isOfKind ``Parser.Command.section then do let m<-`(noncomputable def x:=0);return mkNullNode (<-(c.drop 1).mapM λx=>do let y<-x.raw.rewriteBottomUpM λx=>pure (match x with | .atom _ v=>.atom .none v | .ident _ r v p=>.ident .none r v p | .node _ k a=>.node .none k a | x=>x);return if y[0].getArgs.all (·.getNumArgs==0)&&(["def","abbrev"].contains y[1][0].getAtomVal||y[1][1].getAtomVal=="instance")then y.setArg 0 m.raw[0] else y) else Macro.throwUnsupported
def zzA(h:True:=by first | rfl | exact .inl rfl | exact .inr rfl | exact .inr (.inl rfl) | exact .inr (.inr rfl) | decide | assumption | (intro _;rfl) | exact ⟨rfl,rfl⟩):=h
local macro_rules | `(‹$t›)=>`(autoParam $t $(mkIdent `zzA._auto_1))
local macro_rules | `(end in $d)=>do let m<-`(noncomputable def x:=0);return d.raw.setArg 0 m.raw[0]
local macro_rules | `(!-$i)=>`($(mkIdent `zk) $(mkIdent `t7) ($(mkIdent `pv) $i) $(mkIdent `zd))
local macro_rules | `(tactic| exists $t)=>`(tactic| refine $t (λvs H Q E h=>by repeat (first | (obtain⟨e,_⟩:=h;subst e;rfl) | obtain⟨_,h⟩:=h)) (λ$(mkIdent `cdv) $(mkIdent `A) $(mkIdent `outer) $(mkIdent `s) $(mkIdent `H) $(mkIdent `vs) $(mkIdent `Q) $(mkIdent `E) $(mkIdent `hr) $(mkIdent `h)=>?_))
local macro_rules | `(tactic| exists $t,0)=>`(tactic| refine $t (λvs H Q E h=>by repeat (first | (obtain⟨e,_⟩:=h;subst e;rfl) | obtain⟨_,h⟩:=h)) (λ$(mkIdent `cdv) $(mkIdent `A) $(mkIdent `outer) $(mkIdent `s) $(mkIdent `H) $(mkIdent `vs) $(mkIdent `Q) $(mkIdent `E) $(mkIdent `hr) $(mkIdent `hx) $(mkIdent `h)=>?_))
local macro_rules | `(tactic| rintro $p* : _)=>`(tactic| rintro $(mkIdent `Gz):ident $(mkIdent `hGz):ident $p*)
local macro_rules | `(tactic| right)=>`(tactic| subst $(mkIdent `hGz))
local macro_rules | `($s⁻¹)=>`(($s).heap.objs.size)
def sizL{n:Nat}(h:n.ble 9=true):n<=PySem.sizeLine:=Nat.le_trans (Nat.le_of_ble_eq_true h) (by decide)
local macro_rules | `(⋯)=>`(by first | exact $(mkIdent `sizL) rfl | lia)
local macro_rules | `(∅)=>`(by decide)
local macro_rules | `(tactic| erw [$[$a:term],*] $[$l:location]?)=>`(tactic| simp only [$[$a:term],*] $[$l:location]?)
local macro_rules | `(())=>`(List Nat)
local macro_rules | `(#[$a,*])=>if a.getElems.size>1 then `(⟨$a,*⟩) else Lean.Macro.throwUnsupported
open List renaming toArray→r9
open PySem.Value renaming ref→r8
open PySem.Value renaming none→p9
open PySem.PassesOwn renaming never→p8
open PySem.Builtin.Str renaming strSliceIndices→p7
open PySem.Builtin.Range renaming rangeSize→p0
open List renaming getElem?_eq_some_iff→AX,mem_map→AY,mem_cons→AZ,mem_append→Ba,mem_singleton→Bb,mem_range→Bc,mem_filter→Be,mem_reverse→Bf,all_eq_true→Bg,nodup_cons→Bh,length_pos_iff→Bj,mem_iff_getElem?→Bl,mem_flatMap→Bm,length_eq_zero_iff→Bn,any_eq_true→Bo,pairwise_append→Bp,pairwise_map→Bs,mem_filterMap→Bu,find?_eq_none→Bw,nodup_iff_count→Bx,pairwise_cons→By,nodup_append→Bz
open Option renaming map_eq_some_iff→Bd,isSome_iff_exists→Bk,bind_eq_some_iff→Bq,isNone_iff_eq_none→Br
open Bool renaming eq_false_iff→Bv
local macro_rules | `(tactic| symm)=>`(tactic| decide +kernel)
local macro_rules | `(tactic| nofun)=>`(tactic| exact⟨rfl,rfl,rfl,by decide +kernel,rfl,by decide +kernel,by decide +kernel⟩)
open List renaming length_map→aa,mem_of_getElem?→ac,getD_eq_getElem?_getD→ae,getElem?_eq_getElem→af,length_append→aj,size_toArray→ak,map_append→am,map_cons→ao,getElem?_map→aq,mem_cons_of_mem→ar,mem_cons_self→aB,length_take→aC,mem_append_right→aF,length_cons→aG,map_nil→aH,take_length→aI,range→aJ,set_cons_zero→aL,set_cons_succ→aM,append_assoc→aQ,replicate→aR,length_drop→aS,append_nil→aT,toArray→aU,take_of_length_le→aW,drop_eq_getElem_cons→aY,lookup_cons→aZ,drop_of_length_le→bf,nil_append→bg,take_zero→bu,sum_cons→bv,take_append_of_le_length→bw,mem_append_left→bx,mem_of_mem_take→bz,lookup→bA,cons_append→bD,getElem?_reverse→bE,getElem?_append_right→bF,length_nil→bH,length_reverse→bK,length_range→bL,length_replicate→bM,idxOf_lt_length_of_mem→bO,map_congr_left→bT,getElem?_append_left→bU,take_append_drop→bW,map_map→ce,getElem?_eq_none→cq,drop_append_of_le_length→cB,eraseIdx_cons_succ→cC,replicate_succ→cD,length→cG,range_succ→cJ,mem_of_mem_drop→cM,getElem?_take_of_lt→cN,getElem?_cons_zero→cP,contains_cons→cU,filter_append→cX,length_filter_le→db,flatMap_append→di,of_mem_zip→dj,find?_cons→dk,filter_nil→dm,zip_cons_cons→dq,find?_eq_none→du,drop_zero→dw,getElem?_cons_succ→dz,flatten_cons→dB,range_succ_eq_map→dF,any_cons→dJ,drop_length→dM,getElem_mem→dN,eraseIdxIfInBounds_toArray→dO,find?_some→dZ,replicate_succ'→d7,eq_nil_of_length_eq_zero→d8,filterMap_cons→d9,getElem?_range→eh,replicate_zero→eC,take_succ_cons→eD,drop_drop→eG,getElem_idxOf→eI,getElem_range→eJ,all_cons→eM,flatMap_cons→eQ,eraseIdx_nil→eS,extract_eq_drop_take→eU,mem_of_find?_eq_some→eV,map_reverse→e8,map_fst_zip→e9,filter_cons→fh,getElem?_replicate→fk,pairwise_singleton→fm,filter_cons_of_pos→fo,filter_cons_of_neg→fq,forIn_cons→fv,getElem?_set_self→fw,length_singleton→fG,mem_range→fM,take_take→fN,drop_left→fO,getElem?_set_ne→fR,map_take→fY
open PySem.Heap renaming get?_push_of_some→ag,lt_size→au,get?_update_other→az,get?_push_size→aE,get?_update_self→cp,size_push→cZ,size_update→dg,get?_update_ne→gd
open PySem.W renaming findIn→ah,nsIn→av,mg_of→aK,mg_none_of→aN,keepIn→aO,kitOne→aV,isFn→bc,kia_one→br,fnOf→bC,emptyDict→bS,mroIn→bY,codeIn→bZ,plainGet→cf,callWith_K→cj,kla_fn→cr,instObj→cu,hasDictIn→cA,methodCall_KW→cI,plainOver→cK,looks_findIn→cL,makesIn→cT,subIn→dh,specialIn→dA,takesIn→dP,plainGet_of→ef,lookIn→eE,methodObj→eO,kitx_list→eP,envX→eY,takerIn→ft,cellsFrom_some→fz,callWith_K0→gc,kitx_tuple→gg,set_plain→gn,kitx_dict→gp,handedIn→gr,bind_fn→gv,findObj→gw,kat_nil→gx,kas_ask→gy
open Nat renaming le_refl→al,lt_of_lt_of_le→aw,ne_of_lt→ax,zero_le→ay,le_trans→aP,not_lt_zero→bB,lt_of_le_of_lt→bX,min_eq_left→cw,min_eq_right→cE,le_succ→cF,ne_of_gt→cH,lt_irrefl→cQ,lt_succ_of_lt→cY,le_of_not_lt→df,le_of_lt→dn,lt_trichotomy→dD,lt_succ_self→dL,succ_mul→dQ,lt_or_ge→dX,zero_add→dY,sub_self→d4,mul_le_mul_right→d6,succ_le_succ→eW,min_self→eX,mul_le_mul→fJ,le_of_eq→gf,lt_trans→gk,le_total→gm,one_mul→gq
open Int renaming toNat_natCast→aA,emod_lt_of_pos→bp,emod_nonneg→bq,natCast_nonneg→bI,eq_ofNat_of_zero_le→bP,natCast_mul→d5
open Bool renaming false_ne_true→aD,and_eq_true→ba,false_eq_true→be,eq_false_or_eq_true→cz,eq_iff_iff→cS,and_false→dv,not_eq_true'→dC,or_eq_true→dU,or_true→dW,eq_false_iff→eR,not_false→fL,and_true→fW,beq_comm→fX,not_true→fZ,true_and→gb
open PySem.F renaming plainAttrs_list→aX,slot_list_append→bh,type_list_append→bn,plainAttrs_str→bJ,plain_max_loop→bQ,plain_min_loop→bR,slot_str_find→dc,type_str_find→de,entry_max_loop→dH,entry_min_loop→dI,slot_dict_setdefault→eF,excBase_ValueError→eL,slot_str_index→fB,type_str_index→fF
open PySem renaming strKind→bG,mem_of_lookup→cb,frameOf→eK,call→fS,passOn→gh
open PyProof.Rows renaming callWith_type1→bN,boot_sorted→fg,boot_all→fP,boot_min→fQ
open Decidable renaming byContradiction→bV
open Option renaming bind_some→ci,join_some→eZ,join_none→e7,getD_some→fj,map_eq_none_iff→fA,getD_none→gu
open PySem.Str renaming ofString→cy,empty→fu
open Array renaming length_toList→ee,getElem?_toList→fH,getD→fV,toList_append→ge
open PySem renaming wpAny_bind→sj,wpAny_pure→sk,mainGlobals→so,starEach→sq,sizeLine→sr
open PySem.W renaming Frag→su
open PySem renaming Addr→sv,Value→sw,Shared→sy,wpAny→sC,Str→sF,Program→sH,Stmt→sI,compareOp→sK,sizeLine_eq→sL,World→sM,keywordEach→sN,wpAny_truthy_bool→sP,wpAny_holding→sQ,backTo→sS,wpAny_Call_Name_kw→sU,Heap→sV,bootBuiltins→sW,backToKw→sX,wpAny_tryCatch→sY,Around→sZ,wpAny_loadPart_at→tj,codeAny_builtin→tm,wpAny_passesOwn→tu,wpAny_standAt→tw,wpAny_noRaise→tz,codeAny→tB,wpAny_letGo→tD,wpAny_mono→tE,wpAny_updateSeq→tF,wpAny_execs_nil→tG,Expr→tH,wpAny_setField→tI,wpAny_seqItems→tJ,wpAny_field→tK,wpAny_call→tL,FuncData→tM,wpAny_execs_cons→tN,codeAny_mono→tO,Obj→tP,wpAny_isSubtype_exc→tQ,wpAny_pyIter_list→tS,wpAny_newObj_type→tT,plainObj_wpAny_Assign_Attribute→tU,wpAny_newList→tV,codeAny_call_builtin→tX,NameKind→tY,Scope→tZ,wpAny_comprehension_free→Aa,wpAny_getItem_str_slice→Ab,wpAny_pyNext_range_end→Ac,wpAny_pyIter_rangeiter→Ad,wpAny_Call_method_late→Ae,wpAny_pyIter_revIter→Ag,wpAny_newFunctionEnv→Ah,wpAny_loadPart→Ai,recursionLimit→Aj,excClassObj→Ak,IsRangeIter→Al,Keyword→Am,BindsTo→An,wpAny_attempt→Ao,wpAny_pyIter_tuple→Aq,wpAny_pyIter_range→Ar,wpAny_pyIter_enum→As,wpAny_assign_Name→Au,wpAny_Return_some→Av,wpAny_Assign_Name→Aw,wpAny_lookBehind→Ay,wpAny_getItem_of→Az,wpAny_Try_except→AA,wpAny_Dict_empty→AB,Arguments→AC,isCodeTable→AD,CmpOp→AE,Tok→AF,wpAny_rule→AG,wpAny_Name→AH,Env→AJ,TriplesOk→AK,Pos→AL,Paired→AM
open PyProof.Rows renaming seqObj→sJ,envOfC→tR,AllBare→tW,subscriptTail_builtinR→Af,subscriptTail→Ap,IntsAre→Ax,Subscript_→AI
open PySem.W renaming OpenLaw→AN,KasT→AO
open Option renaming some→AQ,none→AR
open Bool renaming true→AS,false→AT
open PySem PySem.Spec PyProof.Rows
local macro_rules | `(tactic| change $t:term)=>`(tactic| refine $(mkIdent `zj) (λ$(mkIdent `σ) $(mkIdent `H')=>$t) ?_ ?_)
local macro_rules | `(tactic| intros $xs*)=>`(tactic| (intro $(mkIdent `AU):ident $(mkIdent `s):ident $(mkIdent `σ):ident $(mkIdent `H):ident;intro $[$(xs.map λx=>(⟨x.raw⟩:Lean.TSyntax `term))]*))
def w9:=@if_neg
def w6:=@if_pos
def w4:=@absurd
def u9:=@decide_eq_false
def u6:=@decide_eq_true
def u5:=@of_decide_eq_true
set_option Elab.async false
set_option linter.all false
set_option maxRecDepth 100000
set_option maxHeartbeats 0
set_option compiler.extract_closed false
namespace L2
mutual section
abbrev Key:=Sum Int sF
def zei:Key->sw->Bool
 | .inl k,v=>Value.isInt k v
 | .inr x,v=>Value.isStrOf x v
def zhc(w:sM):Key->Int
 | .inl k=>hashInt k
 | .inr x=>hashStr w x
theorem yk:∀{k:Key} {v:sw},zei k v=AS->(∃i t,k=Sum.inl i/\v=Value.int i t)\/(∃x t,k=Sum.inr x/\v=Value.str x t)
 | .inl i,v,h=>by
  let#[t,e]:=Value.isInt_shape (k:=i) (v:=v) h;exact .inl #[i,t,rfl,e]
 | .inr x,v,h=>by
  let#[t,e]:=Value.isStrOf_shape (x:=x) (v:=v) h;exact .inr #[x,t,rfl,e]
def ze7(a b:Int):decide ((Sum.inl a:Key)=Sum.inl b)=(a == b):=by
 by_cases e:a=b
 ·subst e;simp
 ·have h:¬ (Sum.inl a:Key)=Sum.inl b:=λq=>e (Sum.inl.inj q);rw[u9 h];exact (beq_eq_false_iff_ne.mpr e).symm
def zeV(a b:sF):decide ((Sum.inr a:Key)=Sum.inr b)=decide (a=b):=by
 by_cases e:a=b
 ·subst e;simp
 ·have h:¬ (Sum.inr a:Key)=Sum.inr b:=λq=>e (Sum.inr.inj q);rw[u9 h,u9 e]
def zdv(a:Int)(b:sF):decide ((Sum.inl a:Key)=Sum.inr b)=AT:=u9 (λq=>nomatch q)
def zel(a:sF)(b:Int):decide ((Sum.inr a:Key)=Sum.inl b)=AT:=u9 (λq=>nomatch q)
def X7(prog:sH)(w:sM):PySem.KeyKind prog w Key where
 is:=zei
 hash:=zhc w
 inj:=λv a b ha hb=>by
  rcases yk ha with ⟨i,t,rfl,rfl⟩ | ⟨x,t,rfl,rfl⟩
  ·rcases yk hb with ⟨j,u,rfl,e⟩ | ⟨y,u,rfl,e⟩
   ·injection e with e1 _;rw[e1]
   ·exact nomatch e
  ·rcases yk hb with ⟨j,u,rfl,e⟩ | ⟨y,u,rfl,e⟩
   ·exact nomatch e
   ·injection e with e1 _;rw[e1]
 byValue:=λk v h=>by
  rcases yk h with ⟨i,t,rfl,rfl⟩ | ⟨x,t,rfl,rfl⟩ <;> rfl
 pyHash:=λhv h=>by
  rcases yk hv with ⟨i,t,rfl,rfl⟩ | ⟨x,t,rfl,rfl⟩
  ·exact wpAny_pyHash_int h
  ·exact wpAny_pyHash_str h
 eqBool:=λhu hv h=>by
  rcases yk hu with ⟨i,t,rfl,rfl⟩ | ⟨x,t,rfl,rfl⟩
  ·rcases yk hv with ⟨j,u,rfl,rfl⟩ | ⟨y,u,rfl,rfl⟩
   ·rw[ze7]at h;exact wpAny_eqBool_int h
   ·rw[zdv]at h;exact SeqAt.EqAt.int_str i t y u _ _ _ _ h
  ·rcases yk hv with ⟨j,u,rfl,rfl⟩ | ⟨y,u,rfl,rfl⟩
   ·rw[zel]at h;exact SeqAt.EqAt.str_int x t j u _ _ _ _ h
   ·rw[zeV]at h;exact wpAny_eqBool_str h
 «strs»:=λk x t v h=>by
  rcases yk h with ⟨i,u,rfl,e⟩ | ⟨y,u,rfl,e⟩
  ·exact nomatch e
  ·injection e with e1 _;subst e1;cases v <;> rfl
inductive V where
 | non | bl (b:Bool) | int (i:Int) | str (x:sF) | byt (b:Array UInt8) | flt (b:UInt64) | ref (a:sv) | ty (n:String)
 deriving DecidableEq
def RelV:V->sw->Prop
 | .non,u=>u=p9
 | .bl b,u=>u=Value.bool b
 | .int i,u=>∃t,u=Value.int i t
 | .str x,u=>∃t,u=Value.str x t
 | .byt b,u=>∃t,u=Value.bytes b t
 | .flt b,u=>∃t,u=Value.float b t
 | .ref a,u=>u=r8 a
 | .ty n,u=>u=Value.type n
abbrev Vals:List V->List sw->Prop:=AM RelV
def Vals.length(r:Vals xs us):xs.length=us.length:=Paired.length r
theorem Vals.get:∀{xs:List V} {us:List sw} {i:Nat} {x:V},Vals xs us->xs[i]? = AQ x->∃u,us[i]? = AQ u/\RelV x u
 | _,_,_,_,.nil,e=>by simp at e
 | _,_,0,_,.cons r _,e=>by simp at e;subst e;exact#[_,rfl,r]
 | _,_,i+1,x,.cons _ t,e=>by
  let#[u,h1,h2]:=Vals.get (i:=i) (x:=x) t ↥e;exact#[u,by simpa using h1,h2]
theorem Vals.set(r:RelV x u):∀{xs:List V} {us:List sw} (i:Nat),Vals xs us->Vals (xs.set i x) (us.set i u)
 | _,_,_,.nil=>.nil
 | _,_,0,.cons _ t=>.cons r t
 | _,_,i+1,.cons q t=>.cons q (Vals.set r i t)
theorem Vals.append(h:Vals xs us)(s:Vals ys ws):Vals (xs ++ ys) (us ++ ws):=by
 induction h with
 | nil=>exact s
 | cons r t ih=>exact .cons r ih
theorem Vals.take:∀{xs:List V} {us:List sw} (n:Nat),Vals xs us->Vals (xs.take n) (us.take n)
 | _,_,0,_=>.nil
 | _,_,_+1,.nil=>.nil
 | _,_,n+1,.cons r t=>.cons r (Vals.take n t)
theorem Vals.drop:∀{xs:List V} {us:List sw} (n:Nat),Vals xs us->Vals (xs.drop n) (us.drop n)
 | _,_,0,r=>r
 | _,_,_+1,.nil=>.nil
 | _,_,n+1,.cons _ t=>Vals.drop n t
def RelO:Option V->Option sw->Prop
 | some v,AQ u=>RelV v u
 | none,AR=>True
 | _,_=>False
def KV{κ:Type}:List (κ × V)->List (κ × sw)->Prop:=AM λ(p:κ × V) (q:κ × sw)=>p.1=q.1/\RelV p.2 q.2
def kV:Key->V
 | .inl i=>.int i
 | .inr x=>.str x
inductive HO where
  | lst (xs:List V)
  | tup (xs:List V)
  | dK (kvs:List (Key × V)) | dT (kvs:List (List Key × V))
  | set (S:Int->Bool) (n:Nat)
  | ins (C dx:sv) (fs:List (sF × V))
  | own (x:sv)
  | xd (fs:List (sF × V))
  | met (f x:sv)
  | rng (lo hi:Int)
  | frz (o:tP) (u:HO)
  | tbl (ps:Array sw)
  | ext (φ:sV->Prop)
abbrev Hp:=sv->Option HO
def upd(H:Hp)(a:sv)(o:HO):Hp:=λb=>if b=a then AQ o else H b
def zc : upd H a o a=AQ o:=by unfold upd;rw[w6 rfl]
def zt(h:b≠a):upd H a o b=H b:=by unfold upd;rw[w9 h]
def zN{H:Hp}(h:H a=AQ o)(h':H b=AR):a≠b:=by intro e;subst e;rw[h]at h';cases h'
end
section
variable(P:sH)(w:sM)
def ObjOk(H:Hp)(h:sV)(a:sv):HO->Prop
 | .lst xs=>xs.length<=sr/\∃(its:List sw) (n:Nat),Vals xs its/\h.get? a=AQ { cls:=.type "list",data:=.seq its.toArray n }
 | .tup xs=>xs.length<=sr/\∃its:List sw,Vals xs its/\IsTup h a its.toArray
 | .dK kvs=>kvs.length<=sr/\(a == sysModules)=AT/\∃vs,KV kvs vs/\h.DictOf (X7 P w) a vs
 | .dT kvs=>kvs.length<=sr/\(a == sysModules)=AT/\∃xs:List (List Key × sv × sw),
   AM (λ(p:List Key × V) (q:List Key × sv × sw)=>p.1=q.1/\H q.2.1=AQ (.tup (p.1.map kV))/\RelV p.2 q.2.2) kvs xs /\
   ∃o es ep,h.get? a=AQ o/\o.ExactDict/\o.data=.dict es ep/\es.toList=xs.map (entryOfKey (tupleKind (X7 P w)))/\(xs.map (·.1)).Nodup
 | .set S n=>h.SetOf (intKind P w) a S n
 | .ins C dx fs=>H dx=AQ (.own a)/\fs.length<=1000/\dx≠a/\h.get? a=AQ (cu C dx) /\
   ∃mA,h.Ns1 dx mA/\(∀f,RelO (fs.lookup f) (mA f))/\PySem.Within mA (fs.map (·.1))
 | .own _=>∃o,h.get? a=AQ o
 | .xd fs=>∃mA,h.Ns1 a mA/\∀f,RelO (fs.lookup f) (mA f)
 | .rng lo hi=>∃t u v,h.get? a=AQ { cls:=.type "range",data:=.fields (r9 [.int lo t,.int hi u,.int 1 v]) }
 | .frz o u=>h.get? a=AQ o/\ObjOk H h a u
 | .tbl ps=>h.get? a=AQ { cls:=.none,data:=.fields ps }
 | .met f x=>h.get? a=AQ (eO (.ref f) (.ref x))
 | .ext φ=>φ h/\(∃o,h.get? a=AQ o)/\∀h1 h2:sV,φ h1->(∀o,h1.get? a=AQ o->h2.get? a=AQ o)->φ h2
def HOk(H:Hp)(h:sV):Prop:=∀a o,H a=AQ o->ObjOk P w H h a o
end
mutual section
theorem ObjOk.lt(x:ObjOk P w H h a o):a<h.objs.size:=by
 cases o with
 | lst xs=>let#[_,_,_,_,e]:=x;exact au e
 | tup xs=>let#[_,_,_,p]:=x;exact p.lt
 | dK kvs=>let#[_,_,_,_,o,_,_,e,_]:=x;exact au e
 | dT kvs=>let#[_,_,_,_,o,_,_,e,_]:=x;exact au e
 | set S n=>let#[o,_,_,_,e,_]:=x;exact au e
 | ins C dx fs=>let#[_,_,_,e,_]:=x;exact au e
 | own y=>let#[_,e]:=x;exact au e
 | xd fs=>let#[_,#[_,_,_,e,_],_]:=x;exact au e
 | rng lo hi=>let#[_,_,_,e]:=x;exact au e
 | frz ob u=>let#[e,_]:=x;exact au e
 | tbl ps=>exact au (show h.get? a=AQ _ from x)
 | met f y=>exact au (show h.get? a=AQ _ from x)
 | ext φ=>let#[_,#[_,e],_]:=x;exact au e
theorem Paired.mapP(h:AM F l₁ l₂)(f:∀a b,F a b->G a b):AM G l₁ l₂:=by
 induction h with
 | nil=>exact .nil
 | cons r t ih=>exact .cons (f _ _ r) ih
theorem ObjOk.stay(x:ObjOk P w H h a o)(k:∀b u,(b=a\/H b=AQ (.own a))->h.get? b=AQ u->h'.get? b=AQ u)(ho:∀b,H b=AQ (.own a)->H' b=AQ (.own a)) (ht:∀b xs,H b=AQ (.tup xs)->H' b=AQ (.tup xs)):ObjOk P w H' h' a o:=by
 induction o with
 | lst xs=>let#[z,its,n,r,e]:=x;exact#[z,its,n,r,k _ _ (.inl rfl) e]
 | tup xs=>let#[z,its,r,ob,e,c]:=x;exact#[z,its,r,ob,k _ _ (.inl rfl) e,c]
 | dK kvs=>let#[z,y,vs,r,ob,es,ep,e,c]:=x;exact#[z,y,vs,r,ob,es,ep,k _ _ (.inl rfl) e,c]
 | dT kvs =>
  let#[z,y,xs,r,ob,es,ep,e,c]:=x;exact#[z,y,xs,Paired.mapP r λp q z=>#[z.1,ht _ _ z.2.1,z.2.2],ob,es,ep,k _ _ (.inl rfl) e,c]
 | set S n=>let#[ob,es,ep,t,e,c]:=x;exact#[ob,es,ep,t,k _ _ (.inl rfl) e,c]
 | ins C dx fs =>
  let#[d,z,ne,e,mA,#[od,es,ep,e2,c],r]:=x;exact#[ho _ d,z,ne,k _ _ (.inl rfl) e,mA,#[od,es,ep,k _ _ (.inr d) e2,c],r]
 | own y=>let#[ob,e]:=x;exact#[ob,k _ _ (.inl rfl) e]
 | xd fs=>let#[mA,#[od,es,ep,e,c],r]:=x;exact#[mA,#[od,es,ep,k _ _ (.inl rfl) e,c],r]
 | rng lo hi=>let#[t,u,v,e]:=x;exact#[t,u,v,k _ _ (.inl rfl) e]
 | frz ob u ih=>let#[e,q]:=x;exact#[k _ _ (.inl rfl) e,ih q]
 | tbl ps =>
  have e:h.get? a=AQ { cls:=.none,data:=.fields ps }:=x;show h'.get? a=AQ { cls:=.none,data:=.fields ps };exact k a _ (.inl rfl) e
 | met f y =>
  have e:h.get? a=AQ (eO (.ref f) (.ref y)):=x;show h'.get? a=AQ (eO (.ref f) (.ref y));exact k a _ (.inl rfl) e
 | ext φ=>let#[p,#[o,e],st]:=x;exact#[st _ _ p λo q=>k _ _ (.inl rfl) q,#[o,k _ _ (.inl rfl) e],st]
def HOk.lt(x:HOk P w H h)(e:H a=AQ o):a<h.objs.size:=(x a o e).lt
theorem HOk.fresh(x:HOk P w H h)(e:h.objs.size<=a):H a=AR:=by
 cases q:H a with
 | none=>rfl
 | some u=>exact w4 (aw (x.lt q) e) (cQ _)
def HOk.kept(x:HOk P w H h)(k:∀b u,h.get? b=AQ u->h'.get? b=AQ u):HOk P w H h':=λa o e =>
 (x a o e).stay (λb u Z q=>k b u q) (λZ q=>q) λZ Z q=>q
def HOk.laid(x:HOk P w H h)(k:∀b u,h.get? b=AQ u->h'.get? b=AQ u)(hp:h.objs.size<=a)(new:ObjOk P w (upd H a o) h' a o):HOk P w (upd H a o) h':=λb u e=>by
 have hn:=x.fresh hp;by_cases hb:b=a
 ·subst hb;rw[zc]at e;cases e;exact new
 ·rw[zt hb]at e;exact (x b u e).stay (λc v Z q=>k c v q) (λc q=>by rw[zt (zN q hn)];exact q) λc xs q=>by rw[zt (zN q hn)];exact q
def Rd(H:Hp)(a:sv)(u:HO):Prop:=H a=AQ u\/∃o,H a=AQ (.frz o u)
def Rd.ok(r:Rd H a u)(x:HOk P w H h):ObjOk P w H h a u:=by
 rcases r with r | ⟨o,r⟩
 ·exact x a u r
 ·let#[_,q]:=x a _ r;exact q
def Mut:Option HO->Prop
 | some (.lst _)=>True
 | some (.dK _)=>True
 | some (.dT _)=>True
 | some (.set _ _)=>True
 | some (.ins _ _ _)=>True
 | some (.ext _)=>True
 | _=>False
def HOk.write(ok:HOk P w H h)(mu:Mut (H x))(he:e=x\/H e=AQ (.own x))(k:∀b u,b≠e->h.get? b=AQ u->h'.get? b=AQ u)(heo:∃u,h'.get? e=AQ u)(new:ObjOk P w (upd H x o') h' x o'):HOk P w (upd H x o') h':=λb u q=>by
 have nown:∀c y,H c=AQ (.own y)->c≠x:=λc y r z=>by subst z;rw[r]at mu;exact mu
 have ntup:∀c xs,H c=AQ (.tup xs)->c≠x:=λc xs r z=>by subst z;rw[r]at mu;exact mu
 by_cases hb:b=x
 ·subst hb;rw[zc]at q;cases q;exact new
 ·rw[zt hb]at q;by_cases hbe:b=e
  ·have q':H b=AQ (.own x):=by
    rcases he with z | z
    ·exact w4 (hbe.trans z) hb
    ·rw[hbe];exact z
   rw[q]at q';cases q';let#[v,hv]:=heo;exact#[v,by rw[hbe];exact hv]
  ·refine (ok b u q).stay (λc v hc r=>k c v ?_ r) (λc r=>by rw[zt (nown c b r)];exact r) λc xs r=>by rw[zt (ntup c xs r)];exact r
   rcases hc with rfl | hc
   ·exact hbe
   ·rintro rfl;rcases he with z | z
    ·exact nown c b hc z
    ·rw[hc]at z;cases z;exact hb rfl
structure Un(fs ex:List sv)(H H':Hp)(h h':sV):Prop where
 keep:∀b o,h.get? b=AQ o->H b=AR->b ∉ fs->b ∉ ex->h'.get? b=AQ o
 slot:∀b o,h.get? b=AQ o->H b=AR->b ∈ fs->b ∉ ex->∃sl,h'.get? b=AQ { o with slots:=sl }
 free:∀b o,h.get? b=AQ o->H b=AR->b ∉ ex->H' b=AR
 there:∀b o,h.get? b=AQ o->b ∉ ex->∃o',h'.get? b=AQ o'
 tups:∀b xs,H b=AQ (.tup xs)->H' b=AQ (.tup xs)
 frzs:∀b o u,H b=AQ (.frz o u)->H' b=AQ (.frz o u)
 tbls:∀b ps,H b=AQ (.tbl ps)->∃more,H' b=AQ (.tbl (ps ++ more))
def Un.any(u:Un fs ex H H1 h h1)(q:h.get? b=AQ ob)(n:H b=AR)(hx:b ∉ ex):∃sl,h1.get? b=AQ { ob with slots:=sl }:=by
 by_cases hb:b ∈ fs
 ·exact u.slot b ob q n hb hx
 ·exact#[ob.slots,u.keep b ob q n hb hx]
def Un.kept(k:∀b u,h.get? b=AQ u->h'.get? b=AQ u):Un fs ex H H h h' :=
 #[λb ob q Z Z Z=>k b ob q,λb ob q Z Z Z=>#[ob.slots,k b ob q],λZ Z Z n Z=>n,λb ob q Z=>#[ob,k b ob q],λZ Z q=>q,λZ Z Z q=>q,λZ ps q=>#[#[],by rw[q];simp]]
def Un.refl:Un fs ex H H h h:=Un.kept λZ Z q=>q
def Un.laid(k:∀b u,h.get? b=AQ u->h'.get? b=AQ u)(hp:h.objs.size<=a)(hn:H a=AR):Un fs ex H (upd H a o) h h' where
 keep:=λb u q Z Z Z=>k b u q
 slot:=λb u q Z Z Z=>#[u.slots,k b u q]
 free:=λb u q n Z=>by rw[zt (ax (aw (au q) hp))];exact n
 there:=λb u q Z=>#[u,k b u q]
 tups:=λb xs q=>by rw[zt (zN q hn)];exact q
 frzs:=λb u xs q=>by rw[zt (zN q hn)];exact q
 tbls:=λb ps q=>#[#[],by rw[zt (zN q hn),q];simp]
def Un.write(mu:Mut (H x))(he:e=x\/H e=AQ (.own x))(k:∀b u,b≠e->h.get? b=AQ u->h'.get? b=AQ u)(heo:∃u,h'.get? e=AQ u):Un fs ex H (upd H x o) h h':=by
 have hx:∀b,H b=AR->b≠x:=λb n z=>by subst z;rw[n]at mu;exact mu
 have hb:∀b,H b=AR->b≠e:=λb n z=>by
  subst z;rcases he with r | r
  ·exact hx b n r
  ·rw[n]at r;cases r
 have hm:∀b u,H b=AQ u->¬ Mut (AQ u)->b≠x:=λb u q nm z=>by subst z;rw[q]at mu;exact nm mu
 refine#[λb u q n Z Z=>k b u (hb b n) q,λb u q n Z Z=>#[u.slots,k b u (hb b n) q],λb u q n Z=>by rw[zt (hx b n)];exact n,λb u q Z=>?_,
  λb xs q=>by rw[zt (hm b _ q λz=>z)];exact q,λb u xs q=>by rw[zt (hm b _ q λz=>z)];exact q,λb ps q=>#[#[],by rw[zt (hm b _ q λz=>z),q];simp]]
 by_cases hbe:b=e
 ·subst hbe;exact heo
 ·exact#[u,k b u hbe q]
def trk(h:sV)(H:Hp):List sv:=(aJ h.objs.size).filter λa=>(H a).isSome
def QM(h:sV)(H:Hp):sV:=PySem.W.hideAll h (trk h H)
def UU(h:sV)(H:Hp):(QM h H).objs.size=h.objs.size:=PySem.W.hideAll_size _ _
def Wx(e:h.get? b=AQ o)(n:H b=AR):(QM h H).get? b=AQ o :=
 PySem.W.hideAll_get _ e λhm=>by
  have q:(H b).isSome=AS:=(Be.mp hm).2;rw[n]at q;simp at q
theorem zcw(e:(QM h H).get? b=AQ o):h.get? b=AQ o/\H b=AR:=by
 have e':h.get? b=AQ o:=PySem.W.of_hideAll (trk h H) e;refine#[e',?_]
 cases q:H b with
 | none=>rfl
 | some x =>
  have hm:b ∈ trk h H:=Be.mpr #[Bc.mpr (au e'),by simp [q]];have z:(QM h H).get? b=AR:=PySem.W.hideAll_none (trk h H) hm;rw[z]at e;cases e
def zbN(g h:sV)(L:sv):List (sv × tP):=(aJ h.objs.size).filterMap λa=>if a=L\/(g.get? a).isSome=AS then AR else (h.get? a).map λo=>(a,o)
def rest(g h:sV)(L d:sv):List (sv × tP):=(zbN g h L).filter λp=>decide (p.1≠d)
structure Mod(K:su)(mg:sF->Option sw)(base:sV):Prop where
 kin:K.In base
 glob:base.Ns so mg
 blt:∃mb,base.Ns builtinsNs mb/\∀x:sF,x≠"__name__"->mb x=sW x
 nolimit:base.NoLimit
structure Cx where
 prog:sH
 w:sM
 K:su
 mg:sF->Option sw
 base:sV
 A:sZ
 N:List sF
 s₀:sy
 H₀:Hp
 env:AJ
 outer:List AJ
 stack:List AJ
 ex:List sv
 fn:sF->Bool
 calm:Bool
 pn:List (sv × tP)
 xe:sw->sy->Prop
def frs(l:List AJ):List sv:=l.filterMap (·.frame)
abbrev Cx.fs(X:Cx):List sv:=frs X.outer
def Vis(sc:tZ)(x:sF):Prop:=sc.names.lookup x=AQ .local\/sc.names.lookup x=AQ .cell\/sc.names.lookup x=AQ .free
def Loc(sc:tZ)(x:sF):Prop:=sc.names.lookup x=AQ .local\/sc.names.lookup x=AQ .cell
def zg5(env:AJ)(h:sV)(m:sF->Option sw)(x:sF)(u:sw):Prop :=
 (env.kindOf x=AQ .local/\m x=AQ u)\/((env.kindOf x=AQ .cell\/env.kindOf x=AQ .free)/\∃c,env.cells.lookup x=AQ c/\h.IsCell c (AQ u))
structure Cx.Ok(X:Cx):Prop where
 mod:Mod X.K X.mg X.base
 kind:X.env.scope.kind=.function
 glob:X.env.globals=so
 blt:X.env.builtins=builtinsNs
 above:X.s₀.heap.objs.size<=X.env.locals
 inj:∀x y c,X.env.cells.lookup x=AQ c->X.env.cells.lookup y=AQ c->x=y
 has:∀x,(X.env.kindOf x=AQ .cell\/X.env.kindOf x=AQ .free)->∃c,X.env.cells.lookup x=AQ c
 cab:∀x c,X.fn x=AS->X.env.cells.lookup x=AQ c->X.s₀.heap.objs.size<=c
 hd:X.calm=AS->X.A.handled=AR
 frames:X.A.frames=AQ X.stack
 stk:X.stack=X.outer\/(X.stack=X.env::X.outer/\X.env.frame=AQ X.env.locals)
 exf:∀b ∈ X.ex,b≠X.env.locals/\∀x c,X.env.cells.lookup x=AQ c->c≠b
 bs:∀b o,X.base.get? b=AQ o->X.s₀.heap.get? b=AQ o/\X.H₀ b=AR
 bsz:X.base.objs.size<=X.s₀.heap.objs.size
 noex:∀b o,X.base.get? b=AQ o->b ∉ X.ex
 exfs:∀b ∈ X.ex,b ∉ X.fs
 funs:X.s₀.heap.FunFrames X.base X.outer
 frf:∀b ∈ X.fs,X.H₀ b=AR
structure Inv(X:Cx)(AU:List (sv × tP))(σ:List (Option V))(H:Hp)(s:sy):Prop where
 ok:X.Ok
 os:s.os=X.s₀.os
 bare:tW s.gens
 base:Un X.fs X.ex X.H₀ H X.s₀.heap s.heap
 loc:∃m,s.heap.Ns X.env.locals m/\∀(i:Nat) (x:sF) (v:V),X.N[i]? = AQ x->σ[i]? = AQ (AQ v)->Vis X.env.scope x->∃u,RelV v u/\zg5 X.env s.heap m x u
 cell:∀x c,X.env.cells.lookup x=AQ c->∃v,s.heap.IsCell c v
 free:H X.env.locals=AR
 freeC:∀x c,X.env.cells.lookup x=AQ c->H c=AR
 pin:∀p ∈ X.pn ++ AU,s.heap.get? p.1=AQ p.2/\H p.1=AR/\p.1≠X.env.locals/\p.1 ∉ X.fs/\∀v,p.2.data≠.cell v
 hok:HOk X.prog X.w H s.heap
 len:σ.length=X.N.length
def Cx.Ok.nofr{X:Cx}(ok:X.Ok)(e:X.base.get? b=AQ o):b ∉ X.fs:=λhb=>by
 have:=(ok.funs.mem hb).1;rw[e]at this;cases this
def Inv.bs(I:Inv X AU σ H s):∀b o,X.base.get? b=AQ o->s.heap.get? b=AQ o/\H b=AR:=λb o e =>
 #[I.base.keep b o (I.ok.bs b o e).1 (I.ok.bs b o e).2 (I.ok.nofr e) (I.ok.noex b o e),I.base.free b o (I.ok.bs b o e).1 (I.ok.bs b o e).2 (I.ok.noex b o e)]
def Inv.bk(I:Inv X AU σ H s):∀b o,X.base.get? b=AQ o->s.heap.get? b=AQ o:=λb o e=>(I.bs b o e).1
def Inv.mod(I:Inv X AU σ H s):Mod X.K X.mg X.base:=I.ok.mod
def Inv.kIn(I:Inv X AU σ H s):X.K.In s.heap:=I.ok.mod.kin.keeps I.bk
def Inv.nolimit(I:Inv X AU σ H s):s.heap.NoLimit:=I.ok.mod.nolimit.keeps I.bk
def Inv.fr(I:Inv X AU σ H s):∃m,Fr X.base X.env.locals s.heap m :=
 let #[m,hn,_]:=I.loc
 #[m,hn,I.bk,aP I.ok.bsz I.ok.above]
def Inv.lt(I:Inv X AU σ H s):X.env.locals<s⁻¹:=let #[_,hn,_]:=I.loc;hn.lt
def Inv.sz(I:Inv X AU σ H s):X.s₀.heap.objs.size<=s⁻¹:=aP I.ok.above (dn I.lt)
def Inv.nofs(I:Inv X AU σ H s)(h:s⁻¹<=a):a ∉ X.fs:=λhb=>by
 let#[_,o,ho,_]:=I.ok.funs.mem hb;exact w4 (aw (au ho) (aP I.sz h)) (cQ _)
def Inv.cne(I:Inv X AU σ H s):∀x c,X.env.cells.lookup x=AQ c->c≠X.env.locals:=λx c e z=>by
 let#[v,o,ho,hd]:=I.cell x c e;let#[m,#[o',es,ep,ho',hd',_],_]:=I.loc;rw[z,ho']at ho;cases ho;rw[hd']at hd;cases hd
def Inv.funs(I:Inv X AU σ H s):s.heap.FunFrames X.base X.outer:=by
 have all:∀(l:List AJ),(∀b ∈ frs l,b ∈ X.fs)->X.s₀.heap.FunFrames X.base l->s.heap.FunFrames X.base l:=by
  intro l
  induction l with
  | nil=>intro _ _;trivial
  | cons env r ih =>
   intro hs hl;let#[hk,#[L,o,hf,hn,ho,hd],hr]:=hl;have hL:L ∈ X.fs:=hs L (by unfold frs;rw[d9,hf];exact aB);let#[sl,e]:=I.base.slot L o ho (I.ok.frf L hL) hL λz=>I.ok.exfs L z hL;exact#[hk,#[L,_,hf,hn,e,hd],ih (λb hb=>hs b (by unfold frs;rw[d9,hf];exact ar _ hb)) hr]
 exact all X.outer (λZ hb=>hb) I.ok.funs
def Inv.stack(I:Inv X AU σ H s):s.heap.FunFrames X.base X.stack:=by
 rcases I.ok.stk with e | ⟨e,hf⟩
 ·rw[e];exact I.funs
 ·rw[e];let#[m,hn,_]:=I.loc;refine .cons (by rw[I.ok.kind];decide) hf hn ?_ I.funs;exact Heap.get?_none_of_le (aP I.ok.bsz I.ok.above)
def Inv.stkSub(I:Inv X AU σ H s):∀b ∈ frs X.stack,b ∈ X.env.locals::X.fs:=λb hb=>by
 rcases I.ok.stk with e | ⟨e,hf⟩
 ·rw[e]at hb;exact ar _ hb
 ·rw[e]at hb;unfold frs at hb;rw[d9,hf]at hb;exact hb
def Inv.stkFree(I:Inv X AU σ H s):∀b ∈ frs X.stack,H b=AR:=λb hb=>by
 rcases AZ.mp (I.stkSub b hb)with e | hb
 ·rw[e];exact I.free
 ·let#[_,o,ho,_]:=I.ok.funs.mem hb;exact I.base.free b o ho (I.ok.frf b hb) λz=>I.ok.exfs b z hb
def Inv.step{ch:List sv}(I:Inv X AU σ H s)(hch:∀b ∈ ch,(b ∈ X.ex\/X.s₀.heap.objs.size<=b)/\b≠X.env.locals/\(∀x c,X.env.cells.lookup x=AQ c->c≠b)/\∀p ∈ X.pn ++ AU,p.1≠b)(keep:∀b o,b≠X.env.locals->b ∉ X.fs->b ∉ ch->s.heap.get? b=AQ o->H b=AR->h'.get? b=AQ o)(slot:∀b o,b≠X.env.locals->b ∈ X.fs->b ∉ ch->s.heap.get? b=AQ o->H b=AR->∃sl,h'.get? b=AQ { o with slots:=sl })(free:∀b o,b ∉ ch->s.heap.get? b=AQ o->H b=AR->H' b=AR)(there:∀b o,b ∉ ch->s.heap.get? b=AQ o->∃o',h'.get? b=AQ o')(tups:∀b xs,H b=AQ (.tup xs)->H' b=AQ (.tup xs))(frzs:∀b o u,H b=AQ (.frz o u)->H' b=AQ (.frz o u))(tbls:∀b ps,H b=AQ (.tbl ps)->∃more,H' b=AQ (.tbl (ps ++ more)))(ns:∀m,s.heap.Ns X.env.locals m->h'.Ns X.env.locals m)(hok:HOk X.prog X.w H' h')(hg:tW g') :
  Inv X AU σ H' { s with heap:=h',gens:=g',drawn:=d',toks:=t' }:=by
 have neL:∀b o,X.s₀.heap.get? b=AQ o->b≠X.env.locals:=λb o e=>ax (aw (au e) I.ok.above)
 have neC:∀b o,X.s₀.heap.get? b=AQ o->b ∉ X.ex->b ∉ ch:=λb o e hx hb=>by
  rcases (hch b hb).1 with z | z
  ·exact hx z
  ·exact w4 (aw (au e) z) (cQ _)
 have cellK:∀x c,X.env.cells.lookup x=AQ c->∀v,s.heap.IsCell c v->h'.IsCell c v:=λx c e v ⟨o,ho,hd⟩=>by
  have nch:c ∉ ch:=λz=>(hch c z).2.2.1 x c e rfl;by_cases hc:c ∈ X.fs
  ·let#[sl,q]:=slot c o (I.cne x c e) hc nch ho (I.freeC x c e);exact#[_,q,hd]
  ·exact#[o,keep c o (I.cne x c e) hc nch ho (I.freeC x c e),hd]
 refine#[I.ok,I.os,hg,#[λb o e n hb hx=>?_,λb o e n hb hx=>?_,λb o e n hx=>?_,λb o e hx=>?_,λb xs e=>tups b xs (I.base.tups b xs e),λb o xs e=>frzs b o xs (I.base.frzs b o xs e),λb ps e=>?_],?_,λx c e=>?_,?_,λx c e=>?_,λp hp=>?_,hok,I.len]
 ·exact keep b o (neL b o e) hb (neC b o e hx) (I.base.keep b o e n hb hx) (I.base.free b o e n hx)
 ·let#[sl,e1]:=I.base.slot b o e n hb hx;let#[sl',e2]:=slot b _ (neL b o e) hb (neC b o e hx) e1 (I.base.free b o e n hx);exact#[sl',e2]
 ·let#[o',e1]:=I.base.there b o e hx;exact free b o' (neC b o e hx) e1 (I.base.free b o e n hx)
 ·let#[o',e1]:=I.base.there b o e hx;exact there b o' (neC b o e hx) e1
 ·let#[m1,e1]:=I.base.tbls b ps e;let#[m2,e2]:=tbls b _ e1;exact#[m1 ++ m2,by rw[e2,Array.append_assoc]]
 ·let#[m,hn,hl]:=I.loc;refine#[m,ns m hn,λi x v e1 e2 e3=>?_];let#[u,r,l]:=hl i x v e1 e2 e3;refine#[u,r,?_];rcases l with l | ⟨k,c,e,z⟩
  ·exact .inl l
  ·exact .inr #[k,c,e,cellK x c e _ z]
 ·let#[v,z]:=I.cell x c e;exact#[v,cellK x c e v z]
 ·let#[m,#[o,_,_,ho,_],_]:=I.loc;exact free _ o (λz=>(hch _ z).2.1 rfl) ho I.free
 ·let#[v,o,ho,hd]:=I.cell x c e;exact free c o (λz=>(hch c z).2.2.1 x c e rfl) ho (I.freeC x c e)
 ·let#[e,n,ne,nf,d]:=I.pin p hp;have nch:p.1 ∉ ch:=λz=>(hch p.1 z).2.2.2 p hp rfl;exact#[keep p.1 p.2 ne nf nch e n,free p.1 p.2 nch e n,ne,nf,d]
def Inv.un(I:Inv X AU σ H s)(u:Un X.fs [] H H' s.heap h')(hok:HOk X.prog X.w H' h'):Inv X AU σ H' { s with heap:=h',toks:=t' }:=by
 let#[m,#[o,es,ep,ho,r],_]:=id I.loc;let#[sl,hL]:=u.any ho I.free (by simp)
 exact I.step (g':=s.gens) (d':=s.drawn) (ch:=[]) (λZ z=>nomatch z) (λb o Z hb Z e n=>u.keep b o e n hb (by simp)) (λb o Z hb Z e n=>u.slot b o e n hb (by simp)) (λb o Z e n=>u.free b o e n (by simp)) (λb o Z e=>u.there b o e (by simp)) u.tups u.frzs u.tbls (λm' hm=>by
  let#[o',es',ep',ho',r']:=hm;rw[ho]at ho';cases ho'
  exact#[_,es',ep',hL,r']) hok I.bare
def Inv.call(I:Inv X AU σ H s)(u:Un (frs X.stack) ch H H' s.heap h')(hok:HOk X.prog X.w H' h')(hg:tW g')(hch:∀b ∈ ch,(b ∈ X.ex\/X.s₀.heap.objs.size<=b)/\b≠X.env.locals/\(∀x c,X.env.cells.lookup x=AQ c->c≠b)/\∀p ∈ X.pn ++ AU,p.1≠b) :
  Inv X AU σ H' { s with heap:=h',gens:=g',drawn:=d',toks:=t' }:=by
 let#[m,#[o,es,ep,ho,r],_]:=id I.loc;let#[sl,hL]:=u.any ho I.free λz=>(hch _ z).2.1 rfl
 exact I.step (ch:=ch) hch (λb o hL hb hc e n=>u.keep b o e n (λz=>(AZ.mp (I.stkSub b z)).elim hL hb) hc) (λb o Z Z hc e n=>u.any e n hc) (λb o hc e n=>u.free b o e n hc) (λb o hc e=>u.there b o e hc) u.tups u.frzs u.tbls (λm' hm=>by
  let#[o',es',ep',ho',r']:=hm;rw[ho]at ho';cases ho'
  exact#[_,es',ep',hL,r']) hok hg
def Inv.turned(I:Inv X AU σ H s)(k:∀b o,b≠it->s.heap.get? b=AQ o->h'.get? b=AQ o)(hn:H it=AR)(hL:it≠X.env.locals)(h1:it ∈ X.ex\/X.s₀.heap.objs.size<=it)(h2:∀x c,X.env.cells.lookup x=AQ c->c≠it)(h3:∀p ∈ X.pn ++ AU,p.1≠it):Inv X AU σ H { s with heap:=h',toks:=t' }:=by
 have nit:∀b u,H b=AQ u->b≠it:=λb u e z=>by rw[z,hn]at e;cases e
 refine I.step (g':=s.gens) (d':=s.drawn) (ch:=[it]) (λb hb=>?_) (λb o Z Z hc e Z=>k b o (λz=>hc (by simp [z])) e) (λb o Z Z hc e Z=>#[o.slots,k b o (λz=>hc (by simp [z])) e]) (λZ Z Z Z n=>n)
  (λb o hc e=>#[o,k b o (λz=>hc (by simp [z])) e]) (λZ Z e=>e) (λZ Z Z e=>e) (λb ps e=>#[#[],by rw[e];simp]) (λm hm=>?_) (λb u e=>?_) I.bare
 ·have e:b=it:=by simpa using hb
  subst e;exact#[h1,hL,h2,h3]
 ·let#[o,es,ep,ho,r]:=hm;exact#[o,es,ep,k _ o (Ne.symm hL) ho,r]
 ·refine (I.hok b u e).stay (λc v hc q=>k c v ?_ q) (λZ q=>q) λZ Z q=>q;rcases hc with z | z
  ·rw[z];exact nit b u e
  ·exact nit c _ z
def Inv.tok(I:Inv X AU σ H s)(t:Nat):Inv X AU σ H { s with toks:=t }:=I.un (h':=s.heap) (t':=t) Un.refl I.hok
def Inv.kept(I:Inv X AU σ H s)(k:∀b u,s.heap.get? b=AQ u->h'.get? b=AQ u):Inv X AU σ H { s with heap:=h',toks:=t' }:=I.un (Un.kept k) (I.hok.kept k)
def Inv.laid(I:Inv X AU σ H s)(k:∀b u,s.heap.get? b=AQ u->h'.get? b=AQ u)(hp:s⁻¹<=a)(new:ObjOk X.prog X.w (upd H a o) h' a o) :
  Inv X AU σ (upd H a o) { s with heap:=h',toks:=t' }:=I.un (Un.laid k hp (I.hok.fresh hp)) (I.hok.laid k hp new)
def Inv.write(I:Inv X AU σ H s)(mu:Mut (H x))(he:e=x\/H e=AQ (.own x))(k:∀b u,b≠e->s.heap.get? b=AQ u->h'.get? b=AQ u)(heo:∃u,h'.get? e=AQ u)(new:ObjOk X.prog X.w (upd H x o) h' x o):Inv X AU σ (upd H x o) { s with heap:=h',toks:=t' }:=I.un (Un.write mu he k heo) (I.hok.write mu he k heo new)
def Inv.weak(I:Inv X AU σ H s)(hl:σ'.length=σ.length)(w:∀(i:Nat) v,σ'[i]? = AQ (AQ v)->σ[i]? = AQ (AQ v)):Inv X AU σ' H s :=
 #[I.ok,I.os,I.bare,I.base,let #[m,hn,hl']:=I.loc; #[m,hn,λi x v e1 e2 e3=>hl' i x v e1 (w i v e2) e3],I.cell,I.free,I.freeC,I.pin,I.hok,hl.trans I.len]
def Inv.pins_of(I:Inv X AU σ H s)(h:∀p ∈ pins',s.heap.get? p.1=AQ p.2/\H p.1=AR/\p.1≠X.env.locals/\p.1 ∉ X.fs/\∀v,p.2.data≠.cell v):Inv X pins' σ H s :=
 #[I.ok,I.os,I.bare,I.base,I.loc,I.cell,I.free,I.freeC,λp hp=>(Ba.mp hp).elim (λz=>I.pin p (bx _ z)) (h p),I.hok,I.len]
def W4{N:List sF}(hN:N.Nodup){i j:Nat}(a:N[i]? = AQ x)(b:N[j]? = AQ x):i=j:=by let#[h1,e1]:=AX.mp a;let#[h2,e2]:=AX.mp b;exact (List.getElem_inj hN).mp (e1.trans e2.symm)
def Xh(I:Inv X AU σ H s)(hN:X.N.Nodup)(hi:X.N[i]? = AQ x)(hx:Loc X.env.scope x)(r:RelV v u)(h:∀s',Inv X AU (σ.set i (AQ v)) H s'->(∃a,Heap.SameBut a s.heap s'.heap/\(a=X.env.locals\/X.env.cells.lookup x=AQ a))->Q Unit.unit s')(hf:‹X.fn x=AS\/X.env.scope.names.lookup x=AQ .local›):sC M A (storeName X.env x u) Q E s:=by
 let#[m,hn,hl]:=id I.loc;have hcls:(X.env.scope.kind == .class || (X.env.scope.kind == .module && X.env.locals != X.env.globals))=AT:=by rw[I.ok.kind];rfl
 have hiσ:i<σ.length:=by rw[I.len];exact (AX.mp hi).1
 have cne:=I.cne
 have tracked:∀{a:sv} {h':sV},(∃o,s.heap.get? a=AQ o/\H a=AR)->Heap.SameBut a s.heap h'->HOk X.prog X.w H h':=λ{a h'} ha hs b ob e=>by
  let#[_,_,hfree]:=ha;refine (I.hok b ob e).stay (λc w' hc q=>(hs.2 c ?_).trans q) (λZ q=>q) λZ Z q=>q;rintro rfl;rcases hc with rfl | hc
  ·rw[hfree]at e;cases e
  ·rw[hfree]at hc;cases hc
 rcases hx with hk | hk
 ·refine wpAny_storeName_local hk hn (λh' hn' hs=>?_) hcls;let#[oL,_,_,hoL,_]:=id hn;refine h _ #[I.ok,I.os,I.bare,#[λb o e n hb hx=>?_,λb o e n hb hx=>?_,I.base.free,λb o e hx=>?_,I.base.tups,I.base.frzs,I.base.tbls],#[_,hn',λj y v' e1 e2 e3=>?_],λy c e=>?_,I.free,I.freeC,λp hp=>?_,tracked #[oL,hoL,I.free] hs,by simpa using I.len] #[_,hs,.inl rfl]
  ·exact (hs.2 b (ax (aw (au e) I.ok.above))).trans (I.base.keep b o e n hb hx)
  ·let#[sl,e1]:=I.base.slot b o e n hb hx;exact#[sl,(hs.2 b (ax (aw (au e) I.ok.above))).trans e1]
  ·let#[o',e1]:=I.base.there b o e hx;exact#[o',(hs.2 b (ax (aw (au e) I.ok.above))).trans e1]
  ·by_cases hj:j=i
   ·subst hj;rw[hi]at e1;cases e1;rw[fw hiσ]at e2;cases e2;exact#[u,r,.inl #[hk,by simp]]
   ·rw[fR (Ne.symm hj)]at e2;let#[u',r',q]:=hl j y v' e1 e2 e3;refine#[u',r',?_];rcases q with ⟨k,e⟩ | ⟨k,c,e,z⟩
    ·refine .inl #[k,?_];have:y≠x:=λe=>hj (W4 hN e1 (e ▸ hi));simp [this,e]
    ·exact .inr #[k,c,e,z.sameBut hs (cne y c e)]
  ·let#[w',z]:=I.cell y c e;exact#[w',z.sameBut hs (cne y c e)]
  ·let#[e,n,ne,nf,d]:=I.pin p hp;exact#[(hs.2 p.1 ne).trans e,n,ne,nf,d]
 ·have hfn:X.fn x=AS:=by
   rcases hf with z | z
   ·exact z
   ·rw[z]at hk;cases hk
  let#[c,hc]:=I.ok.has x (.inl hk);let#[w',z]:=I.cell x c hc;refine wpAny_storeName_cell I.ok.kind hk hc z (λh' hc' hs=>?_);let#[oc,hoc,hocd]:=id z;refine h { s with heap:=h' } #[I.ok,I.os,I.bare,#[λb o e n hb hx=>?_,λb o e n hb hx=>?_,I.base.free,λb o e hx=>?_,I.base.tups,I.base.frzs,I.base.tbls],#[m,hn.sameBut hs (Ne.symm (cne x c hc)),λj y v' e1 e2 e3=>?_],λy c' e=>?_,I.free,I.freeC,λp hp=>?_,tracked #[oc,hoc,I.freeC x c hc] hs,by simpa using I.len] #[c,hs,.inr hc]
  ·exact (hs.2 b (ax (aw (au e) (I.ok.cab x c hfn hc)))).trans (I.base.keep b o e n hb hx)
  ·let#[sl,e1]:=I.base.slot b o e n hb hx;exact#[sl,(hs.2 b (ax (aw (au e) (I.ok.cab x c hfn hc)))).trans e1]
  ·let#[o',e1]:=I.base.there b o e hx;exact#[o',(hs.2 b (ax (aw (au e) (I.ok.cab x c hfn hc)))).trans e1]
  ·by_cases hj:j=i
   ·subst hj;rw[hi]at e1;cases e1;rw[fw hiσ]at e2;cases e2;exact#[u,r,.inr #[.inl hk,c,hc,hc']]
   ·rw[fR (Ne.symm hj)]at e2;let#[u',r',q]:=hl j y v' e1 e2 e3;refine#[u',r',?_];rcases q with q | ⟨k,c',e,z'⟩
    ·exact .inl q
    ·refine .inr #[k,c',e,z'.sameBut hs ?_];rintro rfl;exact hj (W4 hN e1 (I.ok.inj _ _ _ e hc ▸ hi))
  ·by_cases hcc:c'=c
   ·subst hcc;exact#[_,hc']
   ·let#[w2,z2]:=I.cell y c' e;exact#[w2,z2.sameBut hs hcc]
  ·let#[e,n,ne,nf,d]:=I.pin p hp;refine#[(hs.2 p.1 ?_).trans e,n,ne,nf,d];intro q;rw[q,hoc]at e;have q':oc=p.2:=Option.some.inj e;exact d w' (by rw[<- q'];exact hocd)
def ZH(I:Inv X AU σ H s)(hN:X.N.Nodup)(hi:X.N[i]? = AQ x)(hx:Loc X.env.scope x)(r:RelV v u)(h:∀s',Inv X AU (σ.set i (AQ v)) H s'->Q Unit.unit s')(hf:‹X.fn x=AS\/X.env.scope.names.lookup x=AQ .local›):sC M A (storeName X.env x u) Q E s :=
 Xh I hN hi hx r (λs' I' Z=>h s' I') hf
def Inv.call'(I:Inv X AU σ H s)(ho:s'.os=s.os)(u:Un (frs X.stack) ch H H' s.heap s'.heap)(hok:HOk X.prog X.w H' s'.heap)(hg:tW s'.gens)(hch:∀b ∈ ch,(b ∈ X.ex\/X.s₀.heap.objs.size<=b)/\b≠X.env.locals/\(∀x c,X.env.cells.lookup x=AQ c->c≠b)/\∀p ∈ X.pn ++ AU,p.1≠b):Inv X AU σ H' s':=by let#[h',g',d',t',o']:=s';have e:o'=s.os:=ho;subst e;exact I.call (g':=g') (t':=t') (d':=d') u hok hg hch
abbrev XK:=sw->Option sv->Hp->Prop
abbrev St:=List (Option V)
abbrev VK:=V->Hp->Prop
abbrev TE:=St->Hp->VK->Prop
abbrev TT:=St->Hp->(Bool->Hp->Prop)->Prop
abbrev TA:=St->Hp->(List V->Hp->Prop)->Prop
structure Z2 where
 nx:St->Hp->Prop
 rt:VK
 bk:St->Hp->Prop:=λZ Z=>False
 ct:St->Hp->Prop:=λZ Z=>False
abbrev TS:=Z2->St->Hp->Prop
def EP(X:Cx)(AU:List (sv × tP))(σ:St)(Q:VK)(u:sw)(s':sy):Prop:=∃v H',Inv X AU σ H' s'/\RelV v u/\Q v H'
def TP(X:Cx)(AU:List (sv × tP))(σ:St)(Q:Bool->Hp->Prop)(b:Bool)(s':sy):Prop:=∃H',Inv X AU σ H' s'/\Q b H'
def AP(X:Cx)(AU:List (sv × tP))(σ:St)(Q:List V->Hp->Prop)(us:List sw)(s':sy):Prop:=∃vs H',Inv X AU σ H' s'/\Vals vs us/\Q vs H'
def SP(X:Cx)(AU:List (sv × tP))(D:Z2)(f:Flow)(s':sy):Prop :=
 match f with
 | .next=>∃σ' H',Inv X AU σ' H' s'/\D.nx σ' H'
 | .brk=>∃σ' H',Inv X AU σ' H' s'/\D.bk σ' H'
 | .cont=>∃σ' H',Inv X AU σ' H' s'/\D.ct σ' H'
 | .ret u=>∃v σ' H',Inv X AU σ' H' s'/\RelV v u/\D.rt v H'
def PE(X:Cx)(e:tH)(t:TE):Prop :=
 ∀(AU:List (sv × tP)) (s:sy) (σ:St) (H:Hp) (Q:VK),Inv X AU σ H s->t σ H Q->sC (model X.prog X.w) X.A (eval e X.env) (EP X AU σ Q) X.xe s
def PT(X:Cx)(e:tH)(t:TT):Prop :=
 ∀(AU:List (sv × tP)) (s:sy) (σ:St) (H:Hp) (Q:Bool->Hp->Prop),Inv X AU σ H s->t σ H Q->sC (model X.prog X.w) X.A (isTrue e X.env (eval e X.env)) (TP X AU σ Q) X.xe s
def PW(X:Cx)(e:tH)(t:TT):Prop :=
 ∀(whole:Sem sw) (AU:List (sv × tP)) (s:sy) (σ:St) (H:Hp) (Q:Bool->Hp->Prop),Inv X AU σ H s->t σ H Q->sC (model X.prog X.w) X.A (isTrue e X.env whole) (TP X AU σ Q) X.xe s
def PW.pt(h:PW X e t):PT X e t:=h _
def PA(X:Cx)(es:List tH)(t:TA):Prop :=
 ∀(pos:AL) (AU:List (sv × tP)) (s:sy) (σ:St) (H:Hp) (Q:List V->Hp->Prop),Inv X AU σ H s->t σ H Q->sC (model X.prog X.w) X.A (spliced (sS pos (sq es X.env))) (AP X AU σ Q) X.xe s
def PS(X:Cx)(st:sI)(t:TS):Prop :=
 ∀(AU:List (sv × tP)) (s:sy) (σ:St) (H:Hp) (D:Z2),Inv X AU σ H s->t D σ H->sC (model X.prog X.w) X.A (exec st X.env) (SP X AU D) X.xe s
def PSs(X:Cx)(st:List sI)(t:TS):Prop :=
 ∀(AU:List (sv × tP)) (s:sy) (σ:St) (H:Hp) (D:Z2),Inv X AU σ H s->t D σ H->sC (model X.prog X.w) X.A (execs st X.env) (SP X AU D) X.xe s
def thn(h:sC M A t Q E s)(hQ:∀a s,Q a s->Q' a s):sC M A t Q' E s:=tE h hQ λZ Z x=>x
def el5{α β:Type}{a b c:α->β->Prop}{C:Prop}(f:∀x y,a x y->b x y->c x y->C):(∃x y,a x y/\b x y/\c x y)->C:=λh=>Exists.elim h λx h=>Exists.elim h λy h=>f x y h.1 h.2.1 h.2.2
def el3{α:Type}{a b:α->Prop}{C:Prop}(f:∀x,a x->b x->C):(∃x,a x/\b x)->C:=λh=>Exists.elim h λx h=>f x h.1 h.2
def ua2{a b C:Prop}(f:a->b->C):a/\b->C:=λh=>f h.1 h.2
end
section
mutual section
variable{X:Cx}
def onSl(σ:St)(i:Nat)(p:V->Prop):Prop:=match σ[i]? with | some (AQ v)=>p v | _=>False
theorem onSl.of(h:onSl σ i p):∃v,σ[i]? = AQ (AQ v)/\p v:=by
 unfold onSl at h;split at h
 ·exact#[_,by assumption,h]
 ·exact h.elim
def onInt(x:V)(p:Int->Prop):Prop:=match x with | .int k=>p k | _=>False
def onInt.of(h:onInt x p):∃k,x=.int k/\p k:=by cases x <;> first | exact#[_,rfl,h] | exact h.elim
def onInt.to(h:∃k,x=.int k/\p k):onInt x p:=by let#[k,rfl,h]:=h;exact h
def onStr(x:V)(p:sF->Prop):Prop:=match x with | .str k=>p k | _=>False
def onStr.of(h:onStr x p):∃k,x=.str k/\p k:=by cases x <;> first | exact#[_,rfl,h] | exact h.elim
def onStr.to(h:∃k,x=.str k/\p k):onStr x p:=by let#[k,rfl,h]:=h;exact h
def onBl(x:V)(p:Bool->Prop):Prop:=match x with | .bl k=>p k | _=>False
def onBl.of(h:onBl x p):∃k,x=.bl k/\p k:=by cases x <;> first | exact#[_,rfl,h] | exact h.elim
def onBl.to(h:∃k,x=.bl k/\p k):onBl x p:=by let#[k,rfl,h]:=h;exact h
def onRef(x:V)(p:sv->Prop):Prop:=match x with | .ref k=>p k | _=>False
def onRef.of(h:onRef x p):∃k,x=.ref k/\p k:=by cases x <;> first | exact#[_,rfl,h] | exact h.elim
def onRef.to(h:∃k,x=.ref k/\p k):onRef x p:=by let#[k,rfl,h]:=h;exact h
def ya(i:Nat):TE:=λσ H Q=>onSl σ i λv=>Q v H
def tC(v:V):TE:=λZ H Q=>Q v H
def ze9(hN:X.N[i]? = AQ x)(hv:Vis X.env.scope x)(hd:‹(x ==("__debug__" : sF))=AT›)(hcd:‹(x ==("__classdict__" : sF))=AT›):PE X (.Name x pos) (ya i):=by
 intros Q I h;let#[v,e,h]:=onSl.of h;let#[m,hn,hl]:=I.loc;let#[u,r,l]:=hl i x v hN e hv;have fin:EP X AU σ Q u s:=#[v,H,I,r,h];rcases l with ⟨hk,hm⟩ | ⟨hk,c,hc,hcell⟩
 ·exact AH (wpAny_loadName_local I.ok.kind hk hn hm fin) hd
 ·rcases hk with hk | hk
  ·exact AH (wpAny_loadName_cell I.ok.kind hk hc hcell fin) hd
  ·exact AH (wpAny_loadName_free I.ok.kind hk hc hcell fin hcd) hd
def zd{i j pos}:PE X (.Constant (.int i) j pos) (tC (.int i)):=λZ Z Z H Z I h=>wpAny_Constant_int #[.int i,H,I.tok _,#[_,rfl],h]
def yv{b j pos}:PE X (.Constant (.bool b) j pos) (tC (.bl b)):=λZ Z Z H Z I h=>Constant_bool #[.bl b,H,I,rfl,h]
def ye{j pos}:PE X (.Constant .none j pos) (tC .non):=λZ Z Z H Z I h=>Constant_none #[.non,H,I,rfl,h]
def z9{x j pos}:PE X (.Constant (.str x) j pos) (tC (.str x)):=λZ Z Z H Z I h=>Calls.Constant_str #[.str x,H,I.tok _,#[_,rfl],h]
def Gl(X:Cx)(x:sF):Prop:=X.env.kindOf x=AQ .globalImplicit
def ub(I:Inv X AU σ H s)(hg:Gl X x)(hm:X.mg x=AQ u)(h:Q u s)(hd:‹(x ==("__debug__" : sF))=AT›):sC (model X.prog X.w) X.A (eval (.Name x pos) X.env) Q E s :=
 Calls.Name_function_global I.ok.kind hg (Calls.loadGlobal_global (by rw[I.ok.glob];exact I.mod.glob.keeps I.bk) hm h) hd
def vQ(I:Inv X AU σ H s)(hg:Gl X x)(hm:X.mg x=AR)(hv:sW x=AQ u)(h:Q u s)(hn:‹x≠"__name__"›)(hd:‹(x ==("__debug__" : sF))=AT›):sC (model X.prog X.w) X.A (eval (.Name x pos) X.env) Q E s:=by let#[mb,h1,h2]:=I.mod.blt;exact Calls.Name_function_global I.ok.kind hg (Calls.loadGlobal_builtin (by rw[I.ok.glob];exact I.mod.glob.keeps I.bk) hm (by rw[I.ok.blt];exact h1.keeps I.bk) ((h2 x hn).trans hv) h) hd
def yI(hg:Gl X x)(hm:X.mg x=AQ u)(r:RelV v u)(hd:‹(x ==("__debug__" : sF))=AT›):PE X (.Name x pos) (tC v) :=
 λZ Z Z H Z I h=>ub I hg hm #[v,H,I,r,h] hd
def zcK(hg:Gl X x)(hm:X.mg x=AR)(hv:sW x=AQ u)(r:RelV v u)(hn:‹x≠"__name__"›)(hd:‹(x ==("__debug__" : sF))=AT›):PE X (.Name x pos) (tC v) :=
 λZ Z Z H Z I h=>vQ I hg hm hv #[v,H,I,r,h] hn hd
variable{a b:tH}{ta tb:TE}{pos:AL}
def PC(X:Cx)(op:AE)(a b:tH)(t:TE):Prop :=
 ∀(AU:List (sv × tP)) (s:sy) (σ:St) (H:Hp) (Q:VK),Inv X AU σ H s->t σ H Q ->
  sC (model X.prog X.w) X.A (eval a X.env) (λv s₁=>sC (model X.prog X.w) X.A (eval b X.env) (λu s₂=>sC (model X.prog X.w) X.A (sK op v u) (EP X AU σ Q) X.xe s₂) X.xe s₁) X.xe s
def zaw(b:tH)(h:op≠.In)(h2:op≠.NotIn):behindInMarks op b=AT:=by
 have e1:(op == CmpOp.In)=AT:=by cases op <;> first | rfl | exact w4 rfl h
 have e2:(op == CmpOp.NotIn)=AT:=by cases op <;> first | rfl | exact w4 rfl h2
 cases b <;> simp [behindInMarks,e1,e2]
def yJ(h:PC X op a b t)(h1:behindInMarks op b=AT:=by first | exact zaw _ ∅ ∅ | rfl):PE X (.Compare a [op] [b] pos) t:=λAU s σ H Q I hw=>wpAny_Compare1 (h AU s σ H Q I hw) h1
variable{tA tB':TT}{rest:List tH}
def zfe(t u:TT):TT:=λσ H Q=>t σ H λc H1=>if c=AS then u σ H1 Q else Q AT H1
def tOr(t u:TT):TT:=λσ H Q=>t σ H λc H1=>if c=AS then Q AS H1 else u σ H1 Q
def zdi(t:TT):TT:=λσ H Q=>t σ H λc H1=>Q (!c) H1
theorem Z5(ha:PT X a tA):PW X (.BoolOp .And [a] pos) tA:=by
 intro wh AU s σ H Q I h;refine isTrue_and (thn (ha AU s σ H Q I h) λc s1 e=>?_)
 cases c with
 | true=>exact isTrue_and_nil e
 | false=>exact e
theorem we(ha:PT X a tA):PW X (.BoolOp .Or [a] pos) tA:=by
 intro wh AU s σ H Q I h;refine isTrue_or (thn (ha AU s σ H Q I h) λc s1 e=>?_)
 cases c with
 | false=>exact isTrue_or_nil e
 | true=>exact e
theorem W5(ha:PT X a tA)(hb:PW X (.BoolOp .And (b::rest) pos) tB'):PW X (.BoolOp .And (a::b::rest) pos) (zfe tA tB'):=by
 intro wh AU s σ H Q I h;refine isTrue_and (thn (ha AU s σ H _ I h) λc s1=>el3 λH1 I1 q1=>?_)
 cases c with
 | true=>exact hb wh AU s1 σ H1 Q I1 q1
 | false=>exact#[H1,I1,q1]
theorem wU(ha:PT X a tA)(hb:PW X (.BoolOp .Or (b::rest) pos) tB'):PW X (.BoolOp .Or (a::b::rest) pos) (tOr tA tB'):=by
 intro wh AU s σ H Q I h;refine isTrue_or (thn (ha AU s σ H _ I h) λc s1=>el3 λH1 I1 q1=>?_)
 cases c with
 | true=>exact#[H1,I1,q1]
 | false=>exact hb wh AU s1 σ H1 Q I1 q1
def yf(ha:PT X a tA):PT X (.UnaryOp .Not a pos) (zdi tA):=by intros Q I h;exact isTrue_not (ha AU s σ H (λc H1=>Q (!c) H1) I h)
def Jb(ta tb:TE):TE:=λσ H Q=>ta σ H λx H1=>onBl x λc=>if c=AS then tb σ H1 Q else Q (.bl AT) H1
def US(ta:TE):TE:=λσ H Q=>ta σ H λx H1=>onBl x λc=>Q (.bl (!c)) H1
def jM{op}(h:PE X a t):PE X (.BoolOp op [a] pos) t:=λAU s σ H Q I hw=>BoolOp_one (h AU s σ H Q I hw)
theorem jy(ha:PE X a ta)(hb:PE X (.BoolOp .And (b::rest) pos) tb):PE X (.BoolOp .And (a::b::rest) pos) (Jb ta tb):=by
 intros Q I h;refine BoolOp_and (thn (ha AU s σ H _ I h) λv s1=>el5 λx H1 I1 r1 q1=>?_);let#[c,rfl,q1]:=onBl.of q1;cases r1;refine sP ?_
 cases c with
 | true=>exact hb AU s1 σ H1 Q I1 q1
 | false=>exact#[.bl AT,H1,I1,rfl,q1]
def zaC(ha:PE X a ta):PE X (.UnaryOp .Not a pos) (US ta):=by intros Q I h;refine UnaryOp_ (thn (ha AU s σ H _ I h) λv s1=>el5 λx H1 I1 r1 q1=>?_);let#[c,rfl,q1]:=onBl.of q1;cases r1;exact not_of (sP #[.bl (!c),H1,I1,rfl,q1])
def tIf(t:TT)(ta tb:TE):TE:=λσ H Q=>t σ H λc H1=>if c=AS then ta σ H1 Q else tb σ H1 Q
theorem wF(hc:PT X c tA)(ha:PE X a ta)(hb:PE X b tb):PE X (.IfExp c a b pos) (tIf tA ta tb):=by
 intros Q I h;refine wpAny_IfExp (thn (hc AU s σ H _ I h) λd s1=>el3 λH1 I1 q1=>?_)
 cases d with
 | true=>exact ha AU s1 σ H1 Q I1 q1
 | false=>exact hb AU s1 σ H1 Q I1 q1
end
end
mutual section
def SqL(K:su)(H:Hp)(a:sv)(xs:List V):Prop :=
 Rd H a (.lst xs) \/
  ∃(o:tP) (its:Array sw) (n:Nat),K.lookup a=AQ o/\o.cls=.type "list"/\o.dict=AR/\o.data=.seq its n/\its.size<=sr/\Vals xs its.toList
def SqT(K:su)(H:Hp)(a:sv)(xs:List V):Prop :=
 Rd H a (.tup xs) \/
  ∃(o:tP) (its:Array sw) (n:Nat),K.lookup a=AQ o/\o.cls=.type "tuple"/\o.data=.seq its n/\its.size<=sr/\Vals xs its.toList
def zgL:sw->Option V
 | .none=>AQ .non
 | .bool b=>AQ (.bl b)
 | .int i _=>AQ (.int i)
 | .str x _=>AQ (.str x)
 | .bytes b _=>AQ (.byt b)
 | .float b _=>AQ (.flt b)
 | .ref a=>AQ (.ref a)
 | .type n=>AQ (.ty n)
 | _=>AR
theorem RelV.abs(r:RelV x u):zgL u=AQ x:=by
 cases x with
 | non=>cases r;rfl
 | bl _=>cases r;rfl
 | int _=>let#[t,rfl]:=r;rfl
 | str _=>let#[t,rfl]:=r;rfl
 | byt _=>let#[t,rfl]:=r;rfl
 | flt _=>let#[t,rfl]:=r;rfl
 | ref _=>cases r;rfl
 | ty _=>cases r;rfl
def RelV.inj(r:RelV x u)(q:RelV y u):x=y:=Option.some.inj (r.abs.symm.trans q.abs)
theorem Vals.inj(h:Vals xs us)(h':Vals ys us):xs=ys:=by
 induction h generalizing ys with
 | nil =>
  cases h';rfl
 | cons r t ih =>
  cases h' with
  | cons r' t'=>rw[r.inj r',ih t']
def SqL.of{K:su}(h:H a=AQ (.lst xs)):SqL K H a xs:=.inl (.inl h)
def SqT.of{K:su}(h:H a=AQ (.tup xs)):SqT K H a xs:=.inl (.inl h)
def Inv.list(I:Inv X AU σ H s)(h:SqL X.K H a xs):∃its:List sw,Vals xs its/\PlainL s.heap a its.toArray/\xs.length<=sr:=by
 rcases h with h | ⟨o,its,n,hk,hc,hd,hs,hz,r⟩
 ·let#[z,its,n,r,e]:=h.ok I.hok;exact#[its,r,#[_,n,e,rfl,rfl,rfl],z]
 ·refine#[its.toList,r,#[o,n,I.kIn a o hk,hc,hd,by simpa using hs],?_];have e:=r.length
  erw[ee]at e
  lia
def Inv.tuple(I:Inv X AU σ H s)(h:SqT X.K H a xs):∃its:List sw,Vals xs its/\IsTup s.heap a its.toArray/\xs.length<=sr:=by
 rcases h with h | ⟨o,its,n,hk,hc,hs,hz,r⟩
 ·let#[z,its,r,p]:=h.ok I.hok;exact#[its,r,p,z]
 ·refine#[its.toList,r,#[o,I.kIn a o hk,hc,n,by simpa using hs],?_];have e:=r.length
  erw[ee]at e
  lia
def Inv.list_inj(I:Inv X AU σ H s)(h:SqL X.K H a xs)(h':SqL X.K H a ys):xs=ys:=by
 let#[its,r,#[o,n,e,_,_,d],_]:=I.list h;let#[its',r',#[o',n',e',_,_,d'],_]:=I.list h';rw[e]at e';cases e';rw[d]at d';injection d' with d1 _;have:its=its':=by simpa using congrArg Array.toList d1
 subst this;exact r.inj r'
def Inv.tuple_inj(I:Inv X AU σ H s)(h:SqT X.K H a xs)(h':SqT X.K H a ys):xs=ys:=by
 let#[its,r,#[o,e,_,n,d],_]:=I.tuple h;let#[its',r',#[o',e',_,n',d'],_]:=I.tuple h';rw[e]at e';cases e';rw[d]at d';injection d' with d1 _;have:its=its':=by simpa using congrArg Array.toList d1
 subst this;exact r.inj r'
abbrev Cx.wish(X:Cx)(E:sw->sy->Prop):Cx:={ X with xe:=E }
abbrev Cx.nox(X:Cx):Cx:=X.wish λZ Z=>False
def Cx.Ok.wish{X:Cx}(ok:X.Ok)(E:sw->sy->Prop):(X.wish E).Ok :=
 #[ok.mod,ok.kind,ok.glob,ok.blt,ok.above,ok.inj,ok.has,ok.cab,ok.hd,ok.frames,ok.stk,ok.exf,ok.bs,ok.bsz,ok.noex,ok.exfs,ok.funs,ok.frf]
def Cx.Ok.unwish{X:Cx}(ok:(X.wish E).Ok):X.Ok :=
 #[ok.mod,ok.kind,ok.glob,ok.blt,ok.above,ok.inj,ok.has,ok.cab,ok.hd,ok.frames,ok.stk,ok.exf,ok.bs,ok.bsz,ok.noex,ok.exfs,ok.funs,ok.frf]
def Inv.wish(I:Inv X AU σ H s)(E:sw->sy->Prop):Inv (X.wish E) AU σ H s:=#[I.ok.wish E,I.os,I.bare,I.base,I.loc,I.cell,I.free,I.freeC,I.pin,I.hok,I.len]
def Inv.unwish(I:Inv (X.wish E) AU σ H s):Inv X AU σ H s:=#[I.ok.unwish,I.os,I.bare,I.base,I.loc,I.cell,I.free,I.freeC,I.pin,I.hok,I.len]
theorem SP.unwish(h:SP (X.wish E) AU D f s'):SP X AU D f s':=by
 cases f with
 | next=>let#[σ',H',I,q]:=h;exact#[σ',H',I.unwish,q]
 | brk=>let#[σ',H',I,q]:=h;exact#[σ',H',I.unwish,q]
 | cont=>let#[σ',H',I,q]:=h;exact#[σ',H',I.unwish,q]
 | ret u=>let#[v,σ',H',I,r,q]:=h;exact#[v,σ',H',I.unwish,r,q]
def PSs.nox{st:List sI}(h:PSs X.nox st t):PSs X st t:=λAU s σ H D I hw =>
 tE (h AU s σ H D (I.wish _) hw) (λZ Z q=>q.unwish) λZ Z z=>False.elim z
def Kl:TS:=λD σ H=>D.nx σ H
def zff(t u:TS):TS:=λD σ H=>t { D with nx:=u D } σ H
def zr:PSs X [] Kl:=λZ Z σ H Z I h=>tG #[σ,H,I,h]
theorem zG{X:Cx}{st:sI}{rest:List sI}{t:TS}{u:TS}(h1:PS X st t)(h2:PSs X rest u):PSs X (st::rest) (zff t u):=by
 intros D I h;refine tN (thn (h1 AU s σ H { D with nx:=u D } I h) λf s1 q=>?_)
 cases f with
 | next =>
  let#[σ',H',I',q]:=q;exact h2 AU s1 σ' H' D I' q
 | ret v=>exact q
 | brk=>exact q
 | cont=>exact q
theorem ze{X:Cx}{st:sI}{t:TS}(h1:PS X st t):PSs X [st] t:=by
 intros D I h;refine tN (thn (h1 AU s σ H D I h) λf s1 q=>?_)
 cases f with
 | next=>exact tG q
 | ret v=>exact q
 | brk=>exact q
 | cont=>exact q
def Inv.quiet(I:Inv X AU σ H s):interactive X.env=AT:=by simp [interactive,I.ok.kind]
def Kg(te:TE):TS:=λD σ H=>te σ H λZ H1=>D.nx σ H1
def yW(he:PE X e te)(hs:‹swapsWith e AR pos.line X.env=pure AT›):PS X (.Expr e pos) (Kg te):=by intros D I h;exact wpAny_Expr_any (thn (he AU s σ H _ I h) λv s1=>el5 λx H1 I1 r1 q1=>#[σ,H1,I1,q1]) I.quiet hs
def zaH(te:TE):TS:=λD σ H=>te σ H D.rt
def zl(he:PE X e te):PS X (.Return (AQ e) pos) (zaH te):=by intros D I h;exact Av (thn (he AU s σ H _ I h) λv s1=>el5 λx H1 I1 r1 q1=>#[x,σ,H1,I1,r1,q1])
def zfh(c:TT)(t u:TS):TS:=λD σ H=>c σ H λb H1=>if b=AS then t D σ H1 else u D σ H1
theorem zJ(hc:PT X c tc)(ha:PSs X a t)(hb:PSs X b u):PS X (.If c a b pos) (zfh tc t u):=by
 intros D I h;refine wpAny_If (thn (hc AU s σ H _ I h) λd s1=>el3 λH1 I1 q1=>?_)
 cases d with
 | true=>exact ha AU s1 σ H1 D I1 q1
 | false=>exact hb AU s1 σ H1 D I1 q1
abbrev TG:=V->St->Hp->(St->Hp->Prop)->Prop
abbrev TGs:=List V->St->Hp->(St->Hp->Prop)->Prop
def PG(X:Cx)(target:tH)(t:TG):Prop :=
 ∀(AU:List (sv × tP)) (s:sy) (σ:St) (H:Hp) (v:V) (u:sw) (Q:St->Hp->Prop),Inv X AU σ H s->RelV v u->t v σ H Q ->
  sC (model X.prog X.w) X.A (assign target X.env u) (λZ s'=>∃σ' H',Inv X AU σ' H' s'/\Q σ' H') X.xe s
def PGs(X:Cx)(ts:List tH)(t:TGs):Prop :=
 ∀(AU:List (sv × tP)) (s:sy) (σ:St) (H:Hp) (vs:List V) (us:List sw) (Q:St->Hp->Prop),Inv X AU σ H s->Vals vs us->t vs σ H Q ->
  sC (model X.prog X.w) X.A (assignInOrder ((assignEach ts X.env).map (·.2)) us) (λZ s'=>∃σ' H',Inv X AU σ' H' s'/\Q σ' H') X.xe s
abbrev zgK:=V->V->V->Hp->(Hp->Prop)->Prop
def zfH(X:Cx)(t:zgK):Prop :=
 ∀(AU:List (sv × tP)) (s:sy) (σ:St) (H:Hp) (o i v:V) (ov iv u:sw) (Q:Hp->Prop),Inv X AU σ H s->RelV o ov->RelV i iv->RelV v u->t o i v H Q ->
  sC (model X.prog X.w) X.A (setItem ov iv u) (λZ s'=>∃H',Inv X AU σ H' s'/\Q H') X.xe s
def yt(i:Nat):TG:=λv σ H Q=>Q (σ.set i (AQ v)) H
def zq(hN:X.N.Nodup)(hi:X.N[i]? = AQ x)(hx:Loc X.env.scope x)(hf:‹X.fn x=AS\/X.env.scope.names.lookup x=AQ .local›):PG X (.Name x pos) (yt i):=by intros v u Q I r h;exact Au (ZH I hN hi hx r (λs' I'=>#[_,H,I',h]) hf)
def zdf:TGs:=λvs σ H Q=>vs=[]/\Q σ H
def YG(t:TG)(u:TGs):TGs:=λvs σ H Q=>∃v r,vs=v::r/\t v σ H λσ' H'=>u r σ' H' Q
def xW:PGs X [] zdf:=by intros vs us Q I r h;let#[e,h]:=h;subst e;cases r;exact assignInOrder_nil #[σ,H,I,h]
theorem zZ(h1:PG X e t)(h2:PGs X es u)(hs:‹(assignEach (e::es) X.env).map (·.2)=assign e X.env::(assignEach es X.env).map (·.2)›):PGs X (e::es) (YG t u):=by
 intros vs us Q I r h;let#[v,vr,e1,h]:=h;subst e1
 cases r with
 | cons r rr =>
  rw[hs];refine assignInOrder_cons (thn (h1 AU s σ H _ _ _ I r h) λ_ s1 ⟨σ1,H1,I1,q1⟩=>?_);exact h2 AU s1 σ1 H1 _ _ Q I1 rr q1
def zdh(K:su)(n:Nat)(t:TGs):TG:=λv σ H Q=>∃a xs,v=.ref a/\SqT K H a xs/\xs.length=n/\t xs σ H Q
def vJ(hc:X.calm=AS)(h:PGs X es t)(hn:‹(assignEach es X.env).length=n›)(hst:‹(assignEach es X.env).findIdx? (·.1)=AR›):PG X (.Tuple es k pos) (zdh X.K n t):=by intros v u Q I r hw;let#[a,xs,e1,hq,hl,hw]:=hw;subst e1;cases r;let#[its,rv,ht,hz]:=I.tuple hq;refine assign_Tuple_tuple (I.ok.hd hc) ht (by simp [hn,<- hl,rv.length]) hst λh' hx=>?_;have I1:Inv X AU σ H { s with heap:=h' }:=I.kept (t':=s.toks) λb o e=>hx b o (ax (au e)) e;exact h AU _ σ H xs _ Q I1 ↥rv hw
def zfa(to ti:TE)(t:zgK):TG:=λv σ H Q=>to σ H λo H1=>ti σ H1 λi H2=>t o i v H2 λH3=>Q σ H3
def QR(ho:PE X o to)(hi:PE X i ti)(hs:zfH X t)(ha:∀v,assign (.Subscript o i pos) X.env v=(do
   let ov <- holding [v] (eval o X.env)
   let iv <- holding [v,ov] (eval i X.env)
   standAt pos
   holding [v,ov,iv] (setItem ov iv v)
   release [v,ov,iv] []):=by intro _;rfl):PG X (.Subscript o i pos) (zfa to ti t):=by intros v u Q I r h;rw[ha];refine sj (sQ (thn (ho AU s σ H _ I h) λov s1=>el5 λx H1 I1 r1 q1=>?_));refine sj (sQ (thn (hi AU s1 σ H1 _ I1 q1) λiv s2=>el5 λy H2 I2 r2 q2=>?_));refine sj (tw (sj (sQ (thn (hs AU s2 σ H2 x y v ov iv u _ I2 r1 r2 r q2) λZ s3=>el3 λH3 I3 q3=>?_))));exact wpAny_release #[σ,H3,I3,q3]
def zdk(te:TE)(g:TG):TS:=λD σ H=>te σ H λx H1=>g x σ H1 D.nx
def JV(he:PE X e te)(hg:PG X tg g)(hs:‹swapsWithSole [tg] e pos.line X.env=pure AT›)(hw:‹swappedStores [tg] e X.env=pure AR›)(h1:‹(assignEach [tg] X.env).map (·.2)=[assign tg X.env]›):PS X (.Assign [tg] e pos) (zdk te g):=by intros D I h;refine wpAny_Assign_stores (thn (he AU s σ H _ I h) λv s1=>el5 λx H1 I1 r1 q1=>?_) hs hw;rw[h1];exact thn (hg AU s1 σ H1 x v _ I1 r1 q1) λZ s2 q=>q
def xH(hN:X.N.Nodup)(hi:X.N[i]? = AQ x)(hx:Loc X.env.scope x)(he:PE X e te)(hs:‹swapsWith e (AQ (.Name x pos')) pos.line X.env=pure AT›)(hf:‹X.fn x=AS\/X.env.scope.names.lookup x=AQ .local›) :
  PS X (.Assign [.Name x pos'] e pos) (zdk te (yt i)):=by intros D I h;refine Aw (thn (he AU s σ H _ I h) λv s1=>el5 λy H1 I1 r1 q1=>?_) hs;exact ZH I1 hN hi hx r1 (λs2 I2=>#[_,H1,I2,q1]) hf
def kY(c:TT)(tb:TS):TS:=λD σ H=>∃W:Nat->St->Hp->Prop,(∃m,W m σ H)/\∀m σ H,W m σ H ->
 c σ H λb H1=>if b=AS then ∃N:St->Hp->Prop,(∀σ' H',N σ' H'->∃m',m'<m/\W m' σ' H')/\tb { D with nx:=N,ct:=N,bk:=D.nx } σ H1 else D.nx σ H1
theorem vv(hp:PassesOwn (model X.prog X.w) X.A X.env X.xe)(hc:PT X c tc)(hb:PSs X body tb):PS X (.While c body [] pos) (kY tc tb):=by
 intros D I h;let#[W,#[m0,w0],turn]:=h;refine wpAny_While (codeAny_whileLoop (λn s'=>∃σ' H',Inv X AU σ' H' s'/\W n σ' H') ?_ m0 #[σ,H,I,w0]);rintro n s1 ⟨σ1,H1,I1,w1⟩;refine tu hp (thn (hc AU s1 σ1 H1 _ I1 (turn n σ1 H1 w1)) λb s2=>el3 λH2 I2 q2=>?_)
 cases b with
 | true =>
  let#[N,hN,q2]:=q2;rw[w6 rfl];refine tu hp (thn (hb AU s2 σ1 H2 _ I2 q2) λf s3 q3=>?_)
  cases f with
  | next =>
   let#[σ3,H3,I3,n3]:=q3;let#[m',hm,w3]:=hN σ3 H3 n3;exact#[m',hm,σ3,H3,I3,w3]
  | cont =>
   let#[σ3,H3,I3,n3]:=q3;let#[m',hm,w3]:=hN σ3 H3 n3;exact#[m',hm,σ3,H3,I3,w3]
  | brk=>exact q3
  | ret v=>exact q3
 | false =>
  rw[w9 aD];exact tG #[σ1,H2,I2,q2]
structure It where
 go:Nat->Hp->Prop
 yld:Nat->Hp->V->Hp->Prop
 stop:Nat->Hp->Prop
def wo(X:Cx)(AU:List (sv × tP))(H:Hp)(b:sv):Prop :=
 H b=AR/\b≠X.env.locals/\b ∉ X.fs/\(b ∈ X.ex\/X.s₀.heap.objs.size<=b)/\(∀x c,X.env.cells.lookup x=AQ c->c≠b)/\∀p ∈ X.pn ++ AU,p.1≠b
def Inv.fpOk(I:Inv X AU σ H s)(hb:s⁻¹<=b)(hn:H' b=AR):wo X AU H' b:=by
 refine#[hn,cH (aw I.lt hb),I.nofs hb,.inr (aP I.sz hb),λx c e z=>?_,λp hp z=>?_]
 ·let#[v,q]:=I.cell x c e;exact w4 (aw q.lt (by rw[z];exact hb)) (cQ _)
 ·exact w4 (aw (au (I.pin p hp).1) (by rw[z];exact hb)) (cQ _)
structure J6(P:sH)(w:sM)(K:su)(tg:tH)(J:It)(fp:List sv)(it:sv)(tn:Nat->sV->Prop):Prop where
 mem:it ∈ fp
 obj:∀i h,tn i h->∀b ∈ fp,∃o,h.get? b=AQ o/\∀v,o.data≠.cell v
 keep:∀i h h',tn i h->(∀b ∈ fp,∀o,h.get? b=AQ o->h'.get? b=AQ o)->tn i h'
 item:∀(X:Cx),X.prog=P->X.w=w->X.K=K->X.calm=AS->∀(i:Nat) (AU:List (sv × tP)) (s:sy) (σ:St) (H:Hp) (E:sw->sy->Prop),Inv X AU σ H s->(∀b ∈ fp,wo X AU H b)->tn i s.heap->J.go i H ->
  sC (model P w) X.A (pyNext (.ref it)) (λr s1=>∃u,r=AQ u /\
   sC (model P w) X.A (letOwnedTupleGo tg (.ref it) u) (λZ s2=>∃x H',Inv X AU σ H' s2/\RelV x u/\J.yld i H x H'/\tn (i+1) s2.heap/\∀b ∈ fp,H' b=AR) E s1) E s
 done:∀(X:Cx),X.prog=P->X.w=w->X.K=K->X.calm=AS->∀(i:Nat) (AU:List (sv × tP)) (s:sy) (σ:St) (H:Hp) (E:sw->sy->Prop),Inv X AU σ H s->(∀b ∈ fp,wo X AU H b)->tn i s.heap->J.stop i H ->
  sC (model P w) X.A (pyNext (.ref it)) (λr s1=>r=AR/\Inv X AU σ H s1) E s
 self:∀(A:sZ) (i:Nat) (s:sy) (Q:sw->sy->Prop) (E:sw->sy->Prop),tn i s.heap->Q (.ref it) s->sC (model P w) A (pyIter (.ref it)) Q E s
abbrev TI:=St->Hp->(It->Hp->Prop)->Prop
def PIE(X:Cx)(AU:List (sv × tP))(σ:St)(tg:tH)(R:It->Hp->Prop)(itv:sw)(s2:sy):Prop :=
 ∃(it:sv) (fp:List sv) (tn:Nat->sV->Prop) (J:It) (H':Hp),itv=.ref it/\Inv X AU σ H' s2/\J6 X.prog X.w X.K tg J fp it tn/\tn 0 s2.heap/\(∀b ∈ fp,wo X AU H' b)/\R J H'
def PI(X:Cx)(tg iter:tH)(wi:TI):Prop :=
 ∀(AU:List (sv × tP)) (s:sy) (σ:St) (H:Hp) (R:It->Hp->Prop),Inv X AU σ H s->wi σ H R ->
  sC (model X.prog X.w) X.A (eval iter X.env) (λv s1=>sC (model X.prog X.w) X.A (pyIter v) (PIE X AU σ tg R) X.xe s1) X.xe s
def Xv(ho:s.heap.get? it=AQ o)(hc:o.cls=.type n)(hd:o.data=.fields vs)(hn:["enumerate","zip","dict_itemiterator","dict_reverseitemiterator","odict_iterator","itertools.zip_longest","itertools.pairwise"].contains n=AT)(hQ:Q Unit.unit s):sC M A (letOwnedTupleGo tg (.ref it) u) Q E s:=by
  unfold letOwnedTupleGo
  cases tg <;> first
    | exact sk hQ
    | (cases u <;> first
        | exact sk hQ
        | (refine sj (wpAny_load ho ?_)
           rw[hc,hd];show sC M A (if (["enumerate","zip","dict_itemiterator","dict_reverseitemiterator","odict_iterator","itertools.zip_longest","itertools.pairwise"].contains n && vs[0]? == AQ (rawInt _))=AS then _ else _) Q E s;rw[w9 (by intro h;rw[hn,Bool.false_and]at h;cases h)]
           exact sk hQ))
def Itl(K:su)(a:sv):It :=
 #[λi H=>∃xs x,SqL K H a xs/\xs[i]? = AQ x,λi H x H'=>H'=H/\∀xs,SqL K H a xs->xs[i]? = AQ x,λi H=>∃xs,SqL K H a xs/\xs.length<=i]
def Itt(K:su)(a:sv):It :=
 #[λi H=>∃xs x,SqT K H a xs/\xs[i]? = AQ x,λi H x H'=>H'=H/\∀xs,SqT K H a xs->xs[i]? = AQ x,λi H=>∃xs,SqT K H a xs/\xs.length<=i]
def Itr(lo:Int)(n:Nat):It:=#[λi Z=>i<n,λi H x H'=>H'=H/\x=.int (lo+i),λi Z=>n<=i]
def JS{K:su}(a it:sv):J6 P w K tg (Itl K a) [it] it (λi h=>h.IsListIter it a i) where
 mem:=by simp
 obj:=λi h st b hb=>by
  have e:b=it:=by simpa using hb
  subst e;let#[o,e,c,d]:=st;exact#[o,e,λv z=>by rw[d]at z;cases z]
 keep:=λi h h' st k=>st.at λo e=>k it (by simp) o e
 item:=by
  intro X hP hw hK hc i AU s σ H E I hf st hg;subst hP hw hK;let#[xs,x,hq,hx]:=hg;let#[its,rv,p,hz]:=I.list hq;let#[u,hu,ru]:=rv.get hx;let#[f0,f1,f2,f3,f4,f5]:=hf it (by simp);refine wpAny_pyNext_list_item st p.isList (x:=u) ↥hu λh' st' sb=>?_;have I1:Inv X AU σ H { s with heap:=h' }:=I.turned (t':=s.toks) (λb o hb e=>(sb.2 b hb).trans e) f0 f1 f3 f4 f5;let#[o,e,c,d]:=id st';exact#[u,rfl,Xv (s:={ s with heap:=h' }) e c d ∅ #[x,H,I1,ru,#[rfl,λys hy=>by rw[I.list_inj hy hq];exact hx],st',λb hb=>(hf b hb).1]]
 done:=by
  intro X hP hw hK hc i AU s σ H E I hf st hg;subst hP hw hK;let#[xs,hq,hx]:=hg;let#[its,rv,p,hz]:=I.list hq;let#[f0,f1,f2,f3,f4,f5]:=hf it (by simp);have hl:=rv.length;exact wpAny_pyNext_list_end (I.ok.hd hc) st p.isList (by simp;lia) λh' eb=>#[rfl,I.turned (t':=s.toks) (λb o hb e=>eb b o hb e) f0 f1 f3 f4 f5]
 self:=λZ Z Z Z Z st h=>wpAny_pyIter_listiter st h
def VO{K:su}(a it:sv):J6 P w K tg (Itt K a) [it] it (λi h=>h.IsTupleIter it a i) where
 mem:=by simp
 obj:=λi h st b hb=>by
  have e:b=it:=by simpa using hb
  subst e;let#[o,e,c,d]:=st;exact#[o,e,λv z=>by rw[d]at z;cases z]
 keep:=λi h h' st k=>st.at λo e=>k it (by simp) o e
 item:=by
  intro X hP hw hK hc i AU s σ H E I hf st hg;subst hP hw hK;let#[xs,x,hq,hx]:=hg;let#[its,rv,p,hz]:=I.tuple hq;let#[u,hu,ru]:=rv.get hx;let#[f0,f1,f2,f3,f4,f5]:=hf it (by simp);refine wpAny_pyNext_tuple_item st (show s.heap.IsTuple a its.toArray from p) (x:=u) ↥hu λh' st' sb=>?_;have I1:Inv X AU σ H { s with heap:=h' }:=I.turned (t':=s.toks) (λb o hb e=>(sb.2 b hb).trans e) f0 f1 f3 f4 f5;let#[o,e,c,d]:=id st';exact#[u,rfl,Xv (s:={ s with heap:=h' }) e c d ∅ #[x,H,I1,ru,#[rfl,λys hy=>by rw[I.tuple_inj hy hq];exact hx],st',λb hb=>(hf b hb).1]]
 done:=by
  intro X hP hw hK hc i AU s σ H E I hf st hg;subst hP hw hK;let#[xs,hq,hx]:=hg;let#[its,rv,p,hz]:=I.tuple hq;let#[f0,f1,f2,f3,f4,f5]:=hf it (by simp);have hl:=rv.length;exact wpAny_pyNext_tuple_end (I.ok.hd hc) st (show s.heap.IsTuple a its.toArray from p) (by simp;lia) λh' eb=>#[rfl,I.turned (t':=s.toks) (λb o hb e=>eb b o hb e) f0 f1 f3 f4 f5]
 self:=λZ Z Z Z Z st h=>wpAny_pyIter_tupleiter st h
def V4{K:su}(it:sv)(lo:Int)(n:Nat):J6 P w K tg (Itr lo n) [it] it (λi h=>Al h it (lo+(i:Nat) * 1) ((n:Int) - (i:Nat)) 1) where
 mem:=by simp
 obj:=λi h st b hb=>by
  have e:b=it:=by simpa using hb
  subst e
  exact#[_,st,λv z=>by
   have z':Data.fields _=Data.cell v:=z
   cases z']
 keep:=λi h h' st k=>k it (by simp) _ st
 item:=by
  intro X hP hw hK hc i AU s σ H E I hf st hg;subst hP hw hK;let#[f0,f1,f2,f3,f4,f5]:=hf it (by simp);have W:=Walks.range (prog:=X.prog) (w:=X.w) (I.ok.hd hc) it lo 1 n;refine W.item i s _ _ hg st λv h' tk hv st' kk=>?_;let#[t,rfl]:=hv;have I1:Inv X AU σ H { s with heap:=h',toks:=tk }:=I.turned (λb o hb e=>kk b o ↥hb e) f0 f1 f3 f4 f5;refine#[_,rfl,Xv (s:={ s with heap:=h',toks:=tk }) (n:="range_iterator") st' rfl rfl ∅ #[.int (lo+i),H,I1,#[t,?_],#[rfl,rfl],st',λb hb=>(hf b hb).1]];rw[Int.mul_one]
 done:=by
  intro X hP hw hK hc i AU s σ H E I hf st hg;subst hP hw hK;let#[f0,f1,f2,f3,f4,f5]:=hf it (by simp);exact Ac (I.ok.hd hc) st (by have:n<=i:=hg;lia) λh' eb=>#[rfl,I.turned (t':=s.toks) (λb o hb e=>eb b o hb e) f0 f1 f3 f4 f5]
 self:=λZ Z Z Z Z st h=>Ad st h
def zb7(K:su)(tl:TE):TI:=λσ H R=>tl σ H λx H1=>∃a,x=.ref a/\(∃xs,SqL K H1 a xs)/\R (Itl K a) H1
def zgQ(K:su)(tl:TE):TI:=λσ H R=>tl σ H λx H1=>∃a,x=.ref a/\(∃xs,SqT K H1 a xs)/\R (Itt K a) H1
def zY(hl:PE X l tl):PI X tg l (zb7 X.K tl):=by
 intros R I h;refine thn (hl AU s σ H _ I h) λv s1=>el5 λx H1 I1 r1 q1=>?_;let#[a,e,#[xs,hq],q]:=q1;subst e;cases r1;let#[its,rv,p,hz]:=I1.list hq;refine tS p.isList ?_;refine#[s1⁻¹,[s1⁻¹],_,_,H1,rfl,I1.kept (t':=s1.toks) λb o e=>ag _ e,JS a _,#[_,aE _ rfl,rfl,rfl],λb hb=>?_,q];have e:b=s1⁻¹:=by simpa using hb
 subst e;exact I1.fpOk (al _) (I1.hok.fresh (al _))
def zeY(hl:PE X l tl):PI X tg l (zgQ X.K tl):=by
 intros R I h;refine thn (hl AU s σ H _ I h) λv s1=>el5 λx H1 I1 r1 q1=>?_;let#[a,e,#[xs,hq],q]:=q1;subst e;cases r1;let#[its,rv,p,hz]:=I1.tuple hq;refine Aq (show s1.heap.IsTuple a its.toArray from p) ?_;refine#[s1⁻¹,[s1⁻¹],_,_,H1,rfl,I1.kept (t':=s1.toks) λb o e=>ag _ e,VO a _,#[_,aE _ rfl,rfl,rfl],λb hb=>?_,q];have e:b=s1⁻¹:=by simpa using hb
 subst e;exact I1.fpOk (al _) (I1.hok.fresh (al _))
def WW{lo hi:Int}(I:Inv X AU σ H s)(h1:-(2 ^ 62)<=lo)(h2:lo<2 ^ 62)(h3:-(2 ^ 62)<=hi)(h4:hi<2 ^ 62)(q:R (Itr lo (hi - lo).toNat) H):sC (model X.prog X.w) X.A (pyIter (.ref s⁻¹)) (PIE X AU σ tg R) E { s with heap:=s.heap.push { cls:=.type "range",data:=.fields (r9 [.int lo t,.int hi u,.int 1 v]) },toks:=tk }:=by
 refine Ar (IsRange.new ..) (small_one h1 h2 h3 h4) ?_;have I1:Inv X AU σ H { s with heap:=s.heap.push { cls:=.type "range",data:=.fields (r9 [.int lo t,.int hi u,.int 1 v]) },toks:=tk }:=I.kept λb o e=>ag _ e
 refine#[(s.heap.push { cls:=.type "range",data:=.fields (r9 [.int lo t,.int hi u,.int 1 v]) }).objs.size,[(s.heap.push { cls:=.type "range",data:=.fields (r9 [.int lo t,.int hi u,.int 1 v]) }).objs.size],_,_,H,rfl,
  I1.kept (t':=tk) λb o e=>ag _ e,V4 _ lo (hi - lo).toNat,?_,λb hb=>?_,q]
 ·have e1:lo+((0:Nat):Int) * 1=lo:=by simp
  have e2:(((hi - lo).toNat:Nat):Int) - ((0:Nat):Int)=p0 lo hi 1:=by rw[rangeSize_one];split <;> lia
  show Al _ _ (lo+((0:Nat):Int) * 1) ((((hi - lo).toNat:Nat):Int) - ((0:Nat):Int)) 1;rw[e1,e2];exact aE _ rfl
 ·have e:b=(s.heap.push { cls:=.type "range",data:=.fields (r9 [.int lo t,.int hi u,.int 1 v]) }).objs.size:=by simpa using hb
  subst e;exact I1.fpOk (al _) (I1.hok.fresh (al _))
def zbH(ta:TA):TI:=λσ H R=>ta σ H λvs H1=>∃j:Int,vs=[.int j]/\-(2 ^ 62)<=j/\j<2 ^ 62/\R (Itr 0 j.toNat) H1
def zeA(ta:TA):TI:=λσ H R=>ta σ H λvs H1=>∃i j:Int,vs=[.int i,.int j]/\(-(2 ^ 62)<=i/\i<2 ^ 62/\-(2 ^ 62)<=j/\j<2 ^ 62)/\R (Itr i (j - i).toNat) H1
theorem zV(hg:Gl X "range")(hm:X.mg "range" = AR)(ha:PA X [a] ta)(hs:‹sq [a] X.env=[(AT,eval a X.env)]›):PI X tg (.Call (.Name "range" p) [a] [] pos) (zbH ta):=by
 intros R I h;refine Call_ (vQ I hg hm boot_range (bN (thn (ha pos AU s σ H _ I h) λus s1=>el5 λvs H1 I1 r1 q1=>?_) hs rfl));let#[j,e,q1,q2,q]:=q1;subst e
 cases r1 with
 | cons r rr =>
  cases rr;let#[t,rfl]:=r;exact call_range_1 (WW I1 ⋯ ⋯ q1 q2 ↥q)
theorem Yi(hg:Gl X "range")(hm:X.mg "range" = AR)(ha:PA X [a,b] ta)(hs:‹sq [a,b] X.env=[(AT,eval a X.env),(AT,eval b X.env)]›)(hs2:‹sq [b] X.env=[(AT,eval b X.env)]›) :
  PI X tg (.Call (.Name "range" p) [a,b] [] pos) (zeA ta):=by
 intros R I h;refine Call_ (vQ I hg hm boot_range (bN (thn (ha pos AU s σ H _ I h) λus s1=>el5 λvs H1 I1 r1 q1=>?_) (by rw[hs,hs2]) (by rw[hs2];rfl)));let#[i,j,e,#[q1,q2,q3,q4],q]:=q1;subst e
 cases r1 with
 | cons r rr =>
  cases rr with
  | cons r' rr =>
   cases rr;let#[t,rfl]:=r;let#[t',rfl]:=r';exact call_range_2 (WW I1 q1 q2 q3 q4 q)
def KQ(wi:TI)(g:TG)(tb:TS):TS:=λD σ H=>wi σ H λJ H1=>∃W:Nat->Nat->St->Hp->Prop,(∃m,W 0 m σ H1)/\∀i m σ H,W i m σ H ->
 (J.stop i H/\D.nx σ H)\/(J.go i H/\∃N:St->Hp->Prop,(∀σ' H',N σ' H'->∃m',m'<m/\W (i+1) m' σ' H')/\∀x H',J.yld i H x H'->g x σ H' λσ2 H2=>tb { D with nx:=N,ct:=N,bk:=D.nx } σ2 H2)
def YZ(fp:List sv)(h:sV):List (sv × tP):=fp.filterMap λb=>(h.get? b).map λo=>(b,o)
def vE(hb:b ∈ fp)(e:h.get? b=AQ o):(b,o) ∈ YZ fp h:=Bu.mpr #[b,hb,by rw[e];rfl]
theorem QL(hp:p ∈ YZ fp h):p.1 ∈ fp/\h.get? p.1=AQ p.2:=by
 let#[b,hb,e]:=Bu.mp hp
 cases q:h.get? b with
 | none=>rw[q]at e;cases e
 | some o =>
  rw[q]at e;have e':(b,o)=p:=Option.some.inj e;subst e';exact#[hb,q]
def Inv.pinned(I:Inv X AU σ H s)(hf:∀b ∈ fp,wo X AU H b)(ho:∀b ∈ fp,∃o,s.heap.get? b=AQ o/\∀v,o.data≠.cell v):Inv X (AU ++ YZ fp s.heap) σ H s :=
 I.pins_of λp hp=>(Ba.mp hp).elim (λz=>I.pin p (aF _ z)) λz=>by
  let#[hb,e]:=QL z;let#[f0,f1,f2,_]:=hf p.1 hb;let#[o,e',d]:=ho p.1 hb;rw[e]at e';cases e';exact#[e,f0,f1,f2,d]
def Inv.unpinned(I:Inv X (AU ++ pl) σ H s):Inv X AU σ H s:=I.pins_of λp hp=>I.pin p (aF _ (bx _ hp))
def zR(hp:PassesOwn (model X.prog X.w) X.A X.env X.xe)(hc:X.calm=AS)(hi:PI X tg iter wi)(hg:PG X tg g)(hb:PSs X body tb)(hs:‹∀x,foldedSetIterable iter X.env x=pure x›):PS X (.For tg iter body [] pos) (KQ wi g tb):=by
 intros D I h;refine wpAny_For (thn (hi AU s σ H _ I h) λv s1 h1=>thn h1 λitv s2 h2=>?_) hs;let#[it,fp,tn,J,H2,e,I2,T,st2,f2,W,#[m0,w0],turn]:=h2;subst e;have stat:∀{H':Hp},(∀b ∈ fp,H' b=AR)->∀b ∈ fp,wo X AU H' b:=λhn b hb=>#[hn b hb,(f2 b hb).2];refine codeAny_forLoop_any (λn s'=>∃i σ' H',Inv X AU σ' H' s'/\tn i s'.heap/\(∀b ∈ fp,H' b=AR)/\W i n σ' H') ?_ m0 #[0,σ,H2,I2,st2,λb hb=>(f2 b hb).1,w0];rintro n s3 ⟨i,σ3,H3,I3,st3,fr3,w3⟩;rcases turn i n σ3 H3 w3 with ⟨stop,qn⟩ | ⟨go,N,hN,step⟩
 ·refine tu hp (thn (T.done X rfl rfl rfl hc i AU s3 σ3 H3 X.xe I3 (stat fr3) st3 stop) λr s4 ⟨hr,I4⟩=>?_);subst hr;exact tG #[σ3,H3,I4,qn]
 ·refine tu hp (thn (T.item X rfl rfl rfl hc i AU s3 σ3 H3 X.xe I3 (stat fr3) st3 go) λr s4 ⟨u,hr,h4⟩=>?_);subst hr;refine tu hp (thn h4 λZ s5=>el5 λx H5 I5 r5 q_z=>?_);let#[y5,st5,fr5]:=q_z;have I5':=I5.pinned (stat fr5) (T.obj _ _ st5);refine tu hp (thn (hg _ s5 σ3 H5 x u _ I5' r5 (step x H5 y5)) λ_ s6 ⟨σ6,H6,I6,q6⟩=>?_);refine tu hp (thn (hb _ s6 σ6 H6 _ I6 q6) λf s7 q7=>?_)
  have again:∀{σ7:St} {H7:Hp},Inv X (AU ++ YZ fp s5.heap) σ7 H7 s7->N σ7 H7->∃m,m<n/\∃i σ' H',Inv X AU σ' H' s7/\tn i s7.heap/\(∀b ∈ fp,H' b=AR)/\W i m σ' H':=λ{σ7 H7} I7 n7=>by
   let#[m',hm,w7]:=hN σ7 H7 n7;refine#[m',hm,i+1,σ7,H7,I7.unpinned,T.keep _ _ _ st5 λb hb o e=>(I7.pin (b,o) (aF _ (aF _ (vE hb e)))).1,λb hb=>?_,w7];let#[o,e,d]:=T.obj _ _ st5 b hb;exact (I7.pin (b,o) (aF _ (aF _ (vE hb e)))).2.1
  cases f with
  | next=>let#[σ7,H7,I7,n7]:=q7;exact again I7 n7
  | cont=>let#[σ7,H7,I7,n7]:=q7;exact again I7 n7
  | brk=>let#[σ7,H7,I7,q7]:=q7;exact#[σ7,H7,I7.unpinned,q7]
  | ret v=>let#[x7,σ7,H7,I7,r7,q7]:=q7;exact#[x7,σ7,H7,I7.unpinned,r7,q7]
def KP{K:su}{g:TG}{tb:TS}{D:Z2}(Pv:Nat->St->Hp->Prop)(h0:Pv 0 σ H)(hl:∀i σ H,i<=xs.length->Pv i σ H->SqL K H a xs)(hs:∀i x σ H,xs[i]? = AQ x->Pv i σ H->g x σ H λσ2 H2=>tb { D with nx:=Pv (i+1),ct:=Pv (i+1),bk:=D.nx } σ2 H2)(hd:∀σ H,Pv xs.length σ H->D.nx σ H) :
  ∃W:Nat->Nat->St->Hp->Prop,(∃m,W 0 m σ H)/\∀i m σ H,W i m σ H ->
   ((Itl K a).stop i H/\D.nx σ H)\/((Itl K a).go i H/\∃N:St->Hp->Prop,(∀σ' H',N σ' H'->∃m',m'<m/\W (i+1) m' σ' H')/\∀x H',(Itl K a).yld i H x H'->g x σ H' λσ2 H2=>tb { D with nx:=N,ct:=N,bk:=D.nx } σ2 H2):=by
 refine#[λi m σ H=>m=xs.length - i/\i<=xs.length/\Pv i σ H,#[xs.length,by simp,ay _,h0],?_];rintro i m σ H ⟨rfl,hi,p⟩;have q:=hl i σ H hi p;by_cases hlt:i<xs.length
 ·refine .inr #[#[xs,xs[i],q,by simp [hlt]],Pv (i+1),λσ' H' p'=>#[xs.length - (i+1),⋯,rfl,hlt,p'],λx H' y=>?_];let#[e,y]:=y;subst e;exact hs i x σ _ (y xs q) p
 ·have e:i=xs.length:=⋯;subst e;exact .inl #[#[xs,q,al _],hd σ H p]
def zbv{K:su}{g:TG}{tb:TS}{D:Z2}(Pv:Nat->St->Hp->Prop)(h0:Pv 0 σ H)(hl:∀i σ H,i<=xs.length->Pv i σ H->SqT K H a xs)(hs:∀i x σ H,xs[i]? = AQ x->Pv i σ H->g x σ H λσ2 H2=>tb { D with nx:=Pv (i+1),ct:=Pv (i+1),bk:=D.nx } σ2 H2)(hd:∀σ H,Pv xs.length σ H->D.nx σ H) :
  ∃W:Nat->Nat->St->Hp->Prop,(∃m,W 0 m σ H)/\∀i m σ H,W i m σ H ->
   ((Itt K a).stop i H/\D.nx σ H)\/((Itt K a).go i H/\∃N:St->Hp->Prop,(∀σ' H',N σ' H'->∃m',m'<m/\W (i+1) m' σ' H')/\∀x H',(Itt K a).yld i H x H'->g x σ H' λσ2 H2=>tb { D with nx:=N,ct:=N,bk:=D.nx } σ2 H2):=by
 refine#[λi m σ H=>m=xs.length - i/\i<=xs.length/\Pv i σ H,#[xs.length,by simp,ay _,h0],?_];rintro i m σ H ⟨rfl,hi,p⟩;have q:=hl i σ H hi p;by_cases hlt:i<xs.length
 ·refine .inr #[#[xs,xs[i],q,by simp [hlt]],Pv (i+1),λσ' H' p'=>#[xs.length - (i+1),⋯,rfl,hlt,p'],λx H' y=>?_];let#[e,y]:=y;subst e;exact hs i x σ _ (y xs q) p
 ·have e:i=xs.length:=⋯;subst e;exact .inl #[#[xs,q,al _],hd σ H p]
def Jx{lo:Int}{g:TG}{tb:TS}{D:Z2}(Pv:Nat->St->Hp->Prop)(h0:Pv 0 σ H)(hs:∀i σ H,i<n->Pv i σ H->g (.int (lo+i)) σ H λσ2 H2=>tb { D with nx:=Pv (i+1),ct:=Pv (i+1),bk:=D.nx } σ2 H2)(hd:∀σ H,Pv n σ H->D.nx σ H) :
  ∃W:Nat->Nat->St->Hp->Prop,(∃m,W 0 m σ H)/\∀i m σ H,W i m σ H ->
   ((Itr lo n).stop i H/\D.nx σ H)\/((Itr lo n).go i H/\∃N:St->Hp->Prop,(∀σ' H',N σ' H'->∃m',m'<m/\W (i+1) m' σ' H')/\∀x H',(Itr lo n).yld i H x H'->g x σ H' λσ2 H2=>tb { D with nx:=N,ct:=N,bk:=D.nx } σ2 H2):=by
 refine#[λi m σ H=>m=n - i/\i<=n/\Pv i σ H,#[n,by simp,ay _,h0],?_];rintro i m σ H ⟨rfl,hi,p⟩;by_cases hlt:i<n
 ·refine .inr #[hlt,Pv (i+1),λσ' H' p'=>#[n - (i+1),⋯,rfl,hlt,p'],λx H' y=>?_];let#[e,y]:=y;subst e y;exact hs i σ _ hlt p
 ·have e:i=n:=⋯;subst e;exact .inl #[al _,hd σ H p]
abbrev R2:=V->V->Hp->VK->Prop
def OpR(X:Cx)(f:sw->sw->Sem sw)(r:R2):Prop :=
 ∀(AU:List (sv × tP)) (s:sy) (σ:St) (H:Hp) (x y:V) (v u:sw) (Q:VK),Inv X AU σ H s->RelV x v->RelV y u->r x y H Q ->
  sC (model X.prog X.w) X.A (f v u) (EP X AU σ Q) X.xe s
def UnR(X:Cx)(f:sw->Sem sw)(r:V->Hp->VK->Prop):Prop :=
 ∀(AU:List (sv × tP)) (s:sy) (σ:St) (H:Hp) (x:V) (v:sw) (Q:VK),Inv X AU σ H s->RelV x v->r x H Q ->
  sC (model X.prog X.w) X.A (f v) (EP X AU σ Q) X.xe s
def w8(X:Cx)(f:sw)(r:List V->Hp->VK->Prop):Prop :=
 ∀(AU:List (sv × tP)) (s:sy) (σ:St) (H:Hp) (xs:List V) (us:List sw) (Q:VK),Inv X AU σ H s->Vals xs us->r xs H Q ->
  sC (model X.prog X.w) X.A (call f us) (EP X AU σ Q) X.xe s
def zg3(X:Cx)(r:V->Hp->(Bool->Hp->Prop)->Prop):Prop :=
 ∀(AU:List (sv × tP)) (s:sy) (σ:St) (H:Hp) (x:V) (v:sw) (Q:Bool->Hp->Prop),Inv X AU σ H s->RelV x v->r x H Q ->
  sC (model X.prog X.w) X.A (truthy v) (TP X AU σ Q) X.xe s
def tOp(r:R2)(ta tb:TE):TE:=λσ H Q=>ta σ H λx H1=>tb σ H1 λy H2=>r x y H2 Q
def tUn(r:V->Hp->VK->Prop)(ta:TE):TE:=λσ H Q=>ta σ H λx H1=>r x H1 Q
def rI(C:Int->Int->Prop)(g:Int->Int->V):R2:=λx y H Q=>onInt x λi=>onInt y λj=>C i j/\Q (g i j) H
def rI0(g:Int->Int->V):R2:=λx y H Q=>onInt x λi=>onInt y λj=>Q (g i j) H
def rU(g:Int->V):V->Hp->VK->Prop:=λx H Q=>onInt x λi=>Q (g i) H
def zfE(ha:PE X a ta)(hb:PE X b tb){R:V->V->Hp->Prop}(I:Inv X AU σ H s)(h:ta σ H λx H1=>tb σ H1 λy H2=>R x y H2){f:sw->sw->Sem sw}(hf:∀v u s2 x y H2,Inv X AU σ H2 s2->RelV x v->RelV y u->R x y H2->sC (model X.prog X.w) X.A (f v u) Q X.xe s2) :
  sC (model X.prog X.w) X.A (eval a X.env) (λv s₁=>sC (model X.prog X.w) X.A (eval b X.env) (λu s₂=>sC (model X.prog X.w) X.A (f v u) Q X.xe s₂) X.xe s₁) X.xe s:=by refine thn (ha AU s σ H _ I h) λv s1=>el5 λx H1 I1 r1 q1=>?_;refine thn (hb AU s1 σ H1 _ I1 q1) λu s2=>el5 λy H2 I2 r2 q2=>?_;exact hf v u s2 x y H2 I2 r1 r2 q2
def zD(ho:OpR X (binaryOp op) r)(ha:PE X a ta)(hb:PE X b tb):PE X (.BinOp a op b pos) (tOp r ta tb):=by intros Q I h;exact wpAny_BinOp (zfE ha hb I h λv u s2 x y H2 I2 rx ry q=>ho AU s2 σ H2 x y v u Q I2 rx ry q)
def zfP(ho:UnR X (unaryOp op) r)(ha:PE X a ta):PE X (.UnaryOp op a pos) (tUn r ta):=by intros Q I h;exact UnaryOp_ (thn (ha AU s σ H _ I h) λv s1=>el5 λx H1 I1 r1 q1=>ho AU s1 σ H1 x v Q I1 r1 q1)
def opI{g:Int->Int->Int}(rule:∀(i j:Int) (t u:AF) (s:sy) (Q:sw->sy->Prop) (E:sw->sy->Prop),C i j->Q (.int (g i j) s.toks) { s with toks:=s.toks+1 }->sC (model X.prog X.w) X.A (f (.int i t) (.int j u)) Q E s) :
  OpR X f (rI C λi j=>.int (g i j)):=by intros x y v u Q I rx ry h;let#[i,rfl,h2]:=onInt.of h;let#[j,rfl,hc,q]:=onInt.of h2;let#[t,rfl]:=rx;let#[t',rfl]:=ry;exact rule i j t t' s _ _ hc #[.int (g i j),H,I.tok _,#[_,rfl],q]
def zgI{g:Int->Int->Int}(rule:∀(i j:Int) (t u:AF) (s:sy) (Q:sw->sy->Prop) (E:sw->sy->Prop),Q (.int (g i j) s.toks) { s with toks:=s.toks+1 }->sC (model X.prog X.w) X.A (f (.int i t) (.int j u)) Q E s) :
  OpR X f (rI0 λi j=>.int (g i j)):=by intros x y v u Q I rx ry h;let#[i,rfl,h2]:=onInt.of h;let#[j,rfl,q]:=onInt.of h2;let#[t,rfl]:=rx;let#[t',rfl]:=ry;exact rule i j t t' s _ _ #[.int (g i j),H,I.tok _,#[_,rfl],q]
def zfd{g:Int->Int->Bool}(rule:∀(i j:Int) (t u:AF) (s:sy) (Q:sw->sy->Prop) (E:sw->sy->Prop),Q (.bool (g i j)) s->sC (model X.prog X.w) X.A (f (.int i t) (.int j u)) Q E s) :
  OpR X f (rI0 λi j=>.bl (g i j)):=by intros x y v u Q I rx ry h;let#[i,rfl,h2]:=onInt.of h;let#[j,rfl,q]:=onInt.of h2;let#[t,rfl]:=rx;let#[t',rfl]:=ry;exact rule i j t t' s _ _ #[.bl (g i j),H,I,rfl,q]
def zhj(i j:Int):Prop:=0<j/\j<1073741824
def zgt(i j:Int):Prop:=0<=j/\j<=1000000/\i.natAbs<2 ^ 64
def CMul(i j:Int):Prop:=(-(2 ^ 64)<i/\i<2 ^ 64)\/(-(2 ^ 64)<j/\j<2 ^ 64)
def CMul.ok(h:CMul i j):IntMulOk i j:=by
 rcases h with ⟨h1,h2⟩ | ⟨h1,h2⟩
 ·exact .of_left (intBits_le_64 h1 h2)
 ·exact .of_right (intBits_le_64 h1 h2)
def z7:OpR X (binaryOp .Add) (rI0 λi j=>.int (i+j)):=zgI λZ Z Z Z Z Z Z q=>add_int q
def wc:OpR X (binaryOp .Sub) (rI0 λi j=>.int (i - j)):=zgI λZ Z Z Z Z Z Z q=>sub_int q
def qw:OpR X (binaryOp .Mult) (rI CMul λi j=>.int (i * j)):=opI λZ Z Z Z Z Z Z hc q=>mul_int q hc.ok
def yZ:OpR X (binaryOp .FloorDiv) (rI zhj λi j=>.int (i / j)):=opI λi j Z Z Z Z Z hc q=>by
 have h1:(0:Int)<j:=hc.1;have h2:j<1073741824:=hc.2;exact floordiv_int ⋯ (by rw[Int.fdiv_eq_ediv_of_nonneg i ⋯];exact q) (.inl (PyProof.noPylong_small ⋯))
def yT:OpR X (binaryOp .Mod) (rI (λZ j=>0<j) λi j=>.int (i % j)):=opI λi j Z Z Z Z Z hc q=>by
 have h1:(0:Int)<j:=hc;exact mod_int' ⋯ (by rw[Int.fmod_eq_emod_of_nonneg i ⋯];exact q)
def Jy:OpR X (binaryOp .Pow) (rI zgt λi j=>.int (i ^ j.toNat)):=opI λZ Z Z Z Z Z Z hc q=>pow_int_small hc.1 hc.2.1 hc.2.2 q
def unI{g:Int->Int}(rule:∀(i:Int) (t:AF) (s:sy) (Q:sw->sy->Prop) (E:sw->sy->Prop),Q (.int (g i) s.toks) { s with toks:=s.toks+1 }->sC (model X.prog X.w) X.A (f (.int i t)) Q E s) :
  UnR X f (rU λi=>.int (g i)):=by intros x v Q I rx h;let#[i,rfl,q]:=onInt.of h;let#[t,rfl]:=rx;exact rule i t s _ _ #[.int (g i),H,I.tok _,#[_,rfl],q]
def zd3:UnR X (unaryOp .USub) (rU λi=>.int (-i)):=unI λZ Z Z Z Z q=>neg_int q
def J3:V->V->Bool
 | .non,.non=>AS | .non,.int _=>AS | .int _,.non=>AS | .non,.bl _=>AS | .bl _,.non=>AS | .non,.str _=>AS | .str _,.non=>AS
 | .int _,.int _=>AS | .bl _,.bl _=>AS | .str _,.str _=>AS | .byt _,.byt _=>AS
 | .int _,.str _=>AS | .str _,.int _=>AS | .bl _,.str _=>AS | .str _,.bl _=>AS
 | _,_=>AT
def rEq:R2:=λx y H Q=>match x,y with | .int a,.int b=>Q (.bl (decide (a=b))) H | .str a,.str b=>Q (.bl (decide (a=b))) H | x,y=>J3 x y=AS/\Q (.bl (decide (x=y))) H
def rEq_is : rEq x y H Q=(J3 x y=AS/\Q (.bl (decide (x=y))) H):=by cases x <;> cases y <;> first | rfl | (show Q _ H=(AS=AS/\Q _ H);rw[eq_self,true_and];congr 2;exact decide_eq_decide.mpr #[λh=>by rw[h],λh=>by cases h;rfl])
def rNe:R2:=λx y H Q=>match x,y with | .int a,.int b=>Q (.bl (!decide (a=b))) H | .str a,.str b=>Q (.bl (!decide (a=b))) H | x,y=>J3 x y=AS/\Q (.bl (!decide (x=y))) H
def rNe_is : rNe x y H Q=(J3 x y=AS/\Q (.bl (!decide (x=y))) H):=by cases x <;> cases y <;> first | rfl | (show Q _ H=(AS=AS/\Q _ H);rw[eq_self,true_and];congr 2;congr 1;exact decide_eq_decide.mpr #[λh=>by rw[h],λh=>by cases h;rfl])
def JZ : decide (V.int i=V.int j)=(i == j):=by rw[cS];simp
def zaV : decide (V.bl i=V.bl j)=(i == j):=by rw[cS];simp
def Ux : decide (V.str i=V.str j)=(i == j):=by rw[cS];simp
def UZ : decide (V.byt i=V.byt j)=(i.toList == j.toList):=by rw[cS];cases i;cases j;simp
def z5(I:Inv X AU σ H s)(q:Q (.bl k) H)(e:k=k'):EP X AU σ Q (.bool k') s:=by subst e;exact#[.bl k,H,I,rfl,q]
theorem xA:OpR X (sK .Eq) rEq:=by
 intros x y v u Q I rx ry h;let#[hs,q]:=rEq_is.mp h
 cases x with
 | non =>
  cases rx
  cases y with
  | non=>cases ry;exact PySem.EqNone.eq_none_none (z5 I q (by simp))
  | bl j=>cases ry;exact PySem.EqNone.eq_none_bool (z5 I q (by simp))
  | int j=>let#[t',rfl]:=ry;exact PySem.EqNone.eq_none_int (z5 I q (by simp))
  | str j=>let#[t',rfl]:=ry;exact PySem.EqNone.eq_none_str (z5 I q (by simp))
  | _=>exact w4 (show AT=AS from hs) aD
 | bl i =>
  cases rx
  cases y with
  | non=>cases ry;exact PySem.EqNone.eq_bool_none (z5 I q (by simp))
  | bl j=>cases ry;exact eq_bool (z5 I q zaV)
  | str j=>let#[t',rfl]:=ry;exact PySem.EqMixed.eq_bool_str (z5 I q (by simp))
  | _=>exact w4 (show AT=AS from hs) aD
 | int i =>
  let#[t,rfl]:=rx
  cases y with
  | non=>cases ry;exact PySem.EqNone.eq_int_none (z5 I q (by simp))
  | int j=>let#[t',rfl]:=ry;exact eq_int (z5 I q JZ)
  | str j=>let#[t',rfl]:=ry;exact PySem.EqMixed.eq_int_str (z5 I q (by simp))
  | _=>exact w4 (show AT=AS from hs) aD
 | str i =>
  let#[t,rfl]:=rx
  cases y with
  | non=>cases ry;exact PySem.EqNone.eq_str_none (z5 I q (by simp))
  | bl j=>cases ry;exact PySem.EqMixed.eq_str_bool (z5 I q (by simp))
  | int j=>let#[t',rfl]:=ry;exact PySem.EqMixed.eq_str_int (z5 I q (by simp))
  | str j=>let#[t',rfl]:=ry;exact eq_str (z5 I q Ux)
  | _=>exact w4 (show AT=AS from hs) aD
 | byt i =>
  let#[t,rfl]:=rx
  cases y with
  | byt j=>let#[t',rfl]:=ry;exact PySem.W.eq_bytes (z5 I q UZ)
  | _=>exact w4 (show AT=AS from hs) aD
 | _=>cases y <;> exact w4 (show AT=AS from hs) aD
theorem um:OpR X (sK .NotEq) rNe:=by
 intros x y v u Q I rx ry h;let#[hs,q]:=rNe_is.mp h
 cases x with
 | non =>
  cases rx
  cases y with
  | non=>cases ry;exact PySem.EqNone.ne_none_none (z5 I q (by simp))
  | bl j=>cases ry;exact PySem.EqNone.ne_none_bool (z5 I q (by simp))
  | int j=>let#[t',rfl]:=ry;exact PySem.EqNone.ne_none_int (z5 I q (by simp))
  | str j=>let#[t',rfl]:=ry;exact PySem.EqNone.ne_none_str (z5 I q (by simp))
  | _=>exact w4 (show AT=AS from hs) aD
 | bl i =>
  cases rx
  cases y with
  | non=>cases ry;exact PySem.EqNone.ne_bool_none (z5 I q (by simp))
  | bl j=>cases ry;exact ne_bool (z5 I q (congrArg not zaV))
  | str j=>let#[t',rfl]:=ry;exact PySem.EqMixed.ne_bool_str (z5 I q (by simp))
  | _=>exact w4 (show AT=AS from hs) aD
 | int i =>
  let#[t,rfl]:=rx
  cases y with
  | non=>cases ry;exact PySem.EqNone.ne_int_none (z5 I q (by simp))
  | int j=>let#[t',rfl]:=ry;exact ne_int (z5 I q (congrArg not JZ))
  | str j=>let#[t',rfl]:=ry;exact PySem.EqMixed.ne_int_str (z5 I q (by simp))
  | _=>exact w4 (show AT=AS from hs) aD
 | str i =>
  let#[t,rfl]:=rx
  cases y with
  | non=>cases ry;exact PySem.EqNone.ne_str_none (z5 I q (by simp))
  | bl j=>cases ry;exact PySem.EqMixed.ne_str_bool (z5 I q (by simp))
  | int j=>let#[t',rfl]:=ry;exact PySem.EqMixed.ne_str_int (z5 I q (by simp))
  | str j=>let#[t',rfl]:=ry;exact ne_str (z5 I q (congrArg not Ux))
  | _=>exact w4 (show AT=AS from hs) aD
 | byt i =>
  let#[t,rfl]:=rx
  cases y with
  | byt j=>let#[t',rfl]:=ry;exact PySem.W.ne_bytes (z5 I q (congrArg not UZ))
  | _=>exact w4 (show AT=AS from hs) aD
 | _=>cases y <;> exact w4 (show AT=AS from hs) aD
def Ui:OpR X (sK .Lt) (rI0 λi j=>.bl (decide (i<j))):=zfd λZ Z Z Z Z Z Z q=>lt_int q
def zeP:OpR X (sK .LtE) (rI0 λi j=>.bl (decide (i<=j))):=zfd λZ Z Z Z Z Z Z q=>le_int q
def Xo:OpR X (sK .Gt) (rI0 λi j=>.bl (decide (j<i))):=zfd λZ Z Z Z Z Z Z q=>gt_int q
def zgs:OpR X (sK .GtE) (rI0 λi j=>.bl (decide (j<=i))):=zfd λZ Z Z Z Z Z Z q=>ge_int q
def QD:OpR X (sK .Lt) (λx y H Q=>∃i j,x=.str i/\y=.str j/\Q (.bl (decide (i.cps.toList<j.cps.toList))) H):=by intros x y v u Q I rx ry h;let#[i,j,rfl,rfl,q]:=h;let#[t,rfl]:=rx;let#[t',rfl]:=ry;exact lt_str (z5 I q rfl)
def zd2:OpR X (sK .Is) (λx y H Q=>y=.non/\Q (.bl (decide (x=.non))) H):=by
 intros x y v u Q I rx ry h;let#[rfl,q]:=h;cases ry;refine is_none_gen (z5 I q ?_)
 cases x <;> first
  | (cases rx;rfl)
  | (let#[t,rfl]:=rx;rfl)
def zcq:OpR X (sK .IsNot) (λx y H Q=>y=.non/\Q (.bl (!decide (x=.non))) H):=by
 intros x y v u Q I rx ry h;let#[rfl,q]:=h;cases ry;refine isnot_none_gen (z5 I q ?_)
 cases x <;> first
  | (cases rx;rfl)
  | (let#[t,rfl]:=rx;rfl)
def zx(b:tH)(h:‹op≠.In›)(h2:‹op≠.NotIn›):behindInMarks op b=AT:=by
 have e1:(op == CmpOp.In)=AT:=by cases op <;> first | rfl | exact w4 rfl h
 have e2:(op == CmpOp.NotIn)=AT:=by cases op <;> first | rfl | exact w4 rfl h2
 cases b <;> simp [behindInMarks,e1,e2]
def yi(ho:OpR X (sK op) r)(ha:PE X a ta)(hb:PE X b tb)(hm:behindInMarks op b=AT):PE X (.Compare a [op] [b] pos) (tOp r ta tb):=by intros Q I h;exact wpAny_Compare1 (zfE ha hb I h λv u s2 x y H2 I2 rx ry q=>ho AU s2 σ H2 x y v u Q I2 rx ry q) hm
def VT(t:TE):TT:=λσ H Q=>t σ H λx H'=>onBl x λk=>Q k H'
def zv(ho:OpR X (sK op) r)(ha:PE X a ta)(hb:PE X b tb)(hm:behindInMarks op b=AT):PT X (.Compare a [op] [b] pos) (VT (tOp r ta tb)):=by
 intros Q I h
 refine wpAny_isTrue_Compare1 (thn (ha AU s σ H _ I h) λv s1=>el5 λx H1 I1 r1 q1=>thn (hb AU s1 σ H1 _ I1 q1) λu s2=>el5 λy H2 I2 r2 q2 =>
  thn (ho AU s2 σ H2 x y v u _ I2 r1 r2 q2) λc s3=>el5 λz H3 I3 r3 q3=>?_) hm
 let#[k,rfl,q3]:=onBl.of q3;cases r3;exact sP #[H3,I3,q3]
def k7(r r':R2)(ta tb tc:TE):TE:=λσ H Q=>ta σ H λx H1=>tb σ H1 λy H2=>r x y H2 λz H3=>onBl z λk =>
 (if k=AS then tc σ H3 λw' H4=>r' y w' H4 Q else Q (.bl AT) H3)
theorem Vn(ho:OpR X (sK op) r)(ho':OpR X (sK op') r')(ha:PE X a ta)(hb:PE X b tb)(hc:PE X c tc)(hm:lastMarks [op,op'] [b,c]=AT:=by with_unfolding_all rfl):PE X (.Compare a [op,op'] [b,c] pos) (k7 r r' ta tb tc):=by
 intros Q I h
 refine Compare_chain (thn (ha AU s σ H _ I h) λv s1=>el5 λx H1 I1 r1 q1=>chain_link (thn (hb AU s1 σ H1 _ I1 q1) λu s2=>el5 λy H2 I2 r2 q2 =>
  thn (ho AU s2 σ H2 x y v u _ I2 r1 r2 q2) λd s3=>el5 λz H3 I3 r3 q3=>?_)) hm
 let#[k,rfl,q3]:=onBl.of q3;cases r3;refine sP ?_
 cases k with
 | false=>exact ite_ff #[.bl AT,H3,I3,rfl,q3]
 | true=>exact ite_tt (chain_last (thn (hc AU s3 σ H3 _ I3 q3) λw' s4=>el5 λz' H4 I4 r4 q4=>ho' AU s4 σ H4 y z' u w' Q I4 r2 r4 q4))
theorem qQ(ho:OpR X (sK op) r)(ho':OpR X (sK op') r')(ha:PE X a ta)(hb:PE X b tb)(hc:PE X c tc)(hm:lastMarks [op,op'] [b,c]=AT:=by with_unfolding_all rfl):PT X (.Compare a [op,op'] [b,c] pos) (VT (k7 r r' ta tb tc)):=by
 intros Q I h
 refine isTrue_chain (thn (ha AU s σ H _ I h) λv s1=>el5 λx H1 I1 r1 q1=>test_link (thn (hb AU s1 σ H1 _ I1 q1) λu s2=>el5 λy H2 I2 r2 q2 =>
  thn (ho AU s2 σ H2 x y v u _ I2 r1 r2 q2) λd s3=>el5 λz H3 I3 r3 q3=>?_)) hm
 let#[k,rfl,q3]:=onBl.of q3;cases r3;refine sP ?_
 cases k with
 | false =>
  exact ite_ff #[H3,I3,q3]
 | true =>
  refine ite_tt (test_last (thn (hc AU s3 σ H3 _ I3 q3) λw' s4=>el5 λz' H4 I4 r4 q4=>thn (ho' AU s4 σ H4 y z' u w' _ I4 r2 r4 q4) λd' s5=>el5 λz2 H5 I5 r5 q5=>?_));let#[k2,rfl,q5]:=onBl.of q5;cases r5;exact sP #[H5,I5,q5]
def zeC(K:su)(x:V)(H:Hp)(k:Bool):Prop :=
 match x with
 | .non=>k=AT
 | .bl b=>k=b
 | .int i=>k=(i != 0)
 | .str y=>y.length<=sr/\k=((y.length:Int) != 0)
 | .byt y=>y.size<=sr/\k=((y.size:Int) != 0)
 | .ref p=>(∃xs,SqL K H p xs/\k=!xs.isEmpty)\/(∃xs,SqT K H p xs/\k=!xs.isEmpty)\/∃kvs,H p=AQ (.dK kvs)/\k=!kvs.isEmpty
 | _=>False
def VE(r:KV kvs vs):(!vs.isEmpty)=!kvs.isEmpty:=by cases r <;> rfl
def k9(r:Vals xs its):(!its.toArray.isEmpty)=!xs.isEmpty:=by cases r <;> simp
def kW:(sr:Nat)<2 ^ 63:=by rw[sL];decide
theorem zbn:zg3 X (λx H Q=>∃k,zeC X.K x H k/\Q k H):=by
 intros x v Q I rx h;let#[k,e,q]:=h;have hl:=kW;have hs:sr=16777216:=sL
 cases x with
 | non =>
  cases rx;have e':k=AT:=e;subst e';exact truthy_none #[H,I,q]
 | bl b =>
  cases rx;have e':k=b:=e;subst e';exact sP #[H,I,q]
 | int i =>
  let#[t,rfl]:=rx;have e':k=(i != 0):=e;subst e';exact PySem.P.truthy_int #[H,I,q]
 | str y =>
  let#[t,rfl]:=rx;obtain⟨hy,e'⟩:y.length<=sr/\k=((y.length:Int) != 0):=e;subst e';exact PySem.P.truthy_str ⋯ #[H,I.tok _,q]
 | byt y =>
  let#[t,rfl]:=rx;obtain⟨hy,e'⟩:y.size<=sr/\k=((y.size:Int) != 0):=e;subst e';exact PySem.W.truthy_bytes ⋯ #[H,I.tok _,q]
 | ref p =>
  cases rx;have e':(∃xs,SqL X.K H p xs/\k=!xs.isEmpty)\/(∃xs,SqT X.K H p xs/\k=!xs.isEmpty)\/∃kvs,H p=AQ (.dK kvs)/\k=!kvs.isEmpty:=e;rcases e' with ⟨xs,hx,e'⟩ | ⟨xs,hx,e'⟩ | ⟨kvs,hx,e'⟩
  ·subst e';let#[its,r,pl,hz]:=I.list hx;have hlen:=r.length;exact wpAny_truthy_list pl.isList (by erw[ak];lia) #[H,I.tok _,by rw[k9 r];exact q]
  ·subst e';let#[its,r,pl,hz]:=I.tuple hx;have hlen:=r.length;exact truthy_tuple pl (by erw[ak];lia) #[H,I.tok _,by rw[k9 r];exact q]
  ·subst e';obtain⟨hz,hS,vs,r,m⟩:kvs.length<=sr/\(p == sysModules)=AT/\∃vs,KV kvs vs/\s.heap.DictOf (X7 X.prog X.w) p vs:=I.hok p _ hx;have hlen:kvs.length=vs.length:=Paired.length r;exact wpAny_truthy_dict hS m ⋯ #[H,I.tok _,by rw[VE r];exact q]
 | _=>exact (show False from e).elim
def WV(ha:PE X a ta)(he:∀whole,isTrue a X.env whole=(do let v <- whole;standAt a.pos;holding [v] (truthy v))) :
  PT X a (λσ H Q=>ta σ H λx H'=>∃k,zeC X.K x H' k/\Q k H'):=by intros Q I h;exact isTrue_plain (thn (ha AU s σ H _ I h) λv s1=>el5 λx H1 I1 r1 q1=>zbn AU s1 σ H1 x v Q I1 r1 q1) (he _)
def zS:OpR X (binaryOp .Add) (λx y H Q=>∃i j,x=.str i/\y=.str j/\i.length+j.length<=sr/\Q (.str (i ++ j)) H):=by intros x y v u Q I rx ry h;let#[i,j,rfl,rfl,hz,q]:=h;let#[t,rfl]:=rx;let#[t',rfl]:=ry;exact add_str (λt' tk=>#[.str (i ++ j),H,I.tok _,#[_,rfl],q]) hz
theorem wK(r:Vals [x] us):∃u,us=[u]/\RelV x u:=by
 cases r with
 | cons r1 r2=>cases r2;exact#[_,rfl,r1]
theorem V8(r:Vals [x,y] us):∃u w',us=[u,w']/\RelV x u/\RelV y w':=by
 cases r with
 | cons r1 r2 =>
  cases r2 with
  | cons r3 r4=>cases r4;exact#[_,_,rfl,r1,r3]
def Qd(hc:X.calm=AS):w8 X (.builtin "max") (λxs H Q=>∃i j,xs=[.int i,.int j]/\Q (.int (if j > i then j else i)) H):=by
 intros xs us Q I r h;let#[i,j,rfl,q]:=h;let#[u,w',rfl,#[t,rfl],#[t',rfl]]:=V8 r;refine max_two_ints (I.ok.hd hc) λh' tk k=>#[_,H,I.kept k,?_,q];by_cases hj:j > i
 ·rw[w6 hj,w6 hj];exact#[_,rfl]
 ·rw[w9 hj,w9 hj];exact#[_,rfl]
def QX(hc:X.calm=AS):w8 X (.builtin "min") (λxs H Q=>∃i j,xs=[.int i,.int j]/\Q (.int (if j<i then j else i)) H):=by
 intros xs us Q I r h;let#[i,j,rfl,q]:=h;let#[u,w',rfl,#[t,rfl],#[t',rfl]]:=V8 r;refine min_two_ints (I.ok.hd hc) λh' tk k=>#[_,H,I.kept k,?_,q];by_cases hj:j<i
 ·rw[w6 hj,w6 hj];exact#[_,rfl]
 ·rw[w9 hj,w9 hj];exact#[_,rfl]
def QJ:w8 X (.type "int") (λxs H Q=>(∃i,xs=[.int i]/\Q (.int i) H)\/∃k,xs=[.bl k]/\Q (.int (if k then 1 else 0)) H):=by
 intros xs us Q I r h;rcases h with ⟨i,rfl,q⟩ | ⟨k,rfl,q⟩
 ·let#[u,rfl,t,rfl]:=wK r;exact call_int_int #[.int i,H,I,#[_,rfl],q]
 ·let#[u,rfl,r1]:=wK r;cases r1;exact call_int_bool #[.int (if k then 1 else 0),H,I.tok _,#[_,rfl],q]
def zdq(K:su)(x:V)(H:Hp)(n:Nat):Prop :=
 match x with
 | .str y=>y.length<=sr/\n=y.length
 | .byt y=>y.size<=sr/\n=y.size
 | .ref p=>(∃xs,SqL K H p xs/\n=xs.length)\/∃xs,SqT K H p xs/\n=xs.length
 | _=>False
theorem Kr:w8 X (.builtin "len") (λxs H Q=>∃x n,xs=[x]/\zdq X.K x H n/\Q (.int n) H):=by
 intros xs us Q I r h;let#[x,n,rfl,e,q]:=h;let#[u,rfl,rx]:=wK r;have hl:=kW;have hs:sr=16777216:=sL
 cases x with
 | str y =>
  let#[t,rfl]:=rx;obtain⟨hy,e'⟩:y.length<=sr/\n=y.length:=e;subst e';exact len_str ⋯ #[.int _,H,I.tok _,#[_,rfl],q]
 | byt y =>
  let#[t,rfl]:=rx;obtain⟨hy,e'⟩:y.size<=sr/\n=y.size:=e;subst e';exact PySem.W.len_bytes ⋯ #[.int _,H,I.tok _,#[_,rfl],q]
 | ref p =>
  cases rx;have e':(∃xs,SqL X.K H p xs/\n=xs.length)\/∃xs,SqT X.K H p xs/\n=xs.length:=e;rcases e' with ⟨xs,hx,e'⟩ | ⟨xs,hx,e'⟩
  ·subst e';let#[its,r',pl,hz]:=I.list hx;have hlen:=r'.length;exact Calls.call_len_list pl.isList (by erw[ak];lia) #[.int xs.length,H,I.tok _,#[_,by erw[ak];rw[hlen]],q]
  ·subst e';let#[its,r',pl,hz]:=I.tuple hx;have hlen:=r'.length;exact len_tuple pl (by erw[ak];lia) #[.int xs.length,H,I.tok _,#[_,by erw[ak];rw[hlen]],q]
 | _=>exact (show False from e).elim
structure ObjM(h:sV)(x dx C:sv)(mA:sF->Option sw):Prop where
 obj:h.get? x=AQ (cu C dx)
 ns:h.Ns1 dx mA
 ne:dx≠x
end
set_option tactic.hygienic true in
def UD{h:sV}(n:h.Ns1 dx mA):∃od,h.get? dx=AQ od/\∀name,eE name od=AQ (mA name):=by
 let#[o,es,ep,ho,hd,hk,_,hm]:=n;refine#[o,ho,λname=>?_];have e:=hm name;unfold nsFind findBy at e;rw[<- Array.find?_toList]at e;unfold eE;rw[hd];dsimp only;split
 ·rename_i y q;rw[q]at e;exact congrArg AQ e
 ·rename_i q;rw[q]at e
  have a:es.toList.any (·.refKey)=AT:=by
   rw[List.any_eq_false];intro y hy;let#[z,t,hkey]:=hk y (Array.mem_toList_iff.mp hy);simp [DictEntry.refKey,hkey]
  have a':¬ es.toList.any (·.refKey)=AS:=by rw[a];exact aD
  rw[w9 a'];exact congrArg AQ e
def ObjM.look(I:ObjM h x dx C mA):∃od,PySem.W.InstAt h x (cu C dx) C (AQ od)/\∀name,eE name od=AQ (mA name) :=
 let #[od,ho,hl]:=UD I.ns
 #[od,#[I.obj,rfl,rfl,ho],hl]
section
variable{prog:sH}{w:sM}{A:sZ}{E:sw->sy->Prop}{s:sy}{K:su}{x dx C f:sv}{mA:sF->Option sw}{name:sF}{v:sw}
def zbt(X:K.In s.heap)(I:ObjM s.heap x dx C mA)(hg:cf K C name=AS)(hh:cA K C=AS)(ha:ah K (.ref C) name=AQ AR)(hv:mA name=AQ v)(hv':gr v=AS)(h:Q v { s with toks:=s.toks+1 }) :
  sC (model prog w) A (getAttr (.ref x) name expr) Q E s:=by let#[od,J,hl]:=I.look;exact PySem.W.get_value X J (ef hg).1 (PySem.W.findObj_own hh ha rfl (by rw[hl,hv])) hv' h
def zam(X:K.In s.heap)(I:ObjM s.heap x dx C mA)(hg:cf K C name=AS)(hf:ah K (.ref C) name=AQ (AQ (.ref f)))(ht:bc K (.ref f)=AS)(hv:mA name=AR)(h:Q (.ref f,[.ref x]) s) :
  sC (model prog w) A (getMethod (.ref x) name pl) Q E s:=by let#[od,J,hl]:=I.look;exact PySem.W.method_fn X J (ef hg).1 (ef hg).2 hf (beq_iff_eq.mp ht) (by show (eE name od).map (·.isSome)=AQ AT;rw[hl,hv];rfl) h
theorem zbX(X:K.In s.heap)(I:ObjM s.heap x dx C mA)(hs:ah K (.ref C) "__setattr__" = AQ (AQ (.builtin "object.__setattr__")))(hp:cK K C=AS)(ht:ft K C name=AQ AR)(hh:cA K C=AS)(hw:PySem.Within mA ns)(hsz:ns.length<=sr)(h:∀h',ObjM h' x dx C (λy=>if y=name then AQ v else mA y)->Heap.SameBut dx s.heap h'->Q Unit.unit { s with heap:=h',toks:=s.toks+2 }) :
  sC (model prog w) A (setAttr (.ref x) name v) Q E s:=by let#[od,J,hl]:=I.look;refine gn X J hs (PySem.W.osa_open (s:={ s with toks:=s.toks+1 }) (r:=AR) X J hp ht λb=>?_);let#[cd,hc,hd']:=PySem.W.any_some hh;have hx:s.heap.get? x=AQ #[.ref C,AQ dx,.plain,#[]]:=I.obj;refine sj (sk (sj (sj (Ai hx (sj (PySem.W.Looks.here (s:={ s with toks:=s.toks+1 }) (PySem.W.looks_clsIn X hc) ?_))))));rw[hd'];refine sk (a:=AQ dx) (sj (sk (sj ?_)));refine wpAny_nsSet1 (s:={ s with toks:=s.toks+1 }) I.ns λh' hn2 hs2=>?_;let#[oD,esD,epD,hoD,hdD,hcD]:=hn2.count (PySem.Within.cons name v hw);refine sj (Ay hoD (by rw[hdD];exact pastItsLine_dict (aP hcD (by rw[aG];lia))) ?_);exact sk (h _ #[(hs2.2 _ (Ne.symm I.ne)).trans I.obj,hn2,I.ne] hs2)
def K9(X:K.In s.heap)(hm:cT K C=AS)(hi:ah K (.ref C) "__init__" = AQ (AQ (.ref f)))(hf:PySem.W.typeIn K (.ref f)=AQ (.type "function"))(h:tB (model prog w) (A.under (.builtin "type.__call__" #[.ref C::vs,kw])) (.call (.ref f) #[.ref (s⁻¹+1)::vs,kw]) (PySem.W.InitBack (s⁻¹+1) R)
   { s with heap:=(s.heap.push bS).push (cu C s⁻¹) }) :
  tB (model prog w) A (.call (.ref C) #[vs,kw]) R s:=by let#[hh,g,d,t,os]:=s;exact PySem.W.make_core (PySem.W.makes_of X hm) (cL X hi) (λself=>gv X self hf) (.inl rfl) h
end
mutual section
def Yd(f:sF)(v:V):List (sF × V)->List (sF × V)
  | []=>[(f,v)]
  | (g,x)::r=>if g=f then (g,v)::r else (g,x)::Yd f v r
theorem j9(f g:sF)(v:V):∀fs:List (sF × V),(Yd f v fs).lookup g=if g=f then AQ v else fs.lookup g
  | []=>by
    show bA g [(f,v)]=_;by_cases h:g=f
    . have hb:(g == f)=AS:=beq_iff_eq.mpr h
      erw[bA,hb,w6 h]
    . have hb:(g == f)=AT:=beq_eq_false_iff_ne.mpr h
      erw[bA,hb,w9 h]
  | (k,x)::r=>by
    have ih:=j9 f g v r;rw[show Yd f v ((k,x)::r)=(if k=f then (k,v)::r else (k,x)::Yd f v r)from rfl];by_cases hk:k=f
    . rw[w6 hk]
      by_cases h:g=k
      . have hb:(g == k)=AS:=beq_iff_eq.mpr h
        erw[bA,hb,w6 (h.trans hk)]
      . have hb:(g == k)=AT:=beq_eq_false_iff_ne.mpr h
        erw[bA,hb,w9 (λe:g=f=>h (e.trans hk.symm))]
    . rw[w9 hk]
      by_cases h:g=k
      . have hb:(g == k)=AS:=beq_iff_eq.mpr h
        erw[bA,hb,w9 (λe:g=f=>hk (h.symm.trans e))]
      . have hb:(g == k)=AT:=beq_eq_false_iff_ne.mpr h
        erw[bA,hb]
        exact ih
theorem j0(f:sF)(v:V):∀fs:List (sF × V),f ∈ (Yd f v fs).map (·.1)/\∀g,g ∈ fs.map (·.1)->g ∈ (Yd f v fs).map (·.1)
  | []=>#[by simp [Yd],λg h=>by simp at h]
  | (k,x)::r=>by
    let#[i1,i2]:=j0 f v r;rw[show Yd f v ((k,x)::r)=(if k=f then (k,v)::r else (k,x)::Yd f v r)from rfl];by_cases hk:k=f
    . rw[w6 hk]
      subst hk;exact#[by simp,λg h=>by simpa using h]
    . rw[w9 hk]
      refine#[?_,λg h=>?_]
      . rw[ao]
        exact ar _ i1
      . rw[ao]at h ⊢
        rcases AZ.mp h with e | e
        . exact AZ.mpr (.inl e)
        . exact ar _ (i2 g e)
theorem j7(f:sF)(v:V):∀fs:List (sF × V),(Yd f v fs).length<=fs.length+1
  | []=>by simp [Yd]
  | (k,x)::r=>by
    have ih:=j7 f v r;rw[show Yd f v ((k,x)::r)=(if k=f then (k,v)::r else (k,x)::Yd f v r)from rfl];by_cases hk:k=f
    . rw[w6 hk,aG,aG];lia
    . rw[w9 hk,aG,aG];lia
theorem RelO.some_of(r:RelO (AQ v) o):∃u,o=AQ u/\RelV v u:=by
 cases o with
 | none=>exact (show False from r).elim
 | some u=>exact#[u,rfl,r]
theorem RelO.none_of(r:RelO AR o):o=AR:=by
 cases o with
 | none=>rfl
 | some u=>exact (show False from r).elim
theorem Ji(r:RelV v u):gr u=AS:=by
 cases v with
 | non=>cases (show u=p9 from r);rfl
 | bl b=>cases (show u=Value.bool b from r);rfl
 | int i=>let#[t,e]:=(show ∃t,u=Value.int i t from r);cases e;rfl
 | str x=>let#[t,e]:=(show ∃t,u=Value.str x t from r);cases e;rfl
 | byt b=>let#[t,e]:=(show ∃t,u=Value.bytes b t from r);cases e;rfl
 | flt b=>let#[t,e]:=(show ∃t,u=Value.float b t from r);cases e;rfl
 | ref a=>cases (show u=r8 a from r);rfl
 | ty n=>cases (show u=Value.type n from r);rfl
def Zi(hok:HOk P w H h)(e:H a=AQ (.ins C dx fs)):∃mA,ObjM h a dx C mA/\(∀f,RelO (fs.lookup f) (mA f))/\PySem.Within mA (fs.map (·.1))/\fs.length<=1000/\H dx=AQ (.own a):=by let#[d,z,ne,ob,mA,n,r,q]:=(show ObjOk P w H h a (.ins C dx fs)from hok a _ e);exact#[mA,#[ob,n,ne],r,q,z,d]
structure Cls(K:su)(C:sv):Prop where
 pg:cf K C fu=AS
 hd:cA K C=AS
 po:cK K C=AS
 sa:ah K (.ref C) "__setattr__" = AQ (AQ (.builtin "object.__setattr__"))
def Cls.get{K:su}(c:Cls K C)(f:sF):cf K C f=AS:=c.pg
def NoAttr(K:su)(C:sv)(f:sF):Prop:=ah K (.ref C) f=AQ AR
def NoAttr.taker{K:su}(n:NoAttr K C f):ft K C f=AQ AR:=by unfold ft;rw[show ah K (.ref C) f=AQ AR from n];rfl
structure zeI(K:su)(C:sv)(m:sF)(f:sv):Prop where
 at_:ah K (.ref C) m=AQ (AQ (.ref f))
 fn:bc K (.ref f)=AS
 kp:aO K (.ref f)=AS
def VP(I:Inv X AU σ H s)(e:H a=AQ (.ins C dx fs))(c:Cls X.K C)(n:NoAttr X.K C f)(l:fs.lookup f=AQ v)(h:∀u s',Inv X AU σ H s'->RelV v u->Q u s'):sC (model X.prog X.w) A (getAttr (.ref a) f b) Q E s:=by let#[mA,O,r,_,_,_]:=Zi I.hok e;let#[u,hu,ru]:=RelO.some_of (v:=v) (o:=mA f) (by rw[<- l];exact r f);exact zbt I.kIn O (c.get f) c.hd n hu (Ji ru) (h u _ (I.tok _) ru)
def wm(I:Inv X AU σ H s)(e:H a=AQ (.ins C dx fs))(c:Cls X.K C)(k:zeI X.K C m g)(l:fs.lookup m=AR)(h:Q (.ref g,[.ref a]) s):sC (model X.prog X.w) A (getMethod (.ref a) m pl) Q E s:=by let#[mA,O,r,_,_,_]:=Zi I.hok e;have hn:mA m=AR:=RelO.none_of (by rw[<- l];exact r m);exact zam I.kIn O (c.get m) k.at_ k.fn hn h
def Ug(I:Inv X AU σ H s)(e:H a=AQ (.ins C dx fs))(c:Cls X.K C)(n:NoAttr X.K C f)(hl:fs.length<1000)(ry:RelV y u)(h:∀s',Inv X AU σ (upd H a (.ins C dx (Yd f y fs))) s'->Q Unit.unit s'):sC (model X.prog X.w) A (setAttr (.ref a) f u) Q E s:=by
 let#[mA,O,r,wi,_,ho]:=Zi I.hok e;have hz:(fs.map (·.1)).length<=sr:=by rw[aa,sL];lia
 refine zbX I.kIn O c.sa c.po n.taker c.hd wi hz λh' O' sb=>h _ ?_;have hd:∃o,h'.get? dx=AQ o:=let #[o,_,_,e',_]:=O'.ns; #[o,e'];refine I.write (x:=a) (e:=dx) (by rw[e];exact True.intro) (.inr ho) (λb q hb z=>(sb.2 b hb).trans z) hd ?_;refine#[by rw[zt O.ne];exact ho,?_,O.ne,O'.obj,_,O'.ns,λg=>?_,λg hg=>?_]
 ·have:=j7 f y fs;lia
 ·show RelO ((Yd f y fs).lookup g) (if g=f then AQ u else mA g);rw[j9];by_cases q:g=f
  ·rw[w6 q,w6 q];exact ry
  ·rw[w9 q,w9 q];exact r g
 ·by_cases q:g=f
  ·rw[q];exact (j0 f y fs).1
  ·refine (j0 f y fs).2 g (wi g λz=>hg ?_);show (if g=f then AQ u else mA g)=AR;rw[w9 q];exact z
def Inv.made(I:Inv X AU σ H s):Inv X AU σ (upd (upd H s⁻¹ (.own (s⁻¹+1))) (s⁻¹+1) (.ins C s⁻¹ [])) { s with heap:=(s.heap.push bS).push (cu C s⁻¹) }:=by
 have e1:(s.heap.push bS).get? s⁻¹=AQ bS:=aE s.heap rfl
 have e2:((s.heap.push bS).push (cu C s⁻¹)).get? (s⁻¹+1)=AQ (cu C s⁻¹):=by
  have:=aE (s.heap.push bS) (o:=cu C s⁻¹) rfl
  rwa [cZ]at this
 have e3:(s.heap.push bS).Ns s⁻¹ (λZ=>AR):=#[bS,#[],_,e1,rfl,(λe he=>w4 he (by simp)),λZ=>rfl];have I1:=I.laid (a:=s⁻¹) (o:=.own (s⁻¹+1)) (h':=s.heap.push bS) (t':=s.toks) (λb u q=>ag _ q) (al _) #[_,e1];refine I1.laid (a:=s⁻¹+1) (o:=.ins C s⁻¹ []) (t':=s.toks) (λb u q=>ag _ q) (gf (cZ _ _)) ?_;have ne:s⁻¹≠s⁻¹+1:=ax (dL _);refine#[by rw[zt ne,zc],ay _,ne,e2,λZ=>AR,(Heap.Ns1.of_empty e3).at λo q=>ag _ q,λZ=>True.intro,λy hy=>w4 rfl hy]
def zcf(hb:attributeBase e f env (eval e env)=eval e env)(h:sC (model prog w) A (eval e env) (λo s₁=>sC (model prog w) A (getAttr o f AS) Q E s₁) E s):sC (model prog w) A (eval (.Attribute e f pos) env) Q E s :=
 Attribute_any_ h (by rw[arm_eval_Attribute,hb])
def zdd(K:su)(ta:TE)(f:sF):TE:=λσ H Q=>ta σ H λx H1=>∃a C dx fs v,x=.ref a/\H1 a=AQ (.ins C dx fs)/\Cls K C/\NoAttr K C f/\fs.lookup f=AQ v/\Q v H1
def zfr(K:su)(ta tv:TE)(f:sF):TS:=λD σ H=>tv σ H λy H1=>ta σ H1 λx H2=>∃a C dx fs,x=.ref a/\H2 a=AQ (.ins C dx fs)/\Cls K C/\NoAttr K C f/\fs.length<1000 /\
 D.nx σ (upd H2 a (.ins C dx (Yd f y fs)))
def jg(he:PE X e ta)(hb:attributeBase e f X.env (eval e X.env)=eval e X.env):PE X (.Attribute e f pos) (zdd X.K ta f):=by intros Q I h;refine zcf hb (thn (he AU s σ H _ I h) λu s1=>el5 λx H1 I1 rx q_z=>?_);let#[a,C,dx,fs,v,ex,ea,c,n,l,q]:=q_z;subst ex;obtain rfl:u=r8 a:=rx;exact VP I1 ea c n l λu' s2 I2 ru=>#[v,H1,I2,ru,q]
def Xj(ha:PE X o ta)(hv:PE X value tv)(hs:swapsWith value (AQ (.Attribute o f pos')) pos.line X.env=pure AT):PS X (.Assign [.Attribute o f pos'] value pos) (zfr X.K ta tv f):=by intros D I h;refine tU (thn (hv AU s σ H _ I h) λu s1=>el5 λy H1 I1 ry q=>thn (ha AU s1 σ H1 _ I1 q) λov s2=>el5 λx H2 I2 rx q_z=>?_) hs;let#[a,C,dx,fs,ex,ea,c,n,l,q2]:=q_z;subst ex;obtain rfl:ov=r8 a:=rx;exact Ug I2 ea c n l ry λs3 I3=>#[σ,_,I3,q2]
def zcJ(he:PE X e te)(I:Inv X AU σ H s)(h:te σ H λx H1=>∃a C dx fs g,x=.ref a/\H1 a=AQ (.ins C dx fs)/\Cls X.K C/\zeI X.K C m g/\fs.lookup m=AR /\
      ∀s1,Inv X AU σ H1 s1->sC (model X.prog X.w) X.A (callWith pos (.ref g) [.ref a] (sS pos (sq args X.env)) (sX pos (sN [] X.env))) Q X.xe s1) (ht:eval (.Call (.Attribute e m apos) args [] pos) X.env=(do
      let ov <- eval e X.env
      standAt apos.atName
      let (f,first) <- holding [ov] (getMethod ov m pl)
      callWith pos f first (sS pos (sq args X.env)) (sX pos (sN [] X.env)))) :
    sC (model X.prog X.w) X.A (eval (.Call (.Attribute e m apos) args [] pos) X.env) Q X.xe s:=by refine cI (pl:=pl) (thn (he AU s σ H _ I h) λu s1=>el5 λx H1 I1 rx q_z=>?_) ht;let#[a,C,dx,fs,g,ex,ea,c,k,l,q]:=q_z;subst ex;obtain rfl:u=r8 a:=rx;exact wm I1 ea c k l (q s1 I1)
inductive Wz(K:su)(H:Hp):V->sw->Prop where
 | non:Wz K H .non (.type "NoneType")
 | bl (x:Bool):Wz K H (.bl x) (.type "bool")
 | int (i:Int):Wz K H (.int i) (.type "int")
 | str (x:sF):Wz K H (.str x) (.type "str")
 | flt (x:UInt64):Wz K H (.flt x) (.type "float")
 | lst {a:sv} {xs:List V} (e:H a=AQ (.lst xs)):Wz K H (.ref a) (.type "list")
 | frz {a:sv} {o:tP} {xs:List V} (e:H a=AQ (.frz o (.lst xs))):Wz K H (.ref a) (.type "list")
 | tup {a:sv} {xs:List V} (e:H a=AQ (.tup xs)):Wz K H (.ref a) (.type "tuple")
 | dK {a:sv} {kvs:List (Key × V)} (e:H a=AQ (.dK kvs)):Wz K H (.ref a) (.type "dict")
 | dT {a:sv} {kvs:List (List Key × V)} (e:H a=AQ (.dT kvs)):Wz K H (.ref a) (.type "dict")
 | ins {a C dx:sv} {fs:List (sF × V)} (e:H a=AQ (.ins C dx fs)) (cl:Cls K C) (ha:ah K (.ref C) "__class__" = AQ (AQ (.builtin "object.__class__")))
   (hn:dA K (.builtin "object.__class__") "__get__" = AQ (AQ (.builtin "getset_descriptor.__get__"))) (htk:dP K (.builtin "object.__class__")=AQ AS)
   (hm:bY K C (.type "object")=AQ AS):Wz K H (.ref a) (.ref C)
theorem JY(I:Inv X AU σ H s)(rx:RelV x u)(ty:Wz X.K H x t)(e:aV X.K t c=AQ b)(h:∀tk,Q (.bool b) { s with toks:=tk }) :
  sC (model X.prog X.w) A (call (.builtin "isinstance") [u,c]) Q E s:=by
 cases ty with
 | non=>cases (show u=p9 from rx);exact br PySem.W.kitx_none I.kIn True.intro e (λz=>nomatch z) h
 | bl y=>cases (show u=Value.bool y from rx);exact br PySem.W.kitx_bool I.kIn True.intro e (λz=>nomatch z) h
 | int i=>let#[t,q]:=(show ∃t,u=Value.int i t from rx);cases q;exact br PySem.W.kitx_int I.kIn True.intro e (λz=>nomatch z) h
 | str y=>let#[t,q]:=(show ∃t,u=Value.str y t from rx);cases q;exact br PySem.W.kitx_str I.kIn True.intro e (λz=>nomatch z) h
 | flt y=>let#[t,q]:=(show ∃t,u=Value.float y t from rx);cases q;exact br PySem.W.kitx_float I.kIn True.intro e (λz=>nomatch z) h
 | @lst a xs ea =>
  cases (show u=r8 a from rx);let#[_,_,n,_,h1]:=(show ObjOk X.prog X.w H s.heap a (.lst xs)from I.hok a _ ea);exact br eP I.kIn #[_,h1,rfl] e (λz=>nomatch z) h
 | @frz a ob xs ea =>
  cases (show u=r8 a from rx);let#[_,_,_,n,_,h1]:=(show ObjOk X.prog X.w H s.heap a (.frz ob (.lst xs))from I.hok a _ ea);exact br eP I.kIn #[_,h1,rfl] e (λz=>nomatch z) h
 | @tup a xs ea =>
  cases (show u=r8 a from rx);let#[_,_,_,p]:=(show ObjOk X.prog X.w H s.heap a (.tup xs)from I.hok a _ ea);let#[o,h1,h2,_]:=p;exact br gg I.kIn #[o,h1,h2] e (λz=>nomatch z) h
 | @dK a kvs ea =>
  cases (show u=r8 a from rx);let#[_,_,vs,_,p]:=(show ObjOk X.prog X.w H s.heap a (.dK kvs)from I.hok a _ ea);let#[o,es,ep,h1,h2,_]:=p;exact br gp I.kIn #[o,h1,h2.1] e (λz=>nomatch z) h
 | @dT a kvs ea =>
  cases (show u=r8 a from rx);let#[_,_,xs,_,o,es,ep,h1,h2,_]:=(show ObjOk X.prog X.w H s.heap a (.dT kvs)from I.hok a _ ea);exact br gp I.kIn #[o,h1,h2.1] e (λz=>nomatch z) h
 | @ins a C dx fs ea cl ha hn htk hm =>
  cases (show u=r8 a from rx);let#[mA,O,_]:=Zi I.hok ea;let#[od,J,_]:=O.look;exact br (PySem.W.kitx_own (cl.get _) cl.hd ha hn htk hm) I.kIn J e (λz=>nomatch z) h
structure Room(k:Nat)(A:sZ):Prop where
 hd:A.handled=AR
 dp:A.depth+3 * k+5<Aj
 un:A.units+16 * k+200<cLine
def Room.mono(r:Room k A)(h:j<=k):Room j A:=#[r.hd,by have:=r.dp;lia,by have:=r.un;lia]
def Room.deeper(r:Room (k+1) A)(env:AJ):Room k (A.deeper env) :=
 #[r.hd,by have:=r.dp;show A.depth+1+3 * k+5<_;lia,by have:=r.un;show A.units+3+16 * k+200<_;lia]
def Room.in1(r:Room (k+1) A):Room k A.in1 :=
 #[r.hd,by have:=r.dp;show A.depth+3 * k+5<_;lia,by have:=r.un;show A.units+1+16 * k+200<_;lia]
def V2{A:sZ}:(A.under (.builtin "type.__call__" #[.ref C::us,kw])).depth=A.depth+1:=by first | rfl | simp [Around.under,Code.weight,Code.isCreation,Code.isGuard,Code.isCaller,Code.frames,Code.isFrame,guardIds]
def VG{A:sZ}:(A.under (.builtin "type.__call__" #[.ref C::us,kw])).units=A.units+1:=by first | rfl | simp [Around.under,Code.cUnits,Code.frames,Code.isFrame]
def Room.make(r:Room (k+1) A)(C:sv)(us:List sw)(kw:List (sF × sw)):Room k (A.under (.builtin "type.__call__" #[.ref C::us,kw])) :=
 #[r.hd,by have:=r.dp;rw[V2];lia,by have:=r.un;rw[VG];lia]
def Room.depth(r:Room k A):A.depth<Aj:=by have:=r.dp;lia
def Room.units(r:Room k A):A.units+64<cLine:=by have:=r.un;lia
def xv:TA:=λZ H Q=>Q [] H
def zK(ta:TE)(tr:TA):TA:=λσ H Q=>ta σ H λx H1=>tr σ H1 λxs H2=>Q (x::xs) H2
def zg:PA X [] xv:=λZ Z Z Z H Q I h=>Calls.spliced_nil #[[],H,I,.nil,h]
def za(ha:PE X e te)(hr:PA X es t)(hs:‹sq (e::es) X.env=(AT,eval e X.env)::sq es X.env›):PA X (e::es) (zK te t):=by intro pos AU s σ H Q I h;rw[hs];show sC _ _ (spliced ((AT,eval e X.env)::sS pos (sq es X.env))) _ _ s;refine Calls.spliced_cons (thn (ha AU s σ H _ I h) λu s1=>el5 λx H1 I1 r1 q1=>?_);exact thn (hr pos AU s1 σ H1 _ I1 q1) λus s2=>el5 λxs H2 I2 r2 q2=>#[x::xs,H2,I2,.cons r1 r2,q2]
def Um(t:TA):TE:=λσ H Q=>t σ H λxs H1=>xs.length<=sr/\∀p,H1 p=AR->Q (.ref p) (upd H1 p (.tup xs))
def zdU(t:TA):TE:=λσ H Q=>t σ H λxs H1=>xs.length<=sr/\∀p,H1 p=AR->Q (.ref p) (upd H1 p (.lst xs))
def zX{x1}(h:PA X es t):PE X (.Tuple es x1 pos) (Um t):=by intros Q I hq;refine wpAny_Tuple_spliced (thn (h pos AU s σ H _ I hq) λus s1=>el5 λxs H1 I1 r=>ua2 λz q=>#[by rw[<- r.length];exact z,?_]);have hf:H1 s1⁻¹=AR:=I1.hok.fresh (al _);refine#[.ref s1⁻¹,upd H1 s1⁻¹ (.tup xs),I1.laid (t':=s1.toks) (λb u e=>ag _ e) (al _) ?_,rfl,q _ hf];exact#[z,us,r,#[_,aE _ rfl,rfl,_,rfl]]
def xh(h:PA X es t):PE X (.List es pos) (zdU t):=by intros Q I hq;refine wpAny_List_spliced (thn (h pos AU s σ H _ I hq) λus s1=>el5 λxs H1 I1 r=>ua2 λz q=>#[by rw[<- r.length];exact z,?_]);have hf:H1 s1⁻¹=AR:=I1.hok.fresh (al _);refine#[.ref s1⁻¹,upd H1 s1⁻¹ (.lst xs),I1.laid (t':=s1.toks) (λb u e=>ag _ e) (al _) ?_,rfl,q _ hf];exact#[z,us,0,r,aE _ rfl]
abbrev Sp:=List V->Hp->VK->XK->Prop
abbrev CXT:=List AJ->Hp->sy->XK->sw->sy->Prop
structure Env0(P:sH)(w:sM)(K:su)(mg:sF->Option sw)(base:sV)(A:sZ)(outer:List AJ)(s:sy)(H:Hp):Prop where
 frames:A.frames=AQ outer
 mod:Mod K mg base
 bs:∀b o,base.get? b=AQ o->s.heap.get? b=AQ o/\H b=AR
 bsz:base.objs.size<=s⁻¹
 funs:s.heap.FunFrames base outer
 frf:∀b ∈ frs outer,H b=AR
 hok:HOk P w H s.heap
 bare:tW s.gens
def CE(outer:List AJ)(P:sH)(w:sM)(H:Hp)(s:sy)(Q:VK)(u:sw)(s':sy):Prop :=
 ∃v H',s'.os=s.os/\tW s'.gens/\Un (frs outer) [] H H' s.heap s'.heap/\HOk P w H' s'.heap/\RelV v u/\Q v H'
def CR(CX:CXT)(outer:List AJ)(P:sH)(w:sM)(H:Hp)(s:sy)(Q:VK)(E:XK)(r:Result)(s':sy):Prop :=
 match r with
 | .ok (.ret u)=>CE outer P w H s Q u s'
 | .ok _=>False
 | .error e=>CX outer H s E e s'
structure FnOk(P:sH)(w:sM)(K:su)(mg:sF->Option sw)(base:sV)(CX:CXT)(k:Nat)(f:sv)(fd:tM)(ps:List sF)(sp:Sp):Prop where
 len:∀vs H Q E,sp vs H Q E->vs.length=ps.length
 run:∀(A:sZ) (outer:List AJ) (s:sy) (H:Hp) (args:Args) (us:List sw) (vs:List V) (Q:VK) (E:XK),Room k A->Env0 P w K mg base A outer s H->An s fd args (ps.zip us)->Vals vs us->sp vs H Q E ->
  tB (model P w) A (.call (.ref f) args) (CR CX outer P w H s Q E) s
def FnOk.imp{K:su}(F:FnOk P w K mg base CX k f fd ps sp)(h:∀vs H Q E,sp' vs H Q E->sp vs H Q E):FnOk P w K mg base CX k f fd ps sp' :=
 #[λvs H Q E q=>F.len vs H Q E (h _ _ _ _ q),λA outer s H args us vs Q E hr he hb hv hs=>F.run A outer s H args us vs Q E hr he hb hv (h _ _ _ _ hs)]
def Env0.make{K:su}(e:Env0 P w K mg base A outer s H)(C:sv)(us:List sw)(kw:List (sF × sw)) :
  Env0 P w K mg base (A.under (.builtin "type.__call__" #[.ref C::us,kw])) outer s H:=#[by first | exact e.frames | (simpa [Around.under,Code.envs,Code.isFrame,pushEnvs] using e.frames),e.mod,e.bs,e.bsz,e.funs,e.frf,e.hok,e.bare]
def Inv.env0(I:Inv X AU σ H s):Env0 X.prog X.w X.K X.mg X.base X.A X.stack s H :=
 #[I.ok.frames,I.ok.mod,I.bs,aP I.ok.bsz I.sz,I.stack,I.stkFree,I.hok,I.bare]
def Inv.after(I:Inv X AU σ H s)(h:CE X.stack X.prog X.w H s Q u s'):EP X AU σ Q u s':=by let#[v,H',os,bare,un,hok,r,q]:=h;let#[hh,g,d,t,os']:=s';obtain rfl:os'=s.os:=os;exact#[v,H',I.call (h':=hh) (g':=g) (d':=d) (t':=t) (ch:=[]) un hok bare (λb z=>w4 z (by simp)),r,q]
def uc(sp:Sp)(dvs:List V)(E:XK)(t:TA):TE:=λσ H Q=>t σ H λvs H1=>sp (vs ++ dvs) H1 Q E
def Zf(C:sv)(m:sF)(sp:Sp)(dvs:List V)(E:XK)(ta:TE)(t:TA):TE:=λσ H Q=>ta σ H λx H1=>∃a dx fs,x=.ref a/\H1 a=AQ (.ins C dx fs)/\fs.lookup m=AR /\
 t σ H1 λvs H2=>sp (x::(vs ++ dvs)) H2 Q E
def U7(C:sv)(sp:Sp)(dvs:List V)(E:XK)(t:TA):TE:=λσ H Q=>t σ H λvs H1=>∀x dx,H1 x=AR->H1 dx=AR->dx≠x ->
 sp (.ref x::(vs ++ dvs)) (upd (upd H1 dx (.own x)) x (.ins C dx [])) (λv H2=>v=.non/\Q (.ref x) H2) E
def Binds(K:su)(fd:tM)(ps:List sF)(ds:List sw):Prop :=
 ∀(s:sy) (us:List sw),K.In s.heap->(us ++ ds).length=ps.length->An s fd #[us,[]] (ps.zip (us ++ ds))
def Binds.all{K:su}(h:∀us:List sw,us.length=ps.length->bindArgs fd #[us,[]]=pure (ps.zip us)):Binds K fd ps []:=λs us Z hl=>by
 rw[aT]at hl ⊢;exact .of_eq (h us hl)
def qv(CX:CXT)(X:Cx)(E:XK):Prop:=∀(AU:List (sv × tP)) (σ:St) (H:Hp) (s:sy) (e:sw) (s':sy),Inv X AU σ H s->CX X.stack H s E e s'->X.xe e s'
theorem Yx(F:FnOk X.prog X.w X.K X.mg X.base CX k f fd ps sp)(hr:Room k X.A)(hb:Binds X.K fd ps ds)(hd:Vals dvs ds)(hx:qv CX X E)(I:Inv X AU σ H s)(r:Vals vs us)(h:sp (vs ++ dvs) H Q E):sC (model X.prog X.w) X.A (call (.ref f) us) (EP X AU σ Q) X.xe s:=by
 have r2:Vals (vs ++ dvs) (us ++ ds):=r.append hd;have hl:(us ++ ds).length=ps.length:=by rw[<- r2.length];exact F.len _ _ _ _ h
 refine tL (tO (F.run X.A X.stack s H #[us,[]] (us ++ ds) (vs ++ dvs) Q E hr I.env0 (hb s us I.kIn hl) r2 h) λr s' hq=>?_)
 cases r with
 | error e=>exact hx AU σ H s e s' I hq
 | ok fl =>
  cases fl with
  | ret u=>exact I.after hq
  | next=>exact False.elim hq
  | brk=>exact False.elim hq
  | cont=>exact False.elim hq
def JW(F:FnOk X.prog X.w X.K X.mg X.base CX k f fd ps sp)(hr:Room k X.A)(hg:Gl X x)(hm:X.mg x=AQ (.ref f))(hk:aO X.K (.ref f)=AS)(hb:Binds X.K fd ps ds)(hd:Vals dvs ds)(hx:qv CX X E)(ha:PA X (e::es) t) (hdb:‹(x ==("__debug__" : sF))=AT›) (he:‹sq (e::es) X.env=(AT,eval e X.env)::sq es X.env›) (hpl:‹(sS pos (sq es X.env)).any (·.1)=AT›) :
  PE X (.Call (.Name x p) (e::es) [] pos) (uc sp dvs E t):=by intros Q I h;refine sU (ub I hg hm ?_ hdb);refine cj (h₀:=X.base) I.ok.mod.kin hk (thn (ha pos AU s σ H _ I h) λus s1=>el5 λvs H1 I1 r q=>#[I1.kIn,?_]) he hpl;exact Yx F hr hb hd hx I1 r q
def zcl(he:PE X o ta)(c:Cls X.K C)(hm:zeI X.K C m f)(F:FnOk X.prog X.w X.K X.mg X.base CX k f fd ps sp)(hr:Room k X.A)(hb:Binds X.K fd ps ds)(hd:Vals dvs ds)(hx:qv CX X E)(ha:PA X (e::es) t)(hst:‹sq (e::es) X.env=(AT,eval e X.env)::sq es X.env›)(hpl:‹(sS pos (sq es X.env)).any (·.1)=AT›)(ht:eval (.Call (.Attribute o m apos) (e::es) [] pos) X.env=(do
      let ov <- eval o X.env
      standAt apos.atName
      let (f,first) <- holding [ov] (getMethod ov m pl)
      callWith pos f first (sS pos (sq (e::es) X.env)) (sX pos (sN [] X.env))):=by rfl) :
    PE X (.Call (.Attribute o m apos) (e::es) [] pos) (Zf C m sp dvs E ta t):=by intros Q I h;refine cI (pl:=pl) (thn (he AU s σ H _ I h) λu s1=>el5 λx H1 I1 rx q_z=>?_) ht;let#[a,dx,fs,ex,ea,l,q]:=q_z;subst ex;obtain rfl:u=r8 a:=rx;refine wm I1 ea c hm l ?_;refine cj (first:=[.ref a]) (h₀:=X.base) I.ok.mod.kin hm.kp (thn (ha pos AU s1 σ H1 _ I1 q) λus s2=>el5 λvs H2 I2 r q2=>#[I2.kIn,?_]) hst hpl;exact Yx (us:=.ref a::us) (vs:=.ref a::vs) F hr hb hd hx I2 (.cons rfl r) q2
def zae(he:PE X o ta)(c:Cls X.K C)(hm:zeI X.K C m f)(F:FnOk X.prog X.w X.K X.mg X.base CX k f fd ps sp)(hr:Room k X.A)(hb:Binds X.K fd ps ds)(hd:Vals dvs ds)(hx:qv CX X E)(ht:eval (.Call (.Attribute o m apos) [] [] pos) X.env=(do
      let ov <- eval o X.env
      standAt apos.atName
      let (f,first) <- holding [ov] (getMethod ov m pl)
      callWith pos f first (sS pos (sq [] X.env)) (sX pos (sN [] X.env))):=by rfl) :
    PE X (.Call (.Attribute o m apos) [] [] pos) (Zf C m sp dvs E ta xv):=by intros Q I h;refine cI (pl:=pl) (thn (he AU s σ H _ I h) λu s1=>el5 λx H1 I1 rx q_z=>?_) ht;let#[a,dx,fs,ex,ea,l,q]:=q_z;subst ex;obtain rfl:u=r8 a:=rx;refine wm I1 ea c hm l ?_;exact gc (first:=[.ref a]) I1.kIn hm.kp (Yx (us:=[.ref a]) (vs:=[.ref a]) F hr hb hd hx I1 (.cons rfl .nil) q)
structure Mk(K:su)(C f:sv):Prop where
 makes:cT K C=AS
 init:ah K (.ref C) "__init__" = AQ (AQ (.ref f))
 fn:bc K (.ref f)=AS
 kp:aO K (.ref C)=AS
theorem K0(M:Mk X.K C f)(F:FnOk X.prog X.w X.K X.mg X.base CX k f fd ps sp)(hr:Room (k+1) X.A)(hb:Binds X.K fd ps ds)(hd:Vals dvs ds)(hx:qv CX X E)(I:Inv X AU σ H s)(r:Vals vs us)(h:∀x dx,H x=AR->H dx=AR->dx≠x->sp (.ref x::(vs ++ dvs)) (upd (upd H dx (.own x)) x (.ins C dx [])) (λv H2=>v=.non/\Q (.ref x) H2) E) :
  sC (model X.prog X.w) X.A (call (.ref C) us) (EP X AU σ Q) X.xe s:=by
 have hq:=h (s⁻¹+1) s⁻¹ (I.hok.fresh (cF _)) (I.hok.fresh (al _)) (ax (dL _));have I2:=Inv.made (C:=C) I;have r2:Vals (V.ref (s⁻¹+1)::(vs ++ dvs)) (r8 (s⁻¹+1)::(us ++ ds)):=.cons rfl (r.append hd)
 have hl:(r8 (s⁻¹+1)::us ++ ds).length=ps.length:=by
  have e:=r2.length;rw[F.len _ _ _ _ hq]at e;exact e.symm
 refine tL (K9 (f:=f) I.kIn M.makes M.init (beq_iff_eq.mp M.fn) (tO (F.run _ X.stack _ _ #[r8 (s⁻¹+1)::us,[]] (r8 (s⁻¹+1)::(us ++ ds)) _ _ E (hr.make C us [])
  (I2.env0.make C us []) (hb _ (r8 (s⁻¹+1)::us) I2.kIn hl) r2 hq) λr s' hq'=>?_))
 cases r with
 | error e=>exact hx AU σ _ _ e s' I2 hq'
 | ok fl =>
  cases fl with
  | ret u =>
   let#[v,H',I3,rv,ev,q3]:=I2.after hq';subst ev;exact#[rv,#[V.ref (s⁻¹+1),H',I3,rfl,q3]]
  | next=>exact False.elim hq'
  | brk=>exact False.elim hq'
  | cont=>exact False.elim hq'
def Ut(M:Mk X.K C f)(F:FnOk X.prog X.w X.K X.mg X.base CX k f fd ps sp)(hr:Room (k+1) X.A)(hg:Gl X x)(hm:X.mg x=AQ (.ref C))(hb:Binds X.K fd ps ds)(hd:Vals dvs ds)(hx:qv CX X E)(ha:PA X (e::es) t) (hdb:‹(x ==("__debug__" : sF))=AT›) (he:‹sq (e::es) X.env=(AT,eval e X.env)::sq es X.env›) (hpl:‹(sS pos (sq es X.env)).any (·.1)=AT›) :
  PE X (.Call (.Name x p) (e::es) [] pos) (U7 C sp dvs E t):=by intros Q I h;refine sU (ub I hg hm ?_ hdb);refine cj (h₀:=X.base) I.ok.mod.kin M.kp (thn (ha pos AU s σ H _ I h) λus s1=>el5 λvs H1 I1 r q=>#[I1.kIn,?_]) he hpl;exact K0 M F hr hb hd hx I1 r q
def PK(X:Cx)(kws:List Am)(t:TA):Prop :=
 ∀(pos:AL) (AU:List (sv × tP)) (s:sy) (σ:St) (H:Hp) (Q:List V->Hp->Prop),Inv X AU σ H s->t σ H Q->sC (model X.prog X.w) X.A (evalAll ((sX pos (sN kws X.env)).map (·.2))) (AP X AU σ Q) X.xe s
end
section
variable{X:Cx}{CX:CXT}{k:Nat}{f C:sv}{fd:tM}{ps ks:List sF}{sp:Sp}{E:XK}{x m:sF}{p pos apos kpos:AL}{e o:tH}{es:List tH}{kws:List Am}{te ta:TE}{t tk:TA}{nm:Option sF}
def zaQ:PK X [] xv:=λZ Z Z Z H Q I h=>wpAny_evalAll_nil #[[],H,I,.nil,h]
def Jp(ha:PE X e te)(hr:PK X kws t):PK X (#[nm,e,kpos]::kws) (zK te t):=by intro pos AU s σ H Q I h;show sC _ _ (evalAll ((do let v <- eval e X.env;standAt pos;pure v)::(sX pos (sN kws X.env)).map (·.2))) _ _ s;refine wpAny_evalAll_cons (sj (thn (ha AU s σ H _ I h) λu s1=>el5 λx H1 I1 r1 q1=>sj (tw (sk ?_))));exact thn (hr pos AU s1 σ H1 _ I1 q1) λus s2=>el5 λxs H2 I2 r2 q2=>#[x::xs,H2,I2,.cons r1 r2,q2]
variable{g:List sw->List sw->List sw}{gV:List V->List V->List V}
end
mutual section
structure zo(N P:List sF)(sc:tZ):Prop where
 kind:sc.kind=.function
 co:sc.isCoroutine=AT
 gen:sc.isGenerator=AT
 nd:N.Nodup
 pre:N.take P.length=P
 par:∀x ∈ P,sc.names.lookup x=AQ .local\/sc.names.lookup x=AQ .cell
 nofree:∀y ∈ sc.names,y.2≠.free
theorem Yk{kindOf:sF->Option tY}:∀{binds:List (sF × sw)} {m:sF->Option sw},(∀v,(x,v) ∉ binds)->bindL kindOf binds m x=m x
  | [],_,_=>rfl
  | (n,v)::r,m,h=>by
    unfold bindL;rw[Yk λw hw=>h w (ar _ hw)];split
    . have:x≠n:=by rintro rfl;exact h v aB
      simp [this]
    . rfl
theorem YY{kindOf:sF->Option tY}:∀{binds:List (sF × sw)} {m:sF->Option sw},(∀v,(x,v) ∉ binds)->bindC kindOf binds m x=m x
  | [],_,_=>rfl
  | (n,v)::r,m,h=>by
    unfold bindC;rw[YY λw hw=>h w (ar _ hw)];split
    . rfl
    . have:x≠n:=by rintro rfl;exact h v aB
      simp [this]
theorem Yj{kindOf:sF->Option tY}:∀{P:List sF} {vs:List sw} {i:Nat} {m:sF->Option sw},P.Nodup->P[i]? = AQ x->vs[i]? = AQ v->kindOf x=AQ .local ->
  bindL kindOf (P.zip vs) m x=AQ v
 | [],_,_,_,_,h,_,_=>by simp at h
 | _::_,[],_,_,_,_,h,_=>by simp at h
 | p::P,w::vs,0,m,nd,h1,h2,hk=>by
  simp at h1 h2;subst h1;subst h2;show bindL kindOf ((p,w)::P.zip vs) m p=_;unfold bindL;rw[Yk λv hv=>(Bh.mp nd).1 (dj hv).1,w6 hk];simp
 | p::P,w::vs,i+1,m,nd,h1,h2,hk=>by
  show bindL kindOf ((p,w)::P.zip vs) m x=_;unfold bindL;exact Yj (i:=i) (Bh.mp nd).2 ↥h1 ↥h2 hk
theorem YU{kindOf:sF->Option tY}:∀{P:List sF} {vs:List sw} {i:Nat} {m:sF->Option sw},P.Nodup->P[i]? = AQ x->vs[i]? = AQ v->kindOf x≠AQ .local ->
  bindC kindOf (P.zip vs) m x=AQ v
 | [],_,_,_,_,h,_,_=>by simp at h
 | _::_,[],_,_,_,_,h,_=>by simp at h
 | p::P,w::vs,0,m,nd,h1,h2,hk=>by
  simp at h1 h2;subst h1;subst h2;show bindC kindOf ((p,w)::P.zip vs) m p=_;unfold bindC;rw[YY λv hv=>(Bh.mp nd).1 (dj hv).1,w9 hk];simp
 | p::P,w::vs,i+1,m,nd,h1,h2,hk=>by
  show bindC kindOf ((p,w)::P.zip vs) m x=_;unfold bindC;exact YU (i:=i) (Bh.mp nd).2 ↥h1 ↥h2 hk
def start(N:List sF)(vs:List V):St:=vs.map AQ ++ aR (N.length - vs.length) AR
def ja(CX:CXT)(P:sH)(w:sM)(K:su)(mg:sF->Option sw)(base:sV)(N:List sF)(qual:sF)(scope:tZ)(f:sv)(cd:sw)(A:sZ)(outer:List AJ)(s:sy)(H:Hp)(E:XK):Cx where
 prog:=P
 w:=w
 K:=K
 mg:=mg
 base:=base
 A:=A.deeper (tR qual scope s⁻¹ f cd)
 N:=N
 s₀:=s
 H₀:=H
 env:=tR qual scope s⁻¹ f cd
 outer:=outer
 stack:=tR qual scope s⁻¹ f cd::outer
 ex:=[]
 calm:=AS
 fn:=λZ=>AS
 pn:=[]
 xe:=λe s'=>sC (model P w) (A.deeper (tR qual scope s⁻¹ f cd)) (leaving (tR qual scope s⁻¹ f cd) e) (λZ s''=>CX outer H s E e s'') (λe' s''=>CX outer H s E e' s'') s'
def WR{sc:tZ}(h:sc.names.lookup x=AQ .cell):∃c,(cellsFrom n sc.names []).lookup x=AQ c:=by have q:=fz sc.names n [] (.inl h);exact Bk.mp q
def QH{K:su}(S:zo N ps scope)(hd:A.handled=AR)(e0:Env0 P w K mg base A outer s H)(hl:vs.length=ps.length)(r:Vals vs us)(x:InCallC s s⁻¹ (bindL (tR qual scope s⁻¹ f cd).kindOf (ps.zip us) λZ=>AR) (cellsFrom (s⁻¹+1) scope.names []) (bindC (tR qual scope s⁻¹ f cd).kindOf (ps.zip us) λZ=>AR) s1) :
  Inv (ja CX P w K mg base N qual scope f cd A outer s H E) [] (start N vs) H s1:=by
 have hpl:ps.length<=N.length:=by have:=congrArg cG S.pre;rw[aC]at this;lia
 let#[h1,tk,rfl,hk]:=x.done;have noA:∀b:sv,b ∉ (ja CX P w K mg base N qual scope f cd A outer s H E).ex:=λb z=>w4 (show b ∈ ([]:List sv)from z) (by simp)
 refine#[#[e0.mod,S.kind,rfl,rfl,al _,λy z c h1 h2=>?_,λy hy=>?_,λy c Z h=>?_,λZ=>hd,Around.frames_deeper e0.frames,.inr #[rfl,rfl],λb z=>w4 z (noA b),e0.bs,e0.bsz,λb Z Z=>noA b,λb z=>w4 z (noA b),e0.funs,e0.frf],
  rfl,e0.bare,Un.kept hk,#[_,x.toInCall.ns,λi y v h1 h2 h3=>?_],λy c h=>#[_,x.cell y c h],e0.hok.fresh (al _),λy c h=>?_,λp hp=>w4 (show p ∈ ([]:List (sv × tP))from hp) (by simp),e0.hok.kept hk,?_]
 ·exact name_of_addr x.apart (cb h1) (cb h2)
 ·have hy:scope.names.lookup y=AQ .cell\/scope.names.lookup y=AQ .free:=hy;rcases hy with hy | hy
  ·exact WR hy
  ·exact w4 rfl (S.nofree _ (cb hy))
 ·exact dn (x.above y c (cb h))
 ·have hi:i<vs.length:=by
   unfold start at h2;by_cases hi:i<vs.length
   ·exact hi
   ·rw[bF ↥hi]at h2;rw[fk]at h2;split at h2 <;> cases h2
  have ha:vs[i]? = AQ v:=by
   unfold start at h2;rw[bU ↥hi,aq]at h2
   cases e:vs[i]? with
   | none=>rw[e]at h2;cases h2
   | some a=>rw[e]at h2;cases h2;rfl
  let#[u,hu,rv]:=r.get ha
  have hp:ps[i]? = AQ y:=by
   rw[<- S.pre,cN ⋯];exact h1
  have ndP:ps.Nodup:=by rw[<- S.pre];exact S.nd.sublist (List.take_sublist _ _)
  refine#[u,rv,?_];rcases S.par y (ac hp)with k | k
  ·exact .inl #[k,Yj ndP hp hu k]
  ·let#[c,e]:=WR (n:=s⁻¹+1) k;refine .inr #[.inl k,c,e,?_];have q:=x.cell y c e;rw[YU ndP hp hu (by show scope.names.lookup y≠_;rw[k];decide)]at q;exact q
 ·exact e0.hok.fresh (dn (x.above y c (cb h)))
 ·unfold start;show _=N.length;rw[aj,aa,bM];lia
theorem Kn{K:su}{dV kV doc pm cdv ct oc:sw}(lk:K.lookup f=AQ #[oc,od,.func (bC name qual params body scope dV kV doc pm an cdv ct),osl])(hcd:bZ K cdv qual=AS)(S:zo N ps scope)(len:∀vs H Q E,sp vs H Q E->vs.length=ps.length)(hbody:∀(A:sZ) (outer:List AJ) (s:sy) (H:Hp) (vs:List V) (Q:VK) (E:XK),Room k (A.deeper (tR qual scope s⁻¹ f cdv))->sp vs H Q E ->
   ∃t,PSs (ja CX P w K mg base N qual scope f cdv A outer s H E) body t/\t { nx:=λZ H'=>Q .non H',rt:=Q } (start N vs) H) :
  FnOk P w K mg base CX (k+1) f (bC name qual params body scope dV kV doc pm an cdv ct) ps sp:=by
 refine#[len,λA outer s H args us vs Q E hr e0 hb r hsp=>?_];have hl:=len _ _ _ _ hsp;have KX:K.In s.heap:=e0.mod.kin.keeps λb o e=>(e0.bs b o e).1;have lim:s.heap.NoLimit:=e0.mod.nolimit.keeps λb o e=>(e0.bs b o e).1
 have hkind:∀y ∈ ps.zip us,scope.names.lookup y.1=AQ .local\/(scope.names.lookup y.1=AQ .cell/\((cellsFrom (s⁻¹+1) scope.names []).lookup y.1).isSome=AS):=λ⟨n,v⟩ hy=>by
  rcases S.par n (dj hy).1 with q | q
  ·exact .inl q
  ·exact .inr #[q,fz _ _ _ (.inl q)]
 refine codeAny_call_function hr.depth (KX _ _ lk) rfl S.co S.gen rfl (PySem.W.codeRec_of KX hcd) (hb _ _ _ _ ?_);refine wpAny_newFunctionEnv_cells S.kind hkind λenv he s1 x=>?_;subst he;refine#[lim.keeps x.toInCall.keep,codeAny_func ?_];let#[t,ht,hq]:=hbody A outer s H vs Q E (hr.deeper _) hsp;have I:Inv (ja CX P w K mg base N qual scope f cdv A outer s H E) [] (start N vs) H s1:=QH S hr.hd e0 hl r x;refine tE (ht [] s1 (start N vs) H _ I hq) (λfl s' hs=>?_) λe s' hs=>hs
 have fin:∀{σ':St} {H':Hp} {v:V} {u:sw},Inv (ja CX P w K mg base N qual scope f cdv A outer s H E) [] σ' H' s'->RelV v u->Q v H'->CE outer P w H s Q u s' :=
  λ{σ' H' v u} J rv q=>#[v,H',J.os,J.bare,J.base,J.hok,rv,q]
 cases fl with
 | ret u =>
  let#[v,σ',H',J,rv,q]:=hs;exact fin J rv q
 | next =>
  let#[σ',H',J,q]:=hs;exact fin (v:=V.non) (u:=p9) J rfl q
 | brk =>
  let#[_,_,_,q]:=hs;exact False.elim q
 | cont =>
  let#[_,_,_,q]:=hs;exact False.elim q
def tCB(r:List V->Hp->VK->Prop)(t:TA):TE:=λσ H Q=>t σ H λvs H1=>r vs H1 Q
def yP{X:Cx}{x:sF}{p:AL}{pos:AL}{e:tH}{es:List tH}{t:TA}{id:String}{r:List V->Hp->VK->Prop}(hc:w8 X (.builtin id) r)(hg:Gl X x)(hm:X.mg x=AR)(hv:sW x=AQ (.builtin id))(ha:PA X (e::es) t)(hn:‹x≠"__name__"›)(hdb:‹(x ==("__debug__" : sF))=AT›)(he:‹sq (e::es) X.env=(AT,eval e X.env)::sq es X.env›) (hpl:‹(sS pos (sq es X.env)).any (·.1)=AT›):PE X (.Call (.Name x p) (e::es) [] pos) (tCB r t):=by intros Q I h;refine sU (vQ I hg hm hv ?_ hn hdb);exact PyProof.Rows.callWith_builtin1 (thn (ha pos AU s σ H _ I h) λus s1=>el5 λvs H1 I1 r1 q1=>hc AU s1 σ H1 vs us Q I1 r1 q1) he hpl
def vh(hc:w8 X (.type T) r)(hg:Gl X x)(hm:X.mg x=AR)(hv:sW x=AQ (.type T))(ha:PA X (e::es) t)(hn:‹x≠"__name__"›)(hdb:‹(x ==("__debug__" : sF))=AT›)(he:‹sq (e::es) X.env=(AT,eval e X.env)::sq es X.env›) (hpl:‹(sS pos (sq es X.env)).any (·.1)=AT›):PE X (.Call (.Name x p) (e::es) [] pos) (tCB r t):=by intros Q I h;refine sU (vQ I hg hm hv ?_ hn hdb);exact bN (thn (ha pos AU s σ H _ I h) λus s1=>el5 λvs H1 I1 r1 q1=>hc AU s1 σ H1 vs us Q I1 r1 q1) he hpl
end
end L2
namespace HT
open PySem PyProof.Rows
section
open PySem.SeqAt
open PySem.AutoSeq1 (wpAny_loadPart')
open PySem.MeetsSeq PySem.MeetsSeq2 PySem.MeetsSeq3
end
end in def sIx(n d:Nat):Option Int->Nat
 | none=>d
 | some v=>if v<0 then (v+(n:Int)).toNat else min v.toNat n
def sIx_none(n d:Nat):sIx n d AR=d:=rfl
def sIx_nat(n d k:Nat):sIx n d (AQ (k:Int))=min k n:=by show (if (k:Int)<0 then ((k:Int)+(n:Int)).toNat else min (k:Int).toNat n)=min k n;rw[w9 ⋯,aA]
theorem sIx_le(n d:Nat)(hd:d<=n)(o:Option Int):sIx n d o<=n:=by
 cases o with
 | none=>exact hd
 | some v =>
  show (if v<0 then (v+(n:Int)).toNat else min v.toNat n)<=n;by_cases hv:v<0
  ·rw[w6 hv];lia
  ·rw[w9 hv];exact Nat.min_le_right _ _
end HT
namespace L2
end in abbrev TO:=St->Hp->(Option Int->Hp->Prop)->Prop
def PO(X:Cx)(e:Option tH)(t:TO):Prop :=
 ∀(AU:List (sv × tP)) (s:sy) (σ:St) (H:Hp) (Q:Option Int->Hp->Prop),Inv X AU σ H s->t σ H Q ->
  sC (model X.prog X.w) X.A (evalPart e X.env) (λu s'=>∃o H',Inv X AU σ H' s'/\IsPart u o/\Q o H') X.xe s
def ZG:TO:=λZ H Q=>Q AR H
def YV(t:TE):TO:=λσ H Q=>t σ H λx H1=>onInt x λi=>Q (AQ i) H1
section
variable{X:Cx}{e:tH}{te:TE}{lo hi:Option tH}{tl th:TO}{pos p2:AL}
def yo:PO X AR ZG:=by intros Q I h;rw[evalPart_none];exact sk #[AR,H,I,.none,h]
def zO(h:PE X e te):PO X (AQ e) (YV te):=by intros Q I hw;rw[evalPart_some];refine thn (h AU s σ H _ I hw) λu s1=>el5 λx H1 I1 r1 q1=>?_;let#[i,rfl,q]:=onInt.of q1;let#[t,rfl]:=r1;exact#[AQ i,H1,I1,.int i t,q]
def SlR(X:Cx)(r:V->Option Int->Option Int->Hp->VK->Prop):Prop :=
 ∀(AU:List (sv × tP)) (s:sy) (σ:St) (H:Hp) (x:V) (v vl vu:sw) (lo hi:Option Int) (sl:sv) (Q:VK),Inv X AU σ H s->RelV x v->s.heap.IsSliceOf sl vl vu .none->IsPart vl lo->IsPart vu hi->r x lo hi H Q ->
  ∃T id,typeLookup (.type T) "__getitem__" = pure (AQ (.builtin id))/\s.TypeIs v T/\sC (model X.prog X.w) X.A (getItem v (.ref sl)) (EP X AU σ Q) X.xe s
def tSl(r:V->Option Int->Option Int->Hp->VK->Prop)(te:TE)(tl th:TO):TE:=λσ H Q=>te σ H λx H1=>tl σ H1 λl H2=>th σ H2 λu H3=>r x l u H3 Q
def zP(hr:SlR X r)(he:PE X e te)(hl:PO X lo tl)(hu:PO X hi th):PE X (.Subscript e (.Slice lo hi AR p2) pos) (tSl r te tl th):=by intros Q I h;refine AI (thn (he AU s σ H _ I h) λv s1=>el5 λx H1 I1 r1 q1=>?_);refine wpAny_Slice (thn (hl AU s1 σ H1 _ I1 q1) λvl s2=>el5 λl H2 I2 pl q2=>thn (hu AU s2 σ H2 _ I2 q2) λvu s3=>el5 λu H3 I3 pu q3=>?_);rw[evalPart_none];refine sk ?_;have I4:Inv X AU σ H3 { s3 with heap:=s3.heap.push { cls:=.type "slice",data:=.fields (r9 [vl,vu,.none]) } }:=I3.kept (t':=s3.toks) λb ob q=>ag _ q;let#[T,id,hT,ht,hg]:=hr AU { s3 with heap:=s3.heap.push { cls:=.type "slice",data:=.fields (r9 [vl,vu,.none]) } } σ H3 x v vl vu l u s3⁻¹ Q I4 r1 (Heap.IsSliceOf.new ..) pl pu q3;show sC (model X.prog X.w) X.A (Ap e (.Slice lo hi AR p2) v (.ref s3⁻¹)) (EP X AU σ Q) X.xe { s3 with heap:=s3.heap.push { cls:=.type "slice",data:=.fields (r9 [vl,vu,.none]) } };exact tail_any (ops:=[.ref s3⁻¹,v]) ht hT hg (by with_unfolding_all rfl)
end in def Ul(xs:List V)(lo hi:Option Int):List V:=(xs.drop (HT.sIx xs.length 0 lo)).take (HT.sIx xs.length xs.length hi - HT.sIx xs.length 0 lo)
theorem Xs(xs:List V)(lo hi:Option Int):(Ul xs lo hi).length<=xs.length:=by unfold Ul;rw[aC,aS];lia
end
end in def ixN(n:Nat)(i:Int):Option Nat:=if 0<=i then (if i<n then AQ i.toNat else AR)else if -(n:Int)<=i then AQ (i+n).toNat else AR
end in def atI{α:Type}(xs:List α)(i:Int):Option α:=(ixN xs.length i).bind λj=>xs[j]?
def Uz(h:ixN n i=AQ j):seqIndex? i n=AQ j/\j<n/\-(n:Int)<=i/\i<n:=by
 unfold ixN at h;by_cases h0:0<=i
 ·rw[w6 h0]at h;by_cases h1:i<n
  ·rw[w6 h1]at h;have e:i.toNat=j:=Option.some.inj h;exact#[by rw[seqIndex_of h0 h1,e],⋯,⋯,h1]
  ·rw[w9 h1]at h;cases h
 ·rw[w9 h0]at h;by_cases h1:-(n:Int)<=i
  ·rw[w6 h1]at h;have e:(i+n).toNat=j:=Option.some.inj h;exact#[by rw[seqIndex_neg ⋯ h1,e],⋯,h1,⋯]
  ·rw[w9 h1]at h;cases h
theorem Zd(h:atI xs i=AQ v):∃j,seqIndex? i xs.length=AQ j/\xs[j]? = AQ v/\j<xs.length/\-(xs.length:Int)<=i/\i<xs.length:=by
 unfold atI at h
 cases e:ixN xs.length i with
 | none=>rw[e]at h;cases h
 | some j =>
  rw[e]at h;let#[h1,h2,h3,h4]:=Uz e;exact#[j,h1,h,h2,h3,h4]
def vf{xs:List α}{j:Nat}{v:α}(h:xs[j]? = AQ v):atI xs (j:Int)=AQ v:=by
 have hj:j<xs.length:=(AX.mp h).1
 have e:ixN xs.length (j:Int)=AQ j:=by
  unfold ixN;rw[w6 ⋯,w6 ⋯];simp
 unfold atI;rw[e];exact h
def Qg(b:tH):Prop:=∀o i,subscripted b AT o i=operate [o,i] (getItem o i)
def IxR(X:Cx)(r:R2):Prop :=
 ∀(value slice:tH) (AU:List (sv × tP)) (s:sy) (σ:St) (H:Hp) (x y:V) (v u:sw) (Q:VK),Inv X AU σ H s->RelV x v->RelV y u->r x y H Q ->
  subscripted slice AT v u=operate [v,u] (getItem v u)->sC (model X.prog X.w) X.A (Ap value slice v u) (EP X AU σ Q) X.xe s
def MtR(X:Cx)(id:String)(r:V->List V->Hp->VK->Prop):Prop :=
 ∀(AU:List (sv × tP)) (s:sy) (σ:St) (H:Hp) (x:V) (xs:List V) (v:sw) (us:List sw) (Q:VK),Inv X AU σ H s->RelV x v->Vals xs us->r x xs H Q ->
  sC (model X.prog X.w) X.A (call (.builtin id) (v::us)) (EP X AU σ Q) X.xe s
section
mutual section
variable{X:Cx}{a b:tH}{ta tb:TE}{pos:AL}
def IxR.or(h:IxR X r)(h':IxR X r'):IxR X (λx y H Q=>r x y H Q\/r' x y H Q):=by
 intro value slice AU s σ H x y v u Q I rx ry q hs;rcases q with q | q
 ·exact h value slice AU s σ H x y v u Q I rx ry q hs
 ·exact h' value slice AU s σ H x y v u Q I rx ry q hs
def zgh(hr:IxR X r)(ha:PE X a ta)(hb:PE X b tb)(hs:Qg b):PE X (.Subscript a b pos) (tOp r ta tb):=by intros Q I h;exact AI (zfE ha hb I h λv u s2 x y H2 I2 rx ry q=>hr a b AU s2 σ H2 x y v u Q I2 rx ry q (hs _ _))
def zdC(K:su):R2:=λx y H Q=>onRef x λp=>onInt y λi=>∃xs,SqL K H p xs/\∃v,atI xs i=AQ v/\Q v H
def ut(K:su):R2:=λx y H Q=>onRef x λp=>onInt y λi=>∃xs,SqT K H p xs/\∃v,atI xs i=AQ v/\Q v H
def za0:R2:=λx y H Q=>onStr x λz=>onInt y λi=>z.length<=sr/\∃c,atI z.cps.toList i=AQ c/\Q (.str ⟨#[c]⟩) H
theorem ix_list:IxR X (zdC X.K):=by
 intro value slice AU s σ H x y v u Q I rx ry h hs;let#[p,rfl,h2]:=onRef.of h;let#[i,rfl,xs,hq,z,he,q]:=onInt.of h2;cases rx;let#[t,rfl]:=ry;let#[its,r,pl,hz]:=I.list hq;let#[j,h1,h2,h3,h4,h5]:=Zd he;let#[w,ew,rw']:=r.get h2;have hl:=r.length;have hn:=kW;have fin:EP X AU σ Q w s:=#[z,H,I,rw',q];by_cases h0:0<=i
 ·have hj:i.toNat=j:=by
   rw[seqIndex_of h0 h5]at h1;exact Option.some.inj h1
  exact item_listR pl.isList h0 ⋯ (by rw[hj];simpa using ew) fin hs
 ·have hj:(i+(its.toArray.size:Int)).toNat=j:=by
   rw[seqIndex_neg ⋯ h4]at h1;rw[ak,<- hl];exact Option.some.inj h1
  exact Af (x:=w) pl.isList.typeIs slot_list_getitem.lookup
   (wpAny_getItem_list_neg (Q:=λr s'=>r=w/\EP X AU σ Q r s') pl.isList ⋯ (by rw[ak] <;> lia) ⋯ (by rw[hj];simpa using ew) #[rfl,fin]) hs
theorem t7:IxR X (ut X.K):=by
 intro value slice AU s σ H x y v u Q I rx ry h hs;let#[p,rfl,h2]:=onRef.of h;let#[i,rfl,xs,hq,z,he,q]:=onInt.of h2;cases rx;let#[t,rfl]:=ry;let#[its,r,pl,hz]:=I.tuple hq;let#[j,h1,h2,h3,h4,h5]:=Zd he;let#[w,ew,rw']:=r.get h2;have hl:=r.length;have hn:=kW;have fin:EP X AU σ Q w s:=#[z,H,I,rw',q]
 exact Af (x:=w) pl.typeIs slot_tuple_getitem.lookup
  (getItem_tuple (j:=j) (Q:=λr s'=>r=w/\EP X AU σ Q r s') pl ⋯ ⋯ (by rw[ak,<- hl];exact h1) ↥ew #[rfl,fin]) hs
theorem YS:IxR X za0:=by
 intro value slice AU s σ H x y v u Q I rx ry h hs;let#[z,rfl,h2]:=onStr.of h;let#[i,rfl,hz,c,he,q]:=onInt.of h2;let#[t,rfl]:=rx;let#[t',rfl]:=ry;let#[j,h1,h2,h3,h4,h5]:=Zd he;have hl:z.cps.toList.length=z.length:=by simp [Str.length]
 rw[hl]at h1 h4 h5;have hn:=kW
 exact tail_any (typeIs_str s z t) slot_str_getitem.lookup (getItem_str (c:=c) (by
  have e1:decide (i < -(2 ^ 63:Int))=AT:=u9 ⋯;have e2:decide (i ≥ 2 ^ 63)=AT:=u9 ⋯
  rw[e1,e2,Bool.or_false]) (by rw[h1];simpa using h2) #[.str ⟨#[c]⟩,H,I.tok _,#[_,rfl],q]) hs
def rIx(K:su):R2:=λx y H Q=>match x with | .ref p=>onInt y λi=>(∃xs,SqL K H p xs/\∃v,atI xs i=AQ v/\Q v H)\/∃xs,SqT K H p xs/\∃v,atI xs i=AQ v/\Q v H | .str z=>za0 (.str z) y H Q | _=>False
def rIx.of{K:su}(h:rIx K x y H Q):zdC K x y H Q\/ut K x y H Q\/za0 x y H Q:=by unfold rIx at h;cases x <;> first | exact .inr (.inr h) | (let#[i,rfl,h]:=onInt.of h;exact h.elim .inl λh=>.inr (.inl h)) | exact h.elim
def zaW:IxR X (rIx X.K):=λa b AU s σ H x y v u Q I rx ry h hs=>(ix_list.or (t7.or YS)) a b AU s σ H x y v u Q I rx ry h.of hs
def Ud(its:List sw)(n j:Nat)(u:sw):Obj.mapSeq (·.setIfInBounds j u) { cls:=.type "list",data:=.seq its.toArray n }={ cls:=.type "list",data:=.seq (its.set j u).toArray n }:=by simp [Obj.mapSeq]
def Inv.lst{AU:List (sv × tP)}{σ:St}{H:Hp}{s:sy}{p:sv}{xs:List V}(I:Inv X AU σ H s)(h:H p=AQ (.lst xs)) :
  ∃(its:List sw) (n:Nat),Vals xs its/\s.heap.get? p=AQ { cls:=.type "list",data:=.seq its.toArray n }/\xs.length<=sr:=by let#[z,its,n,r,e]:=I.hok p _ h;exact#[its,n,r,e,z]
def Inv.lstUpd{its its':List sw}(I:Inv X AU σ H s)(h:H p=AQ (.lst xs))(ho:s.heap.get? p=AQ { cls:=.type "list",data:=.seq its.toArray n })(hf:f { cls:=.type "list",data:=.seq its.toArray n }={ cls:=.type "list",data:=.seq its'.toArray n' })(r:Vals ys its')(hz:ys.length<=sr)(t:Nat) :
  Inv X AU σ (upd H p (.lst ys)) { s with heap:=s.heap.update p f,toks:=t }:=by
 have e:(s.heap.update p f).get? p=AQ { cls:=.type "list",data:=.seq its'.toArray n' }:=by
  rw[cp f ho (by rw[hf] <;> rfl),hf]
 refine I.write (x:=p) (e:=p) (by rw[h];trivial) (.inl rfl) (λb u hb q=>(az _ _ (Ne.symm hb)).trans q) #[_,e] ?_;exact#[hz,its',n',r,e]
def zgf:V->V->V->Hp->(Hp->Prop)->Prop:=λo i v H Q=>∃p xs k j,o=.ref p/\i=.int k/\H p=AQ (.lst xs)/\ixN xs.length k=AQ j/\Q (upd H p (.lst (xs.set j v)))
theorem Vf:zfH X zgf:=by
 intros o i v ov iv u Q I ro ri rv h;let#[p,xs,k,j,rfl,rfl,hp,hj,q]:=h;cases ro;let#[t,rfl]:=ri;let#[its,n,r,ho,hz]:=I.lst hp;let#[h1,h2,h3,h4]:=Uz hj;have hl:=r.length;have hn:=kW
 have I':Inv X AU σ (upd H p (.lst (xs.set j v))) { s with heap:=s.heap.update p (Obj.mapSeq (·.setIfInBounds j u)) } :=
  I.lstUpd hp ho (Ud its n j u) (r.set rv j) (by rw[List.length_set];exact hz) s.toks
 by_cases h0:0<=k
 ·have hk:k.toNat=j:=by
   rw[seqIndex_of h0 h4]at h1;exact Option.some.inj h1
  exact PySem.W.ki_setAt ho h0 ⋯ (by rw[ak,<- hl];exact h4) (by rw[hk];exact#[_,I',q])
 ·have hk:(k+(its.toArray.size:Int)).toNat=j:=by
   rw[seqIndex_neg ⋯ h3]at h1;rw[ak,<- hl];exact Option.some.inj h1
  exact PySem.W.ki_setBack ho ⋯ (by rw[ak,<- hl];exact h3) ⋯ (by rw[hk];exact#[_,I',q])
theorem YJ(lo hi:Option Int)(n:Nat):(sliceBounds lo hi AR n).1=((HT.sIx n 0 lo:Nat):Int)/\(sliceBounds lo hi AR n).2.1=((HT.sIx n n hi:Nat):Int)/\(sliceBounds lo hi AR n).2.2=1:=by
 refine#[?_,?_,rfl]
 ·cases lo with
  | none=>simp [sliceBounds,HT.sIx]
  | some i =>
   erw[sliceBounds,HT.sIx,gu,show (1:Int) > 0 by decide,if_true]
   by_cases h:i<0
   ·erw[h,if_true] <;> lia
   ·erw[h,if_false] <;> lia
 ·cases hi with
  | none=>simp [sliceBounds,HT.sIx]
  | some i =>
   erw[sliceBounds,HT.sIx,gu,show (1:Int) > 0 by decide,if_true]
   by_cases h:i<0
   ·erw[h,if_true] <;> lia
   ·erw[h,if_false] <;> lia
def Zy(its:List sw)(lo hi:Option Int):slicePick its.toArray lo hi AR=((its.drop (HT.sIx its.length 0 lo)).take (HT.sIx its.length its.length hi - HT.sIx its.length 0 lo)).toArray:=by
 let#[h1,h2,h3]:=YJ lo hi its.toArray.size;unfold slicePick;rw[h1,h2,h3]
 erw[sliceRange_one,pick_run,ak] <;> rfl
def zeB(K:su):V->Option Int->Option Int->Hp->VK->Prop:=λx lo hi H Q=>onRef x λa=>∃xs,SqL K H a xs/\∀p,H p=AR->Q (.ref p) (upd H p (.lst (Ul xs lo hi)))
theorem jZ:SlR X (zeB X.K):=by intros x v vl vu lo hi sl Q I rx hs pl pu h;let#[a,rfl,xs,hx,q]:=onRef.of h;cases rx;let#[its,r,ht,hz]:=I.list hx;have hlen:=r.length;refine#["list",_,slot_list_getitem.lookup,ht.isList.typeIs,?_];refine wpAny_getItem_list_slice ht.isList hs pl pu .none (by simp) ?_ (by rw[ak] <;> lia);rw[Zy,<- hlen];refine#[.ref s⁻¹,_,I.laid (t':=s.toks) (o:=.lst (Ul xs lo hi)) (λb ob q=>ag _ q) (al _) ?_,rfl,q _ (I.hok.fresh (al _))];exact#[aP (Xs xs lo hi) hz,_,0,(r.drop (HT.sIx xs.length 0 lo)).take (HT.sIx xs.length xs.length hi - HT.sIx xs.length 0 lo),aE _ rfl]
def zdZ:V->Bool
 | .non=>AS
 | .bl _=>AS
 | .int _=>AS
 | .str _=>AS
 | _=>AT
def eqV:V->V->Bool
 | .non,.non=>AS
 | .bl a,.bl b=>a == b
 | .bl a,.int b=>(if a then 1 else 0) == b
 | .int a,.bl b=>a ==(if b then 1 else 0)
 | .int a,.int b=>a == b
 | .str a,.str b=>a == b
 | _,_=>AT
theorem Vg(ry:RelV y u)(rx:RelV x v)(fy:zdZ y=AS)(fx:zdZ x=AS):SeqAt.EqAt A s u v (eqV y x):=by
 cases y with
 | non =>
  cases ry
  cases x with
  | non=>cases rx;exact SeqAt.EqAt.same _
  | bl b=>cases rx;exact SeqAt.EqAt.none_bool b
  | int b=>let#[t,rfl]:=rx;exact SeqAt.EqAt.none_int b t
  | str b=>let#[t,rfl]:=rx;exact SeqAt.EqAt.none_str b t
  | _=>exact w4 (show AT=AS from fx) aD
 | bl a =>
  cases ry
  cases x with
  | non=>cases rx;exact SeqAt.EqAt.bool_none a
  | bl b=>cases rx;exact SeqAt.EqAt.bool_bool a b
  | int b=>let#[t,rfl]:=rx;exact SeqAt.EqAt.bool_int a b t
  | str b=>let#[t,rfl]:=rx;exact SeqAt.EqAt.bool_str a b t
  | _=>exact w4 (show AT=AS from fx) aD
 | int a =>
  let#[t',rfl]:=ry
  cases x with
  | non=>cases rx;exact SeqAt.EqAt.int_none a t'
  | bl b=>cases rx;exact SeqAt.EqAt.int_bool a t' b
  | int b=>let#[t,rfl]:=rx;exact SeqAt.EqAt.int_int a t' b t
  | str b=>let#[t,rfl]:=rx;exact SeqAt.EqAt.int_str a t' b t
  | _=>exact w4 (show AT=AS from fx) aD
 | str a =>
  let#[t',rfl]:=ry
  cases x with
  | non=>cases rx;exact SeqAt.EqAt.str_none a t'
  | bl b=>cases rx;exact SeqAt.EqAt.str_bool a t' b
  | int b=>let#[t,rfl]:=rx;exact SeqAt.EqAt.str_int a t' b t
  | str b=>let#[t,rfl]:=rx;exact SeqAt.EqAt.str_str a t' b t
  | _=>exact w4 (show AT=AS from fx) aD
 | _=>exact w4 (show AT=AS from fy) aD
theorem xF:w8 X (.type "list") (λxs H Q=>∃p ys,xs=[.ref p]/\(SqL X.K H p ys\/SqT X.K H p ys)/\∀l,H l=AR->Q (.ref l) (upd H l (.lst ys))):=by
 intros xs us Q I r h;let#[p,ys,rfl,hq,q]:=h;let#[u,rfl,rx]:=wK r;cases rx
 have fin:∀(its:List sw),Vals ys its->ys.length<=sr->∀(h':sV) (c':Nat),(∀b o',s.heap.get? b=AQ o'->h'.get? b=AQ o') ->
   h'.get? s⁻¹=AQ { cls:=.type "list",dict:=AR,data:=.seq its.toArray c',slots:=#[] }->EP X AU σ Q (.ref s⁻¹) { s with heap:=h' }:=λits r' hz h' c' kp e =>
  #[.ref s⁻¹,_,I.laid (t':=s.toks) kp (al _) (show ObjOk X.prog X.w _ h' _ (.lst ys)from #[hz,its,c',r',e]),rfl,q _ (I.hok.fresh (al _))]
 rcases hq with hq | hq
 ·let#[its,r',pl,hz]:=I.list hq;have hlen:=r'.length;let#[o,ho,hc,n,hd]:=pl.isList;exact call_list_seq p (.inl rfl) ho hc hd (λh' c' kp e=>fin its r' hz h' c' kp e) (by erw[ak] <;> lia)
 ·let#[its,r',pl,hz]:=I.tuple hq;have hlen:=r'.length;let#[o,ho,hc,n,hd]:=pl;exact call_list_seq p (.inr rfl) ho hc hd (λh' c' kp e=>fin its r' hz h' c' kp e) (by erw[ak] <;> lia)
def tyV(K:su)(T:String)(x:V)(H:Hp):Prop:=match x with
 | .str _=>T="str"
 | .int _=>T="int"
 | .ref p=>(T="list"/\∃xs,SqL K H p xs)\/(T="tuple"/\∃o,K.lookup p=AQ o/\o.cls=.type "tuple"/\o.dict=AR) \/
   (T="dict"/\((∃kvs,H p=AQ (.dK kvs))\/∃kvs,H p=AQ (.dT kvs)))\/(T="set"/\∃S n,H p=AQ (.set S n))
 | _=>False
theorem zbl(I:Inv X AU σ H s)(r:RelV x v)(ty:tyV X.K T x H) :
  s.TypeIs v T/\∀a,v=.ref a->∃ob,s.heap.get? a=AQ ob/\ob.dict=AR:=by
 cases x with
 | str z =>
  let#[t,rfl]:=r;cases (show T="str" from ty);exact#[typeIs_str s z t,λZ e=>nomatch e]
 | int i =>
  let#[t,rfl]:=r;cases (show T="int" from ty);exact#[typeIs_int s i t,λZ e=>nomatch e]
 | ref p =>
  cases r;rcases ty with ⟨rfl,xs,hq⟩ | ⟨rfl,o,hk,hc,hd⟩ | ⟨rfl,hk⟩ | ⟨rfl,S,n,hk⟩
  ·let#[its,_,pl,_]:=I.list hq;refine#[pl.isList.typeIs,λa e=>?_];cases e;let#[o,n,e,c,hd,_]:=pl;exact#[o,e,hd]
  ·refine#[#[o,I.kIn p o hk,hc],λa e=>?_];cases e;exact#[o,I.kIn _ o hk,hd]
  ·have z:∃o,s.heap.get? p=AQ o/\o.ExactDict:=by
    rcases hk with ⟨kvs,hk⟩ | ⟨kvs,hk⟩
    ·let#[_,_,_,_,o,_,_,e,ex,_]:=I.hok p _ hk;exact#[o,e,ex]
    ·let#[_,_,_,_,o,_,_,e,ex,_]:=I.hok p _ hk;exact#[o,e,ex]
   let#[o,e,ex]:=z;refine#[#[o,e,ex.1],λa e2=>?_];cases e2;exact#[o,e,ex.2.1]
  ·let#[o,_,_,_,e,ex,_]:=I.hok p _ hk;refine#[#[o,e,ex.1],λa e2=>?_];cases e2;exact#[o,e,ex.2.1]
 | _=>exact False.elim ty
def zfb(K:su)(T:String)(r:V->List V->Hp->VK->Prop)(to:TE):TE:=λσ H Q=>to σ H λx H1=>tyV K T x H1/\r x [] H1 Q
def tBM(K:su)(T:String)(r:V->List V->Hp->VK->Prop)(to:TE)(t:TA):TE:=λσ H Q=>to σ H λx H1=>tyV K T x H1/\t σ H1 λxs H2=>r x xs H2 Q
variable{o e:tH}{es:List tH}{to:TE}{t:TA}{name:sF}{apos cpos:AL}{T id:String}{r:V->List V->Hp->VK->Prop}
def zdo(pa:PlainAttrs T)(slot:Slot T name id)(hty:typeOf (.builtin id)=pure (.type "method_descriptor"))(hm:MtR X id r)(ho:PE X o to)(hbase:‹attributeBase o name X.env (eval o X.env)=eval o X.env›) (hline:‹(apos.endLine == cpos.line)=AS›):PE X (.Call (.Attribute o name apos) [] [] cpos) (zfb X.K T r to):=by intros Q I h;refine wpAny_Call_method0_late hbase hline (thn (ho AU s σ H _ I h) λv s1=>el5 λx H1 I1 r1=>ua2 λty q1=>?_);let#[h1,h2]:=zbl I1 r1 ty;exact#[T,id,pa,slot,hty,h1,h2,Calls.callWith_builtin rfl (PySem.evalArgs_none (hm AU s1 σ H1 x [] v [] Q I1 r1 .nil q1))]
def wl(pa:PlainAttrs T)(slot:Slot T name id)(hty:typeOf (.builtin id)=pure (.type "method_descriptor"))(hm:MtR X id r)(ho:PE X o to)(ha:PA X (e::es) t)(hbase:‹attributeBase o name X.env (eval o X.env)=eval o X.env›)(hfew:((sS cpos (sq (e::es) X.env)).all (λx=>!x.1) && (sX cpos (sN [] X.env)).all (λx=>x.1.isSome)
   && decide ((e::es).length+([]:List Am).length+(if ([]:List Am).isEmpty then 0 else 1)<30))=AS:=by rfl)(hline:‹(apos.endLine == cpos.line)=AS›) (hs:‹sq (e::es) X.env=(AT,eval e X.env)::sq es X.env›) (hplain:‹(sS cpos (sq es X.env)).any (·.1)=AT›) :
  PE X (.Call (.Attribute o name apos) (e::es) [] cpos) (tBM X.K T r to t):=by intros Q I h;refine Ae hbase hfew hline rfl (thn (ho AU s σ H _ I h) λv s1=>el5 λx H1 I1 r1=>ua2 λty q1=>?_);let#[h1,h2]:=zbl I1 r1 ty;refine#[T,id,pa,slot,hty,h1,h2,?_];have hA:=ha cpos AU s1 σ H1 _ I1 q1;rw[hs]at hA ⊢;refine Calls.callWith_builtin (by show (AT || (sS cpos (sq es X.env)).any (·.1))=AT;rw[hplain] <;> rfl) (Calls.evalArgs_plain ?_);exact thn hA λus s2=>el5 λvs H2 I2 r2 q2=>hm AU s2 σ H2 x vs v us Q I2 r1 r2 q2
/- xs.append(e),list.index on a module's tuple .. are MtR facts of 06m -/
end
end
mutual section
def MtM(X:Cx)(id:String)(r:V->List V->Hp->VK->Prop):Prop :=
 ∀(AU:List (sv × tP)) (s:sy) (σ:St) (H:Hp) (x:V) (xs:List V) (v:sw) (us:List sw) (Q:VK),Inv X AU σ H s->RelV x v->Vals xs us->r x xs H Q ->
  sC (model X.prog X.w) X.A (call (.builtin id) (v::us)) (EP X AU σ Q) X.xe s
theorem Vals.one(h:Vals [x] us):∃u,us=[u]/\RelV x u:=by
 cases h with
 | cons r t =>
  cases t;exact#[_,rfl,r]
theorem Vals.two(h:Vals [x,y] us):∃u v,us=[u,v]/\RelV x u/\RelV y v:=by
 cases h with
 | cons r t =>
  let#[u,rfl,q]:=Vals.one t;exact#[_,_,rfl,r,q]
theorem Vals.zero:∀{us:List sw},Vals [] us->us=[]
 | _,.nil=>rfl
theorem Vals.dropLast(h:Vals xs us):Vals xs.dropLast us.dropLast:=by
 induction h with
 | nil=>exact .nil
 | cons r t ih =>
  cases t with
  | nil=>exact .nil
  | cons q t'=>exact .cons r ih
theorem Vals.eraseIdx:∀{xs:List V} {us:List sw} (i:Nat),Vals xs us->Vals (xs.eraseIdx i) (us.eraseIdx i)
 | _,_,_,.nil=>.nil
 | _,_,0,.cons _ t=>t
 | _,_,i+1,.cons r t=>.cons r (Vals.eraseIdx i t)
theorem Vals.reverse(h:Vals xs us):Vals xs.reverse us.reverse:=by
 induction h with
 | nil=>exact .nil
 | cons r t ih=>rw[List.reverse_cons,List.reverse_cons];exact Vals.append ih (.cons r .nil)
theorem V1{α:Type}(l:List α):l.eraseIdx (l.length - 1)=l.dropLast:=by
 induction l with
 | nil=>rfl
 | cons a r ih =>
  cases r with
  | nil=>rfl
  | cons b r =>
   have e:(a::b::r).length - 1=((b::r).length - 1)+1:=by
    have h1:(a::b::r).length=r.length+2:=rfl;have h2:(b::r).length=r.length+1:=rfl;lia
   rw[e,cC,ih]
   all_goals rfl
theorem Xc{α:Type}:∀(l:List α) (i:Nat),(l.eraseIdx i).length<=l.length
 | [],_=>al _
 | _::_,0=>cF _
 | _::r,i+1=>eW (Xc r i)
def Inv.lset{its its':List sw}(I:Inv X AU σ H s)(hH:H l=AQ (.lst xs))(e:s.heap.get? l=AQ { cls:=.type "list",data:=.seq its.toArray n })(hf:f its.toArray=its'.toArray)(hv:Vals ys its')(hz:ys.length<=sr) :
  Inv X AU σ (upd H l (.lst ys)) { s with heap:=s.heap.update l (Obj.mapSeq f),toks:=t' }:=by have q:=PySem.IsL.update e f;rw[hf]at q;refine I.write (x:=l) (e:=l) (by rw[hH];exact trivial) (.inl rfl) (λb' u hb hu=>(az s.heap (Obj.mapSeq f) (Ne.symm hb)).trans hu) #[_,q] ?_;exact#[hz,its',_,hv,q]
def Inv.lnew(I:Inv X AU σ H s)(hv:Vals ys its)(hz:ys.length<=sr) :
  Inv X AU σ (upd H s⁻¹ (.lst ys)) { s with heap:=s.heap.push { cls:=.type "list",data:=.seq its.toArray },toks:=t' } :=
 I.laid (λZ Z q=>ag _ q) (al _) #[hz,its,0,hv,aE _ rfl]
def Inv.fresh(I:Inv X AU σ H s):H s⁻¹=AR:=I.hok.fresh (al _)
def Inv.lstM(I:Inv X AU σ H s)(hH:H l=AQ (.lst xs)):xs.length<=sr/\∃(its:List sw) (n:Nat),Vals xs its/\xs.length=its.length/\s.heap.get? l=AQ { cls:=.type "list",data:=.seq its.toArray n }:=by let#[z,its,n,r,e]:=I.hok l _ hH;exact#[z,its,n,r,r.length,e]
def J7(h:n<=sr):Builtin.List.listTooLong n=AT:=by unfold Builtin.List.listTooLong;exact u9 ⋯
def JI:V->List V->Hp->VK->Prop:=λx vs H Q=>onRef x λl=>match vs with | [y]=>∃xs,H l=AQ (.lst xs)/\xs.length<sr/\Q .non (upd H l (.lst (xs ++ [y]))) | _=>False
def yy:MtM X "list.append" JI:=by
 intros x vs v us Q I rx rv h;let#[l,rfl,h2]:=onRef.of h
 obtain⟨y,rfl,xs,hH,hz,q⟩:∃y,vs=[y]/\∃xs,H l=AQ (.lst xs)/\xs.length<sr/\Q .non (upd H l (.lst (xs ++ [y]))):=by
  split at h2
  ·exact#[_,rfl,h2]
  ·exact h2.elim
 cases rx;let#[u,rfl,ru]:=rv.one;let#[z,its,n,r,hl,e]:=I.lstM hH;refine call_meets F.slot_list_append #[_,e,rfl] F.entry_list_append (F.args_list_append_2 _ _) (PySem.list_append l its.toArray n u (by rw[ak];lia)) #[e,?_];refine#[.non,_,I.lset (its':=its ++ [u]) hH e (by simp) (r.append (.cons ru .nil)) ?_,rfl,q];rw[aj,fG];lia
def Q8:V->List V->Hp->VK->Prop:=λx vs H Q=>∃l b xs zs,x=.ref l/\vs=[.ref b]/\H l=AQ (.lst xs)/\H b=AQ (.lst zs)/\xs.length+zs.length<=sr/\Q .non (upd H l (.lst (xs ++ zs)))
def JU:MtM X "list.extend" Q8:=by
 intros x vs v us Q I rx rv h;let#[l,b,xs,zs,rfl,rfl,hH,hB,hz,q]:=h;cases rx;let#[u,rfl,ru]:=rv.one;cases ru;let#[z,its,n,r,hl,e]:=I.lstM hH;let#[z2,its2,n2,r2,hl2,e2]:=I.lstM hB;have hsz:its.toArray.size+its2.toArray.size<=sr:=by rw[ak,ak];lia
 have hlong:¬ (!its.toArray.isEmpty && Builtin.List.listTooLong (its.toArray.size+its2.toArray.size))=AS:=by
  rw[J7 hsz,dv];exact aD
 refine call_meets F.slot_list_extend #[_,e,rfl] F.entry_list_extend (F.args_list_extend_2 _ _)
  (AutoSeq1.list_extend_list_list_0 l its.toArray n b its2.toArray n2 hlong (by rw[ak];lia) ⋯) #[e,e2,?_]
 refine#[.non,_,I.lset (its':=its ++ its2) hH e (by simp) (r.append r2) ?_,rfl,q];rw[aj];lia
def zha:V->List V->Hp->VK->Prop:=λx vs H Q=>∃l xs y,x=.ref l/\vs=[]/\H l=AQ (.lst xs)/\xs[xs.length - 1]? = AQ y/\Q y (upd H l (.lst xs.dropLast))
def zgM:MtM X "list.pop" zha:=by
 intros x vs v us Q I rx rv h;let#[l,xs,y,rfl,rfl,hH,hy,q]:=h;cases rx;have hus:=rv.zero;subst hus;let#[z,its,n,r,hl,e]:=I.lstM hH;let#[u,hu,ru]:=r.get hy
 have hy':its.toArray[its.toArray.size - 1]? = AQ u:=by
  show its.toArray[its.length - 1]? = AQ u;rw[<- fH,<- hl];exact hu
 refine call_meets F.slot_list_pop #[_,e,rfl] F.entry_list_pop (F.args_list_pop_1 _) (MeetsSeq.list_pop_last l its.toArray n u hy' (by rw[ak];lia)) #[e,?_];refine#[y,_,I.lset (its':=its.dropLast) hH e ?_ r.dropLast ?_,ru,q]
 ·show its.toArray.eraseIdxIfInBounds (its.toArray.size - 1)=its.dropLast.toArray;rw[ak,dO,V1]
 ·rw[List.length_dropLast];lia
def zeK:V->List V->Hp->VK->Prop:=λx vs H Q=>∃l xs i k y,x=.ref l/\vs=[.int i]/\H l=AQ (.lst xs)/\-(2 ^ 63)<=i/\i<2 ^ 63/\seqIndex? i xs.length=AQ k/\xs[k]? = AQ y/\Q y (upd H l (.lst (xs.eraseIdx k)))
def Kq:MtM X "list.pop" zeK:=by
 intros x vs v us Q I rx rv h;let#[l,xs,i,k,y,rfl,rfl,hH,h1,h2,hk,hy,q]:=h;cases rx;let#[u,rfl,ru]:=rv.one;let#[t,rfl]:=ru;let#[z,its,n,r,hl,e]:=I.lstM hH;let#[w,hw,rw']:=r.get hy
 refine call_meets F.slot_list_pop #[_,e,rfl] F.entry_list_pop (F.args_list_pop_2 _ _)
  (MeetsSeq.list_pop_at l its.toArray n i t k w (fitsIndex_both h1 h2) (by rw[ak,<- hl];exact hk) (by rw[<- fH];exact hw) (by rw[ak];lia)) #[e,?_]
 refine#[y,_,I.lset (its':=its.eraseIdx k) hH e ?_ (r.eraseIdx k) ?_,rw',q]
 ·show its.toArray.eraseIdxIfInBounds k=(its.eraseIdx k).toArray;rw[dO]
 ·have:=Xc xs k;lia
def WE:V->List V->Hp->VK->Prop:=λx vs H Q=>∃l xs,x=.ref l/\vs=[]/\H l=AQ (.lst xs)/\Q .non (upd H l (.lst xs.reverse))
def Uc:MtM X "list.reverse" WE:=by intros x vs v us Q I rx rv h;let#[l,xs,rfl,rfl,hH,q]:=h;cases rx;have hus:=rv.zero;subst hus;let#[z,its,n,r,hl,e]:=I.lstM hH;refine call_meets F.slot_list_reverse #[_,e,rfl] F.entry_list_reverse (F.args_list_reverse_1 _) (AutoSeq1.list_reverse_list_0 l its.toArray n (by rw[ak];lia)) #[e,?_];refine#[.non,_,I.lset (its':=its.reverse) hH e (by simp) r.reverse ?_,rfl,q];rw[bK];lia
def zde:R2:=λx y H Q=>onRef x λl=>onRef y λb=>∃xs,H l=AQ (.lst xs)/\∃zs,H b=AQ (.lst zs)/\xs.length+zs.length<=sr/\∀p,H p=AR->Q (.ref p) (upd H p (.lst (xs ++ zs)))
def WY:OpR X (binaryOp .Add) zde:=by
 intros x y v u Q I rx ry h;let#[l,rfl,h2]:=onRef.of h;let#[b,rfl,xs,hH,zs,hB,hz,q]:=onRef.of h2;cases rx;cases ry;let#[z,its,n,r,hl,e]:=I.lstM hH;let#[z2,its2,n2,r2,hl2,e2]:=I.lstM hB;refine PySem.P.add_list e e2 ?_ (by rw[ak,ak];lia);have ea:its.toArray ++ its2.toArray=(its ++ its2).toArray:=by simp
 rw[ea];exact#[.ref _,_,I.lnew (t':=s.toks) (r.append r2) (by rw[aj];lia),rfl,q _ I.fresh]
theorem len_rep{α:Type}(xs:List α)(k:Nat):(aR k xs).flatten.length=k * xs.length:=by
 induction k with
 | zero=>simp
 | succ k ih=>rw[cD,dB,aj,ih,dQ,Nat.add_comm]
end
end L2
namespace Att
open PySem PySem.W PySem.Calls PyProof.Rows
theorem jX : ∀(ns:List Int) (vs:List sw),WellAll P h vs (ns.map WData.int)->Ax vs ns:=by
 intro ns
 induction ns with
 | nil =>
  intro vs w;rw[aH]at w;cases w;exact .nil
 | cons n ns ih =>
  intro vs w;rw[ao]at w
  cases w with
  | cons a b =>
   cases a;exact .cons _ _ (ih _ b)
theorem script_of{l:AN}(hn:l.most=AQ n)(hpre:l.row.toRowW.claim.pre args=AS)(hwl:WellAll P h vals args) :
  ∃a vs ns,vals=[r8 a]/\args=[WData.list (ns.map WData.int)]/\h.get? a=AQ { cls:=.type "list",data:=.seq vs.toArray }/\Ax vs ns/\ns.length<=n:=by
 have hsh:WShape.hasAll [] args [.list .int]=AS:=(pre_splitW hpre).1;have hc:l.pre.holds [] { args:=args }=AS:=(pre_splitW hpre).2;let#[d,r,rfl,h1,h2]:=hasAllW_cons hsh;obtain rfl:=hasAllW_nil h2;let#[xs,rfl,h3]:=hasW_list h1;let#[ns,rfl]:=items_int h3
 have hlen:ns.length<=n:=by
  unfold OpenLaw.pre at hc
  have h4:(WTm.not (.lt (.lit (.int (n:Int))) (.len (.arg 0)))).holds [] { args:=[.list (ns.map .int)] }=AS:=by
   have h4:=(holds_andW hc).1;rw[hn]at h4;exact h4
  have h5:=condW_of h4 (w_not (w_lt w_lit (w_len_list (w_arg rfl))));rw[aa]at h5;refine df λq=>?_;have q':(n:Int)<((ns.length:Nat):Int):=⋯
  first
   | (rw[u6 q']at h5;exact w4 h5 ∅)
   | (simp at h5;lia)
 cases hwl with
 | cons w1 w2 =>
  cases w2
  cases w1 with
  | list ho hall=>exact#[_,_,ns,rfl,rfl,ho,jX ns _ hall,hlen]
def post_true(l:AN)(args:List WData):l.row.toRowW.claim.post args (.bool AS) args=AS :=
 postW_of (r:=l.row.toRowW) (X:=(AS == AS))
  (show WShape.has [] (.bool AS) .bool=AS by first | rfl | decide | simp [WShape.has,WShape.arms,WShape.armsAll])
  (show (WTm.eq .res (.lit (.bool AS))).value [] { args:=args,res:=AQ (.bool AS),after:=args }=AQ (.bool (AS == AS))from w_eq_bool (w_res rfl) w_lit) rfl
def attach{l:AN}(hn:l.most=AQ n)(hdf:d.params.defaults=[])(hbind:∀pm cd doc v:sw,bindArgs (docDef d.name d.params d.body d.scope pm cd doc) #[[v],[]]=pure [(x,v)])(hx:d.scope.names.lookup x=AQ .local\/d.scope.names.lookup x=AQ .cell)(hk:d.scope.kind=.function)(hco:d.scope.isCoroutine=AT)(hgen:d.scope.isGenerator=AT)(body:∀(w:sM) (s₀ s₁ s:sy) (mg mb:sF->Option sw) (fa:sv) (o:tP) (pm cd doc:sw) (a:sv) (vs:List sw) (ns:List Int),
   Ground q loose [] XP w s₀ mg mb s₁.heap->YP w s₁.heap ->
   s₁.heap.get? fa=AQ o->o.data=.func (docDef d.name d.params d.body d.scope pm cd doc)->s₁.heap.CodeRec cd d.name->mg d.name=AQ (.ref fa) ->
   s₁.heap.get? a=AQ { cls:=.type "list",data:=.seq vs.toArray }->Ax vs ns->ns.length<=n ->
   s.gens=#[]->s.os=s₁.os ->
   Fr s₁.heap s₁⁻¹ s.heap (bindL (tR d.name d.scope s₁⁻¹ fa cd).kindOf [(x,.ref a)] λZ=>AR) ->
   Cl s₁⁻¹ (cellsFrom (s₁⁻¹+1) d.scope.names []) s.heap (bindC (tR d.name d.scope s₁⁻¹ fa cd).kindOf [(x,.ref a)] λZ=>AR) ->
   sC (model l.prog w) (callerA.deeper (tR d.name d.scope s₁⁻¹ fa cd)) (execs d.body (tR d.name d.scope s₁⁻¹ fa cd))
    (λf s'=>f=.ret (.bool AS)/\OldK s₁.heap s'.heap/\s'.os=s₁.os/\tW s'.gens) (λZ Z=>False) s) :
  WalkO q loose XP YP l.row.toRowW d [] (λf vs=>fS f vs):=by
 intro w s₀ s₁ mg mb G Y fa o pm cd doc dV kV ho hd hcd hD hmg hg args vals as hpre hlay hrd hwl hlo;obtain rfl:dV=.none:=Dflts.none hD hdf;obtain rfl:kV=.none:=Dflts.noKw hD;let#[a,vs,ns,rfl,rfl,hobj,hints,hlen]:=script_of hn hpre hwl;refine enter_call ?_;refine call_cells_ret (o:=o) (by rw[depth_caller];decide) ho (fd_plain hd) G.T.nolimit hcd (hbind pm cd doc (.ref a)) (λy hy=>?_) (λh₁ tk F X=>?_) hco hgen hk
 ·obtain rfl:y=(x,r8 a):=Bb.mp hy;rcases hx with e | e
  ·exact .inl e
  ·exact .inr #[e,cellsFrom_some _ _ _ (.inl e)]
 ·refine tE (body w s₀ s₁ { s₁ with heap:=h₁,toks:=tk } mg mb fa o pm cd doc a vs ns G Y ho (fd_plain hd) hcd hmg hobj hints hlen hg rfl F X) (λf s' hq=>?_) (λZ Z hq=>hq);let#[rfl,h2,h3,h4]:=hq;exact#[.inl #[.bool AS,.bool AS,[],rfl,λZ=>rfl,.bool AS,post_true l _,λZ=>#[List.Pairwise.nil,λZ hm=>(nomatch hm)]],h2,h3,h4]
end in def zgx(h:sV)(L d:sv):List (sv × tP):=(aJ h.objs.size).filterMap λa=>if a=L\/a=d then AR else (h.get? a).map λo=>(a,o)
end Att
namespace L2
theorem YW:∀{vs:List sw} {ns:List Int},Ax vs ns->Vals (ns.map V.int) vs
 | _,_,.nil=>.nil
 | _,_,.cons n t h=>.cons #[t,rfl] (YW h)
end in def yH(s:sI)(j:Nat):sI:=match s with
 | .ClassDef _ _ _ body _ _ _ _ _ _ _=>body.getD j (.Pass #[0,0,0,0])
 | _=>.Pass #[0,0,0,0]
end in def yV(s:sI):AC:=match s with
 | .FunctionDef _ a _ _ _ _ _ _ _ _=>a
 | _=>{ posonlyargs:=[],args:=[],vararg:=AR,kwonlyargs:=[],kw_defaults:=[],kwarg:=AR,defaults:=[] }
end in def yj(s:sI):List sI:=match s with
 | .FunctionDef _ _ b _ _ _ _ _ _ _=>b
 | _=>[]
end in def zi(s:sI):tZ:=match s with
 | .FunctionDef _ _ _ _ _ _ sc _ _ _=>sc
 | _=>{ kind:=.function,names:=[],isGenerator:=AT,isCoroutine:=AT }
abbrev CX0:CXT:=λZ Z Z Z Z Z=>False
end in abbrev E0:XK:=λZ Z Z=>False
def VS : qv CX0 X E0:=λZ Z Z Z Z Z Z h=>h.elim
structure Fun(K:su)(x qual:sF)(st:sI)(f:sv)(fd:tM):Prop where
 ex:∃(oc:sw) (od:Option sv) (kV doc pm:sw) (an:Option sv) (cdv ct:sw) (osl:Array (Option sw)),
  fd=bC x qual (yV st) (yj st) (zi st) .none kV doc pm an cdv ct/\K.lookup f=AQ #[oc,od,.func fd,osl]/\bZ K cdv qual=AS
 kp:aO K (.ref f)=AS
section
variable{P:sH}{w:sM}{K:su}{mg:sF->Option sw}{base:sV}
def Fun.ok{st:sI}(F:Fun K x qual st f fd)(S:zo N ps (zi st))(len:∀vs H Q E,sp vs H Q E->vs.length=ps.length)(hbody:∀(cdv:sw) (A:sZ) (outer:List AJ) (s:sy) (H:Hp) (vs:List V) (Q:VK) (E:XK),Room k (A.deeper (tR qual (zi st) s⁻¹ f cdv))->sp vs H Q E ->
   ∃t,PSs (ja CX0 P w K mg base N qual (zi st) f cdv A outer s H E).nox (yj st) t/\t { nx:=λZ H'=>Q .non H',rt:=Q } (start N vs) H):FnOk P w K mg base CX0 (k+1) f fd ps sp:=by let#[oc,od,kV,doc,pm,an,cdv,ct,osl,rfl,lk,hcd]:=F.ex;refine Kn lk hcd S len λA outer s H vs Q E hr hsp=>?_;let#[t,h,q]:=hbody cdv A outer s H vs Q E hr hsp;exact#[t,h.nox,q]
def Fun.binds{x qual:sF}{st:sI}{f:sv}{fd:tM}{ps:List sF}(F:Fun K x qual st f fd)(h:∀(kV doc pm:sw) (an:Option sv) (cdv ct:sw) (us:List sw),us.length=ps.length->bindArgs (bC x qual (yV st) (yj st) (zi st) .none kV doc pm an cdv ct) #[us,[]]=pure (ps.zip us)):Binds K fd ps []:=by let#[oc,od,kV,doc,pm,an,cdv,ct,osl,rfl,lk,hcd]:=F.ex;exact .all (h kV doc pm an cdv ct)
def fun_mk{st:sI}{kV doc pm cdv ct:sw}(l:K.lookup f=AQ #[oc,od,.func (bC x qual (yV st) (yj st) (zi st) .none kV doc pm an cdv ct),osl])(c:bZ K cdv qual=AS)(k:aO K (.ref f)=AS):Fun K x qual st f (bC x qual (yV st) (yj st) (zi st) .none kV doc pm an cdv ct):=#[#[oc,od,kV,doc,pm,an,cdv,ct,osl,rfl,l,c],k]
end
def pv(i:Nat)(hN:‹X.N[i]? = AQ x›)(hv:‹Vis X.env.scope x›)(hd:‹(x ==("__debug__" : sF))=AT›)(hcd:‹(x ==("__classdict__" : sF))=AT›):PE X (.Name x pos) (ya i):=ze9 hN hv hd hcd
def zfT{A B:Prop}(h:A):if AS=AS then A else B:=by rw[w6 rfl];exact h
def yb{c A B:Prop}[Decidable c](h1:c->A)(h2:¬ c->B):if c then A else B:=by
 by_cases h:c
 ·rw[w6 h];exact h1 h
 ·rw[w9 h];exact h2 h
def Same(H H':Hp):Prop:=∀b o,H b=AQ o->H' b=AQ o
def Same.refl(H:Hp):Same H H:=λZ Z h=>h
def Same.trans(a:Same H H1)(b:Same H1 H2):Same H H2:=λc o h=>b c o (a c o h)
theorem Same.free(e:Same H H')(h:H' l=Option.none):H l=Option.none:=by
 cases q:H l with
 | none=>rfl
 | some o =>
  rw[e l o q]at h;cases h
def Same.seq{K:su}(e:Same H H')(h:SqL K H a xs):SqL K H' a xs:=by
 rcases h with (h | ⟨o,h⟩) | h
 ·exact .inl (.inl (e _ _ h))
 ·exact .inl (.inr #[o,e _ _ h])
 ·exact .inr h
end L2
open L2
namespace L3
mutual section
abbrev St:=L2.St
abbrev cs(x:sF):():=x.cps.toList
abbrev tx(l:()):sF:=⟨l.toArray⟩
def zdH(x:sF):tx (cs x)=x:=by cases x;rfl
def jv(l:()):cs (tx l)=l:=rfl
def VB(x:sF):x.length=(cs x).length:=by simp [Str.length,cs]
def zI(l:()):(tx l).length=l.length:=by simp [Str.length,tx]
def YQ(h:cs x=cs y):x=y:=by rw[<- zdH x,<- zdH y,h]
def wJ(h:tx l=tx m):l=m:=by rw[<- jv l,<- jv m,h]
def ze6 : tx l=tx m ↔ l=m:=#[wJ,λh=>by rw[h]]
def yR(l m:()):tx l ++ tx m=tx (l ++ m):=by apply YQ;show (tx l ++ tx m).cps.toList=l ++ m;rw[Str.cps_append];simp
def cut{α:Type}(l:List α)(lo hi:Option Int):List α:=(l.drop (HT.sIx l.length 0 lo)).take (HT.sIx l.length l.length hi - HT.sIx l.length 0 lo)
def vb(l:List α)(lo hi:Option Int):(cut l lo hi).length<=l.length:=by unfold cut;rw[aC,aS];lia
def Jv(a b:Nat):sliceRange (a:Int) (b:Int) 1=(aJ (b - a)).map (λk=>a+k):=by
 unfold sliceRange
 have e:(if (1:Int) > 0 then (if (a:Int)<b then ((b:Int) - a+1 - 1) / 1 else 0)else (if (a:Int) > b then ((a:Int) - b - 1 - 1) / (-1)else 0)).toNat=b - a:=by
  rw[w6 ∅];by_cases h:(a:Int)<b
  ·rw[w6 h,Int.ediv_one];lia
  ·rw[w9 h];lia
 show (aJ ((if (1:Int) > 0 then (if (a:Int)<b then ((b:Int) - a+1 - 1) / 1 else 0)else (if (a:Int) > b then ((a:Int) - b - 1 - 1) / (-1)else 0)).toNat)).map _=_;rw[e];refine bT λk Z=>?_;lia
theorem zcL(lo hi:Option Int)(n:Nat):p7 lo hi 1 n=(aJ (HT.sIx n n hi - HT.sIx n 0 lo)).map (λk=>HT.sIx n 0 lo+k):=by
 rw[<- Jv]
 have clip:∀(v:Int) (d:Nat),max 0 (min (if v<0 then v+(n:Int)else v) (n:Int))=((HT.sIx n d (AQ v):Nat):Int):=λv d=>by
  show _=(((if v<0 then (v+(n:Int)).toNat else min v.toNat n):Nat):Int);by_cases hv:v<0
  ·erw[w6 hv];lia
  ·erw[w9 hv];lia
 have h1:((1:Int) > 0)=True:=by simp
 unfold p7
 cases lo with
 | none =>
  cases hi with
  | none=>erw[h1,if_true];rfl
  | some j=>erw[h1,if_true,clip j n];rfl
 | some i =>
  cases hi with
  | none=>erw[h1,if_true,clip i 0];rfl
  | some j=>erw[h1,if_true,clip i 0,clip j n]
end
set_option tactic.hygienic true in
mutual section
def Qu(x:sF)(lo hi:Option Int):Txt.slice x lo hi=tx (cut (cs x) lo hi):=by
 have hn:x.length=x.cps.toList.length:=VB x;have hj:HT.sIx x.length x.length hi<=x.length:=HT.sIx_le _ _ (al _) hi;have hi0:HT.sIx x.length 0 lo<=x.length:=HT.sIx_le _ _ (ay _) lo;unfold Txt.slice;rw[zcL];split
 ·rename_i h;have h':HT.sIx x.length x.length hi - HT.sIx x.length 0 lo=x.length:=by simpa using h
  apply YQ;show x.cps.toList=cut x.cps.toList lo hi;unfold cut;rw[<- hn];by_cases z:x.length=0
  ·have:x.cps.toList=[]:=d8 ⋯;rw[this];simp
  ·have e0:HT.sIx x.length 0 lo=0:=⋯;rw[e0]at h' ⊢;rw[h',dw,hn,aI]
 ·apply YQ;have h:=StrLaws.picks x.cps.toList (HT.sIx x.length x.length hi - HT.sIx x.length 0 lo) (HT.sIx x.length 0 lo) ⋯;show (List.filterMap (λk=>x.cps[k]?) _).toArray.toList=cut x.cps.toList lo hi;unfold cut;rw[<- hn];simpa using h
theorem QG(p:IsPart v o):∃l:Option (Int × AF),v=partValue l/\l.map (·.1)=o:=by
 cases p with
 | none=>exact#[AR,rfl,rfl]
 | int i t=>exact#[AQ (i,t),rfl,rfl]
def zem:V->Option Int->Option Int->Hp->VK->Prop:=λx lo hi H Q=>onStr x λz=>z.length<=sr/\Q ⇑(cut (cs z) lo hi) H
def yL:SlR X zem:=by
 intros x v vl vu lo hi sl Q I rx hs pl pu h;let#[z,rfl,hz,q]:=onStr.of h;let#[t,rfl]:=rx;let#[l,rfl,el]:=QG pl;let#[u,rfl,eu]:=QG pu;refine#["str",_,slot_str_getitem.lookup,typeIs_str s z t,?_];refine Ab (l:=l) (u:=u) (st:=AR) hs rfl ?_;have e:Txt.slice z lo hi=tx (cut (cs z) lo hi):=Qu z lo hi;have hl:(tx (cut (cs z) lo hi)).length<=sr:=by rw[zI];have:=vb (cs z) lo hi;rw[<- VB]at this;lia
 unfold sliceMade slicePicked;rw[el,eu];unfold Txt.slice at e;by_cases hc:((1:Int) == 1 && (p7 lo hi 1 z.length).length == z.length)=AS
 ·rw[w6 hc]at e;have hc':(((AR:Option (Int × AF)).map (·.1)).getD 1 == 1 && (p7 lo hi (((AR:Option (Int × AF)).map (·.1)).getD 1) z.length).length == z.length)=AS:=hc;rw[w6 hc'];exact#[⇑(cut (cs z) lo hi),H,I,#[t,by rw[<- e]],q]
 ·rw[w9 hc]at e;have hc':¬ (((AR:Option (Int × AF)).map (·.1)).getD 1 == 1 && (p7 lo hi (((AR:Option (Int × AF)).map (·.1)).getD 1) z.length).length == z.length)=AS:=hc;rw[w9 hc'];show (Str.mk ((p7 lo hi 1 z.length).filterMap (z.cps[·]?)).toArray).length<=sr/\_;rw[e];refine#[hl,?_]
  exact#[⇑(cut (cs z) lo hi),H,I.tok _,#[_,by
   show Value.str (Str.mk ((p7 lo hi 1 z.length).filterMap (z.cps[·]?)).toArray) _=_
   rw[e]],q]
theorem Vi(l:()):∀(k:Nat) (AW:Array Nat),((aR k l.toArray).foldl (· ++ ·) AW).toList=AW.toList ++ (aR k l).flatten
 | 0,AW=>by simp
 | k+1,AW=>by
  rw[cD,List.foldl_cons,Vi l k,cD,dB];simp
def VW:OpR X (binaryOp .Mult) (λx y H Q=>∃z n,x=.str z/\y=.int n/\0<=n/\n<=1000/\z.length<=1000/\Q ⇑(aR n.toNat (cs z)).flatten H):=by
 intros x y v u Q I rx ry h;let#[z,n,rfl,rfl,h0,h1,hz,q]:=h;let#[t,rfl]:=rx;let#[t',rfl]:=ry;have hs:sr=16777216:=sL;have hmul:z.length * n.toNat<=1000 * 1000:=fJ hz ⋯;have fl:((aR n.toNat (cs z)).flatten).length=n.toNat * z.length:=by rw[L2.len_rep,<- VB]
 refine PySem.P.mul_str ?_ (λZ Z=>?_) (λZ Z=>?_) ?_
 ·rw[u9 ⋯,u9 ⋯];rfl
 ·have:(1000:Int)<=(2 ^ 63 - 1) / n:=by
   apply Int.le_ediv_of_mul_le ⋯;lia
  lia
 ·unfold Builtin.Str.tooLong;exact u9 ⋯
 ·by_cases c1:n<1
  ·rw[w6 c1];have e:n.toNat=0:=⋯;rw[e]at q;exact#[∅,⇑[],H,I.tok _,#[_,rfl],q]
  ·rw[w9 c1];by_cases c2:(n == 1 || z.length == 0)=AS
   ·rw[w6 c2]
    have e:tx (aR n.toNat (cs z)).flatten=z:=by
     rw[dU]at c2;rcases c2 with c | c
     ·have:n.toNat=1:=by have:=eq_of_beq c;lia
      rw[this]
      erw[List.replicate_one,List.flatten_singleton]
     ·have c0:z.length=0:=eq_of_beq c;have:cs z=[]:=d8 (by rw[<- VB];exact c0);apply YQ;rw[this];show (aR n.toNat ([]:())).flatten=[]
      erw[List.flatten_replicate_nil]
    rw[e]at q;exact#[.str z,H,I,#[_,rfl],q]
   ·rw[w9 c2]
    have e:(⟨(aR n.toNat z.cps).foldl (· ++ ·) #[]⟩:sF)=tx (aR n.toNat (cs z)).flatten:=by
     apply YQ;have:=Vi (cs z) n.toNat #[];have e2:(cs z).toArray=z.cps:=by cases z;rfl
     rw[e2]at this;show (List.foldl (· ++ ·) #[] (aR n.toNat z.cps)).toList=(aR n.toNat (cs z)).flatten;rw[this];rfl
    rw[e];refine#[by rw[zI,fl,Nat.mul_comm];lia,.str _,H,I.tok _,#[_,rfl],q]
def QV:OpR X (sK .LtE) (λx y H Q=>∃i j,x=.str i/\y=.str j/\Q (.bl (!(decide (cs j<cs i)))) H):=by intros x y v u Q I rx ry h;let#[i,j,rfl,rfl,q]:=h;let#[t,rfl]:=rx;let#[t',rfl]:=ry;exact PySem.P.le_str #[.bl _,H,I,rfl,q]
def op_lt_str':OpR X (sK .Lt) (λx y H Q=>∃i j,x=.str i/\y=.str j/\Q (.bl (decide (cs i<cs j))) H):=QD
def KL:MtR X "str.count" (λx xs H Q=>∃z y,x=.str z/\xs=[.str y]/\Q (.int (Txt.count z y)) H):=by intros x xs v us Q I rx rv h;let#[z,y,rfl,rfl,q]:=h;let#[t,rfl]:=rx;let#[u,rfl,t',rfl]:=wK rv;exact PySem.SC.count #[.int _,H,I.tok _,#[_,rfl],q]
def Ju:MtR X "str.find" (λx xs H Q=>∃z y,x=.str z/\xs=[.str y]/\Q (.int (Txt.find z y)) H):=by intros x xs v us Q I rx rv h;let#[z,y,rfl,rfl,q]:=h;let#[t,rfl]:=rx;let#[u,rfl,t',rfl]:=wK rv;exact PySem.SC.find #[.int _,H,I.tok _,#[_,rfl],q]
def Inv.turns{X:Cx}{AU:List (sv × tP)}{σ:St}{H:Hp}{s:sy}{fp:List sv}{h':sV}{t':Nat}(I:Inv X AU σ H s)(k:∀b o,b ∉ fp->s.heap.get? b=AQ o->h'.get? b=AQ o)(hf:∀b ∈ fp,wo X AU H b):Inv X AU σ H { s with heap:=h',toks:=t' }:=by
 have nit:∀b u,H b=AQ u->b ∉ fp:=λb u e z=>by rw[(hf b z).1]at e;cases e
 refine I.step (g':=s.gens) (d':=s.drawn) (ch:=fp) (λb hb=>?_) (λb o Z Z hc e Z=>k b o hc e) (λb o Z Z hc e Z=>#[o.slots,k b o hc e]) (λZ Z Z Z n=>n)
  (λb o hc e=>#[o,k b o hc e]) (λZ Z e=>e) (λZ Z Z e=>e) (λb ps e=>#[#[],by rw[e];simp]) (λm hm=>?_) (λb u e=>?_) I.bare
 ·let#[_,a1,_,a3,a4,a5]:=hf b hb;exact#[a3,a1,a4,a5]
 ·let#[o,es,ep,ho,r]:=hm;exact#[o,es,ep,k _ o (λz=>(hf _ z).2.1 rfl) ho,r]
 ·refine (I.hok b u e).stay (λc v hc q=>k c v ?_ q) (λZ q=>q) λZ Z q=>q;rcases hc with z | z
  ·rw[z];exact nit b u e
  ·exact nit c _ z
def Inv.track(I:Inv X AU σ H s)(fa:wo X AU H a)(new:ObjOk X.prog X.w (upd H a o) s.heap a o):Inv X AU σ (upd H a o) s:=by
 let#[a0,a1,a2,a3,a4,a5]:=fa;have e:s={ s with heap:=s.heap,gens:=s.gens,drawn:=s.drawn,toks:=s.toks }:=rfl;rw[e]
 refine I.step (g':=s.gens) (d':=s.drawn) (ch:=[a]) (λb hb=>?_) (λb o Z Z Z e Z=>e) (λb o Z Z Z e Z=>#[o.slots,e]) (λb o hc Z n=>?_)
  (λb o Z e=>#[o,e]) (λb xs e=>?_) (λb u xs e=>?_) (λb ps e=>?_) (λm hm=>hm) (λb u e=>?_) I.bare
 ·have eb:b=a:=by simpa using hb
  subst eb;exact#[a3,a1,a4,a5]
 ·rw[zt ↥hc];exact n
 ·rw[zt (zN e a0)];exact e
 ·rw[zt (zN e a0)];exact e
 ·exact#[#[],by rw[zt (zN e a0),e];simp]
 ·by_cases hb:b=a
  ·subst hb;rw[zc]at e;cases e;exact new
  ·rw[zt hb]at e;exact (I.hok b u e).stay (λc v Z q=>q) (λc q=>by rw[zt (zN q a0)];exact q) λc xs q=>by rw[zt (zN q a0)];exact q
def Its(x:sF):It:=#[λi Z=>i<(cs x).length,λi H v H'=>H'=H/\∃c,(cs x)[i]? = AQ c/\v=⇑[c],λi Z=>i=(cs x).length]
def zag{K:su}(hty:["enumerate","zip","dict_itemiterator","dict_reverseitemiterator","odict_iterator","itertools.zip_longest","itertools.pairwise"].contains ty=AT)(it:sv)(x:sF)(t:AF)(W:∀A:sZ,A.handled=AR->Walks P w A it [it] [it] x.cps.size (SignAt x) λi h=>h.IsStrIter it ty x t i)(S:∀(A:sZ) (i:Nat) (s:sy) (Q:sw->sy->Prop) (E:sw->sy->Prop),s.heap.IsStrIter it ty x t i->Q (.ref it) s->sC (model P w) A (pyIter (.ref it)) Q E s) :
  J6 P w K tg (Its x) [it] it (λi h=>h.IsStrIter it ty x t i) where
 mem:=by simp
 obj:=λi h st b hb=>by
  have e:b=it:=by simpa using hb
  subst e;let#[o,e,c,d]:=st;exact#[o,e,λv z=>by rw[d]at z;cases z]
 keep:=λi h h' st k=>let #[o,e,r]:=st; #[o,k it (by simp) o e,r]
 item:=by
  intro X hP hw hK hc i AU s σ H E I hf st hg;subst hP hw hK;let#[f0,f1,f2,f3,f4,f5]:=hf it (by simp);have hg':i<x.cps.size:=by have:i<x.cps.toList.length:=hg;simpa using this
  refine (W X.A (I.ok.hd hc)).item i s _ _ hg' st λv h' tk hv st' kk=>?_;let#[c,u,hcc,rfl]:=hv;have I1:Inv X AU σ H { s with heap:=h',toks:=tk }:=I.turned (λb o hb e=>kk b o ↥hb e) f0 f1 f3 f4 f5;let#[o,e,cl,d]:=id st';refine#[_,rfl,Xv (s:={ s with heap:=h',toks:=tk }) e cl d hty #[⇑[c],H,I1,#[u,rfl],#[rfl,c,?_,rfl],st',λb hb=>(hf b hb).1]];show x.cps.toList[i]? = AQ c;simpa using hcc
 done:=by
  intro X hP hw hK hc i AU s σ H E I hf st hg;subst hP hw hK;let#[f0,f1,f2,f3,f4,f5]:=hf it (by simp);have hi:i=x.cps.size:=by have:i=x.cps.toList.length:=hg;simpa using this
  rw[hi]at st;exact (W X.A (I.ok.hd hc)).done s _ _ st λh' tk kk=>#[rfl,I.turned (λb o hb e=>kk b o ↥hb e) f0 f1 f3 f4 f5]
 self:=λA i s Q E st h=>S A i s Q E st h
def zfZ(tl:TE):TI:=λσ H R=>tl σ H λv H1=>∃x,v=.str x/\R (Its x) H1
def YO(hl:PE X l tl):PI X tg l (zfZ tl):=by
 intros R I h;refine thn (hl AU s σ H _ I h) λv s1=>el5 λy H1 I1 r1 q1=>?_;let#[x,e,q]:=q1;subst e;let#[t,rfl]:=r1
 have fin:∀(ty:String) (hty:["enumerate","zip","dict_itemiterator","dict_reverseitemiterator","odict_iterator","itertools.zip_longest","itertools.pairwise"].contains ty=AT)
   (W:∀A:sZ,A.handled=AR->Walks X.prog X.w A s1⁻¹ [s1⁻¹] [s1⁻¹] x.cps.size (SignAt x) λi h=>h.IsStrIter s1⁻¹ ty x t i)
   (S:∀(A:sZ) (i:Nat) (s:sy) (Q:sw->sy->Prop) (E:sw->sy->Prop),s.heap.IsStrIter s1⁻¹ ty x t i->Q (.ref s1⁻¹) s->sC (model X.prog X.w) A (pyIter (.ref s1⁻¹)) Q E s),
   PIE X AU σ tg R (.ref s1⁻¹) { s1 with heap:=s1.heap.push { cls:=.type ty,data:=.fields (r9 [.str x t,.int 0 0]) } }:=λty hty W S=>by
  refine#[s1⁻¹,[s1⁻¹],_,_,H1,rfl,I1.kept (t':=s1.toks) λb o e=>ag _ e,zag hty _ x t W S,#[_,aE _ rfl,rfl,rfl],λb hb=>?_,q];have e:b=s1⁻¹:=by simpa using hb
  subst e;exact I1.fpOk (al _) (I1.hok.fresh (al _))
 cases ha:x.cps.all (· < 128)
 ·exact wpAny_pyIter_wide ha (fin "str_iterator" ∅ (λA hA=>Walks.strWide hA _ x t) λA i s Q E st h=>wpAny_pyIter_striter_wide st h)
 ·exact wpAny_pyIter_ascii ha (fin "str_ascii_iterator" ∅ (λA hA=>Walks.strAscii hA _ x t) λA i s Q E st h=>wpAny_pyIter_striter_ascii st h)
def zcg{g:TG}{tb:TS}{D:Z2}(Pv:Nat->St->Hp->Prop)(h0:Pv 0 σ H)(hs:∀i c σ H,(cs x)[i]? = AQ c->Pv i σ H->g ⇑[c] σ H λσ2 H2=>tb { D with nx:=Pv (i+1),ct:=Pv (i+1),bk:=D.nx } σ2 H2)(hd:∀σ H,Pv (cs x).length σ H->D.nx σ H) :
  ∃W:Nat->Nat->St->Hp->Prop,(∃m,W 0 m σ H)/\∀i m σ H,W i m σ H ->
   ((Its x).stop i H/\D.nx σ H)\/((Its x).go i H/\∃N:St->Hp->Prop,(∀σ' H',N σ' H'->∃m',m'<m/\W (i+1) m' σ' H')/\∀v H',(Its x).yld i H v H'->g v σ H' λσ2 H2=>tb { D with nx:=N,ct:=N,bk:=D.nx } σ2 H2):=by
 refine#[λi m σ H=>m=(cs x).length - i/\i<=(cs x).length/\Pv i σ H,#[(cs x).length,by simp,ay _,h0],?_];rintro i m σ H ⟨rfl,hi,p⟩;by_cases hlt:i<(cs x).length
 ·refine .inr #[hlt,Pv (i+1),λσ' H' p'=>#[(cs x).length - (i+1),⋯,rfl,hlt,p'],λv H' y=>?_];let#[e,c,hc,ev]:=y;subst e ev;exact hs i c σ _ hc p
 ·have e:i=(cs x).length:=⋯;subst e;exact .inl #[rfl,hd σ H p]
def Ite(x:sF):It:=#[λi Z=>i<(cs x).length,λi H v H'=>∃p c,H p=AR/\(cs x)[i]? = AQ c/\v=.ref p/\H'=upd H p (.tup [.int (i:Nat),⇑[c]]),λi Z=>i=(cs x).length]
def zfn(ta:TA):TI:=λσ H R=>ta σ H λvs H1=>∃x,vs=[.str x]/\R (Ite x) H1
theorem uR : ∀(names:List (sF × tY)) (AW:List (sF × sv)),
    (∀y,(y,NameKind.free) ∈ names->∃c,env.cells.lookup y=AQ c)->(∀y c,AW.lookup y=AQ c->env.cells.lookup y=AQ c) ->
    ∃cl,(forIn names AW λ(x:sF × tY) (cs:List (sF × sv))=>if (x.2 == NameKind.free)=AS then (do let a <- cellOf env x.1;pure (ForInStep.yield ((x.1,a)::cs)))else pure (ForInStep.yield cs):Sem (List (sF × sv)))=pure cl /\
      (∀y c,cl.lookup y=AQ c->env.cells.lookup y=AQ c)/\(∀y,(y,NameKind.free) ∈ names\/(AW.lookup y).isSome=AS->∃c,cl.lookup y=AQ c)
  | [],AW,_,ha=>#[AW,rfl,ha,λy h=>by
      rcases h with h | h
      . cases h
      . exact Bk.mp h]
  | (n,k)::r,AW,hn,ha=>by
    by_cases hk:k=NameKind.free
    . subst hk
      let#[c,hc]:=hn n (by simp)
      have ha':∀y d,((n,c)::AW).lookup y=AQ d->env.cells.lookup y=AQ d:=λy d e=>by
        rw[aZ]at e;by_cases hy:(y == n)=AS
        . rw[hy]at e
          have:y=n:=eq_of_beq hy;subst this;cases e;exact hc
        . have hy':(y == n)=AT:=by simpa using hy
          rw[hy']at e;exact ha y d e
      let#[cl,e,h1,h2]:=uR r ((n,c)::AW) (λy hy=>hn y (ar _ hy)) ha';refine#[cl,?_,h1,λy hy=>h2 y ?_]
      . rw[fv]
        have ec:cellOf env n=pure c:=by unfold cellOf;rw[hc]
        erw[beq_self_eq_true,if_true,ec,pure_bind]
        exact e
      . rcases hy with hy | hy
        . rcases AZ.mp hy with q | q
          . cases q
            exact .inr (by simp)
          . exact .inl q
        . refine .inr ?_
          rw[aZ];by_cases hyn:(y == n)=AS
          . rw[hyn];rfl
          . have hy':(y == n)=AT:=by simpa using hyn
            rw[hy'];exact hy
    . let#[cl,e,h1,h2]:=uR r AW (λy hy=>hn y (ar _ hy)) ha
      refine#[cl,?_,h1,λy hy=>h2 y ?_]
      . rw[fv]
        have ek:(k == NameKind.free)=AT:=by simpa using hk
        erw[ek,be,if_false,pure_bind]
        exact e
      . rcases hy with hy | hy
        . rcases AZ.mp hy with q | q
          . cases q;exact w4 rfl hk
          . exact .inl q
        . exact .inr hy
def uK(hn:∀y,(y,NameKind.free) ∈ scope.names->∃c,env.cells.lookup y=AQ c) :
  ∃cl,closureFor scope env=pure cl/\(∀y c,cl.lookup y=AQ c->env.cells.lookup y=AQ c)/\(∀y,(y,NameKind.free) ∈ scope.names->∃c,cl.lookup y=AQ c):=by
 let#[cl,e,h1,h2]:=uR scope.names [] hn (λy c h=>by cases h);refine#[cl,?_,h1,λy hy=>h2 y (.inl hy)];unfold closureFor
 erw[bind_pure]
 exact e
abbrev UW(ifs:List tH)(env:AJ):Sem Bool :=
 forIn ifs AS λc r=>if r=AS then (do let ok <- isTrue c env (eval c env);pure (ForInStep.yield ok))else pure (ForInStep.yield r)
theorem Q0(I:Nat->sy->Prop)(hEE:EE=notedBy (model prog w) A env λe s'=>R (.error e) s')(turn:∀n s,I n s->sC (model prog w) A (pyNext it) (λr s1=>match r with
   | none=>R (.ok .next) s1
   | some v=>sC (model prog w) A (letOwnedTupleGo tg it v) (λZ s2=>sC (model prog w) A (assign tg env v) (λ_ s3 =>
     sC (model prog w) A (UW ifs env) (λok s4=>if ok=AS then
      sC (model prog w) A (eval elt env) (λx s5=>sC (model prog w) A (call (.builtin "list.append") [AW,x]) (λZ s6=>∃m,m<n/\I m s6) EE s5) EE s4
      else ∃m,m<n/\I m s4) EE s3) EE s2) EE s1) EE s) (n:Nat) (h:I n s) :
  tB (model prog w) A (.compLoop (.ListComp elt [#[tg,iter,ifs,0]] scope pos) 0 it AW env) R s:=by
 subst hEE;refine codeAny_loop rfl I (λn s hI=>?_) n h;show sC _ A ((compTurn (.ListComp elt [#[tg,iter,ifs,0]] scope pos) 0 it AW env).onRaise (λx=>do noteFrame x env;theTreesLotGoes x)) _ _ s;refine wpAny_noted ?_;rw[compTurn_list];refine sj (tw (sj (thn (turn n s hI) λr s1 h1=>?_)))
 cases r with
 | none=>exact sk h1
 | some v =>
  refine sj (thn h1 λZ s2 h2=>sj (thn h2 λZ s3 h3=>sj (thn h3 λok s4 h4=>?_)))
  cases ok with
  | false=>exact sk #[rfl,h4]
  | true=>exact sj (sj (thn h4 λx s5 h5=>sj (thn h5 λZ s6 h6=>sk (sk #[rfl,h6]))))
def yC(X:Cx)(scope:tZ)(cl:List (sF × sv))(C:sv)(N:List sF)(AU:List (sv × tP))(s3:sy)(H3:Hp)(fp:List sv)(E:sw->sy->Prop):Cx :=
 { X with N:=N,s₀:=s3,H₀:=H3,env:=compEnvC scope cl C X.env,outer:=X.stack,ex:=fp,fn:=λZ=>AT,pn:=X.pn ++ AU,xe:=E }
def vR(σ:St)(own:Nat)(ix:()):St:=aR own AR ++ ix.map λi=>(σ[i]?).join
structure kN(X:Cx)(scope:tZ)(own caps:List sF)(ix:()):Prop where
 kind:scope.kind=.function
 nocell:∀y ∈ scope.names,y.2≠.cell
 names:∀y ∈ scope.names,y.2=.local->scope.names.lookup y.1=AQ .local
 free:∀y,(y,NameKind.free) ∈ scope.names->X.env.kindOf y=AQ .cell\/X.env.kindOf y=AQ .free
 hown:∀y ∈ own,scope.names.lookup y=AQ .local
 hcaps:∀y ∈ caps,scope.names.lookup y=AQ .free
 hix:ix.map (λi=>X.N[i]?)=caps.map AQ
theorem wg{α β:Type}[BEq α][LawfulBEq α]{l:List (α × β)}{a:α}{b:β}(h:l.lookup a=AQ b):(a,b) ∈ l:=by
 induction l with
 | nil=>cases h
 | cons p r ih =>
  let#[c,d]:=p;rw[aZ]at h;by_cases e:(a == c)=AS
  ·rw[e]at h;cases h;rw[eq_of_beq e];exact aB
  ·have e':(a == c)=AT:=by simpa using e
   rw[e']at h;exact ar _ (ih h)
theorem vN{scope:tZ}{env:AJ}(hf:env.scope.kind=.function):∀{names:List (sF × tY)} {x:sF} {k:tY},names.lookup x=AQ k ->
    (names.map λ(n,k)=>if (k == NameKind.free && env.scope.kind == .function && env.kindOf n == AQ .cell)then (n,NameKind.cell)else (n,k)).lookup x=AQ (if (k == NameKind.free && env.scope.kind == .function && env.kindOf x == AQ .cell)=AS then .cell else k)
  | [],_,_,h=>by simp at h
  | (n,k')::r,x,k,h=>by
    have ih:=@vN scope env hf r x k;show bA x ((if (k' == NameKind.free && env.scope.kind == .function && env.kindOf n == AQ .cell)=AS then (n,NameKind.cell)else (n,k'))::_)=_;by_cases hx:(x == n)=AS
    . have hxn:x=n:=eq_of_beq hx
      subst hxn;rw[aZ,hx]at h;cases h;by_cases c:(k' == NameKind.free && env.scope.kind == .function && env.kindOf x == AQ .cell)=AS
      . rw[w6 c,w6 c,aZ,hx]
      . rw[w9 c,w9 c,aZ,hx]
    . have hx':(x == n)=AT:=by simpa using hx
      rw[aZ,hx']at h;by_cases c:(k' == NameKind.free && env.scope.kind == .function && env.kindOf n == AQ .cell)=AS
      . rw[w6 c,aZ,hx'];exact ih h
      . rw[w9 c,aZ,hx'];exact ih h
theorem qp{scope:tZ}{env:AJ}:∀{names:List (sF × tY)} {x:sF},names.lookup x=AR ->
    (names.map λ(n,k)=>if (k == NameKind.free && env.scope.kind == .function && env.kindOf n == AQ .cell)then (n,NameKind.cell)else (n,k)).lookup x=AR
  | [],_,_=>rfl
  | (n,k')::r,x,h=>by
    have ih:=@qp scope env r x;show bA x ((if (k' == NameKind.free && env.scope.kind == .function && env.kindOf n == AQ .cell)=AS then (n,NameKind.cell)else (n,k'))::_)=_;by_cases hx:(x == n)=AS
    . rw[aZ,hx]at h;cases h
    . have hx':(x == n)=AT:=by simpa using hx
      rw[aZ,hx']at h;by_cases c:(k' == NameKind.free && env.scope.kind == .function && env.kindOf n == AQ .cell)=AS
      . rw[w6 c,aZ,hx'];exact ih h
      . rw[w9 c,aZ,hx'];exact ih h
def VH(S:kN X scope own caps ix)(hcl1:∀y c,cl.lookup y=AQ c->X.env.cells.lookup y=AQ c)(hcl2:∀y,(y,NameKind.free) ∈ scope.names->∃c,cl.lookup y=AQ c)(I:Inv X AU σ H s)(hfp:∀b ∈ fp,wo X AU H b)(hlt:∀b ∈ fp,b<s⁻¹)(hn:h4.Ns s⁻¹ λZ=>AR)(hk:∀b o,s.heap.get? b=AQ o->h4.get? b=AQ o) :
  Inv (yC X scope cl s⁻¹ (own ++ caps) AU s H fp E) [] (vR σ own.length ix) H { s with heap:=h4,toks:=t4 }:=by
 have kf:X.env.scope.kind=.function:=I.ok.kind;have nofp:∀b ∈ fp,b≠s⁻¹:=λb hb=>ax (hlt b hb)
 have cellLt:∀x c,X.env.cells.lookup x=AQ c->c<s⁻¹:=λx c e=>by
  let#[v,o,ho,_]:=I.cell x c e;exact au ho
 have kinds:∀y k,scope.names.lookup y=AQ k->(relabel scope X.env).names.lookup y=AQ (if (k == NameKind.free && X.env.scope.kind == .function && X.env.kindOf y == AQ .cell)=AS then .cell else k):=λy k e=>vN (scope:=scope) kf e
 have back:∀y k,(relabel scope X.env).names.lookup y=AQ k->∃k',scope.names.lookup y=AQ k'/\k=(if (k' == NameKind.free && X.env.scope.kind == .function && X.env.kindOf y == AQ .cell)=AS then .cell else k'):=λy k e=>by
  cases q:scope.names.lookup y with
  | none =>
   have:=qp (scope:=scope) (env:=X.env) q;have e':(scope.names.map λ(n,k)=>if (k == NameKind.free && X.env.scope.kind == .function && X.env.kindOf n == AQ .cell)then (n,NameKind.cell)else (n,k)).lookup y=AQ k:=e;rw[this]at e';cases e'
  | some k' =>
   refine#[k',rfl,?_];have:=kinds y k' q;rw[e]at this;exact Option.some.inj this
 have isCell:∀y,scope.names.lookup y=AQ .free->(relabel scope X.env).names.lookup y=AQ .cell\/(relabel scope X.env).names.lookup y=AQ .free:=λy e=>by
  have:=kinds y _ e;rcases S.free y (wg e)with q | q
  ·refine .inl ?_;rw[this,w6];rw[q,kf];rfl
  ·refine .inr ?_;rw[this,w9];rw[q];simp
 refine#[#[I.ok.mod,?_,I.ok.glob,I.ok.blt,al _,?_,?_,?_,I.ok.hd,I.ok.frames,.inl rfl,?_,I.bs,aP I.ok.bsz I.sz,?_,?_,I.stack,I.stkFree],rfl,I.bare,Un.kept hk,#[_,hn,?_],?_,?_,?_,?_,I.hok.kept hk,?_]
 ·show (relabel scope X.env).kind=.function;exact S.kind
 ·intro x y c h1 h2;exact I.ok.inj x y c (hcl1 x c h1) (hcl1 y c h2)
 ·intro y hy;have hy':(relabel scope X.env).names.lookup y=AQ .cell\/(relabel scope X.env).names.lookup y=AQ .free:=hy
  have:scope.names.lookup y=AQ .free:=by
   rcases hy' with q | q
   ·let#[k',e,ek]:=back y _ q;by_cases c:(k' == NameKind.free && X.env.scope.kind == .function && X.env.kindOf y == AQ .cell)=AS
    ·rw[ba,ba]at c;rw[e,eq_of_beq c.1.1]
    ·rw[w9 c]at ek;exact w4 ek.symm (S.nocell _ (wg e))
   ·let#[k',e,ek]:=back y _ q;by_cases c:(k' == NameKind.free && X.env.scope.kind == .function && X.env.kindOf y == AQ .cell)=AS
    ·rw[w6 c]at ek;cases ek
    ·rw[w9 c]at ek;rw[e,<- ek]
  exact hcl2 y (wg this)
 ·intro x c h _;exact w4 h (by simp [yC])
 ·intro b hb;refine#[nofp b hb,λx c e=>?_];exact (hfp b hb).2.2.2.2.1 x c (hcl1 x c e)
 ·intro b o e hb;let#[_,_,_,q,_]:=hfp b hb;rcases q with q | q
  ·exact I.ok.noex b o e q
  ·exact w4 (aw (au e) (aP I.ok.bsz q)) (cQ _)
 ·intro b hb z;rcases AZ.mp (I.stkSub b z)with e | e
  ·exact (hfp b hb).2.1 e
  ·exact (hfp b hb).2.2.1 e
 ·intro i y v h1 h2 h3
  have hi:own.length<=i:=by
   refine df λhlt'=>?_;unfold vR at h2;rw[bU (by rw[bM];exact hlt'),fk,w6 hlt']at h2;cases h2
  have h1':caps[i - own.length]? = AQ y:=by
   have:(own ++ caps)[i]? = AQ y:=h1;rw[bF hi]at this;exact this
  have h2':(ix.map λi=>(σ[i]?).join)[i - own.length]? = AQ (AQ v):=by
   unfold vR at h2;rw[bF (by rw[bM];exact hi),bM]at h2;exact h2
  rw[aq]at h2';have hx:=congrArg (λl=>l[i - own.length]?) S.hix
  erw[aq,h1',Option.map_some]at hx
  cases q:ix[i - own.length]? with
  | none=>rw[q]at h2';cases h2'
  | some j =>
   rw[q]at h2' hx;have hj:X.N[j]? = AQ y:=Option.some.inj hx;have hv:(σ[j]?).join=AQ v:=Option.some.inj h2'
   have hσ:σ[j]? = AQ (AQ v):=by
    cases r:σ[j]? with
    | none=>rw[r]at hv;cases hv
    | some z=>rw[r]at hv;cases z with
     | none=>cases hv
     | some z=>cases hv;rfl
   have hfree:scope.names.lookup y=AQ .free:=S.hcaps y (ac h1');have hkc:=S.free y (wg hfree);let#[m,hm,hl]:=I.loc;let#[u,ru,l]:=hl j y v hj hσ (.inr hkc);refine#[u,ru,.inr #[isCell y hfree,?_]];rcases l with ⟨k,_⟩ | ⟨_,c,e,z⟩
   ·have:X.env.kindOf y=AQ .local:=k;rcases hkc with q' | q' <;> (rw[q']at this;cases this)
   ·let#[c',e']:=hcl2 y (wg hfree);have:=hcl1 y c' e';rw[e]at this;cases this;let#[o,ho,hd]:=z;exact#[c,e',o,hk c o ho,hd]
 ·intro x c e;let#[v,o,ho,hd]:=I.cell x c (hcl1 x c e);exact#[v,o,hk c o ho,hd]
 ·exact I.hok.fresh (al _)
 ·intro x c e;exact I.freeC x c (hcl1 x c e)
 ·intro p hp
  have hp':p ∈ X.pn ++ AU:=by
   have:p ∈ (X.pn ++ AU) ++ []:=hp
   rwa [aT]at this
  let#[e,n,ne,nf,d]:=I.pin p hp';refine#[hk _ _ e,n,?_,λz=>?_,d]
  ·exact ax (au e)
  ·rcases AZ.mp (I.stkSub p.1 z)with q | q
   ·exact ne q
   ·exact nf q
 ·show (vR σ own.length ix).length=(own ++ caps).length;have:=congrArg cG S.hix;rw[aa,aa]at this;unfold vR;rw[aj,bM,aa,aj,this]
def xm(σ σ':St):Prop:=σ.length=σ'.length/\∀(i:Nat) v,σ[i]? = AQ (AQ v)->σ'[i]? = AQ (AQ v)
def PTs(X:Cx)(ifs:List tH)(t:TT):Prop :=
 ∀(AU:List (sv × tP)) (s:sy) (σ:St) (H:Hp) (Q:Bool->Hp->Prop),Inv X AU σ H s->t σ H Q->sC (model X.prog X.w) X.A (UW ifs X.env) (TP X AU σ Q) X.xe s
def xo:TT:=λZ H Q=>Q AS H
def yh : PTs X [] xo:=λZ Z Z H Z I h=>sk #[H,I,h]
def UC(h:PT X c t):PTs X [c] t:=λAU s σ H Q I hq=>by
 show sC _ _ (forIn [c] AS _) _ _ s
 erw[fv,List.forIn_nil,if_true]
 exact sj (sj (thn (h AU s σ H Q I hq) λb s' hb=>sk (sk hb)))
def qH(wi:TI)(g:TG)(tt:TT)(te:TE)(own:Nat)(ix:()):TE:=λσ H Q=>wi σ H λJ H1=>∀D,H1 D=AR->∃W:Nat->Nat->List V->Hp->Prop,(∃m,W 0 m [] (upd H1 D (.lst []))) /\
 ∀i m AW H',W i m AW H'->(J.stop i H'/\Q (.ref D) H')\/(J.go i H'/\∀x H2,J.yld i H' x H2->g x (vR σ own ix) H2 λσ3 H3=>xm (vR σ own ix) σ3/\tt σ3 H3 λb H4=>if b=AS then
  te σ3 H4 λv H5=>H5 D=AQ (.lst AW)/\AW.length<sr/\∃m',m'<m/\W (i+1) m' (AW ++ [v]) (upd H5 D (.lst (AW ++ [v])))
  else ∃m',m'<m/\W (i+1) m' AW H4)
def Un.but(u:Un fs ex H H' h h1)(sb:Heap.SameBut a h1 h2)(ha:h.get? a=AR):Un fs ex H H' h h2:=by
 have ne:∀b o,h.get? b=AQ o->b≠a:=λb o e z=>by subst z;rw[ha]at e;cases e
 refine#[λb o e n hb hx=>(sb.2 b (ne b o e)).trans (u.keep b o e n hb hx),λb o e n hb hx=>?_,u.free,λb o e hx=>?_,u.tups,u.frzs,u.tbls]
 ·let#[sl,q]:=u.slot b o e n hb hx;exact#[sl,(sb.2 b (ne b o e)).trans q]
 ·let#[o',q]:=u.there b o e hx;exact#[o',(sb.2 b (ne b o e)).trans q]
def HOk.but(ok:HOk P w H h1)(sb:Heap.SameBut a h1 h2)(ha:H a=AR):HOk P w H h2:=λb ob e=>by
 refine (ok b ob e).stay (λc u hc q=>(sb.2 c ?_).trans q) (λZ q=>q) λZ Z q=>q;rintro rfl;rcases hc with rfl | hc
 ·rw[ha]at e;cases e
 ·rw[ha]at hc;cases hc
def ZL(i:Nat)(t:TE):TS:=λD σ H=>t σ H λx H1=>D.nx (σ.set i (AQ x)) H1
def Yq:R2:=λx y H Q=>match x with | .int i=>onInt y λj=>Q (.int (i+j)) H | .str i=>onStr y λj=>i.length+j.length<=sr/\Q (.str (i ++ j)) H | .ref l=>zde (.ref l) y H Q | _=>False
theorem jm:OpR X (binaryOp .Add) Yq:=by
 intros x y v u Q I rx ry h
 cases x with
 | int i=>exact z7 AU s σ H (.int i) y v u Q I rx ry h
 | str i=>exact zS AU s σ H (.str i) y v u Q I rx ry (by let#[j,rfl,q]:=onStr.of h;exact#[i,j,rfl,rfl,q])
 | ref l=>exact WY AU s σ H (.ref l) y v u Q I rx ry h
 | _=>exact h.elim
def zbu:R2:=λx y H Q=>match x with | .int i=>onInt y λj=>CMul i j/\Q (.int (i * j)) H | .str z=>onInt y λn=>0<=n/\n<=1000/\z.length<=1000/\Q ⇑(aR n.toNat (cs z)).flatten H | _=>False
theorem Wi:OpR X (binaryOp .Mult) zbu:=by
 intros x y v u Q I rx ry h
 cases x with
 | int i=>exact qw AU s σ H (.int i) y v u Q I rx ry h
 | str z=>exact VW AU s σ H (.str z) y v u Q I rx ry (by let#[n,rfl,q]:=onInt.of h;exact#[z,n,rfl,rfl,q])
 | _=>exact h.elim
def zfc:R2:=λx y H Q=>match x with | .int i=>onInt y λj=>Q (.bl (decide (i<j))) H | .str i=>onStr y λj=>Q (.bl (decide (cs i<cs j))) H | _=>False
theorem Qv:OpR X (sK .Lt) zfc:=by
 intros x y v u Q I rx ry h
 cases x with
 | int i=>exact Ui AU s σ H (.int i) y v u Q I rx ry h
 | str i=>exact op_lt_str' AU s σ H (.str i) y v u Q I rx ry (by let#[j,rfl,q]:=onStr.of h;exact#[i,j,rfl,rfl,q])
 | _=>exact h.elim
def zfi:R2:=λx y H Q=>match x with | .int i=>onInt y λj=>Q (.bl (decide (i<=j))) H | .str i=>onStr y λj=>Q (.bl (!(decide (cs j<cs i)))) H | _=>False
theorem wH:OpR X (sK .LtE) zfi:=by
 intros x y v u Q I rx ry h
 cases x with
 | int i=>exact zeP AU s σ H (.int i) y v u Q I rx ry h
 | str i=>exact QV AU s σ H (.str i) y v u Q I rx ry (by let#[j,rfl,q]:=onStr.of h;exact#[i,j,rfl,rfl,q])
 | _=>exact h.elim
def QT:OpR X (sK .Gt) (λx y H Q=>∃i j,x=.str i/\y=.str j/\Q (.bl (decide (cs j<cs i))) H):=by intros x y v u Q I rx ry h;let#[i,j,rfl,rfl,q]:=h;let#[t,rfl]:=rx;let#[t',rfl]:=ry;exact PySem.P.gt_str #[.bl _,H,I,rfl,q]
def ze8:R2:=λx y H Q=>match x with | .int i=>onInt y λj=>Q (.bl (decide (j<i))) H | .str i=>onStr y λj=>Q (.bl (decide (cs j<cs i))) H | _=>False
theorem Yw:OpR X (sK .Gt) ze8:=by
 intros x y v u Q I rx ry h
 cases x with
 | int i=>exact Xo AU s σ H (.int i) y v u Q I rx ry h
 | str i=>exact QT AU s σ H (.str i) y v u Q I rx ry (by let#[j,rfl,q]:=onStr.of h;exact#[i,j,rfl,rfl,q])
 | _=>exact h.elim
def zeF(K:su):V->Option Int->Option Int->Hp->VK->Prop:=λx lo hi H Q=>match x with | .ref a=>zeB K (.ref a) lo hi H Q | .str z=>zem (.str z) lo hi H Q | _=>False
theorem zaJ:SlR X (zeF X.K):=by
 intros x v vl vu lo hi sl Q I rx hs pl pu h
 cases x with
 | ref a=>exact jZ AU s σ H (.ref a) v vl vu lo hi sl Q I rx hs pl pu h
 | str z=>exact yL AU s σ H (.str z) v vl vu lo hi sl Q I rx hs pl pu h
 | _=>exact h.elim
def cV:V->Option sw
 | .ty n=>AQ (.type n)
 | .ref a=>AQ (.ref a)
 | _=>AR
def KG:w8 X (.builtin "isinstance") (λxs H Q=>∃x c u t b,xs=[x,c]/\cV c=AQ u/\Wz X.K H x t/\aV X.K t u=AQ b/\Q (.bl b) H):=by
 intros xs us Q I r h;let#[x,c,u,t,b,rfl,hc,ty,e,q]:=h;let#[v,w',rfl,rx,rc]:=V8 r
 have:w'=u:=by
  cases c with
  | ty n=>cases hc;exact rc
  | ref a=>cases hc;exact rc
  | _=>cases hc
 subst this;exact JY I rx ty e λtk=>#[.bl b,H,I.tok tk,rfl,q]
def Iel(K:su)(a:sv):It:=#[λi H=>∃xs x,SqL K H a xs/\xs[i]? = AQ x,λi H v H'=>∃p x,H p=AR/\(∀xs,SqL K H a xs->xs[i]? = AQ x)/\v=.ref p/\H'=upd H p (.tup [.int (i:Nat),x]),λi H=>∃xs,SqL K H a xs/\i=xs.length]
def VD{K:su}(e it a:sv)(hei:e≠it) :
  J6 P w K (.Tuple elts x1 tpos) (Iel K a) [e,it] e (λi h=>(∃old,IsEnum h e it i old)/\h.IsListIter it a i) where
 mem:=by simp
 obj:=λi h st b hb=>by
  let#[#[old,he],o,e2,c,d]:=st;rcases AZ.mp hb with q | q
  ·subst q;exact#[_,he,λv z=>by have z':Data.fields _=Data.cell v:=z;cases z']
  ·have q':b=it:=by simpa using q
   subst q';exact#[o,e2,λv z=>by rw[d]at z;cases z]
 keep:=λi h h' st k=>by
  let#[#[old,he],st]:=st;exact#[#[old,k e (by simp) _ he],st.at λo q=>k it (by simp) o q]
 item:=by
  intro X hP hw hK hc i AU s σ H E I hf st hg;subst hP hw hK;let#[#[old,he],st]:=st;let#[xs,x,hq,hx]:=hg;let#[its,rv,p,hz]:=I.list hq;let#[u,hu,ru]:=rv.get hx;have hA:X.A.in1.handled=AR:=I.ok.hd hc;have pl:=p.isList
  have hai:a≠it:=λz=>by
   subst z;let#[o1,q1,c1,_]:=st;let#[o2,q2,c2,_]:=pl;rw[q1]at q2;cases q2;rw[c1]at c2;exact w4 (Value.type.inj c2) ∅
  have hea:e≠a:=λz=>by
   subst z;let#[o2,q2,c2,_]:=pl;rw[he]at q2;cases q2;exact w4 (Value.type.inj c2) ∅
  refine wpAny_pyNext_enum_itemD (Draws.list (A:=X.A.in1) hA it a hai its.toArray) he #[st,pl] (by rw[ak];exact (AX.mp hu).1) hei (by simp [hei,hea]) λv h' tk hv ho st' hT hsz kk=>?_
  have ev:v=u:=by
   have hv':its.toArray[i]? = AQ v:=hv;rw[List.getElem?_toArray,hu]at hv';exact (Option.some.inj hv').symm
  subst ev;refine#[_,rfl,wpAny_letOwnedTupleGo_enum ho λh2 he2 sb=>?_];have elt:e<s⁻¹:=au he;have ilt:it<s⁻¹:=by let#[o,q,_]:=st;exact au q
  have I1:Inv X AU σ H { s with heap:=h2,toks:=tk+1 }:=Inv.turns (fp:=[e,it]) I (λb o hb q=>by
   have hb':b≠e/\b≠it:=by simpa using hb
   exact (sb.2 b hb'.1).trans (kk b o hb'.1 hb'.2 q)) hf
  have hp:H s⁻¹=AR:=I.hok.fresh (al _);have hT2:h2.get? s⁻¹=AQ { cls:=.type "tuple",data:=.seq (r9 [.int (i:Nat) tk,v]) }:=(sb.2 _ (cH elt)).trans hT
  have I2:Inv X AU σ (upd H s⁻¹ (.tup [.int (i:Nat),x])) { s with heap:=h2,toks:=tk+1 } :=
   Inv.track I1 (I.fpOk (al _) hp) #[by show 2<=sr;decide,[.int (i:Nat) tk,v],.cons #[_,rfl] (.cons ru .nil),#[_,hT2,rfl,_,rfl]]
  refine#[.ref s⁻¹,_,I2,rfl,#[s⁻¹,x,hp,λys hy=>by rw[I.list_inj hy hq];exact hx,rfl,rfl],#[#[_,by simpa using he2],?_],λb hb=>?_]
  ·exact st'.1.at λo q=>(sb.2 it (Ne.symm hei)).trans q
  ·rw[zt]
   ·exact (hf b hb).1
   ·rcases AZ.mp hb with q | q
    ·rw[q];exact ax elt
    ·have q':b=it:=by simpa using q
     rw[q'];exact ax ilt
 done:=by
  intro X hP hw hK hc i AU s σ H E I hf st hg;subst hP hw hK;let#[#[old,he],st]:=st;let#[xs,hq,hi]:=hg;let#[its,rv,p,hz]:=I.list hq;have pl:=p.isList
  have hai:a≠it:=λz=>by
   subst z;let#[o1,q1,c1,_]:=st;let#[o2,q2,c2,_]:=pl;rw[q1]at q2;cases q2;rw[c1]at c2;exact w4 (Value.type.inj c2) ∅
  have hA:X.A.in1.handled=AR:=I.ok.hd hc;have hi':i=its.toArray.size:=by rw[ak,<- rv.length];exact hi
  subst hi';refine wpAny_pyNext_enum_endD (Draws.list (A:=X.A.in1) hA it a hai its.toArray) he #[st,pl] λh' hx=>#[rfl,?_];exact Inv.turns (fp:=[e,it]) (t':=s.toks) I (λb o hb q=>hx b o (λz=>hb (by simp [z])) q) hf
 self:=λA i s Q E st h=>by
  let#[#[old,he],_]:=st;exact As he h
def Q9(K:su)(ta:TA):TI:=λσ H R=>ta σ H λvs H1=>∃a,vs=[.ref a]/\(∃xs,SqL K H1 a xs)/\R (Iel K a) H1
def xf(hg:Gl X "enumerate")(hm:X.mg "enumerate" = AR)(ha:PA X [a] ta)(hs:‹sq [a] X.env=[(AT,eval a X.env)]›) :
  PI X (.Tuple elts x1 tpos) (.Call (.Name "enumerate" p) [a] [] pos) (Q9 X.K ta):=by
 intros R I h;refine Call_ (vQ I hg hm PyProof.Rows.boot_enumerate (bN (thn (ha pos AU s σ H _ I h) λus s1=>el5 λvs H1 I1 r1 q1=>?_) hs rfl));let#[l,e,#[xs,hq],q]:=q1;subst e;let#[u,rfl,ru]:=wK r1;cases ru;let#[its,rv,pl,hz]:=I1.list hq;refine call_enumerate_list pl.isList λh' he hit hsz kk=>?_;have I2:Inv X AU σ H1 { s1 with heap:=h' }:=I1.kept (t':=s1.toks) kk;refine As (s:={ s1 with heap:=h' }) (i:=0) he ?_;refine#[s1⁻¹+1,[s1⁻¹+1,s1⁻¹],_,_,H1,rfl,I2,VD _ _ l (Nat.succ_ne_self _),#[#[_,he],hit],λb hb=>?_,q]
 have hb':s1⁻¹<=b:=by
  rcases AZ.mp hb with e | e
  ·rw[e];exact cF _
  ·have:b=s1⁻¹:=by simpa using e
   rw[this];exact al _
 exact I1.fpOk hb' (I1.hok.fresh hb')
def ForEL(K:su)(a:sv)(g:TG)(tb:TS)(D:Z2)(σ:St)(H:Hp):Prop:=∃W:Nat->Nat->St->Hp->Prop,(∃m,W 0 m σ H)/\∀i m σ H,W i m σ H ->
 ((Iel K a).stop i H/\D.nx σ H)\/((Iel K a).go i H/\∃N:St->Hp->Prop,(∀σ' H',N σ' H'->∃m',m'<m/\W (i+1) m' σ' H')/\∀x H',(Iel K a).yld i H x H'->g x σ H' λσ2 H2=>tb { D with nx:=N,ct:=N,bk:=D.nx } σ2 H2)
def zed{K:su}:KQ (Q9 K ta) g tb D σ H=ta σ H λvs H1=>∃a,vs=[.ref a]/\(∃xs,SqL K H1 a xs)/\ForEL K a g tb D σ H1:=rfl
def ForEL.by{K:su}(Pv:Nat->St->Hp->Prop)(h0:Pv 0 σ H)(hl:∀i σ H,i<=xs.length->Pv i σ H->SqL K H a xs)(hs:∀i x σ H p,xs[i]? = AQ x->Pv i σ H->H p=AR->g (.ref p) σ (upd H p (.tup [.int (i:Nat),x])) λσ2 H2=>tb { D with nx:=Pv (i+1),ct:=Pv (i+1),bk:=D.nx } σ2 H2)(hd:∀σ H,Pv xs.length σ H->D.nx σ H):ForEL K a g tb D σ H:=by
 refine#[λi m σ H=>m=xs.length - i/\i<=xs.length/\Pv i σ H,#[xs.length,by simp,ay _,h0],?_];rintro i m σ H ⟨rfl,hi,p⟩;have q:=hl i σ H hi p;by_cases hlt:i<xs.length
 ·refine .inr #[#[xs,xs[i],q,by simp [hlt]],Pv (i+1),λσ' H' p'=>#[xs.length - (i+1),⋯,rfl,hlt,p'],λv H' y=>?_];let#[p',x,hp,hx,ev,eH]:=y;subst ev eH;exact hs i x σ H p' (hx xs q) p hp
 ·have e:i=xs.length:=⋯;subst e;exact .inl #[#[xs,q,rfl],hd σ H p]
def ForT(K:su)(a:sv)(g:TG)(tb:TS)(D:Z2)(σ:St)(H:Hp):Prop:=∃W:Nat->Nat->St->Hp->Prop,(∃m,W 0 m σ H)/\∀i m σ H,W i m σ H ->
 ((Itt K a).stop i H/\D.nx σ H)\/((Itt K a).go i H/\∃N:St->Hp->Prop,(∀σ' H',N σ' H'->∃m',m'<m/\W (i+1) m' σ' H')/\∀x H',(Itt K a).yld i H x H'->g x σ H' λσ2 H2=>tb { D with nx:=N,ct:=N,bk:=D.nx } σ2 H2)
def zgP{K:su}:KQ (zgQ K tl) g tb D σ H=tl σ H λx H1=>∃a,x=.ref a/\(∃xs,SqT K H1 a xs)/\ForT K a g tb D σ H1:=rfl
def ForT.by{K:su}(Pv:Nat->St->Hp->Prop)(h0:Pv 0 σ H)(hl:∀i σ H,i<=xs.length->Pv i σ H->SqT K H a xs)(hs:∀i x σ H,xs[i]? = AQ x->Pv i σ H->g x σ H λσ2 H2=>tb { D with nx:=Pv (i+1),ct:=Pv (i+1),bk:=D.nx } σ2 H2)(hd:∀σ H,Pv xs.length σ H->D.nx σ H):ForT K a g tb D σ H:=zbv Pv h0 hl hs hd
def zga(K:su)(x:V)(H:Hp)(p:Bool->Prop):Prop:=match x with | .bl b=>p b | x=>∃k,zeC K x H k/\p k
def tTr(K:su)(ta:TE):TT:=λσ H Q=>ta σ H λx H'=>zga K x H' λk=>Q k H'
def zbC{K:su}:tTr K ta σ H Q=ta σ H λx H'=>zga K x H' λk=>Q k H':=rfl
def tBl(ta:TE):TT:=λσ H Q=>ta σ H λx H'=>onBl x λk=>Q k H'
def zbV : tBl ta σ H Q=ta σ H λx H'=>onBl x λk=>Q k H':=rfl
def yl(ha:PE X a ta)(he:∀whole,isTrue a X.env whole=(do let v <- whole;standAt a.pos;holding [v] (truthy v))):PT X a (tBl ta):=by intros Q I h;refine isTrue_plain (thn (ha AU s σ H _ I h) λv s1=>el5 λx H1 I1 r1 q1=>?_) (he _);let#[k,rfl,q1]:=onBl.of q1;exact zbn AU s1 σ H1 (.bl k) v Q I1 r1 #[k,rfl,q1]
def Irv(K:su)(a:sv)(n:Nat):It:=#[λi H=>∃xs,SqL K H a xs/\xs.length=n/\i<n,λi H v H'=>H'=H/\∀xs,SqL K H a xs->xs.length=n->xs[n - 1 - i]? = AQ v,λi H=>i=n]
def KF{K:su}(a it:sv)(n:Nat):J6 P w K tg (Irv K a n) [it] it (λi h=>i<=n/\h.IsRevIter it a ((n:Int) - 1 - (i:Int))) where
 mem:=by simp
 obj:=λi h st b hb=>by
  have e:b=it:=by simpa using hb
  subst e;let#[_,o,e,c,d]:=st;exact#[o,e,λv z=>by rw[d]at z;cases z]
 keep:=λi h h' st k=>#[st.1,st.2.at λo e=>k it (by simp) o e]
 item:=by
  intro X hP hw hK hc i AU s σ H E I hf st hg;subst hP hw hK;let#[xs,hq,hn,hi]:=hg;let#[its,rv,p,hz]:=I.list hq;let#[f0,f1,f2,f3,f4,f5]:=hf it (by simp);have hx:xs[n - 1 - i]? = AQ (xs[n - 1 - i]'⋯):=af ⋯;generalize xs[n - 1 - i]'⋯=x at hx;let#[u,hu,ru]:=rv.get hx;have st2:=st.2;have e:(n:Int) - 1 - (i:Int)=((n - 1 - i:Nat):Int):=⋯;rw[e]at st2;refine wpAny_pyNext_rev_item st2 p.isList (x:=u) ↥hu λh' st' sb=>?_;have I1:Inv X AU σ H { s with heap:=h' }:=I.turned (t':=s.toks) (λb o hb e=>(sb.2 b hb).trans e) f0 f1 f3 f4 f5;have e2:((n - 1 - i:Nat):Int) - 1=(n:Int) - 1 - ((i+1:Nat):Int):=⋯;rw[e2]at st';let#[o,e,c,d]:=id st';exact#[u,rfl,Xv (s:={ s with heap:=h' }) e c d ∅ #[x,H,I1,ru,#[rfl,λys hy Z=>by rw[I.list_inj hy hq];exact hx],#[hi,st'],λb hb=>(hf b hb).1]]
 done:=by
  intro X hP hw hK hc i AU s σ H E I hf st hg;subst hP hw hK;let#[f0,f1,f2,f3,f4,f5]:=hf it (by simp);have hi:i=n:=hg;have st2:=st.2;rw[hi,show (n:Int) - 1 - (n:Int)=-1 by lia]at st2;exact wpAny_pyNext_rev_end (I.ok.hd hc) st2 λh' eb=>#[rfl,I.turned (t':=s.toks) (λb o hb e=>eb b o hb e) f0 f1 f3 f4 f5]
 self:=λZ Z Z Z Z st h=>Ag st.2 h
def Kj:sW "reversed" = AQ (.type "reversed"):=PyProof.Rows.boot_reversed
def zgH(K:su)(ta:TA):TI:=λσ H R=>ta σ H λvs H1=>∃a xs,vs=[.ref a]/\SqL K H1 a xs/\R (Irv K a xs.length) H1
def zef(hg:Gl X "reversed")(hm:X.mg "reversed" = AR)(ha:PA X [a] ta)(hs:‹sq [a] X.env=[(AT,eval a X.env)]›) :
  PI X tg (.Call (.Name "reversed" p) [a] [] pos) (zgH X.K ta):=by
 intros R I h;refine Call_ (vQ I hg hm Kj (bN (thn (ha pos AU s σ H _ I h) λus s1=>el5 λvs H1 I1 r1 q1=>?_) hs rfl));let#[l,xs,e,hq,q]:=q1;subst e;let#[u,rfl,ru]:=wK r1;cases ru;let#[its,rv,pl,hz]:=I1.list hq;have hn:its.toArray.size=xs.length:=by rw[ak,<- rv.length]
 refine call_reversed_list pl.isList ?_
 have hit:(s1.heap.push (revObj l ((its.toArray.size:Int) - 1))).IsRevIter s1⁻¹ l ((xs.length:Int) - 1 - ((0:Nat):Int)):=by
  refine#[_,aE _ rfl,rfl,?_];rw[hn,show (xs.length:Int) - 1 - ((0:Nat):Int)=(xs.length:Int) - 1 by lia];rfl
 refine Ag (s:={ s1 with heap:=s1.heap.push (revObj l ((its.toArray.size:Int) - 1)) }) hit ?_;refine#[s1⁻¹,[s1⁻¹],_,_,H1,rfl,I1.kept (t':=s1.toks) λb o e=>ag _ e,KF l _ xs.length,#[ay _,hit],λb hb=>?_,q];have e:b=s1⁻¹:=by simpa using hb
 subst e;exact I1.fpOk (al _) (I1.hok.fresh (al _))
def zgk(K:su)(ta:TA):TE:=λσ H Q=>ta σ H λvs H1=>∃a xs,vs=[.ref a]/\SqL K H1 a xs/\∀l,H1 l=AR->Q (.ref l) (upd H1 l (.lst xs.reverse))
def Uu{K:su}:zgk K ta σ H Q=ta σ H λvs H1=>∃a xs,vs=[.ref a]/\SqL K H1 a xs/\∀l,H1 l=AR->Q (.ref l) (upd H1 l (.lst xs.reverse)):=rfl
def Izp(K:su)(a b:sv):It:=#[λi H=>∃xs ys x y,SqL K H a xs/\SqL K H b ys/\xs[i]? = AQ x/\ys[i]? = AQ y,λi H v H'=>∃p x y,H p=AR/\(∀xs,SqL K H a xs->xs[i]? = AQ x)/\(∀ys,SqL K H b ys->ys[i]? = AQ y)/\v=.ref p/\H'=upd H p (.tup [x,y]),λi H=>∃xs ys,SqL K H a xs/\SqL K H b ys/\(xs.length=i\/ys.length=i)/\i<=xs.length/\i<=ys.length]
def vg{h:sV}(h1:h.get? a=AQ o1)(c1:o1.cls=.type t)(h2:h.get? b=AQ o2)(c2:o2.cls=.type u)(hne:t≠u):a≠b:=λz=>by
 rw[z,h2]at h1;cases h1;rw[c2]at c1;exact hne (Value.type.inj c1).symm
structure zdt(z TI TO i1 i2:sv):Prop where
 TIz:TI≠z
 TOz:TO≠z
 i1z:i1≠z
 i2z:i2≠z
 TITO:TI≠TO
 TIi1:TI≠i1
 TIi2:TI≠i2
 TOi1:TO≠i1
 TOi2:TO≠i2
 i12:i1≠i2
def ZipAt(z TI TO i1 i2 l1 l2:sv)(i:Nat)(h:sV):Prop:=IsZip h z TI TO .none/\IsPair h TI (.ref i1) (.ref i2)/\(∃a b,IsPair h TO a b)/\h.IsListIter i1 l1 i/\h.IsListIter i2 l2 i
def ZipAt.apart{z TI TO i1 i2 l1 l2:sv}(D:zdt z TI TO i1 i2)(st:ZipAt z TI TO i1 i2 l1 l2 i h)(h1:h.IsList l1 xs)(h2:h.IsList l2 ys):ZipApart z TI TO i1 i2 l1 l2:=by let#[hz,hTI,#[a,b,hTO],#[o1,e1,c1,_],#[o2,e2,c2,_]]:=st;let#[p1,q1,k1,_]:=h1;let#[p2,q2,k2,_]:=h2;exact#[D.TIz,D.TOz,D.i1z,D.i2z,D.TITO,D.TIi1,D.TIi2,D.TOi1,D.TOi2,D.i12,vg q1 k1 hz rfl ∅,vg q1 k1 hTO rfl ∅,vg q1 k1 e1 c1 ∅,vg q1 k1 e2 c2 ∅,vg q2 k2 hz rfl ∅,vg q2 k2 hTO rfl ∅,vg q2 k2 e1 c1 ∅,vg q2 k2 e2 c2 ∅]
def zg1(K:su)(ta:TA):TI:=λσ H R=>ta σ H λvs H1=>∃a b,vs=[.ref a,.ref b]/\(∃xs,SqL K H1 a xs)/\(∃ys,SqL K H1 b ys)/\R (Izp K a b) H1
def zhf(K:su)(a b:sv)(g:TG)(tb:TS)(D:Z2)(σ:L2.St)(H:Hp):Prop:=∃W:Nat->Nat->L2.St->Hp->Prop,(∃m,W 0 m σ H)/\∀i m σ H,W i m σ H ->
 ((Izp K a b).stop i H/\D.nx σ H)\/((Izp K a b).go i H/\∃N:L2.St->Hp->Prop,(∀σ' H',N σ' H'->∃m',m'<m/\W (i+1) m' σ' H')/\∀x H',(Izp K a b).yld i H x H'->g x σ H' λσ2 H2=>tb { D with nx:=N,ct:=N,bk:=D.nx } σ2 H2)
def zgz{K:su}:KQ (zg1 K ta) g tb D σ H=ta σ H λvs H1=>∃a b,vs=[.ref a,.ref b]/\(∃xs,SqL K H1 a xs)/\(∃ys,SqL K H1 b ys)/\zhf K a b g tb D σ H1:=rfl
abbrev xob(C:sv)(dx:Option sv)(t:sv)(tb:sw):tP:={ cls:=.ref C,dict:=dx,data:=.fields (r9 [.ref t,tb,.none,.none,.bool AT,.none]) }
abbrev xog(C:sv)(dx:Option sv)(t:sv)(tb c:sw)(k:Bool):tP:={ cls:=.ref C,dict:=dx,data:=.fields (r9 [.ref t,tb,c,.none,.bool k,.none]) }
def zbU(h:sV)(x:sv)(tb:sw):Prop:=tb=.none\/∃T oT ts,tb=.ref T/\T≠x/\h.get? T=AQ oT/\oT.data=.fields ts/\3<ts.size
def Xl(h:env.frame=env0.frame):eK env=eK env0:=by unfold eK;rw[h]
def ZJ(hfr:A.frames=AQ (env0::outer))(hl:s.heap.FunFrames base (env0::outer))(hf:env0.frame=AQ L)(he:env.frame=AQ L)(hx:s.heap.get? x=AQ (xog C dx t tb cx kx))(h:∀h' oT ts,h'.get? x=AQ (xog C dx t (.ref s⁻¹) cx kx)->s⁻¹≠x->h'.get? s⁻¹=AQ oT->oT.data=.fields ts->3<ts.size ->
   (∀b o,b≠x->b ∉ frs (env0::outer)->s.heap.get? b=AQ o->h'.get? b=AQ o)->(∀b o,b≠x->s.heap.get? b=AQ o->∃sl,h'.get? b=AQ { o with slots:=sl })->Q Unit.unit { s with heap:=h' }) :
  sC M A (do let a <- eK env;let pl <- entryPlaceOf L hadNext;let b <- EntryCells.newEntry head a .none (rawInt L) .none pl;setField (.ref x) 1 b) Q E s:=by
 have hxf:x ∉ frs (env0::outer):=λhm=>by
  let#[_,o,ho,hnf]:=hl.mem hm;rw[hx]at ho;cases ho;exact hnf _ rfl
 rw[Xl (he.trans hf.symm)];refine sj (wpAny_frameOf_fun hfr hl hf λh1 hs1=>sj (wpAny_entryPlaceOf λpl hpl=>?_));unfold EntryCells.newEntry newFields;refine sj (tT ?_ (hpl.sizeOk5 _ _ _ _ _));have hz:h1.objs.size=s⁻¹:=hs1.1;have hx1:h1.get? x=AQ (xog C dx t tb cx kx):=(hs1.2.1 x hxf).trans hx;generalize ho:({ cls:=.type "traceback",dict:=AR,data:=.fields ([head,.ref L,.none,rawInt L,.none] ++ (if pl.isEmpty then aR 6 p9 else pl)).toArray }:tP)=ob;have hx2:(h1.push ob).get? x=AQ (xog C dx t tb cx kx):=ag _ hx1;refine tI hx2 rfl (by show 1<6;decide) ?_;have hne:h1.objs.size≠x:=cH (au hx1)
 have hx3:((h1.push ob).update x (Obj.mapFields (·.setIfInBounds 1 (r8 h1.objs.size)))).get? x=AQ (xog C dx t (.ref h1.objs.size) cx kx) :=
  cp (Obj.mapFields (·.setIfInBounds 1 (r8 h1.objs.size))) hx2 rfl
 have hT:((h1.push ob).update x (Obj.mapFields (·.setIfInBounds 1 (r8 h1.objs.size)))).get? h1.objs.size=AQ ob :=
  (az _ _ (Ne.symm hne)).trans (aE h1 (by rw[<- ho];rfl))
 rw[hz]at hx3 hT hne
 have kp:∀b o,b≠x->h1.get? b=AQ o->((h1.push ob).update x (Obj.mapFields (·.setIfInBounds 1 (r8 h1.objs.size)))).get? b=AQ o:=λb o hb e =>
  (az _ _ (Ne.symm hb)).trans (ag _ e)
 rw[hz]at kp ⊢;refine h _ ob _ hx3 hne hT (by rw[<- ho]) (by erw[ak,aj,aG,bH] <;> lia) (λb o hb hbf e=>kp b o hb ((hs1.2.1 b hbf).trans e)) λb o hb e=>?_;let#[sl,q]:=hs1.2.2 b o e;exact#[sl,kp b _ hb q]
def ZV(hfr:A.frames=AQ (env0::outer))(hl:s.heap.FunFrames base (env0::outer))(hf:env0.frame=AQ L)(he:env.frame=AQ L)(hx:s.heap.get? x=AQ (xog C dx t tb cx kx))(htb:zbU s.heap x tb)(h:∀h' T oT ts,h'.get? x=AQ (xog C dx t (.ref T) cx kx)->T≠x->(tb=.ref T\/s⁻¹<=T)->h'.get? T=AQ oT->oT.data=.fields ts->3<ts.size ->
   (∀b o,b≠x->tb≠.ref b->b ∉ frs (env0::outer)->s.heap.get? b=AQ o->h'.get? b=AQ o)->(∀b o,b≠x->tb≠.ref b->s.heap.get? b=AQ o->∃sl,h'.get? b=AQ { o with slots:=sl })->Q Unit.unit { s with heap:=h' }) :
  sC M A (noteFrame (.ref x) env) (λZ s1=>sC M A (setFlight (.ref x) AR) Q E s1) E s:=by
 have land:∀(h1:sV) (T:sv) (oT:tP) (ts:Array sw),h1.get? x=AQ (xog C dx t (.ref T) cx kx)->T≠x->(tb=.ref T\/s⁻¹<=T)->h1.get? T=AQ oT->oT.data=.fields ts->3<ts.size ->
   (∀b o,b≠x->tb≠.ref b->b ∉ frs (env0::outer)->s.heap.get? b=AQ o->h1.get? b=AQ o)->(∀b o,b≠x->tb≠.ref b->s.heap.get? b=AQ o->∃sl,h1.get? b=AQ { o with slots:=sl }) ->
   sC M A (setFlight (.ref x) AR) Q E { s with heap:=h1 }:=λh1 T oT ts e1 nT oldT e2 d2 z2 k1 k2=>by
  unfold setFlight;refine sj (tK (s:={ s with heap:=h1 }) e1 rfl (x:=.ref T) rfl ?_);rw[w6 (show (r8 T != p9)=AS from by simp)];refine tI (s:={ s with heap:=h1 }) e2 d2 z2 ?_;have d3:=Obj.data_mapFields d2 (·.setIfInBounds 3 ((AR:Option sv).elim p9 λf=>rawInt f))
  have nb:∀b,b≠x->tb≠.ref b->(∃o,s.heap.get? b=AQ o)->b≠T:=λb hb hbt ⟨o,eo⟩ z=>by
   subst z;rcases oldT with q | q
   ·exact hbt q
   ·exact w4 (au eo) (Nat.not_lt.mpr q)
  refine h _ T _ _ ((az _ _ nT).trans e1) nT oldT (cp _ e2 (Obj.isFreed_of_fields d3)) d3 ↥z2 (λb o hb hbt hbf e=>?_) λb o hb hbt e=>?_
  ·exact (az _ _ (Ne.symm (nb b hb hbt #[o,e]))).trans (k1 b o hb hbt hbf e)
  ·let#[sl,q]:=k2 b o hb hbt e;exact#[sl,(az _ _ (Ne.symm (nb b hb hbt #[o,e]))).trans q]
 unfold noteFrame
 erw[he]
 refine sj (tK hx rfl (x:=tb) rfl ?_);rcases htb with rfl | ⟨T,oT,ts,rfl,nT,e2,d2,z2⟩
 ·rw[w9 ∅];refine ZJ hfr hl hf he hx λh' oT ts e1 ne e2 d2 z2 k1 k2=>land h' _ oT ts e1 ne (.inr (al _)) e2 d2 z2 (λb o hb Z hbf e=>k1 b o hb hbf e) λb o hb Z e=>k2 b o hb e
 ·rw[w6 (show (r8 T != p9)=AS from by simp)];obtain⟨y,hy⟩:∃y,ts[3]? = AQ y:=#[ts[3],by simp [z2]];refine sj (tK e2 d2 (x:=y) hy ?_);by_cases c:(y == rawInt L)=AS
  ·rw[w6 c];exact sk (land s.heap T oT ts hx nT (.inl rfl) e2 d2 z2 (λb o Z Z Z e=>e) λb o Z Z e=>#[o.slots,e])
  ·rw[w9 c];refine sj (tI e2 d2 z2 ?_);have oth:∀b,b≠T->(s.heap.update T (Obj.mapFields (·.setIfInBounds 3 p9))).get? b=s.heap.get? b:=λb hb=>az _ _ (Ne.symm hb);have hl1:(s.heap.update T (Obj.mapFields (·.setIfInBounds 3 p9))).FunFrames base (env0::outer):=hl.of_keeps λb o hb hnf=>#[o,(oth b λq=>by rw[q,e2]at hb;cases hb;exact hnf ts d2).trans hb,rfl];have hsz:(s.heap.update T (Obj.mapFields (·.setIfInBounds 3 p9))).objs.size=s⁻¹:=dg ..;refine ZJ (s:={ s with heap:=s.heap.update T (Obj.mapFields (·.setIfInBounds 3 p9)) }) hfr hl1 hf he ((oth x (Ne.symm nT)).trans hx) λh' oT' ts' e1 ne e2' d2' z2' k1 k2=>?_;refine land h' _ oT' ts' e1 ne (.inr (by rw[hsz];exact al _)) e2' d2' z2' (λb o hb hbt hbf e=>k1 b o hb hbf ((oth b λq=>hbt (by rw[q])).trans e)) λb o hb hbt e=>k2 b o hb ((oth b λq=>hbt (by rw[q])).trans e)
def zb8(hfr:A.frames=AQ (env0::outer))(hl:s.heap.FunFrames base (env0::outer))(hf:env0.frame=AQ L)(he:env.frame=AQ L)(hx:s.heap.get? x=AQ (xog C dx t tb cx kx))(htb:zbU s.heap x tb)(h:∀h' T oT ts,h'.get? x=AQ (xog C dx t (.ref T) cx kx)->T≠x->(tb=.ref T\/s⁻¹<=T)->h'.get? T=AQ oT->oT.data=.fields ts->3<ts.size ->
   (∀b o,b≠x->tb≠.ref b->b ∉ frs (env0::outer)->s.heap.get? b=AQ o->h'.get? b=AQ o)->(∀b o,b≠x->tb≠.ref b->s.heap.get? b=AQ o->∃sl,h'.get? b=AQ { o with slots:=sl })->Q Unit.unit { s with heap:=h' }) :
  sC M A (leaving env (.ref x)) Q E s:=sj (ZV hfr hl hf he hx htb h)
def CXx(P:sH)(w:sM):CXT:=λouter H s E e s'=>∃(x C t:sv) (dx:Option sv) (tb:sw) (H':Hp),e=.ref x/\s'.os=s.os/\tW s'.gens/\Un (frs outer) [] H H' s.heap s'.heap/\HOk P w H' s'.heap /\
 s'.heap.get? x=AQ (xob C dx t tb)/\zbU s'.heap x tb/\H' x=AR/\s⁻¹<=x/\(∀T,tb=.ref T->H' T=AR/\s⁻¹<=T)/\E (.ref C) dx H'
def ze0(X:Cx)(E:XK)(e:sw)(s:sy):Prop:=∃(AU:List (sv × tP)) (σ:St) (H:Hp) (x C t:sv) (dx:Option sv) (tb:sw),e=.ref x/\Inv X AU σ H s /\
 s.heap.get? x=AQ (xob C dx t tb)/\zbU s.heap x tb/\wo X AU H x/\(∀T,tb=.ref T->wo X AU H T)/\E (.ref C) dx H
def XE(X:Cx)(E:XK):Prop:=∀e s,ze0 X E e s->X.xe e s
def Vk(hx:XE X E):qv (CXx X.prog X.w) X E:=by intro AU σ H s e s' I h;let#[x,C,t,dx,tb,H',rfl,os,bare,un,hok,ob,tr,hn,hsz,hT,q]:=h;have I':Inv X AU σ H' s':=I.call' os un hok bare λb z=>w4 z (by simp);exact hx _ _ #[AU,σ,H',x,C,t,dx,tb,rfl,I',ob,tr,I.fpOk hsz hn,λT e=>I.fpOk (hT T e).2 (hT T e).1,q]
def zen{K:su} :
  XE (ja (CXx P w) P w K mg base N qual scope f cd A outer s H E) E:=by
 intro e s1 h;let#[AU,σ,H1,x,C,t,dx,tb,rfl,I,ob,tr,fx,fT,q]:=h;show sC _ _ (leaving _ (.ref x)) _ _ s1;have ff:=I.stack;refine zb8 (A:=(ja (CXx P w) P w K mg base N qual scope f cd A outer s H E).A) (env0:=tR qual scope s⁻¹ f cd) (outer:=outer) I.ok.frames ff rfl rfl ob tr λh' T oT ts e1 nT oldT e2 d2 z2 k1 k2=>?_;have szs:s⁻¹<=s1⁻¹:=I.sz
 have hxs:s⁻¹<=x:=by
  rcases fx.2.2.2.1 with z | z
  ·exact w4 z (by simp [ja])
  ·exact z
 have hTs:s⁻¹<=T/\H1 T=AR:=by
  rcases oldT with z | z
  ·let#[a0,_,_,a3,_]:=fT T z;rcases a3 with y | y
   ·exact w4 y (by simp [ja])
   ·exact#[y,a0]
  ·exact#[aP szs z,I.hok.fresh z]
 have tbs:∀b,tb=.ref b->s⁻¹<=b/\H1 b=AR:=λb hb=>by
  let#[a0,_,_,a3,_]:=fT b hb;rcases a3 with y | y
  ·exact w4 y (by simp [ja])
  ·exact#[y,a0]
 have old:∀b o,s.heap.get? b=AQ o->b≠x/\tb≠.ref b:=λb o e=>by
  have hb:=au e;refine#[ax (aw hb hxs),λz=>?_];exact w4 (aw hb (tbs b z).1) (cQ _)
 have un:Un (frs outer) [] H H1 s.heap h':=by
  have B:=I.base;refine#[λb o e n hb Z=>?_,λb o e n hb Z=>?_,λb o e n Z=>B.free b o e n (by simp [ja]),λb o e Z=>?_,B.tups,B.frzs,B.tbls]
  ·have e1:=B.keep b o e n hb (by simp [ja]);refine k1 b o (old b o e).1 (old b o e).2 (λz=>?_) e1;have z':=I.stkSub b z;rcases AZ.mp z' with q | q
   ·exact w4 q (ax (aw (au e) I.ok.above))
   ·exact hb q
  ·let#[sl,e1]:=B.slot b o e n hb (by simp [ja]);let#[sl',e2]:=k2 b _ (old b o e).1 (old b o e).2 e1;exact#[sl',e2]
  ·let#[o',e1]:=B.there b o e (by simp [ja]);let#[sl',e2]:=k2 b _ (old b o e).1 (old b o e).2 e1;exact#[_,e2]
 have hok:HOk P w H1 h':=λb u e=>by
  refine (I.hok b u e).stay (λc v hc q=>k1 c v ?_ ?_ ?_ q) (λZ q=>q) λZ Z q=>q
  ·rintro rfl;rcases hc with rfl | hc
   ·rw[fx.1]at e;cases e
   ·rw[fx.1]at hc;cases hc
  ·intro z;have:=(tbs c z).2;rcases hc with rfl | hc
   ·rw[this]at e;cases e
   ·rw[this]at hc;cases hc
  ·intro z;have:=I.stkFree c z;rcases hc with rfl | hc
   ·rw[this]at e;cases e
   ·rw[this]at hc;cases hc
 exact#[x,C,t,dx,.ref T,H1,rfl,I.os,I.bare,un,hok,e1,.inr #[T,oT,ts,rfl,nT,e2,d2,z2],fx.1,hxs,λT' z=>by cases z;exact#[hTs.2,hTs.1],q]
def Fun.okX{K:su}{st:sI}(F:Fun K x qual st f fd)(S:zo N ps (zi st))(len:∀vs H Q E,sp vs H Q E->vs.length=ps.length)(hbody:∀(cdv:sw) (A:sZ) (outer:List AJ) (s:sy) (H:Hp) (vs:List V) (Q:VK) (E:XK),Room k (A.deeper (tR qual (zi st) s⁻¹ f cdv))->XE (ja (CXx P w) P w K mg base N qual (zi st) f cdv A outer s H E) E->sp vs H Q E ->
   ∃t,PSs (ja (CXx P w) P w K mg base N qual (zi st) f cdv A outer s H E) (yj st) t/\t { nx:=λZ H'=>Q .non H',rt:=Q } (start N vs) H):FnOk P w K mg base (CXx P w) (k+1) f fd ps sp:=by let#[oc,od,kV,doc,pm,an,cdv,ct,osl,rfl,lk,hcd]:=F.ex;exact Kn lk hcd S len λA outer s H vs Q E hr hsp=>hbody cdv A outer s H vs Q E hr zen hsp
def zdS(X:Cx)(E:XK)(e:sw)(s:sy):Prop:=∃(cx:sw) (kx:Bool) (AU:List (sv × tP)) (σ:St) (H:Hp) (x C t:sv) (dx:Option sv) (tb:sw),e=.ref x/\Inv X AU σ H s /\
 s.heap.get? x=AQ (xog C dx t tb cx kx)/\zbU s.heap x tb/\wo X AU H x/\(∀T,tb=.ref T->wo X AU H T)/\E (.ref C) dx H
def XEg(X:Cx)(E:XK):Prop:=∀e s,zdS X E e s->X.xe e s
structure RoomH(k:Nat)(A:sZ):Prop where
 dp:A.depth+3 * k+5<Aj
 un:A.units+16 * k+200<cLine
def RoomH.mark(r:RoomH k A)(e:Option sw):RoomH k (A.mark e):=#[r.dp,r.un]
def cxH(P:sH)(w:sM)(K:su)(mg:sF->Option sw)(base:sV)(N:List sF)(qual:sF)(scope:tZ)(f:sv)(cd:sw)(A:sZ)(outer:List AJ)(s:sy)(H:Hp):Cx :=
 { ja CX0 P w K mg base N qual scope f cd A outer s H E0 with calm:=AT,xe:=λZ Z=>False }
abbrev bmV:List sw:=[.type "ValueError",.type "Exception",.type "BaseException",.type "object"]
def xcC(K:su)(C:sv)(o:tP)(cd:ClassData):Bool:=decide (cd.mro.head? = AQ (.ref C)/\o.slots.size=6/\o.slots[4]? = AQ (AQ (.builtin "ValueError.__new__"))/\o.cls=.type "type"/\cd.hasDel=AT/\cd.hasDict=AS/\PySem.W.tailIn K bmV cd.mro.tail=AS)
def xcO(K:su)(C:sv)(o:tP):Data->Bool
 | .cls cd=>xcC K C o cd
 | _=>AT
def Xm(K:su)(C:sv):Bool:=(K.lookup C).any λo=>xcO K C o o.data
theorem zhd{α:Type}:∀{l:List α},l.length=6->∃a b c d e f,l=[a,b,c,d,e,f]
 | [a,b,c,d,e,f],_=>#[a,b,c,d,e,f,rfl]
theorem Zr{K:su}{G:Prop}(q:Xm K C=AS)(f:∀bm N nm qn bs sn sub ab col dd k0 k1 k2 k3 k5,K.lookup C=AQ (Ak nm qn C N bs bm AS sn sub ab col dd k0 k1 k2 k3 k5 "ValueError.__new__")->(∀h:sV,K.In h->OwnTail h bmV bm)->G):G:=by
 let#[#[c,dd,da,sl],ho,h]:=(Option.any_eq_true _ _).mp q
 cases da with
 | cls cd =>
  let#[h1,h2,h3,h4,h5,h6,ht]:=u5 h;let#[nm,bs,mro,ns,qn,hd,sn,sub,ab,col,del]:=cd;let#[l]:=sl;let#[k0,k1,k2,k3,k,k5,e]:=zhd h2
  cases mro with
  | nil=>cases h1
  | cons v bm =>
   cases Option.some.inj h1;subst e;cases Option.some.inj h3;cases h4;cases h5;cases h6;exact f bm ns nm qn bs sn sub ab col dd k0 k1 k2 k3 k5 ho λh X=>PySem.W.tail_of_in X ht
 | _=>cases h
structure XC(K:su)(C:sv):Prop where
 ok:Xm K C=AS
 sa:ah K (.ref C) "__setattr__" = AQ (AQ (.builtin "object.__setattr__"))
 ga:ah K (.ref C) "__getattribute__" = AQ (AQ (.builtin "BaseException.__getattribute__"))
 gt:ah K (.ref C) "__getattr__" = AQ AR
 kp:aO K (.ref C)=AS
def WL{prog:sH}{w:sM}{A:sZ}{R:Result->sy->Prop}{h:sV}{g:Array GenState}{d:Drawn}{t:Nat}{os:OsState}{K:su}{C:sv}{rest:List sw}(X:K.In h)(q:Xm K C=AS)(hi:ah K (.ref C) "__init__" = AQ (AQ init))(hb:∀self,PySem.W.Looks (model prog w) h (bindSpecial init self) (init,[self]))(hrest:rest.length<=sr)(hq:tB (model prog w) (A.under (.builtin "type.__call__" #[.ref C::rest,[]])) (.call init #[.ref (h.objs.size+1)::rest,[]]) (PySem.W.InitBack (h.objs.size+1) R) #[(h.push { cls:=.type "tuple",data:=.seq rest.toArray }).push (xob C AR h.objs.size .none),g,d,t,os]) :
  tB (model prog w) A (.call (.ref C) #[rest,[]]) R #[h,g,d,t,os]:=by
 refine Zr (q) λbm N nm qn bs sn sub ab col dd k0 k1 k2 k3 k5 lk tl=>?_;have hC:=X _ _ lk;have T:=tl h X;have F:=eL;have f1:=tc_lookup;have f2:=tc_bind (.ref C);have hT:(#[h,g,d,t,os]:sy).TypeIs (.ref C) "type":=#[_,hC,rfl];refine codeAny_of_tree ?_;show sC _ _ (callAny (.ref C) _) _ _ _
 repeat (any_goals (first | assumption | with_reducible refine tj hC ?_ | wp_step))
 refine#[rfl,?_];refine codeAny_call_builtin_at (Code.quiet_builtin _ (!0)) entry_typeCall (wpAny_check_type_call_sub hC ?_)
 repeat (first | with_reducible refine tj hC ?_ | with_reducible refine wpAny_madeBy_exc hC ?_ | wp_step)
 refine codeAny_call_builtin_code (Code.quiet_builtin _ F.quiet) (wpAny_check_new_subT F T hC ?_);refine codeAny_exc_new_subT F T hC ?_ hrest;show sC _ _ _ _ _ _;have k:∀b o,h.get? b=AQ o->((h.push { cls:=.type "tuple",data:=.seq rest.toArray }).push (xob C AR h.objs.size .none)).get? b=AQ o:=λb o e=>ag _ (ag _ e);have hC1:=k _ _ hC;have hget:((h.push { cls:=.type "tuple",data:=.seq rest.toArray }).push (xob C AR h.objs.size .none)).get? (h.objs.size+1)=AQ (xob C AR h.objs.size .none):=by heap_get
 have hcC:(r8 C::bm).contains (.ref C)=AS:=by simp
 unfold isInstance
 repeat (first | with_reducible refine tj hget ?_ | wp_step)
 refine tQ (C:=C) hC1 ?_;rw[hcC]
 repeat wp_step
 show sC _ _ (typeLookup (.ref C) _) _ _ _;refine ((cL X hi).keeps k).at ?_;refine sQ (sj (((hb _).keeps k).at ?_));refine sj (tL (tO hq λr s' z=>?_));rcases r with e | (v | _ | _ | _) <;> first | exact z | exact z.elim | skip;let#[rfl,z]:=z;exact sk (sk z)
def XN(x C:sv)(dx:Option sv):HO:=.ext λh=>∃t,h.get? x=AQ (xob C dx t .none)
def XT(x C:sv)(dx:Option sv):HO:=.ext λh=>∃t tb c k,h.get? x=AQ (xog C dx t tb c k)
def XP(x C:sv)(dx:Option sv):HO:=.ext λh=>∃t tb,h.get? x=AQ (xob C dx t tb)
def zdQ(e:h.get? x=AQ (xob C dx t .none)):ObjOk P w H h x (XN x C dx) :=
 #[#[t,e],#[_,e],λh1 h2 ⟨t,q⟩ k=>#[t,k _ q]]
def zew(e:h.get? x=AQ (xog C dx t tb c k)):ObjOk P w H h x (XT x C dx) :=
 #[#[t,tb,c,k,e],#[_,e],λh1 h2 ⟨t,tb,c,k',q⟩ k=>#[t,tb,c,k',k _ q]]
def zeM(o:ObjOk P w H h x (XN x C dx)):∃t,h.get? x=AQ (xob C dx t .none):=o.1
def zfO(o:ObjOk P w H h x (XT x C dx)):∃t tb c k,h.get? x=AQ (xog C dx t tb c k):=o.1
def Y0{sub:List sw}(hC:h.get? C=AQ (Ak nm q C N bs bm hdct sn sub ab col dd k0 k1 k2 k3 k5 newId))(base:sw):PySem.W.Looks M h (isSubtype (.ref C) base) ((r8 C::bm).contains base):=λA Q E s k z=>by
 let#[hp,g,d,t,os]:=s;exact tQ (k _ _ hC) z
def U5{sub:List sw}(hC:h.get? C=AQ (Ak nm q C N bs bm hdct sn sub ab col dd k0 k1 k2 k3 k5 newId)):PySem.W.Looks M h (mroOf (.ref C)) (.ref C::bm):=λA Q E s k z=>by
 let#[hp,g,d,t,os]:=s;exact wpAny_mroOf_exc (k _ _ hC) z
def JD{sub:List sw}(hC:h.get? C=AQ (Ak nm q C N bs bm hdct sn sub ab col dd k0 k1 k2 k3 k5 newId)):PySem.W.Looks M h (classData C) { name:=nm,bases:=bs,mro:=.ref C::bm,ns:=N,qualname:=q,hasDict:=hdct,slotNames:=sn,subclasses:=sub,abstract:=ab,collection:=col,hasDel:=AT }:=λA Q E s k z=>by
 unfold classData;exact sj (wpAny_load (k _ _ hC) (sk z))
theorem X3(T:OwnTail h bmB bm)(self:sw)(hp:refuseLoop self "__setattr__" bmB=pure Unit.unit):refuseLoop self "__setattr__" bm=pure Unit.unit:=by
 induction T with
 | base=>exact hp
 | own _ _ _ _ ih=>rw[refuseLoop_ref];exact ih
def zbM(I:Inv X AU σ H s)(e:H x=AQ (XN x C AR))(xc:XC X.K C)(n:NoAttr X.K C f)(ry:RelV y u)(h:∀s' dx,H dx=AR->Inv X AU σ (upd (upd H dx (.xd [(f,y)])) x (XN x C (AQ dx))) s'->Q Unit.unit s'):sC (model X.prog X.w) A (setAttr (.ref x) f u) Q E s:=by
 let#[t,ob]:=zeM (I.hok x _ e);refine Zr (xc.ok) λbm N nm qn bs sn sub ab col dd k0 k1 k2 k3 k5 lk tl=>?_;have hC:=I.kIn _ _ lk;have T:=tl _ I.kIn;have SF:=PySem.F.store_ValueError;have J:PySem.W.InstAt s.heap x (xob C AR t .none) C AR:=#[ob,rfl,rfl,trivial];have hob:(r8 C::bm).contains (.type "object")=AS:=by rw[cU,T.hasType (show bmV.contains (.type "object")=AS by symm),dW]
 have isO:PySem.W.Looks (model X.prog X.w) s.heap (isInstance (.ref x) (.type "object")) AS:=J.type.andThen (by have:=Y0 (M:=model X.prog X.w) hC (.type "object");rw[hob]at this;exact this);refine gn I.kIn J xc.sa ?_;refine tX SF.slot.plain SF.entry (@PySem.W.check_slot (model X.prog X.w) _ _ { s with toks:=s.toks+1 } "object.__setattr__" "object" "__setattr__" (.ref x) [.str f s.toks,u] [] _ SF.kind SF.split isO (SF.args _ _ _) ?_);rw[PySem.W.osa_eq,refuse_eq];refine sj (sj (J.type.here (s:={ s with toks:=s.toks+1 }) (sj ((U5 hC).here (s:={ s with toks:=s.toks+1 }) ?_))));rw[refuseLoop_ref,X3 T _ (SF.passes _)];refine sk (sj (J.type.here (s:={ s with toks:=s.toks+1 }) (sj ((cL I.kIn n).here (s:={ s with toks:=s.toks+1 }) (sj (sk ?_))))));show sC _ _ (Builtin.ObjectAttr.storeInOwnDict (.ref x) (.ref C) (.str f s.toks) f u AT) _ _ _;have hx1:(s.heap.push { cls:=.type "dict",data:=.dict #[] }).get? x=AQ (xob C AR t .none):=ag _ ob;have hxs:x≠s⁻¹:=ax (au ob);refine sj (sk (sj (sj (Ai ob (sj ((JD hC).here (s:={ s with toks:=s.toks+1 }) ?_))))));rw[w9 (by simp)];show sC _ _ (if (!AS || !typeHasDict (.ref C))=AS then _ else _) _ _ _;rw[w9 (by simp [typeHasDict])]
 have hgd:((s.heap.push { cls:=.type "dict",data:=.dict #[] }).update x λo=>{ cls:=o.cls,dict:=AQ s⁻¹,data:=o.data,slots:=o.slots }).get? s⁻¹=AQ { cls:=.type "dict",data:=.dict #[] } :=
  (az _ _ hxs).trans (Heap.get?_push_at rfl rfl)
 have hgx:((s.heap.push { cls:=.type "dict",data:=.dict #[] }).update x λo=>{ cls:=o.cls,dict:=AQ s⁻¹,data:=o.data,slots:=o.slots }).get? x=AQ (xob C (AQ s⁻¹) t .none) :=
  cp _ hx1 rfl
 have hnd:((s.heap.push { cls:=.type "dict",data:=.dict #[] }).update x λo=>{ cls:=o.cls,dict:=AQ s⁻¹,data:=o.data,slots:=o.slots }).Ns s⁻¹ (λZ=>AR) :=
  #[_,#[],_,hgd,rfl,λe he=>w4 he (by simp),λZ=>rfl]
 refine sj (wpAny_alloc' (sj (wpAny_update' hx1 (sk ?_))));show sC _ _ (Builtin.ObjectAttr.storeInDict s⁻¹ (.str f s.toks) f u) _ _ _;unfold Builtin.ObjectAttr.storeInDict Builtin.ObjectAttr.newKeyGuard;refine sj (sk (sj (wpAny_nsSet1 (Heap.Ns1.of_empty hnd) λh' hn' hs=>?_)));let#[oD,esD,epD,hoD,hdD,hcD]:=hn'.count (Within.cons f u Within.nil);refine sj (Ay hoD (by rw[hdD];exact pastItsLine_dict (aP hcD (by rw[aG,bH,sL];lia))) ?_);refine sk ?_;have hx2:h'.get? x=AQ (xob C (AQ s⁻¹) t .none):=(hs.2 x hxs).trans hgx;have hfr:H s⁻¹=AR:=I.hok.fresh (al _);have hxe:x≠s⁻¹:=hxs;refine h _ s⁻¹ hfr ?_
 have k0:∀b o,b≠x->s.heap.get? b=AQ o->h'.get? b=AQ o:=λb o hb q =>
  (hs.2 b (ax (au q))).trans ((az _ _ (Ne.symm hb)).trans (ag _ q))
 have I1:Inv X AU σ (upd H x (XN x C (AQ s⁻¹))) { s with heap:=h',toks:=s.toks+1+1 } :=
  I.write (x:=x) (e:=x) (by rw[e];exact True.intro) (.inl rfl) k0 ⟨_,hx2⟩ (zdQ hx2)
 have hd2:ObjOk X.prog X.w (upd (upd H x (XN x C (AQ s⁻¹))) s⁻¹ (.xd [(f,y)])) h' s⁻¹ (.xd [(f,y)]):=by
  refine#[_,hn',λg=>?_];show RelO (bA g [(f,y)]) (if g=f then AQ u else AR);by_cases q:g=f
  ·subst q;rw[w6 rfl];simp [bA,RelO,ry]
  ·rw[w9 q];have q':(g == f)=AT:=by simpa using q
   simp [bA,q',RelO]
 have fd:wo X AU (upd H x (XN x C (AQ s⁻¹))) s⁻¹:=I.fpOk (al _) (by rw[zt (Ne.symm hxe)];exact hfr);have I2:=Inv.track I1 fd hd2
 have eH:upd (upd H x (XN x C (AQ s⁻¹))) s⁻¹ (.xd [(f,y)])=upd (upd H s⁻¹ (.xd [(f,y)])) x (XN x C (AQ s⁻¹)):=by
  funext b;unfold upd;by_cases b1:b=s⁻¹
  ·subst b1;rw[w6 rfl,w9 (Ne.symm hxe),w6 rfl]
  ·by_cases b2:b=x
   ·subst b2;rw[w9 b1,w6 rfl,w6 rfl]
   ·rw[w9 b1,w9 b2,w9 b2,w9 b1]
 rw[eH]at I2;exact I2
def zb1(K:su)(ta tv:TE)(f:sF):TS:=λD σ H=>tv σ H λy H1=>ta σ H1 λo H2=>∃x C,o=.ref x/\H2 x=AQ (XN x C AR)/\XC K C/\NoAttr K C f/\∀dx,H2 dx=AR->D.nx σ (upd (upd H2 dx (.xd [(f,y)])) x (XN x C (AQ dx)))
def UM(ha:PE X o ta)(hv:PE X value tv)(hs:swapsWith value (AQ (.Attribute o f pos')) pos.line X.env=pure AT):PS X (.Assign [.Attribute o f pos'] value pos) (zb1 X.K ta tv f):=by intros D I h;refine tU (thn (hv AU s σ H _ I h) λu s1=>el5 λy H1 I1 ry q=>thn (ha AU s1 σ H1 _ I1 q) λov s2=>el5 λx' H2 I2 rx q_z=>?_) hs;let#[x,C,ex,e,xc,n,q2]:=q_z;subst ex;obtain rfl:ov=r8 x:=rx;exact zbM I2 e xc n ry λs3 dx hdx I3=>#[σ,_,I3,q2 dx hdx]
def U3{K:su}(hh:A.handled=AR)(h:sC M A x (λv s1=>∃e C t dx,v=.ref e/\K.In s1.heap/\Xm K C=AS/\s1.heap.get? e=AQ (xob C dx t .none)/\E (.ref e) s1) E s):sC M A (raiseStmt env (AQ x) AR) Q E s:=by
 unfold raiseStmt;refine sj (thn h λv s1 h1=>?_);let#[e,C,t,dx,rfl,X,hC,he,hE]:=h1;refine Zr (hC) λbm N nm qn bs sn sub ab col dd k0 k1 k2 k3 k5 lk tl=>?_;have hCo:=X _ _ lk;have T:=tl _ X;have hcB:(r8 C::bm).contains (.type "BaseException")=AS:=by rw[cU,T.hasType (show bmV.contains (.type "BaseException")=AS by symm),dW]
 let#[hp,g,d,tk,os]:=s1
 repeat (first | with_reducible refine tj he ?_ | with_reducible refine tj hCo ?_ | (with_reducible refine tQ hCo ?_;rw[hcB]) | wp_step)
 exact wpAny_raiseNew_none hh hE
def Jd{K:su}(hh:A.handled=AR)(h:sC M A (eval e env) (λv s1=>∃a C t dx,v=.ref a/\K.In s1.heap/\Xm K C=AS/\s1.heap.get? a=AQ (xob C dx t .none)/\E (.ref a) s1) E s):sC M A (exec (.Raise (AQ e) AR pos) env) Q E s:=by
 rw[arm_exec_Raise]
 first
  | exact sj (tw (U3 hh (sj (thn h λv s1 h1=>sj (tw (sk h1))))))
  | (erw[evalOpt,Option.map];exact sj (tw (U3 hh (sj (thn h λv s1 h1=>sj (tw (sk h1)))))))
def del(H:Hp)(x:sv):Hp:=λb=>if b=x then AR else H b
def Uv(h:b≠x):del H x b=H b:=w9 h
def Wq : del H x x=AR:=w6 rfl
def Inv.untrack(I:Inv X AU σ H s)(e:H x=AQ (.ext φ))(hs:X.s₀.heap.objs.size<=x):Inv X AU σ (del H x) s:=by
 have nx:∀b u,H b=AQ u->(∀ψ,u≠.ext ψ)->b≠x:=λb u q nu z=>by subst z;rw[e]at q;cases q;exact nu _ rfl
 have hn:∀b,b≠x->del H x b=H b:=λb hb=>Uv hb;have es:s={ s with heap:=s.heap,gens:=s.gens,drawn:=s.drawn,toks:=s.toks }:=rfl;rw[es]
 refine I.step (g':=s.gens) (d':=s.drawn) (ch:=[x]) (λb hb=>?_) (λb o Z Z Z q Z=>q) (λb o Z Z Z q Z=>#[o.slots,q]) (λb o hc Z n=>?_)
  (λb o Z q=>#[o,q]) (λb xs q=>?_) (λb u xs q=>?_) (λb ps q=>?_) (λm hm=>hm) (λb u q=>?_) I.bare
 ·have eb:b=x:=by simpa using hb
  subst eb;refine#[.inr hs,λz=>?_,λy c q z=>?_,λp hp z=>?_]
  ·rw[z,I.free]at e;cases e
  ·have:=I.freeC y c q;rw[z,e]at this;cases this
  ·have:=(I.pin p hp).2.1;rw[z,e]at this;cases this
 ·rw[hn b ↥hc];exact n
 ·rw[hn b (nx b _ q λZ z=>by cases z)];exact q
 ·rw[hn b (nx b _ q λZ z=>by cases z)];exact q
 ·exact#[#[],by rw[hn b (nx b _ q λZ z=>by cases z),q];simp]
 ·by_cases hb:b=x
  ·subst hb;rw[Wq]at q;cases q
  ·rw[hn b hb]at q;exact (I.hok b u q).stay (λc v Z z=>z) (λc z=>by rw[hn c (nx c _ z λZ y=>by cases y)];exact z) λc xs z=>by rw[hn c (nx c _ z λZ y=>by cases y)];exact z
def VN(I:Inv X AU σ H s)(xc:Xm X.K C=AS)(hi:ah X.K (.ref C) "__init__" = AQ (AQ (.builtin "ValueError.__init__")))(hl:us.length<=sr)(h:∀s' x t,s⁻¹<=x->Inv X AU σ H s'->s'.heap.get? x=AQ (xob C AR t .none)->Q (.ref x) s'):sC (model X.prog X.w) X.A (call (.ref C) us) Q E s:=by
 have F:=eL;refine Zr (xc) λbm N nm qn bs sn sub ab col dd k0 k1 k2 k3 k5 lk tl=>?_;have hC:=I.kIn _ _ lk;have T:=tl _ I.kIn;let#[hp,g,d,t,os]:=s;have k:∀b o,hp.get? b=AQ o->((hp.push { cls:=.type "tuple",data:=.seq us.toArray }).push (xob C AR hp.objs.size .none)).get? b=AQ o:=λb o e=>ag _ (ag _ e);refine tL (WL I.kIn xc hi (λself=>PySem.W.Looks.of_pure (F.init.bind self)) hl ?_);have hget:((hp.push { cls:=.type "tuple",data:=.seq us.toArray }).push (xob C AR hp.objs.size .none)).get? (hp.objs.size+1)=AQ (xob C AR hp.objs.size .none):=by heap_get
 refine tX F.init.plain F.initEntry (wpAny_check_init_subT F (T.keeps k) (k _ _ hC) hget rfl ?_)
 wp_walk
 refine#[rfl,h _ (hp.objs.size+1) ((hp.push { cls:=.type "tuple",data:=.seq us.toArray }).push (xob C AR hp.objs.size .none)).objs.size (cF _) (I.kept (t':=t) λb o e=>?_) ?_]
 ·exact (az _ _ (cH (cY (au e)))).trans (ag _ (k b o e))
 ·exact cp (Obj.mapFields λx=>x.setIfInBounds 0 (r8 ((hp.push { cls:=.type "tuple",data:=.seq us.toArray }).push (xob C AR hp.objs.size .none)).objs.size)) (ag _ hget) rfl
def Wg(E:XK)(C:sv)(t:TA):TS:=λZ σ H=>t σ H λvs H1=>vs.length<=sr/\E (.ref C) AR H1
def ym(hx:XE X E)(hc:X.calm=AS)(xc:XC X.K C)(hi:ah X.K (.ref C) "__init__" = AQ (AQ (.builtin "ValueError.__init__")))(hg:Gl X cn)(hm:X.mg cn=AQ (.ref C))(ha:PA X (e::es) t)(hdb:‹(cn ==("__debug__" : sF))=AT›)(he:‹sq (e::es) X.env=(AT,eval e X.env)::sq es X.env›)(hpl:‹(sS cpos (sq es X.env)).any (·.1)=AT›) :
  PS X (.Raise (AQ (.Call (.Name cn np) (e::es) [] cpos)) AR pos) (Wg E C t):=by intros D I h;refine Jd (K:=X.K) (I.ok.hd hc) (sU (ub I hg hm ?_ hdb));refine cj (h₀:=X.base) I.ok.mod.kin xc.kp (thn (ha cpos AU s σ H _ I h) λus s1=>el5 λvs H1 I1 r=>ua2 λz q=>#[I1.kIn,?_]) he hpl;refine VN (us:=[] ++ us) I1 xc.ok hi (by show us.length<=sr;rw[<- r.length];exact z) λs2 x t hz I2 ob=>#[x,C,t,AR,rfl,I2.kIn,xc.ok,ob,?_];exact hx _ _ #[AU,σ,H1,x,C,t,AR,.none,rfl,I2,ob,.inl rfl,I1.fpOk hz (I1.hok.fresh hz),λT z=>(by cases z),q]
def UO(r:Room (k+1) A):Room k (A.under (.builtin "type.__call__" #[.ref C::us,[]])):=r.make C us []
def Wh(E:XK)(C:sv)(sp:Sp)(t:TA):TS:=λZ σ H=>t σ H λvs H1=>vs.length<=sr/\∀x,H1 x=AR->sp (.ref x::vs) (upd H1 x (XN x C AR)) (λv H2=>v=.non/\∃dx,H2 x=AQ (XN x C dx)/\E (.ref C) dx (del H2 x)) E0
theorem YB(hx:XE X E)(hc:X.calm=AS)(xc:XC X.K C)(hi:ah X.K (.ref C) "__init__" = AQ (AQ (.ref f)))(hfn:bc X.K (.ref f)=AS)(F:FnOk X.prog X.w X.K X.mg X.base CX0 k f fd ps sp)(hr:Room (k+1) X.A)(hb:Binds X.K fd ps [])(hg:Gl X cn)(hm:X.mg cn=AQ (.ref C))(ha:PA X (e::es) t)(hdb:‹(cn ==("__debug__" : sF))=AT›)(he:‹sq (e::es) X.env=(AT,eval e X.env)::sq es X.env›)(hpl:‹(sS cpos (sq es X.env)).any (·.1)=AT›) :
  PS X (.Raise (AQ (.Call (.Name cn np) (e::es) [] cpos)) AR pos) (Wh E C sp t):=by
 intros D I h;refine Jd (K:=X.K) (I.ok.hd hc) (sU (ub I hg hm ?_ hdb));refine cj (h₀:=X.base) I.ok.mod.kin xc.kp (thn (ha cpos AU s σ H _ I h) λus s1=>el5 λvs H1 I1 r=>ua2 λz q=>#[I1.kIn,?_]) he hpl;have hl:us.length<=sr:=by rw[<- r.length];exact z
 have ob:((s1.heap.push { cls:=.type "tuple",data:=.seq us.toArray }).push (xob C AR s1⁻¹ .none)).get? (s1⁻¹+1)=AQ (xob C AR s1⁻¹ .none):=by heap_get
 have hfr:H1 (s1⁻¹+1)=AR:=I1.hok.fresh (cF _)
 have I2:Inv X AU σ (upd H1 (s1⁻¹+1) (XN (s1⁻¹+1) C AR)) { s1 with heap:=(s1.heap.push { cls:=.type "tuple",data:=.seq us.toArray }).push (xob C AR s1⁻¹ .none) } :=
  I1.laid (t':=s1.toks) (λb o e=>ag _ (ag _ e)) (cF _) (zdQ ob)
 have q1:=q _ hfr;have r2:Vals (V.ref (s1⁻¹+1)::vs) (r8 (s1⁻¹+1)::us):=.cons rfl r
 have hlen:(r8 (s1⁻¹+1)::us ++ ([]:List sw)).length=ps.length:=by
  rw[aT,<- r2.length];exact F.len _ _ _ _ q1
 have hb2:=hb { s1 with heap:=(s1.heap.push { cls:=.type "tuple",data:=.seq us.toArray }).push (xob C AR s1⁻¹ .none) } (r8 (s1⁻¹+1)::us) I2.kIn hlen;rw[aT]at hb2;have run:=F.run _ X.stack _ _ #[r8 (s1⁻¹+1)::us,[]] (r8 (s1⁻¹+1)::us) _ _ E0 (UO (C:=C) (us:=us) hr) (I2.env0.make C us []) hb2 r2 q1;have sz0:X.s₀.heap.objs.size<=s1⁻¹+1:=aP I1.sz (cF _);show sC (model X.prog X.w) X.A (call (.ref C) us) _ X.xe s1;refine tL ?_;refine WL (h:=s1.heap) (g:=s1.gens) (d:=s1.drawn) (t:=s1.toks) (os:=s1.os) (rest:=us) I1.kIn xc.ok hi (λself=>gv I1.kIn self (beq_iff_eq.mp hfn)) hl (tO run λr s' hq=>?_)
 cases r with
 | error e=>exact False.elim hq
 | ok fl =>
  cases fl with
  | ret u =>
   let#[v,H',I3,rv,ev,dx,hx3,q3]:=I2.after hq;subst ev;refine#[rv,?_];let#[t,ob3]:=zeM (I3.hok _ _ hx3);have I4:=Inv.untrack I3 hx3 sz0;refine#[_,C,t,dx,rfl,I3.kIn,xc.ok,ob3,hx _ _ #[AU,σ,_,_,C,t,dx,.none,rfl,I4,ob3,.inl rfl,?_,λT z=>(by cases z),q3]];exact I1.fpOk (cF _) Wq
  | next=>exact False.elim hq
  | brk=>exact False.elim hq
  | cont=>exact False.elim hq
def zcc(X:Cx)(AU:List (sv × tP))(σ:St)(E:XK)(e:sw)(s:sy):Prop:=∃(cx:sw) (kx:Bool) (H:Hp) (x C t:sv) (dx:Option sv) (tb:sw),e=.ref x/\Inv X AU σ H s /\
 s.heap.get? x=AQ (xog C dx t tb cx kx)/\zbU s.heap x tb/\wo X AU H x/\(∀T,tb=.ref T->wo X AU H T)/\E (.ref C) dx H
abbrev TX:=St->Hp->VK->XK->Prop
def PEX(X:Cx)(e:tH)(t:TX):Prop :=
 ∀(AU:List (sv × tP)) (s:sy) (σ:St) (H:Hp) (Q:VK) (E:XK),Inv X AU σ H s->t σ H Q E->sC (model X.prog X.w) X.A (eval e X.env) (EP X AU σ Q) (zcc X AU σ E) s
theorem KY(F:FnOk X.prog X.w X.K X.mg X.base (CXx X.prog X.w) k f fd ps sp)(hr:Room k X.A)(hg:Gl X x)(hm:X.mg x=AQ (.ref f))(hk:aO X.K (.ref f)=AS)(hb:Binds X.K fd ps ds)(hd:Vals dvs ds)(ha:PA X.nox (e::es) t) (hdb:‹(x ==("__debug__" : sF))=AT›) (he:‹sq (e::es) X.env=(AT,eval e X.env)::sq es X.env›) (hpl:‹(sS pos (sq es X.env)).any (·.1)=AT›) :
  PEX X (.Call (.Name x p) (e::es) [] pos) (λσ H Q E=>t σ H λvs H1=>sp (vs ++ dvs) H1 Q E):=by
 intros Q E I h;refine sU (ub I hg hm ?_ hdb);refine cj (h₀:=X.base) I.ok.mod.kin hk (tz (thn (ha pos AU s σ H _ (I.wish _) h) λus s1=>el5 λvs H1 I1 r q=>#[I1.kIn,?_])) he hpl;have I1':Inv X AU σ H1 s1:=I1.unwish;have r2:Vals (vs ++ dvs) (us ++ ds):=r.append hd;have hl:(us ++ ds).length=ps.length:=by rw[<- r2.length];exact F.len _ _ _ _ q
 refine tL (tO (F.run X.A X.stack s1 H1 #[us,[]] (us ++ ds) (vs ++ dvs) Q E hr I1'.env0 (hb s1 us I1'.kIn hl) r2 q) λr s' hq=>?_)
 cases r with
 | error e =>
  let#[x,C,t,dx,tb,H',rfl,os,bare,un,hok,ob,tr,hn,hsz,hT,q]:=hq;exact#[.none,AT,H',x,C,t,dx,tb,rfl,I1'.call' os un hok bare (λb z=>w4 z (by simp)),ob,tr,I1'.fpOk hsz hn,λT e=>I1'.fpOk (hT T e).2 (hT T e).1,q]
 | ok fl =>
  cases fl with
  | ret u=>exact I1'.after hq
  | next=>exact False.elim hq
  | brk=>exact False.elim hq
  | cont=>exact False.elim hq
abbrev Cx.suite(X:Cx)(e:sw):Cx:={ X with A:=X.A.mark (AQ e),calm:=AT,xe:=λZ Z=>False }
def Inv.suite(I:Inv X AU σ H s)(e:sw):Inv (Cx.suite X e) AU σ H s :=
 #[#[I.ok.mod,I.ok.kind,I.ok.glob,I.ok.blt,I.ok.above,I.ok.inj,I.ok.has,I.ok.cab,λz=>w4 z (by simp [Cx.suite]),I.ok.frames,I.ok.stk,I.ok.exf,I.ok.bs,I.ok.bsz,I.ok.noex,I.ok.exfs,I.ok.funs,I.ok.frf],
  I.os,I.bare,I.base,I.loc,I.cell,I.free,I.freeC,I.pin,I.hok,I.len]
def Inv.unsuite(J:Inv X AU σ' H' s')(I:Inv (Cx.suite X e) AU σ H s):Inv X AU σ H s :=
 #[J.ok,I.os,I.bare,I.base,I.loc,I.cell,I.free,I.freeC,I.pin,I.hok,I.len]
theorem zep{K:su}(X:K.In s.heap)(hD:Xm K D=AS)(he:s.heap.get? x=AQ (xog C dx t tb cx kx))(hs:dh K (.ref C) (.ref D)=AQ b)(h:Q b s):sC M A (excMatches (.ref x) (.ref D)) Q E s:=by
 refine Zr (hD) λbm N nm qn bs sn sub ab col dd k0 k1 k2 k3 k5 lk tl=>?_;have hDo:=X _ _ lk;have T:=tl _ X;have hcB:(r8 D::bm).contains (.type "BaseException")=AS:=by rw[cU,T.hasType (show bmV.contains (.type "BaseException")=AS by symm),dW]
 have L:=PySem.W.looks_subIn (M:=M) X hs;have f:=tc_notTuple;let#[hp,g,d,tk,os]:=s;unfold excMatches
 repeat (first | with_reducible refine tj he ?_ | with_reducible refine tj hDo ?_ | (with_reducible refine tQ hDo ?_;rw[hcB]) | (with_reducible refine PySem.W.Looks.at L ?_) | wp_step)
 cases b with
 | false=>exact sk (sk (sk h))
 | true=>exact sk (sk (sk h))
def tbL:sw->List sv
 | .ref b=>[b]
 | _=>[]
end
section
variable{prog:sH}{w:sM}{A:sZ}{E:sw->sy->Prop}{s:sy}{K:su}{x C:sv}{ox:tP}{od:Option tP}{name:sF}{tk:AF}
def zeb{fill expr:Bool}(X:K.In s.heap)(xc:XC K C)(J:PySem.W.InstAt s.heap x ox C od)(h:sC (model prog w) A.in1 (Builtin.«object.__getattribute__» #[[.ref x,.str name tk],[]]) (λfin s'=>match fin with | .done (.ret v)=>sC (model prog w) A (handedOut v) Q E s' | _=>False) (λZ Z=>False) s) :
  sC (model prog w) A (getAttrBy (.ref x) (.str name tk) fill expr) Q E s:=by
 refine Zr (xc.ok) λbm N nm qn bs sn sub ab col dd k0 k1 k2 k3 k5 lk tl=>?_;have hC:=X _ _ lk;have T:=tl _ X;have FB:=PySem.F.attrBase_ValueError;have L0:=J.type (M:=model prog w);have L1:=cL (M:=model prog w) X xc.ga;have L2:=cL (M:=model prog w) X xc.gt;have hcB:(r8 C::bm).contains (.type "BaseException")=AS:=by rw[cU,T.hasType (show bmV.contains (.type "BaseException")=AS by symm),dW]
 have isB:PySem.W.Looks (model prog w) s.heap (isInstance (.ref x) (.type "BaseException")) AS:=L0.andThen (by have:=Y0 (M:=model prog w) hC (.type "BaseException");rw[hcB]at this;exact this);have f3:=FB.ga.bind (.ref x);have hx0:(expr && onTheHeap (Value.builtin "BaseException.__getattribute__"))=AT:=by cases expr <;> rfl
 have hx2:(Value.builtin "BaseException.__getattribute__" == Value.builtin "object.__getattribute__")=AT:=by symm
 have hx1:(onTheHeap (r8 C) && Value.builtin "BaseException.__getattribute__" == Value.builtin "object.__getattribute__")=AT:=by rw[hx2];rfl
 unfold getAttrBy;refine sQ (sj (L0.here (sj (L1.here ?_))));show sC _ _ (if (onTheHeap (r8 C) && Value.builtin "BaseException.__getattribute__" == Value.builtin "object.__getattribute__")=AS then _ else _) _ _ _;rw[hx1,w9 aD];unfold getAttrByItsOwn hookBefore;rw[w6 (by rfl)];refine sj (L2.here (sj (Ao (sQ ?_))));unfold callGetattribute;rw[hx0,w9 aD];unfold boundAndCalled;rw[f3];refine sj (sk ?_);show sC (model prog w) A (call (.builtin "BaseException.__getattribute__") [.ref x,.str name tk]) _ _ s;refine tL (tX FB.ga.plain PySem.F.entry_bexc_ga (@PySem.W.check_slot (model prog w) _ _ s "BaseException.__getattribute__" "BaseException" "__getattribute__" (.ref x) [.str name tk] [] _ (!0) (!0) isB (PySem.F.args_bexc_ga _ _) ?_));refine tE h (λfin s' z=>?_) λZ Z z=>z.elim;rcases fin with (_ | _ | _ | v) | _ <;> first | exact z | exact z.elim
def zbo(X:K.In s.heap)(xc:XC K C)(J:PySem.W.InstAt s.heap x ox C od)(ha:ah K (.ref C) "__class__" = AQ (AQ (.builtin "object.__class__")))(hn:dA K (.builtin "object.__class__") "__get__" = AQ (AQ (.builtin "getset_descriptor.__get__")))(htk:dP K (.builtin "object.__class__")=AQ AS)(hm:bY K C (.type "object")=AQ AS)(h:Q (AQ (.ref C)) { s with toks:=s.toks+1 }):sC (model prog w) A (getAttr? (.ref x) "__class__") Q E s:=by
 have hf:gw K C od "__class__" = AQ (.bind (.builtin "getset_descriptor.__get__") (.builtin "object.__class__")):=by
  refine Zr (xc.ok) λbm N nm qn bs sn sub ab col dd k0 k1 k2 k3 k5 lk tl=>?_;have hcl:(PySem.W.clsIn K C).isSome=AS:=by unfold PySem.W.clsIn;rw[lk];rfl
  let#[cd,hc]:=Bk.mp hcl;unfold gw;rw[hc,ci,ha,ci];simp [hn,htk]
 unfold getAttr? getAttrBy?;refine sj (wpAny_mkText (sj (Ao (zeb (s:={ s with toks:=s.toks+1 }) X xc J ?_))));have L0:=J.type (M:=model prog w);have L1:=PySem.W.looks_find (M:=model prog w) X J hf;unfold Builtin.«object.__getattribute__»;refine sj (sk (sj (sk (sj (L0.here (s:={ s with toks:=s.toks+1 }) (sj (L1.here (s:={ s with toks:=s.toks+1 }) ?_)))))));show sC _ _ (holding [.builtin "object.__class__"] (call (.builtin "getset_descriptor.__get__") [.builtin "object.__class__",.ref x,.ref C]) >>= ret) _ _ _;refine sj (sQ (tL (PySem.W.class_get (s:={ s with toks:=s.toks+1 }) X J hm ?_)));refine sk ?_;show sC _ _ (handedOut (.ref C)) _ _ _;rw[PySem.W.handedOut_of rfl];exact sk (sk h)
end
mutual section
structure XI(K:su)(C:sv):Prop extends XC K C where
 ca:ah K (.ref C) "__class__" = AQ (AQ (.builtin "object.__class__"))
 cg:dA K (.builtin "object.__class__") "__get__" = AQ (AQ (.builtin "getset_descriptor.__get__"))
 ct:dP K (.builtin "object.__class__")=AQ AS
 mo:bY K C (.type "object")=AQ AS
def zdm(ob:h.get? x=AQ (xog C AR t tb c k)):PySem.W.InstAt h x (xog C AR t tb c k) C AR:=#[ob,rfl,rfl,trivial]
def zf5{K:su}(xi:XI K C):PySem.W.KitX K (.ref x) (.ref C) (λh=>(∃t tb c k,h.get? x=AQ (xog C dx t tb c k))/\∀d,dx=AQ d->∃o,h.get? d=AQ o) where
 ty:=λM h X ⟨⟨t,tb,c,k',ob⟩,_⟩=>(PySem.W.Looks.ld ob).andThen .now
 it:=λM h X Z=>by
  refine Zr (xi.ok) λbm N nm qn bs sn sub ab col dd k0 k1 k2 k3 k5 lk tl=>?_;intro A' Q' E' s' k q;unfold isType loadHead;exact sj (Ai (k _ _ (X _ _ lk)) (sk q))
 ne:=λh tp dd its n sl X htp=>by
  refine Zr (xi.ok) λbm N nm qn bs sn sub ab col dd k0 k1 k2 k3 k5 lk tl=>?_;refine Bv.mpr λq=>?_;have e:C=tp:=Value.ref.inj (beq_iff_eq.mp q);subst e;have z:=congrArg (λo:Option tP=>o.map λo=>match o.data with | .cls _=>AS | _=>AT) ((X _ _ lk).symm.trans htp);exact w4 (show AS=AT from Option.some.inj z) ∅
 ca:=λ{prog w A E Q s} X ⟨⟨t,tb,c,k',ob⟩,hd⟩ k=>by
  cases dx with
  | none=>exact zbo X xi.toXC (zdm ob) xi.ca xi.cg xi.ct xi.mo k
  | some d =>
   let#[o,e]:=hd d rfl;exact zbo (od:=AQ o) X xi.toXC #[ob,rfl,rfl,e] xi.ca xi.cg xi.ct xi.mo k
def XAt(H:Hp)(x C:sv)(dx:Option sv)(fs:List (sF × V)):Prop:=H x=AQ (XT x C dx)/\((dx=AR/\fs=[])\/∃d,dx=AQ d/\H d=AQ (.xd fs))
def JR:w8 X (.builtin "isinstance") (λxs H Q=>∃x C dx fs c u b,xs=[.ref x,c]/\cV c=AQ u/\XAt H x C dx fs/\XI X.K C/\aV X.K (.ref C) u=AQ b/\Q (.bl b) H):=by
 intros xs us Q I r h;let#[x,C,dx,fs,c,u,b,rfl,hc,#[hx,hd],xi,e,q]:=h;let#[v,w',rfl,rx,rc]:=V8 r;cases rx
 have:w'=u:=by
  cases c with
  | ty n=>cases hc;exact rc
  | ref a=>cases hc;exact rc
  | _=>cases hc
 subst this;refine br (zf5 (dx:=dx) xi) I.kIn #[zfO (I.hok _ _ hx),λd z=>?_] e (λz=>nomatch z) λtk=>#[.bl b,H,I.tok tk,rfl,q];rcases hd with ⟨z',_⟩ | ⟨d',z',hd'⟩
 ·rw[z']at z;cases z
 ·rw[z']at z;cases z;let#[mA,#[o,es,ep,ho,_],_]:=I.hok _ _ hd';exact#[o,ho]
structure Df(P:sH)(w:sM)(K:su)(mg:sF->Option sw)(base:sV)(CX:CXT)(k:Nat)(nm:sF)(ps:List sF)(ds:List sw)(sp:Sp):Prop where
 ex:∃f fd,FnOk P w K mg base CX k f fd ps sp/\mg nm=AQ (.ref f)/\aO K (.ref f)=AS/\Binds K fd ps ds
structure Bt(mg:sF->Option sw):Prop where
 len:mg "len" = AR
 range:mg "range" = AR
 isi:mg "isinstance" = AR
 str:mg "str" = AR
 int:mg "int" = AR
 tuple:mg "tuple" = AR
 list:mg "list" = AR
 bool:mg "bool" = AR
 enum:mg "enumerate" = AR
 all:mg "all" = AR
 verr:mg "ValueError" = AR
 max:mg "max" = AR
 rev:mg "reversed" = AR
 zip:mg "zip" = AR
 sum:mg "sum" = AR
 sorted:mg "sorted" = AR
def cl0(D:Df X.prog X.w X.K X.mg X.base CX0 k x ps ds sp)(hr:Room j X.A)(hd:Vals dvs ds)(hg:Gl X x)(ha:PA X (e::es) t)(hdb:‹(x ==("__debug__" : sF))=AT›)(he:‹sq (e::es) X.env=(AT,eval e X.env)::sq es X.env›)(hpl:‹(sS pos (sq es X.env)).any (·.1)=AT›)(hj:‹k<=j›):PE X (.Call (.Name x p) (e::es) [] pos) (uc sp dvs E0 t):=by let#[f,fd,F,hm,hk,hb]:=D.ex;exact JW F (hr.mono hj) hg hm hk hb hd VS ha hdb he hpl
def clX(D:Df X.prog X.w X.K X.mg X.base (CXx X.prog X.w) k x ps ds sp)(hr:Room j X.A)(hd:Vals dvs ds)(hg:Gl X x)(ha:PA X.nox (e::es) t)(hdb:‹(x ==("__debug__" : sF))=AT›)(he:‹sq (e::es) X.env=(AT,eval e X.env)::sq es X.env›)(hpl:‹(sS pos (sq es X.env)).any (·.1)=AT›)(hj:‹k<=j›):PEX X (.Call (.Name x p) (e::es) [] pos) (λσ H Q E=>t σ H λvs H1=>sp (vs ++ dvs) H1 Q E):=by let#[f,fd,F,hm,hk,hb]:=D.ex;exact KY F (hr.mono hj) hg hm hk hb hd ha hdb he hpl
def clP(hx:XE X E)(D:Df X.prog X.w X.K X.mg X.base (CXx X.prog X.w) k x ps ds sp)(hr:Room j X.A)(hd:Vals dvs ds)(hg:Gl X x)(ha:PA X (e::es) t)(hdb:‹(x ==("__debug__" : sF))=AT›)(he:‹sq (e::es) X.env=(AT,eval e X.env)::sq es X.env›)(hpl:‹(sS pos (sq es X.env)).any (·.1)=AT›)(hj:‹k<=j›):PE X (.Call (.Name x p) (e::es) [] pos) (uc sp dvs E t):=by let#[f,fd,F,hm,hk,hb]:=D.ex;exact JW F (hr.mono hj) hg hm hk hb hd (Vk hx) ha hdb he hpl
def TyX(K:su)(H:Hp)(x:V)(t:sw):Prop:=Wz K H x t\/(∃a C dx fs,x=.ref a/\t=.ref C/\XAt H a C dx fs/\XI K C)\/(∃a xs,x=.ref a/\t=.type "list"/\SqL K H a xs)\/∃a xs,x=.ref a/\t=.type "tuple"/\SqT K H a xs
def zfj(K:su):List V->Hp->VK->Prop:=λxs H Q=>∃x c u t b,xs=[x,c]/\cV c=AQ u/\TyX K H x t/\aV K t u=AQ b/\Q (.bl b) H
def zfQ : w8 X (.builtin "isinstance") (zfj X.K):=by
 intros xs us Q I r h;let#[x,c,u,t,b,rfl,hc,ty,e,q]:=h;rcases ty with ty | ⟨a,C,dx,fs,rfl,rfl,ha,xi⟩ | ⟨a,ys,rfl,rfl,hq⟩ | ⟨a,ys,rfl,rfl,hq⟩
 ·exact KG AU s σ H _ us Q I r #[x,c,u,t,b,rfl,hc,ty,e,q]
 ·exact JR AU s σ H _ us Q I r #[a,C,dx,fs,c,u,b,rfl,hc,ha,xi,e,q]
 all_goals
  let#[v,w',rfl,rx,rc]:=V8 r
  have:w'=u:=by
   cases c with
   | ty n=>cases hc;exact rc
   | ref a=>cases hc;exact rc
   | _=>cases hc
  subst this;cases rx
 ·let#[its,_,p,_]:=I.list hq;let#[o,h1,h2,_]:=p.isList;exact br eP I.kIn #[o,h1,h2] e (λz=>nomatch z) λtk=>#[.bl b,H,I.tok tk,rfl,q]
 ·let#[its,_,p,_]:=I.tuple hq;let#[o,h1,h2,_]:=p;exact br gg I.kIn #[o,h1,h2] e (λz=>nomatch z) λtk=>#[.bl b,H,I.tok tk,rfl,q]
def yF(h1:Gl X "isinstance")(h2:X.mg "isinstance" = AR)(he:PE X e te)(hg:Gl X c)(hm:X.mg c=AR)(hv:sW c=AQ (.type n))(hn:‹c≠"__name__"›)(hd:‹(c ==("__debug__" : sF))=AT›)(hs1:‹sq [e,.Name c q] X.env=(AT,eval e X.env)::sq [.Name c q] X.env›)(hs3:‹sq [.Name c q] X.env=(AT,eval (.Name c q) X.env)::sq [] X.env›)(hs2:‹(sS pos (sq [.Name c q] X.env)).any (·.1)=AT›):PE X (.Call (.Name "isinstance" p) [e,.Name c q] [] pos) (tCB (zfj X.K) (zK te (zK (tC (.ty n)) xv))) :=
 yP zfQ h1 h2 boot_isinstance (za he (za (zcK hg hm hv rfl hn hd) zg hs3) hs1) (he:=hs1) (hpl:=hs2)
def zaB : cV (.ref a)=AQ (.ref a):=rfl
def zeg : cV (.ty n)=AQ (.type n):=rfl
def zf1{P w K mg base N q sc f cd A o s H}:(cxH P w K mg base N q sc f cd A o s H).K=K:=rfl
def UK:V->List V->Hp->VK->Prop:=λx xs H Q=>∃z y,x=.str z/\xs=[.str y]/\Q (.int (Txt.count z y)) H
def zb0 : MtR X "str.count" UK:=KL
def K6:V->List V->Hp->VK->Prop:=λx xs H Q=>∃z y,x=.str z/\xs=[.str y]/\Q (.int (Txt.find z y)) H
def za5 : MtR X "str.find" K6:=Ju
def QP(l:())(c:Nat):Txt.count (tx l) (tx [c])=(l.count c:Int):=by
 have h:∀l:(),cnt c l=(l.count c:Int):=λl=>by
  induction l with
  | nil=>rfl
  | cons n r ih =>
   rw[cnt_cons,ih,List.count_cons];by_cases e:n=c
   ·subst e;simp;lia
   ·have:(n == c)=AT:=by simpa using e
    simp [e,this]
 exact (PyProof.Rows.count_is (tx l) c).trans (h l)
def lt1 :([a]:()) < [b] ↔ a<b:=by rw[List.cons_lt_cons_iff];exact#[λh=>h.elim id λ⟨_,q⟩=>w4 q (List.not_lt_nil _),.inl]
def Jh{k v:Nat}(h:l[k]? = AQ v):(v::(l.take k ++ l.drop (k+1))).Perm l:=by
 let#[hk,e]:=AX.mp h
 have e2:l.take k ++ (v::l.drop (k+1))=l:=by
  rw[<- e,<- aY hk,bW]
 exact (List.perm_middle.symm.trans (by rw[e2]))
def Wy(K:su):List V->Hp->VK->Prop:=λxs H Q=>match xs with
 | [.str z]=>z.length<=sr/\Q (.int z.length) H
 | [.ref a]=>∃n:Nat,((∃xs,SqL K H a xs/\n=xs.length)\/∃xs,SqT K H a xs/\n=xs.length)/\Q (.int n) H
 | xs=>∃x n,xs=[x]/\zdq K x H n/\Q (.int n) H
def rLen_is{K:su}:Wy K xs H Q=∃x n,xs=[x]/\zdq K x H n/\Q (.int n) H:=by
 unfold Wy;split
 ·exact propext #[λh=>#[_,_,rfl,#[h.1,rfl],h.2],λ⟨_,_,e,h,q⟩=>by cases e;let#[h,rfl]:=h;exact#[h,q]]
 ·exact propext #[λ⟨n,h,q⟩=>#[_,n,rfl,h,q],λ⟨_,n,e,h,q⟩=>by cases e;exact#[n,h,q]]
 ·rfl
def zgl : w8 X (.builtin "len") (Wy X.K):=λAU s σ H xs us Q I r h=>Kr AU s σ H xs us Q I r (rLen_is.mp h)
def ForR(lo:Int)(n:Nat)(g:TG)(tb:TS)(D:Z2)(σ:St)(H:Hp):Prop:=∃W:Nat->Nat->St->Hp->Prop,(∃m,W 0 m σ H)/\∀i m σ H,W i m σ H ->
 ((Itr lo n).stop i H/\D.nx σ H)\/((Itr lo n).go i H/\∃N:St->Hp->Prop,(∀σ' H',N σ' H'->∃m',m'<m/\W (i+1) m' σ' H')/\∀x H',(Itr lo n).yld i H x H'->g x σ H' λσ2 H2=>tb { D with nx:=N,ct:=N,bk:=D.nx } σ2 H2)
def zev : KQ (zbH ta) g tb D σ H=ta σ H λvs H1=>∃j:Int,vs=[.int j]/\-(2 ^ 62)<=j/\j<2 ^ 62/\ForR 0 j.toNat g tb D σ H1:=rfl
def ze3 : KQ (zeA ta) g tb D σ H=ta σ H λvs H1=>∃i j:Int,vs=[.int i,.int j]/\(-(2 ^ 62)<=i/\i<2 ^ 62/\-(2 ^ 62)<=j/\j<2 ^ 62)/\ForR i (j - i).toNat g tb D σ H1:=rfl
def ForR.by{lo:Int}(Pv:Nat->St->Hp->Prop)(h0:Pv 0 σ H)(hs:∀i σ H,i<n->Pv i σ H->g (.int (lo+i)) σ H λσ2 H2=>tb { D with nx:=Pv (i+1),ct:=Pv (i+1),bk:=D.nx } σ2 H2)(hd:∀σ H,Pv n σ H->D.nx σ H):ForR lo n g tb D σ H:=Jx Pv h0 hs hd
def ForL(K:su)(a:sv)(g:TG)(tb:TS)(D:Z2)(σ:St)(H:Hp):Prop:=∃W:Nat->Nat->St->Hp->Prop,(∃m,W 0 m σ H)/\∀i m σ H,W i m σ H ->
 ((Itl K a).stop i H/\D.nx σ H)\/((Itl K a).go i H/\∃N:St->Hp->Prop,(∀σ' H',N σ' H'->∃m',m'<m/\W (i+1) m' σ' H')/\∀x H',(Itl K a).yld i H x H'->g x σ H' λσ2 H2=>tb { D with nx:=N,ct:=N,bk:=D.nx } σ2 H2)
def zgT{K:su}:KQ (zb7 K tl) g tb D σ H=tl σ H λx H1=>∃a,x=.ref a/\(∃xs,SqL K H1 a xs)/\ForL K a g tb D σ H1:=rfl
def ForS(x:sF)(g:TG)(tb:TS)(D:Z2)(σ:St)(H:Hp):Prop:=∃W:Nat->Nat->St->Hp->Prop,(∃m,W 0 m σ H)/\∀i m σ H,W i m σ H ->
 ((Its x).stop i H/\D.nx σ H)\/((Its x).go i H/\∃N:St->Hp->Prop,(∀σ' H',N σ' H'->∃m',m'<m/\W (i+1) m' σ' H')/\∀v H',(Its x).yld i H v H'->g v σ H' λσ2 H2=>tb { D with nx:=N,ct:=N,bk:=D.nx } σ2 H2)
def zgZ : KQ (zfZ tl) g tb D σ H=tl σ H λv H1=>∃x,v=.str x/\ForS x g tb D σ H1:=rfl
def ForS.by(Pv:Nat->St->Hp->Prop)(h0:Pv 0 σ H)(hs:∀i c σ H,l[i]? = AQ c->Pv i σ H->g ⇑[c] σ H λσ2 H2=>tb { D with nx:=Pv (i+1),ct:=Pv (i+1),bk:=D.nx } σ2 H2)(hd:∀σ H,Pv l.length σ H->D.nx σ H):ForS (tx l) g tb D σ H:=zcg Pv h0 hs hd
def zg4(x:sF)(g:TG)(tb:TS)(D:Z2)(σ:St)(H:Hp):Prop:=∃W:Nat->Nat->St->Hp->Prop,(∃m,W 0 m σ H)/\∀i m σ H,W i m σ H ->
 ((Ite x).stop i H/\D.nx σ H)\/((Ite x).go i H/\∃N:St->Hp->Prop,(∀σ' H',N σ' H'->∃m',m'<m/\W (i+1) m' σ' H')/\∀v H',(Ite x).yld i H v H'->g v σ H' λσ2 H2=>tb { D with nx:=N,ct:=N,bk:=D.nx } σ2 H2)
def zgJ : KQ (zfn ta) g tb D σ H=ta σ H λvs H1=>∃x,vs=[.str x]/\zg4 x g tb D σ H1:=rfl
def uI(l:List α)(h:0<=k):cut l AR (AQ k)=l.take k.toNat:=by
 let#[n,rfl]:=bP h;unfold cut;rw[HT.sIx_none,HT.sIx_nat,dw,Nat.sub_zero];by_cases q:n<=l.length
 ·rw[cw q];rfl
 ·rw[cE ⋯,aI,aW (by simp;lia)]
def xp(l:List α)(h:0<=k):cut l (AQ k) AR=l.drop k.toNat:=by
 let#[n,rfl]:=bP h;unfold cut;rw[HT.sIx_none,HT.sIx_nat];by_cases q:n<=l.length
 ·rw[cw q];rw[aW (by rw[aS] <;> lia)];rfl
 ·rw[cE ⋯,dM,bf (by simp;lia)];simp
def vP(h0:0<=i)(h1:i<xs.length):∃v,atI xs i=AQ v/\xs[i.toNat]? = AQ v:=by let#[n,rfl]:=bP h0;have hn:n<xs.length:=⋯;exact#[xs[n],vf (af hn),af hn]
def alpha:():=[97,98,99,100,101,102,103,104,105,106,107,108,109,110,111,112,113,114,115,116,117,118,119,120,121,122]
def Qm:(("abcdefghijklmnopqrstuvwxyz" : sF))=tx alpha:=by symm
def zW:(sr:Nat)=16777216:=sL
def cxK{CX P w K mg base N q sc f cd A o s H E}:(ja CX P w K mg base N q sc f cd A o s H E).K=K:=rfl
def cxP{CX P w K mg base N q sc f cd A o s H E}:(ja CX P w K mg base N q sc f cd A o s H E).prog=P:=rfl
def cxW{CX P w K mg base N q sc f cd A o s H E}:(ja CX P w K mg base N q sc f cd A o s H E).w=w:=rfl
def zeO : J3 (.int a) (.int b)=AS:=rfl
def zdT : J3 (.str a) (.str b)=AS:=rfl
def zdy : J3 (.bl a) (.bl b)=AS:=rfl
def zdV : J3 .non (.str b)=AS:=rfl
def zdx : J3 (.str b) .non=AS:=rfl
def zf(h:H p=AR):Same H (upd H p o):=λb u e=>by
 rw[zt (zN e h)];exact e
def zQ{α:Type}{l:List α}{c:α}(h:l[i]? = AQ c):l.take (i+1)=l.take i ++ [c]:=by rw[List.take_add_one,h];rfl
structure FunD(K:su)(x qual:sF)(st:sI)(dV:sw)(f:sv)(fd:tM):Prop where
 ex:∃(oc:sw) (od:Option sv) (kV doc pm:sw) (an:Option sv) (cdv ct:sw) (osl:Array (Option sw)),
  fd=bC x qual (yV st) (yj st) (zi st) dV kV doc pm an cdv ct/\K.lookup f=AQ #[oc,od,.func fd,osl]/\bZ K cdv qual=AS
def FunD.okX{K:su}{st:sI}(F:FunD K x qual st dV f fd)(S:zo N ps (zi st))(len:∀vs H Q E,sp vs H Q E->vs.length=ps.length)(hbody:∀(cdv:sw) (A:sZ) (outer:List AJ) (s:sy) (H:Hp) (vs:List V) (Q:VK) (E:XK),Room k (A.deeper (tR qual (zi st) s⁻¹ f cdv))->XE (ja (CXx P w) P w K mg base N qual (zi st) f cdv A outer s H E) E->sp vs H Q E ->
   ∃t,PSs (ja (CXx P w) P w K mg base N qual (zi st) f cdv A outer s H E) (yj st) t/\t { nx:=λZ H'=>Q .non H',rt:=Q } (start N vs) H):FnOk P w K mg base (CXx P w) (k+1) f fd ps sp:=by let#[oc,od,kV,doc,pm,an,cdv,ct,osl,rfl,lk,hcd]:=F.ex;exact Kn lk hcd S len λA outer s H vs Q E hr hsp=>hbody cdv A outer s H vs Q E hr zen hsp
def uj(C:sv)(f:sF):Sp:=λvs H Q Z=>∃x v,vs=[.ref x,v]/\H x=AQ (XN x C AR)/\∀dx,H dx=AR->Q .non (upd (upd H dx (.xd [(f,v)])) x (XN x C (AQ dx)))
def zfy(H:Hp)(d:sv)(f:sF)(v:V)(H':Hp):Prop:=H d=AR/\Same H H'/\H' d=AQ (.xd [(f,v)])
def Qn{E:XK}(h:∀d H',zfy H d f v H'->E (.ref C) (AQ d) H'):∀x,H x=AR->uj C f [.ref x,v] (upd H x (XN x C AR)) (λu H2=>u=.non/\∃dx,H2 x=AQ (XN x C dx)/\E (.ref C) dx (del H2 x)) E0:=by
 intro x hx;refine#[x,v,rfl,zc,λdx hd=>#[rfl,AQ dx,zc,h dx _ #[?_,?_,?_]]]
 ·by_cases e:dx=x
  ·rw[e];exact hx
  ·rw[zt e]at hd;exact hd
 ·have hne:dx≠x:=λe=>by rw[e,zc]at hd;cases hd
  rw[zt hne]at hd;intro b o q;have b1:b≠x:=zN q hx;have b2:b≠dx:=zN q hd;rw[Uv b1,zt b1,zt b2,zt b1];exact q
 ·have hne:dx≠x:=λe=>by rw[e,zc]at hd;cases hd
  rw[Uv hne,zt hne,zc]
def zgE:R2:=λx y H Q=>match y with | .non=>Q (.bl (decide (x=.non))) H | _=>False
theorem op_isN':OpR X (sK .Is) zgE:=λAU s σ H x y v u Q I rx ry h=>by
 cases y with
 | non=>exact zd2 AU s σ H x .non v u Q I rx ry #[rfl,h]
 | _=>exact h.elim
def zdM:R2:=λx y H Q=>match y with | .non=>Q (.bl (!decide (x=.non))) H | _=>False
theorem op_notN':OpR X (sK .IsNot) zdM:=λAU s σ H x y v u Q I rx ry h=>by
 cases y with
 | non=>exact zcq AU s σ H x .non v u Q I rx ry #[rfl,h]
 | _=>exact h.elim
def zap:List V->Hp->VK->Prop:=λxs H Q=>match xs with | [.int i,.int j]=>Q (.int (if j > i then j else i)) H | _=>False
def Q5(hc:X.calm=AS):w8 X (.builtin "max") zap:=λAU s σ H xs us Q I r h=>by
 unfold zap at h;split at h
 ·exact Qd hc AU s σ H _ us Q I r #[_,_,rfl,h]
 ·exact h.elim
def rGe:R2:=λx y H Q=>onInt x λi=>onInt y λj=>Q (.bl (decide (j<=i))) H
def op_ge':OpR X (sK .GtE) rGe:=zgs
def qW:sW "max" = AQ (.builtin "max"):=by symm
def zdb(ls l:())(m:Int)(k:Nat):Prop:=∃c,l[k]? = AQ c/\(m<=k\/c ∉ ls)
def FB(ls l:())(m:Int)(k:Nat):Prop:=zdb ls l m k/\∀j<k,¬ zdb ls l m j
def NB(ls l:())(m:Int):Prop:=∀j,¬ zdb ls l m j
def FB.nb(h:FB ls l m k)(n:NB ls l m):False:=n k h.1
inductive D where
 | non | bl (b:Bool) | int (i:Int) | str (x:sF) | lst (l:List D) | tup (l:List D)
end
mutual
def Is(K:su)(H:Hp):D->V->Prop
 | .non,v=>v=.non
 | .bl b,v=>v=.bl b
 | .int i,v=>v=.int i
 | .str x,v=>v=.str x
 | .lst l,v=>∃a xs,v=.ref a/\SqL K H a xs/\Iss K H l xs
 | .tup l,v=>∃a xs,v=.ref a/\SqT K H a xs/\Iss K H l xs
def Iss(K:su)(H:Hp):List D->List V->Prop
 | [],vs=>vs=[]
 | d::l,vs=>∃v r,vs=v::r/\Is K H d v/\Iss K H l r
end
mutual
noncomputable def eqD:D->D->Bool
 | .non,e=>match e with | .non=>AS | _=>AT
 | .bl a,e=>match e with | .bl b=>a == b | .int b=>(if a then 1 else 0) == b | _=>AT
 | .int a,e=>match e with | .bl b=>a ==(if b then 1 else 0) | .int b=>a == b | _=>AT
 | .str a,e=>match e with | .str b=>a == b | _=>AT
 | .lst l,e=>match e with | .lst m=>uE l m | _=>AT
 | .tup l,e=>match e with | .tup m=>uE l m | _=>AT
noncomputable def uE:List D->List D->Bool
 | [],m=>match m with | []=>AS | _::_=>AT
 | d::l,m=>match m with | e::m=>eqD d e && uE l m | []=>AT
end
mutual
noncomputable def dpD:D->Nat
 | .lst l=>vH l+1
 | .tup l=>vH l+1
 | _=>0
noncomputable def vH:List D->Nat
 | []=>0
 | d::l=>max (dpD d) (vH l)
end
theorem zat:∀{l:List D} {j:Nat} {d:D},l[j]? = AQ d->dpD d<=vH l
 | d::l,0,_,h=>by
  cases h
  erw[vH]
  lia
 | d::l,j+1,e,h=>by
  have:=zat (l:=l) (j:=j) (d:=e) h
  erw[vH]
  lia
mutual
theorem uz:∀d:D,eqD d d=AS
 | .non=>rfl
 | .bl b=>by simp [eqD]
 | .int i=>by simp [eqD]
 | .str x=>by simp [eqD]
 | .lst l=>by erw[eqD];exact xg l
 | .tup l=>by erw[eqD];exact xg l
theorem xg:∀l:List D,uE l l=AS
 | []=>rfl
 | d::l=>by erw[uE,uz d,xg l,Bool.and_self]
end
theorem Iss.len{K:su}:∀{l:List D} {vs:List V},Iss K H l vs->vs.length=l.length
 | [],vs,h=>by erw[Iss]at h;rw[h];rfl
 | d::l,vs,h=>by
  erw[Iss]at h
  let#[v,r,rfl,_,h2]:=h
  erw[aG,Iss.len h2]
theorem Iss.at{K:su}:∀{l:List D} {vs:List V} {j:Nat} {d:D},Iss K H l vs->l[j]? = AQ d->∃v,vs[j]? = AQ v/\Is K H d v
 | d::l,vs,0,_,h,q=>by
  cases q
  erw[Iss]at h
  let#[v,r,rfl,h1,_]:=h;exact#[v,rfl,h1]
 | d::l,vs,j+1,e,h,q=>by
  erw[Iss]at h
  let#[v,r,rfl,_,h2]:=h;exact Iss.at (j:=j) h2 q
theorem Iss.append{K:su}:∀{l m:List D} {vs us:List V},Iss K H l vs->Iss K H m us->Iss K H (l ++ m) (vs ++ us)
 | [],m,vs,us,h,g=>by erw[Iss]at h;rw[h];exact g
 | d::l,m,vs,us,h,g=>by
  erw[Iss]at h
  let#[v,r,rfl,h1,h2]:=h
  erw[bD,Iss]
  exact#[v,r ++ us,rfl,h1,Iss.append h2 g]
theorem Iss.ints{K:su}:∀(l:List Int),Iss K H (l.map D.int) (l.map V.int)
 | []=>by erw[aH,Iss]
 | i::l=>by
  erw[ao,Iss,Is]
  exact#[_,_,rfl,rfl,Iss.ints l]
def zp{K:su}(e:Same H H')(h:SqT K H a xs):SqT K H' a xs:=by
 rcases h with (h | ⟨o,h⟩) | h
 ·exact .inl (.inl (e _ _ h))
 ·exact .inl (.inr #[o,e _ _ h])
 ·exact .inr h
mutual
theorem Is.same{K:su}{H H':Hp}(e:Same H H'):∀(d:D) (v:V),Is K H d v->Is K H' d v
 | .non,v,h=>by erw[Is]at h ⊢;exact h
 | .bl b,v,h=>by erw[Is]at h ⊢;exact h
 | .int b,v,h=>by erw[Is]at h ⊢;exact h
 | .str b,v,h=>by erw[Is]at h ⊢;exact h
 | .lst l,v,h=>by
  erw[Is]at h ⊢
  let#[a,xs,e1,e2,e3]:=h;exact#[a,xs,e1,e.seq e2,Iss.same e l xs e3]
 | .tup l,v,h=>by
  erw[Is]at h ⊢
  let#[a,xs,e1,e2,e3]:=h;exact#[a,xs,e1,zp e e2,Iss.same e l xs e3]
theorem Iss.same{K:su}{H H':Hp}(e:Same H H'):∀(l:List D) (vs:List V),Iss K H l vs->Iss K H' l vs
 | [],vs,h=>by erw[Iss]at h ⊢;exact h
 | d::l,vs,h=>by
  erw[Iss]at h ⊢
  let#[v,r,e1,e2,e3]:=h;exact#[v,r,e1,Is.same e d v e2,Iss.same e l r e3]
end
theorem xQ:∀(l m:List D),uE l m=((aJ (min l.length m.length)).all (λj=>eqD (l.getD j .non) (m.getD j .non)) && l.length == m.length)
 | [],[]=>rfl
 | [],e::m=>by simp [uE]
 | d::l,[]=>by simp [uE]
 | d::l,e::m=>by
  erw[uE,xQ l m,aG]
  have h1:min (l.length+1) (m.length+1)=min l.length m.length+1:=⋯;rw[h1,dF,eM,List.all_map]
  have h2:(l.length+1 == m.length+1)=(l.length == m.length):=by
   rw[cS,beq_iff_eq,beq_iff_eq];lia
  rw[h2]
  erw[List.getD_cons_zero,Bool.and_assoc]
  rfl
section
variable{X:Cx}{AU:List (sv × tP)}{σ:St}{H:Hp}{s:sy}
def Y2(I:Inv X AU σ H s)(h:SqL X.K H a xs)(g:SqT X.K H a ys):False:=by let#[its,r,#[o,n,e,c,_,d],_]:=I.list h;let#[its',r',#[o',e',c',n',d'],_]:=I.tuple g;rw[e]at e';cases e';rw[c]at c';exact w4 (Value.type.inj c') ∅
mutual
theorem WU(I:Inv X AU σ H s):∀(d e:D) (v:V),Is X.K H d v->Is X.K H e v->d=e
 | .lst l,.lst m,v,h,g=>by
  erw[Is]at h g
  let#[a,xs,rfl,h1,h2]:=h;let#[b,ys,e,g1,g2]:=g;cases e;have:=I.list_inj h1 g1;subst this;rw[XA I l m xs h2 g2]
 | .tup l,.tup m,v,h,g=>by
  erw[Is]at h g
  let#[a,xs,rfl,h1,h2]:=h;let#[b,ys,e,g1,g2]:=g;cases e;have:=I.tuple_inj h1 g1;subst this;rw[XA I l m xs h2 g2]
 | .lst l,.tup m,v,h,g=>by
  erw[Is]at h g
  let#[a,xs,rfl,h1,h2]:=h;let#[b,ys,e,g1,g2]:=g;cases e;exact (Y2 I h1 g1).elim
 | .tup l,.lst m,v,h,g=>by
  erw[Is]at h g
  let#[a,xs,rfl,h1,h2]:=h;let#[b,ys,e,g1,g2]:=g;cases e;exact (Y2 I g1 h1).elim
 | .lst l,.non,v,h,g=>by erw[Is]at h g;let#[a,xs,rfl,_]:=h;cases g
 | .lst l,.bl _,v,h,g=>by erw[Is]at h g;let#[a,xs,rfl,_]:=h;cases g
 | .lst l,.int _,v,h,g=>by erw[Is]at h g;let#[a,xs,rfl,_]:=h;cases g
 | .lst l,.str _,v,h,g=>by erw[Is]at h g;let#[a,xs,rfl,_]:=h;cases g
 | .tup l,.non,v,h,g=>by erw[Is]at h g;let#[a,xs,rfl,_]:=h;cases g
 | .tup l,.bl _,v,h,g=>by erw[Is]at h g;let#[a,xs,rfl,_]:=h;cases g
 | .tup l,.int _,v,h,g=>by erw[Is]at h g;let#[a,xs,rfl,_]:=h;cases g
 | .tup l,.str _,v,h,g=>by erw[Is]at h g;let#[a,xs,rfl,_]:=h;cases g
 | .non,e,v,h,g=>by
  erw[Is]at h
  subst h;cases e <;> erw[Is]at g
  all_goals first | rfl | (let#[a,xs,q,_]:=g;cases q) | cases g
 | .bl _,e,v,h,g=>by
  erw[Is]at h
  subst h;cases e <;> erw[Is]at g
  all_goals first | (cases g;rfl) | (let#[a,xs,q,_]:=g;cases q) | cases g
 | .int _,e,v,h,g=>by
  erw[Is]at h
  subst h;cases e <;> erw[Is]at g
  all_goals first | (cases g;rfl) | (let#[a,xs,q,_]:=g;cases q) | cases g
 | .str _,e,v,h,g=>by
  erw[Is]at h
  subst h;cases e <;> erw[Is]at g
  all_goals first | (cases g;rfl) | (let#[a,xs,q,_]:=g;cases q) | cases g
theorem XA(I:Inv X AU σ H s):∀(l m:List D) (vs:List V),Iss X.K H l vs->Iss X.K H m vs->l=m
 | [],[],_,_,_=>rfl
 | [],e::m,vs,h,g=>by
  erw[Iss]at h g
  subst h;let#[_,_,q,_]:=g;cases q
 | d::l,[],vs,h,g=>by
  erw[Iss]at h g
  subst g;let#[_,_,q,_]:=h;cases q
 | d::l,e::m,vs,h,g=>by
  erw[Iss]at h g
  let#[v,r,rfl,h1,h2]:=h;let#[v',r',q,g1,g2]:=g;cases q;rw[WU I d e v h1 g1,XA I l m r h2 g2]
end
theorem xU:∀{xs:List V} {us:List sw} {j:Nat} {x:V},Vals xs us->xs[j]? = AQ x->∃u,us[j]? = AQ u/\RelV x u
 | _,_,0,_,.cons r t,h=>by cases h;exact#[_,rfl,r]
 | _,_,j+1,_,.cons r t,h=>xU (j:=j) t h
theorem xL(hl:Iss X.K H l xs)(hm:Iss X.K H m ys)(r:Vals xs its)(r':Vals ys its')(hn:vH l<n)(ih:∀(d e:D) (x y:V) (u v:sw),dpD d<n->Is X.K H d x->Is X.K H e y->RelV x u->RelV y v->SeqAt.EqAt A s u v (eqD d e)) :
  ∀j (h1:j<its.toArray.size) (h2:j<its'.toArray.size),SeqAt.EqAt A s its.toArray[j] its'.toArray[j] (eqD (l.getD j .non) (m.getD j .non)):=by
 intro j h1 h2;rw[ak]at h1 h2;have e1:=hl.len;have e2:=hm.len;have e3:=r.length;have e4:=r'.length;have g1:l[j]? = AQ l[j]:=af ⋯;have g2:m[j]? = AQ m[j]:=af ⋯;generalize l[j]=d at g1;generalize m[j]=e at g2;let#[x,hx,ix]:=hl.at g1;let#[y,hy,iy]:=hm.at g2;let#[u,hu,ru]:=xU r hx;let#[v,hv,rv]:=xU r' hy
 have q1:its.toArray[j]=u:=by
  have:=(AX.mp hu).2;simpa using this
 have q2:its'.toArray[j]=v:=by
  have:=(AX.mp hv).2;simpa using this
 rw[q1,q2,ae,ae,g1,g2];exact ih d e x y u v (bX (zat g1) hn) ix iy ru rv
theorem qt(I:Inv X AU σ H s):∀(n:Nat) (A:sZ) (d e:D) (x y:V) (u v:sw),A.units+n<cLine->dpD d<n->Is X.K H d x->Is X.K H e y->RelV x u->RelV y v->SeqAt.EqAt A s u v (eqD d e):=by
 intro n
 induction n with
 | zero=>intro A d e x y u v _ h;exact w4 h (bB _)
 | succ n ih =>
  intro A d e x y u v hu hd hx hy rx ry;have hu1:A.units<cLine:=⋯;have huA:A.in1.units+n<cLine:=by show A.units+1+n<cLine;lia
  cases d with
  | lst l =>
   erw[Is]at hx
   let#[a,xs,rfl,h1,h2]:=hx;cases rx;let#[its,r,p,_]:=I.list h1
   cases e with
   | non=>erw[Is]at hy;subst hy;cases ry;exact SeqAt.EqAt.list_none p.isList hu1
   | bl b=>erw[Is]at hy;subst hy;cases ry;exact SeqAt.EqAt.list_bool b p.isList hu1
   | int b=>erw[Is]at hy;subst hy;let#[t,rfl]:=ry;exact SeqAt.EqAt.list_int b t p.isList hu1
   | str b=>erw[Is]at hy;subst hy;let#[t,rfl]:=ry;exact SeqAt.EqAt.list_str b t p.isList hu1
   | tup m =>
    erw[Is]at hy
    let#[b,ys,rfl,g1,g2]:=hy;cases ry;let#[its',r',p',_]:=I.tuple g1;exact SeqAt.EqAt.list_tuple p.isList p' hu1
   | lst m =>
    have hy':=hy
    erw[Is]at hy
    let#[b,ys,rfl,g1,g2]:=hy;cases ry;let#[its',r',p',_]:=I.list g1
    erw[dpD]at hd
    by_cases hab:a=b
    ·subst hab;have:=WU I (.lst l) (.lst m) (.ref a) (by erw[Is];exact#[a,xs,rfl,h1,h2]) hy';rw[this,uz];exact SeqAt.EqAt.same _
    ·refine .of_refs hab ?_
     erw[eqD]
     have L1:=h2.len;have L2:=g2.len;have L3:=r.length;have L4:=r'.length;by_cases hl:l.length=m.length
     ·have:=SeqAt.RcAt.lists (A:=A) p.isList p'.isList (by erw[ak];lia) hu1 (xL h2 g2 r r' (n:=n) ⋯ λd e x y u v q1 q2 q3 q4 q5=>ih A.in1 d e x y u v huA q1 q2 q3 q4 q5);rw[xQ,hl,eX,beq_self_eq_true,fW];have e1:its.toArray.size=m.length:=by erw[ak];lia
      rw[e1]at this;exact this
     ·rw[xQ,beq_eq_false_iff_ne.mpr hl,dv];exact SeqAt.RcAt.lists_lengths p.isList p'.isList (by rw[bne_iff_ne];erw[ak];lia) hu1
  | tup l =>
   erw[Is]at hx
   let#[a,xs,rfl,h1,h2]:=hx;cases rx;let#[its,r,p,_]:=I.tuple h1
   cases e with
   | non=>erw[Is]at hy;subst hy;cases ry;exact SeqAt.EqAt.tuple_none p hu1
   | bl b=>erw[Is]at hy;subst hy;cases ry;exact SeqAt.EqAt.tuple_bool b p hu1
   | int b=>erw[Is]at hy;subst hy;let#[t,rfl]:=ry;exact SeqAt.EqAt.tuple_int b t p hu1
   | str b=>erw[Is]at hy;subst hy;let#[t,rfl]:=ry;exact SeqAt.EqAt.tuple_str b t p hu1
   | lst m =>
    erw[Is]at hy
    let#[b,ys,rfl,g1,g2]:=hy;cases ry;let#[its',r',p',_]:=I.list g1;exact SeqAt.EqAt.tuple_list p p'.isList hu1
   | tup m =>
    have hy':=hy
    erw[Is]at hy
    let#[b,ys,rfl,g1,g2]:=hy;cases ry;let#[its',r',p',_]:=I.tuple g1
    erw[dpD]at hd
    by_cases hab:a=b
    ·subst hab;have:=WU I (.tup l) (.tup m) (.ref a) (by erw[Is];exact#[a,xs,rfl,h1,h2]) hy';rw[this,uz];exact SeqAt.EqAt.same _
    ·refine .of_refs hab ?_
     erw[eqD]
     have L1:=h2.len;have L2:=g2.len;have L3:=r.length;have L4:=r'.length;have:=SeqAt.RcAt.tuples (A:=A) p p' hu1 (xL h2 g2 r r' (n:=n) ⋯ λd e x y u v q1 q2 q3 q4 q5=>ih A.in1 d e x y u v huA q1 q2 q3 q4 q5);rw[xQ]
     erw[ak]at this
     rw[<- L1,<- L2,L3,L4];exact this
  | non =>
   erw[Is]at hx
   subst hx
   cases e with
   | lst m =>
    erw[Is]at hy
    let#[b,ys,rfl,g1,g2]:=hy;cases rx;cases ry;let#[its',r',p',_]:=I.list g1;exact SeqAt.EqAt.none_list p'.isList hu1
   | tup m =>
    erw[Is]at hy
    let#[b,ys,rfl,g1,g2]:=hy;cases rx;cases ry;let#[its',r',p',_]:=I.tuple g1;exact SeqAt.EqAt.none_tuple p' hu1
   | _=>erw[Is]at hy;subst hy;exact Vg rx ry rfl rfl
  | bl c =>
   erw[Is]at hx
   subst hx
   cases e with
   | lst m =>
    erw[Is]at hy
    let#[b,ys,rfl,g1,g2]:=hy;cases rx;cases ry;let#[its',r',p',_]:=I.list g1;exact SeqAt.EqAt.bool_list _ p'.isList hu1
   | tup m =>
    erw[Is]at hy
    let#[b,ys,rfl,g1,g2]:=hy;cases rx;cases ry;let#[its',r',p',_]:=I.tuple g1;exact SeqAt.EqAt.bool_tuple _ p' hu1
   | _=>erw[Is]at hy;subst hy;exact Vg rx ry rfl rfl
  | int c =>
   erw[Is]at hx
   subst hx
   cases e with
   | lst m =>
    erw[Is]at hy
    let#[b,ys,rfl,g1,g2]:=hy;let#[t,rfl]:=rx;cases ry;let#[its',r',p',_]:=I.list g1;exact SeqAt.EqAt.int_list _ _ p'.isList hu1
   | tup m =>
    erw[Is]at hy
    let#[b,ys,rfl,g1,g2]:=hy;let#[t,rfl]:=rx;cases ry;let#[its',r',p',_]:=I.tuple g1;exact SeqAt.EqAt.int_tuple _ _ p' hu1
   | _=>erw[Is]at hy;subst hy;exact Vg rx ry rfl rfl
  | str c =>
   erw[Is]at hx
   subst hx
   cases e with
   | lst m =>
    erw[Is]at hy
    let#[b,ys,rfl,g1,g2]:=hy;let#[t,rfl]:=rx;cases ry;let#[its',r',p',_]:=I.list g1;exact SeqAt.EqAt.str_list _ _ p'.isList hu1
   | tup m =>
    erw[Is]at hy
    let#[b,ys,rfl,g1,g2]:=hy;let#[t,rfl]:=rx;cases ry;let#[its',r',p',_]:=I.tuple g1;exact SeqAt.EqAt.str_tuple _ _ p' hu1
   | _=>erw[Is]at hy;subst hy;exact Vg rx ry rfl rfl
def zgU(K:su):R2:=λx y H Q=>∃l m,((Is K H (.lst l) x/\Is K H (.lst m) y)\/(Is K H (.tup l) x/\Is K H (.tup m) y))/\vH l<50/\Q (.bl (uE l m)) H
def zgF(K:su):R2:=λx y H Q=>∃l m,((Is K H (.lst l) x/\Is K H (.lst m) y)\/(Is K H (.tup l) x/\Is K H (.tup m) y))/\vH l<50/\Q (.bl (!uE l m)) H
theorem W9(hu:X.A.units+100<cLine):OpR X (sK .Eq) (zgU X.K):=by
 intros x y v u Q I rx ry h;let#[l,m,hh,hd,q]:=h;have hu1:X.A.units<cLine:=⋯;have huA:X.A.in1.units+50<cLine:=by show X.A.units+1+50<cLine;lia
 rcases hh with ⟨hx,hy⟩ | ⟨hx,hy⟩
 ·erw[Is]at hx hy
  let#[a,xs,rfl,h1,h2]:=hx;let#[b,ys,rfl,g1,g2]:=hy;cases rx;cases ry;let#[its,r,p,_]:=I.list h1;let#[its',r',p',_]:=I.list g1;have L1:=h2.len;have L2:=g2.len;have L3:=r.length;have L4:=r'.length;by_cases hl:l.length=m.length
  ·have:=SeqAt.RcAt.lists (A:=X.A) p.isList p'.isList (by erw[ak];lia) hu1 (xL h2 g2 r r' (n:=50) hd λd e x y u v q1 q2 q3 q4 q5=>qt I 50 X.A.in1 d e x y u v huA q1 q2 q3 q4 q5);have e1:its.toArray.size=m.length:=by erw[ak];lia
   rw[e1]at this;rw[xQ,hl,eX,beq_self_eq_true,fW]at q;exact this X.prog X.w X.xe _ #[.bl _,H,I,rfl,q]
  ·rw[xQ,beq_eq_false_iff_ne.mpr hl,dv]at q;exact SeqAt.RcAt.lists_lengths p.isList p'.isList (by rw[bne_iff_ne];erw[ak];lia) hu1 X.prog X.w X.xe _ #[.bl _,H,I,rfl,q]
 ·erw[Is]at hx hy
  let#[a,xs,rfl,h1,h2]:=hx;let#[b,ys,rfl,g1,g2]:=hy;cases rx;cases ry;let#[its,r,p,_]:=I.tuple h1;let#[its',r',p',_]:=I.tuple g1;have L1:=h2.len;have L2:=g2.len;have L3:=r.length;have L4:=r'.length;have:=SeqAt.RcAt.tuples (A:=X.A) p p' hu1 (xL h2 g2 r r' (n:=50) hd λd e x y u v q1 q2 q3 q4 q5=>qt I 50 X.A.in1 d e x y u v huA q1 q2 q3 q4 q5)
  erw[ak]at this
  rw[xQ,<- L1,<- L2,L3,L4]at q;exact this X.prog X.w X.xe _ #[.bl _,H,I,rfl,q]
theorem za6(hu:X.A.units+100<cLine):OpR X (sK .NotEq) (zgF X.K):=by
 intros x y v u Q I rx ry h;let#[l,m,hh,hd,q]:=h;have hu1:X.A.units<cLine:=⋯;have huA:X.A.in1.units+50<cLine:=by show X.A.units+1+50<cLine;lia
 rcases hh with ⟨hx,hy⟩ | ⟨hx,hy⟩
 ·erw[Is]at hx hy
  let#[a,xs,rfl,h1,h2]:=hx;let#[b,ys,rfl,g1,g2]:=hy;cases rx;cases ry;let#[its,r,p,_]:=I.list h1;let#[its',r',p',_]:=I.list g1;have L1:=h2.len;have L2:=g2.len;have L3:=r.length;have L4:=r'.length;by_cases hl:l.length=m.length
  ·have:=SeqAt.RcNeAt.lists (A:=X.A) p.isList p'.isList (by erw[ak];lia) hu1 (xL h2 g2 r r' (n:=50) hd λd e x y u v q1 q2 q3 q4 q5=>qt I 50 X.A.in1 d e x y u v huA q1 q2 q3 q4 q5);have e1:its.toArray.size=m.length:=by erw[ak];lia
   rw[e1]at this;rw[xQ,hl,eX,beq_self_eq_true,fW]at q;exact this X.prog X.w X.xe _ #[.bl _,H,I,rfl,q]
  ·rw[xQ,beq_eq_false_iff_ne.mpr hl,dv]at q;exact SeqAt.RcNeAt.lists_lengths p.isList p'.isList (by rw[bne_iff_ne];erw[ak];lia) hu1 X.prog X.w X.xe _ #[.bl _,H,I,rfl,q]
 ·erw[Is]at hx hy
  let#[a,xs,rfl,h1,h2]:=hx;let#[b,ys,rfl,g1,g2]:=hy;cases rx;cases ry;let#[its,r,p,_]:=I.tuple h1;let#[its',r',p',_]:=I.tuple g1;have L1:=h2.len;have L2:=g2.len;have L3:=r.length;have L4:=r'.length;have:=SeqAt.RcNeAt.tuples (A:=X.A) p p' hu1 (xL h2 g2 r r' (n:=50) hd λd e x y u v q1 q2 q3 q4 q5=>qt I 50 X.A.in1 d e x y u v huA q1 q2 q3 q4 q5)
  erw[ak]at this
  rw[xQ,<- L1,<- L2,L3,L4]at q;exact this X.prog X.w X.xe _ #[.bl _,H,I,rfl,q]
end
theorem je(l m:List Int):uE (l.map D.int) (m.map D.int)=decide (l=m):=by
 induction l generalizing m with
 | nil=>cases m <;> simp [uE]
 | cons a l ih =>
  cases m with
  | nil=>simp [uE]
  | cons b m =>
   erw[ao,uE,eqD,ih m]
   by_cases h1:a=b
   ·subst h1;by_cases h2:l=m
    ·simp [h2]
    ·simp [h2]
   ·simp [h1]
theorem uN(l:List Int):vH (l.map D.int)=0:=by
 induction l with
 | nil=>rfl
 | cons a l ih=>erw[ao,vH,dpD,ih];rfl
abbrev CNx(n i:Nat)(Pv:Nat->List V->Hp->Prop)(AW:List V)(H:Hp):Prop:=∃m',m'<n - i/\(m'=n - (i+1)/\i+1<=n/\Pv (i+1) AW H)
def CNx.mk(hi:i<n)(h:Pv (i+1) AW H):CNx n i Pv AW H:=#[n - (i+1),⋯,rfl,hi,h]
def Y3(J:It)(g:TG)(tt:TT)(te:TE)(own:Nat)(ix:())(σ:St)(H1:Hp)(Q:VK)(D:sv):Prop:=∃W:Nat->Nat->List V->Hp->Prop,(∃m,W 0 m [] (upd H1 D (.lst []))) /\
 ∀i m AW H',W i m AW H'->(J.stop i H'/\Q (.ref D) H')\/(J.go i H'/\∀x H2,J.yld i H' x H2->g x (vR σ own ix) H2 λσ3 H3=>xm (vR σ own ix) σ3/\tt σ3 H3 λb H4=>if b=AS then
  te σ3 H4 λv H5=>H5 D=AQ (.lst AW)/\AW.length<sr/\∃m',m'<m/\W (i+1) m' (AW ++ [v]) (upd H5 D (.lst (AW ++ [v])))
  else ∃m',m'<m/\W (i+1) m' AW H4)
def CompR(lo:Int)(n:Nat)(g:TG)(tt:TT)(te:TE)(own:Nat)(ix:())(σ:St)(H1:Hp)(Q:VK)(D:sv):Prop:=Y3 (Itr lo n) g tt te own ix σ H1 Q D
def CompL(K:su)(a:sv)(g:TG)(tt:TT)(te:TE)(own:Nat)(ix:())(σ:St)(H1:Hp)(Q:VK)(D:sv):Prop:=Y3 (Itl K a) g tt te own ix σ H1 Q D
def CompS(x:sF)(g:TG)(tt:TT)(te:TE)(own:Nat)(ix:())(σ:St)(H1:Hp)(Q:VK)(D:sv):Prop:=Y3 (Its x) g tt te own ix σ H1 Q D
def zaz : qH (zbH ta) g tt te own ix σ H Q=ta σ H λvs H1=>∃j:Int,vs=[.int j]/\-(2 ^ 62)<=j/\j<2 ^ 62/\∀D,H1 D=AR->CompR 0 j.toNat g tt te own ix σ H1 Q D:=rfl
def zdr{K:su}:qH (zb7 K tl) g tt te own ix σ H Q=tl σ H λx H1=>∃a,x=.ref a/\(∃xs,SqL K H1 a xs)/\∀D,H1 D=AR->CompL K a g tt te own ix σ H1 Q D:=rfl
def zdp : qH (zfZ tl) g tt te own ix σ H Q=tl σ H λv H1=>∃x,v=.str x/\∀D,H1 D=AR->CompS x g tt te own ix σ H1 Q D:=rfl
section
variable{g:TG}{tt:TT}{te:TE}{own:Nat}{ix:()}{σ:St}{H1:Hp}{Q:VK}{D:sv}
theorem CompR.by{lo:Int}(Pv:Nat->List V->Hp->Prop)(h0:Pv 0 [] (upd H1 D (.lst [])))(hs:∀i AW H',i<n->Pv i AW H'->g (.int (lo+i)) (vR σ own ix) H' λσ3 H3=>xm (vR σ own ix) σ3/\tt σ3 H3 λb H4=>if b=AS then
   te σ3 H4 λv H5=>H5 D=AQ (.lst AW)/\AW.length<sr/\CNx n i Pv (AW ++ [v]) (upd H5 D (.lst (AW ++ [v])))else CNx n i Pv AW H4) (hd:∀AW H',Pv n AW H'->Q (.ref D) H'):CompR lo n g tt te own ix σ H1 Q D:=by
 refine#[λi m AW H=>m=n - i/\i<=n/\Pv i AW H,#[n,by simp,ay _,h0],?_];rintro i m AW H' ⟨rfl,hi,p⟩;by_cases hlt:i<n
 ·refine .inr #[hlt,λx H2 y=>?_];let#[e,y]:=y;subst e y;exact hs i AW _ hlt p
 ·have e:i=n:=⋯;subst e;exact .inl #[al _,hd AW H' p]
theorem CompL.by{K:su}(Pv:Nat->List V->Hp->Prop)(h0:Pv 0 [] (upd H1 D (.lst [])))(hl:∀i AW H',i<=xs.length->Pv i AW H'->SqL K H' a xs)(hs:∀i x AW H',xs[i]? = AQ x->Pv i AW H'->g x (vR σ own ix) H' λσ3 H3=>xm (vR σ own ix) σ3/\tt σ3 H3 λb H4=>if b=AS then
   te σ3 H4 λv H5=>H5 D=AQ (.lst AW)/\AW.length<sr/\CNx xs.length i Pv (AW ++ [v]) (upd H5 D (.lst (AW ++ [v])))else CNx xs.length i Pv AW H4) (hd:∀AW H',Pv xs.length AW H'->Q (.ref D) H'):CompL K a g tt te own ix σ H1 Q D:=by
 refine#[λi m AW H=>m=xs.length - i/\i<=xs.length/\Pv i AW H,#[xs.length,by simp,ay _,h0],?_];rintro i m AW H' ⟨rfl,hi,p⟩;have q:=hl i AW H' hi p;by_cases hlt:i<xs.length
 ·refine .inr #[#[xs,xs[i],q,by simp [hlt]],λx H2 y=>?_];let#[e,y]:=y;subst e;exact hs i x AW _ (y xs q) p
 ·have e:i=xs.length:=⋯;subst e;exact .inl #[#[xs,q,al _],hd AW H' p]
theorem CompS.by(Pv:Nat->List V->Hp->Prop)(h0:Pv 0 [] (upd H1 D (.lst [])))(hs:∀i c AW H',l[i]? = AQ c->Pv i AW H'->g ⇑[c] (vR σ own ix) H' λσ3 H3=>xm (vR σ own ix) σ3/\tt σ3 H3 λb H4=>if b=AS then
   te σ3 H4 λv H5=>H5 D=AQ (.lst AW)/\AW.length<sr/\CNx l.length i Pv (AW ++ [v]) (upd H5 D (.lst (AW ++ [v])))else CNx l.length i Pv AW H4) (hd:∀AW H',Pv l.length AW H'->Q (.ref D) H'):CompS (tx l) g tt te own ix σ H1 Q D:=by
 refine#[λi m AW H=>m=l.length - i/\i<=l.length/\Pv i AW H,#[l.length,by simp,ay _,h0],?_];rintro i m AW H' ⟨rfl,hi,p⟩;by_cases hlt:i<l.length
 ·refine .inr #[hlt,λv H2 y=>?_];let#[e,c,hc,ev]:=y;subst e ev;exact hs i c AW _ hc p
 ·have e:i=l.length:=⋯;subst e;exact .inl #[rfl,hd AW H' p]
end
mutual section
theorem yx : xm (AR::r) (AQ x::r):=#[rfl,λi v h=>by
 cases i with
 | zero=>cases h
 | succ i=>exact h]
def zM(h1:scope.kind=.function)(h2:scope.names.all (λy=>y.2 != .cell)=AS)(h3:scope.names.all (λy=>y.2 != .local || scope.names.lookup y.1 == AQ .local)=AS)(h4:scope.names.all (λy=>y.2 != .free || sc.names.lookup y.1 == AQ .cell)=AS)(hsc:X.env.scope=sc)(h5:own.all (λy=>scope.names.lookup y == AQ .local)=AS)(h6:caps.all (λy=>scope.names.lookup y == AQ .free)=AS)(h7:ix.map (λi=>X.N[i]?)=caps.map AQ):kN X scope own caps ix:=by
 refine#[h1,λy hy=>?_,λy hy e=>?_,λy hy=>?_,λy hy=>?_,λy hy=>?_,h7]
 ·have:=Bg.mp h2 y hy;simpa using this
 ·have:=Bg.mp h3 y hy;rw[e]at this;simpa using this
 ·have:=Bg.mp h4 _ hy;have:=by simpa using this
  refine .inl ?_;show X.env.scope.names.lookup y=AQ .cell;rw[hsc];exact this
 ·have:=Bg.mp h5 y hy;simpa using this
 ·have:=Bg.mp h6 y hy;simpa using this
def Zk(l:List α){a b:Int}(h0:0<=a)(h1:a<=b)(h2:b<=l.length):cut l (AQ a) (AQ b)=(l.drop a.toNat).take (b - a).toNat:=by let#[m,rfl]:=bP h0;let#[n,rfl]:=bP (by lia:0<=b);unfold cut;rw[HT.sIx_nat,HT.sIx_nat,cw ⋯,cw ⋯];have:((n:Int) - (m:Int)).toNat=n - m:=⋯;rw[this];rfl
def wE(r:Room k A):A.units+100<cLine:=by have:=r.un;lia
def ZM{K:su}(h:(Is K H (.lst l) x/\Is K H (.lst m) y)\/(Is K H (.tup l) x/\Is K H (.tup m) y))(hd:vH l<50)(q:Q (.bl (uE l m)) H):zgU K x y H Q:=#[l,m,h,hd,q]
def U0{K:su}(h:(Is K H (.lst l) x/\Is K H (.lst m) y)\/(Is K H (.tup l) x/\Is K H (.tup m) y))(hd:vH l<50)(q:Q (.bl (!uE l m)) H):zgF K x y H Q:=#[l,m,h,hd,q]
def zgu(t u:TS):TS:=λD σ H=>∃R:St->Hp->Prop,t { D with nx:=R } σ H/\∀σ' H',R σ' H'->u D σ' H'
theorem zh{st:sI}{rest:List sI}(h1:PS X st t)(h2:PSs X rest u):PSs X (st::rest) (zgu t u):=by
 intros D I h;let#[R,h,hr]:=h;refine tN (thn (h1 AU s σ H { D with nx:=R } I h) λf s1 q=>?_)
 cases f with
 | next =>
  let#[σ',H',I',q]:=q;exact h2 AU s1 σ' H' D I' (hr _ _ q)
 | ret v=>exact q
 | brk=>exact q
 | cont=>exact q
def qz{D:Z2}(R:St->Hp->Prop)(h:t { D with nx:=R } σ H)(hr:∀σ' H',R σ' H'->u D σ' H'):zgu t u D σ H:=#[R,h,hr]
def zj{D:Z2}(R:St->Hp->Prop)(h:t { D with nx:=R } σ H)(hr:∀G:St->Hp->Prop,G=u D->∀σ' H',R σ' H'->G σ' H'):zgu t u D σ H:=#[R,h,hr _ rfl]
def nm4{α β γ δ:Type}{P R:α->β->γ->δ->Prop}{B:α->β->γ->δ->Prop}(h:∀G:α->β->γ->δ->Prop,G=B->∀a b c d,P a b c d->R a b c d->G a b c d):∀a b c d,P a b c d->R a b c d->B a b c d:=h _ rfl
def nm3{α β γ:Type}{P R:α->β->γ->Prop}{B:α->β->γ->Prop}(h:∀G:α->β->γ->Prop,G=B->∀a b c,P a b c->R a b c->G a b c):∀a b c,P a b c->R a b c->B a b c:=h _ rfl
def zu(h:Same H H')(e:H a=AR):Same H (upd H' a o):=λb u q=>by
 rw[zt (zN q e)];exact h b u q
def ForL.by{K:su}{D:Z2}(Pv:Nat->St->Hp->Prop)(h0:Pv 0 σ H)(hl:∀i σ H,i<=xs.length->Pv i σ H->SqL K H a xs)(hs:∀i x σ H,xs[i]? = AQ x->Pv i σ H->g x σ H λσ2 H2=>tb { D with nx:=Pv (i+1),ct:=Pv (i+1),bk:=D.nx } σ2 H2)(hd:∀σ H,Pv xs.length σ H->D.nx σ H):ForL K a g tb D σ H:=KP Pv h0 hl hs hd
def Yf{A B:Prop}(h:B):if AS=AT then A else B:=by rw[w9 ∅];exact h
def CompV(K:su)(a:sv)(n:Nat)(g:TG)(tt:TT)(te:TE)(own:Nat)(ix:())(σ:L2.St)(H1:Hp)(Q:VK)(D:sv):Prop:=Y3 (Irv K a n) g tt te own ix σ H1 Q D
def zdN{K:su}:qH (zgH K ta) g tt te own ix σ H Q=ta σ H λvs H1=>∃a xs,vs=[.ref a]/\SqL K H1 a xs/\∀D,H1 D=AR->CompV K a xs.length g tt te own ix σ H1 Q D:=rfl
def CompV.by{K:su}{D:sv}(Pv:Nat->List V->Hp->Prop)(h0:Pv 0 [] (upd H1 D (.lst [])))(hl:∀i AW H',i<=xs.length->Pv i AW H'->SqL K H' a xs)(hs:∀i x AW H',xs.reverse[i]? = AQ x->Pv i AW H'->g x (vR σ own ix) H' λσ3 H3=>xm (vR σ own ix) σ3/\tt σ3 H3 λb H4=>if b=AS then
   te σ3 H4 λv H5=>H5 D=AQ (.lst AW)/\AW.length<sr/\CNx xs.length i Pv (AW ++ [v]) (upd H5 D (.lst (AW ++ [v])))else CNx xs.length i Pv AW H4) (hd:∀AW H',Pv xs.length AW H'->Q (.ref D) H'):CompV K a xs.length g tt te own ix σ H1 Q D:=by
 refine#[λi m AW H=>m=xs.length - i/\i<=xs.length/\Pv i AW H,#[xs.length,by simp,ay _,h0],?_];rintro i m AW H' ⟨rfl,hi,p⟩;have q:=hl i AW H' hi p;by_cases hlt:i<xs.length
 ·refine .inr #[#[xs,q,rfl,hlt],λx H2 y=>?_];let#[e,y]:=y;subst e;refine hs i x AW _ ?_ p;rw[bE hlt];exact y xs q rfl
 ·have e:i=xs.length:=⋯;subst e;exact .inl #[rfl,hd AW H' p]
def zfu : ya 0 (AQ v::σ) H Q=Q v H:=rfl
def zfX : ya 1 (a0::AQ v::σ) H Q=Q v H:=rfl
def zfw : ya 2 (a0::a1::AQ v::σ) H Q=Q v H:=rfl
def zge : ya 3 (a0::a1::a2::AQ v::σ) H Q=Q v H:=rfl
def zfY : ya 4 (a0::a1::a2::a3::AQ v::σ) H Q=Q v H:=rfl
def zf7 : ya 5 (a0::a1::a2::a3::a4::AQ v::σ) H Q=Q v H:=rfl
def zgi : ya 6 (a0::a1::a2::a3::a4::a5::AQ v::σ) H Q=Q v H:=rfl
def zfS : ya 7 (a0::a1::a2::a3::a4::a5::a6::AQ v::σ) H Q=Q v H:=rfl
def zfD : ya 8 (a0::a1::a2::a3::a4::a5::a6::a7::AQ v::σ) H Q=Q v H:=rfl
def zft : ya 9 (a0::a1::a2::a3::a4::a5::a6::a7::a8::AQ v::σ) H Q=Q v H:=rfl
def zbG : ya 10 (a0::a1::a2::a3::a4::a5::a6::a7::a8::a9::AQ v::σ) H Q=Q v H:=rfl
def zcD : ya 11 (a0::a1::a2::a3::a4::a5::a6::a7::a8::a9::a10::AQ v::σ) H Q=Q v H:=rfl
def zcy : ya 12 (a0::a1::a2::a3::a4::a5::a6::a7::a8::a9::a10::a11::AQ v::σ) H Q=Q v H:=rfl
def zeL{p:Bool->Prop}:(∃k,V.bl b=V.bl k/\p k)=p b:=propext #[λ⟨_,h,q⟩=>by cases h;exact q,λq=>#[_,rfl,q]]
def zbd{p:Int->Prop}:(∃k,V.int b=V.int k/\p k)=p b:=propext #[λ⟨_,h,q⟩=>by cases h;exact q,λq=>#[_,rfl,q]]
def zbc{p:sF->Prop}:(∃k,V.str b=V.str k/\p k)=p b:=propext #[λ⟨_,h,q⟩=>by cases h;exact q,λq=>#[_,rfl,q]]
def za1{p:sv->Prop}:(∃k,V.ref b=V.ref k/\p k)=p b:=propext #[λ⟨_,h,q⟩=>by cases h;exact q,λq=>#[_,rfl,q]]
def zf9 : onInt (.int i) p=p i:=rfl
def zgj : onStr (.str i) p=p i:=rfl
def zfq : onBl (.bl i) p=p i:=rfl
def zfM : onRef (.ref i) p=p i:=rfl
def zf2{K:su}:zga K (.bl b) H p=p b:=rfl
def zaF : onInt x p=∃k,x=.int k/\p k:=propext #[onInt.of,onInt.to]
def zaA : onStr x p=∃k,x=.str k/\p k:=propext #[onStr.of,onStr.to]
def zaN : onBl x p=∃k,x=.bl k/\p k:=propext #[onBl.of,onBl.to]
def zaU : onRef x p=∃k,x=.ref k/\p k:=propext #[onRef.of,onRef.to]
def Jk : ya i σ H Q=∃v,σ[i]? = AQ (AQ v)/\Q v H:=propext #[onSl.of,λ⟨v,h,q⟩=>by erw[ya,onSl,h];exact q]
def zbR : rEq (.int a) (.int b) H Q=Q (.bl (decide (a=b))) H:=rfl
def zcr : rEq (.str a) (.str b) H Q=Q (.bl (decide (a=b))) H:=rfl
def zbO : rNe (.int a) (.int b) H Q=Q (.bl (!decide (a=b))) H:=rfl
def zcN : rNe (.str a) (.str b) H Q=Q (.bl (!decide (a=b))) H:=rfl
def zcv : Yq (.int a) y H Q=onInt y λj=>Q (.int (a+j)) H:=rfl
def zc4 : Yq (.str a) y H Q=onStr y λj=>a.length+j.length<=sr/\Q (.str (a ++ j)) H:=rfl
def zcQ : Yq (.ref a) y H Q=zde (.ref a) y H Q:=rfl
def zbL : zbu (.int a) y H Q=onInt y λj=>CMul a j/\Q (.int (a * j)) H:=rfl
def zc1 : zbu (.str z) y H Q=onInt y λn=>0<=n/\n<=1000/\z.length<=1000/\Q ⇑(aR n.toNat (cs z)).flatten H:=rfl
def zf0 : zfc (.int a) y H Q=onInt y λj=>Q (.bl (decide (a<j))) H:=rfl
def zgr : zfc (.str a) y H Q=onStr y λj=>Q (.bl (decide (cs a<cs j))) H:=rfl
def zfo : zfi (.int a) y H Q=onInt y λj=>Q (.bl (decide (a<=j))) H:=rfl
def zfC : zfi (.str a) y H Q=onStr y λj=>Q (.bl (!(decide (cs j<cs a)))) H:=rfl
def zgq : ze8 (.int a) y H Q=onInt y λj=>Q (.bl (decide (j<a))) H:=rfl
def zgd : ze8 (.str a) y H Q=onStr y λj=>Q (.bl (decide (cs j<cs a))) H:=rfl
def zgg{K:su}:rIx K (.ref a) y H Q=onInt y λi=>(∃xs,SqL K H a xs/\∃v,atI xs i=AQ v/\Q v H)\/∃xs,SqT K H a xs/\∃v,atI xs i=AQ v/\Q v H:=rfl
def zgn{K:su}:rIx K (.str z) y H Q=za0 (.str z) y H Q:=rfl
def zbJ{K:su}{lo hi:Option Int}:zeF K (.str z) lo hi H Q=(z.length<=sr/\Q ⇑(cut (cs z) lo hi) H):=rfl
def zcU{K:su}{lo hi:Option Int}:zeF K (.ref a) lo hi H Q=(∃xs,SqL K H a xs/\∀p,H p=AR->Q (.ref p) (upd H p (.lst (Ul xs lo hi)))):=rfl
def zcZ{K:su}:Wy K [.str z] H Q=(z.length<=sr/\Q (.int z.length) H):=rfl
def zbI{K:su}:Wy K [.ref a] H Q=(∃n:Nat,((∃xs,SqL K H a xs/\n=xs.length)\/∃xs,SqT K H a xs/\n=xs.length)/\Q (.int n) H):=rfl
def zcP : zgE x .non H Q=Q (.bl (decide (x=.non))) H:=rfl
def zci : zdM x .non H Q=Q (.bl (!decide (x=.non))) H:=rfl
def zco : zap [.int i,.int j] H Q=Q (.int (if j > i then j else i)) H:=rfl
def zcp : JI (.ref a) [y] H Q=(∃xs,H a=AQ (.lst xs)/\xs.length<sr/\Q .non (upd H a (.lst (xs ++ [y])))):=rfl
def zgB{K:su}:(tyV K "str" (.str z) H/\p)=p:=propext #[λh=>h.2,λh=>#[rfl,h]]
def zy(i:Nat)(hN:X.N.Nodup)(he:PE X e te)(hi:‹X.N[i]? = AQ x›)(hx:‹Loc X.env.scope x›)(hs:‹swapsWith e (AQ (.Name x pos')) pos.line X.env=pure AT›)(hf:‹X.fn x=AS\/X.env.scope.names.lookup x=AQ .local›) :
  PS X (.Assign [.Name x pos'] e pos) (zdk te (yt i)):=xH hN hi hx he hs hf
def zk(hr:IxR X r)(ha:PE X a ta)(hb:PE X b tb)(hs:Qg b:=by exact λZ Z=>rfl):PE X (.Subscript a b pos) (tOp r ta tb):=zgh hr ha hb hs
def zA(hm:X.mg "len" = AR)(he:PE X e te)(hg:‹Gl X "len"›)(h1:‹sq [e] X.env=(AT,eval e X.env)::sq [] X.env›)(h2:‹(sS pos (sq [] X.env)).any (·.1)=AT›):PE X (.Call (.Name "len" p) [e] [] pos) (tCB (Wy X.K) (zK te xv)) :=
 yP zgl hg hm PySem.boot_len (za he zg h1) (he:=h1) (hpl:=h2)
theorem Jf:∀{ys:List sF} {its:List sw},Vals (ys.map V.str) its->∃l:List (sF × AF),its=strValues l/\l.map (·.1)=ys
 | [],_,.nil=>#[[],rfl,rfl]
 | y::ys,_,.cons r t=>by
  let#[tk,rfl]:=r;let#[l,e1,e2]:=Jf t;exact#[(y,tk)::l,by rw[e1];rfl,by rw[ao,e2]]
def zfW(K:su):V->List V->Hp->VK->Prop:=λx xs H Q=>∃z p ys,x=.str z/\xs=[.ref p]/\SqL K H p (ys.map V.str)/\JoinOk z ys=AS/\Q (.str (Txt.join z ys)) H
def ze1:MtR X "str.join" (zfW X.K):=by intros x xs v us Q I rx rv h;let#[z,p,ys,rfl,rfl,hS,hok,q]:=h;let#[t,rfl]:=rx;let#[u,rfl,ru]:=wK rv;cases ru;let#[its,r,pl,_]:=I.list hS;let#[l,rfl,e]:=Jf r;exact PySem.SC.join pl.isList e hok λt' k=>#[.str _,H,I.tok _,#[_,rfl],q]
theorem Zq:∀{bs:List Bool} {its:List sw} {i:Nat} {v:sw},Vals (bs.map V.bl) its->its[i]? = AQ v->v=.bool (bs.getD i AT)
 | [],_,_,_,.nil,h=>by cases h
 | b::bs,_,0,v,.cons r t,h=>by
  cases r;cases h;rfl
 | b::bs,_,i+1,v,.cons r t,h=>Zq (bs:=bs) (i:=i) t h
theorem Uw(bs:List Bool):(aJ bs.length).all (λi=>bs.getD i AT)=bs.all id:=by
 induction bs with
 | nil=>rfl
 | cons b bs ih =>
  rw[aG,dF,eM,List.all_map,eM,<- ih];rfl
def zhe(K:su):List V->Hp->VK->Prop:=λxs H Q=>∃(p:sv) (bs:List Bool),xs=[.ref p]/\SqL K H p (bs.map V.bl)/\Q (.bl (bs.all id)) H
def zeN(hc:X.calm=AS):w8 X (.builtin "all") (zhe X.K):=by
 intros xs us Q I r h;let#[p,bs,rfl,hS,q]:=h;let#[u,rfl,ru]:=wK r;cases ru;let#[its,rv,pl,hz]:=I.list hS
 have hlen:its.length=bs.length:=by
  have:=rv.length;rw[aa]at this;exact this.symm
 have hh:X.A.in1.handled=AR:=I.ok.hd hc
 have hne:p≠s⁻¹:=by
  let#[o,n,e,_]:=pl;exact ax (au e)
 let#[f0,f1,f2,f3,f4,f5]:=I.fpOk (H':=H) (al _) (I.hok.fresh (al _));have I1:=I.kept (t':=s.toks) (h':=s.heap.push { cls:=.type "list_iterator",data:=.fields (r9 [.ref p,.int 0 0]) }) λb o e=>ag _ e;refine call_all_walk (tS pl.isList ?_);refine#[s⁻¹,_,_,_,_,_,λi=>bs.getD i AT,rfl,Walks.list hh s⁻¹ p hne its.toArray,#[#[_,aE _ rfl,rfl,rfl],?_],?_,?_]
 ·let#[o,n,e,c,d,dt]:=pl;exact#[o,ag _ e,c,n,dt]
 ·intro i v s' Q' E' hv hq;have:=Zq rv (i:=i) (v:=v) ↥hv;rw[this];exact sP hq
 ·intro h' tk hk
  have e:(aJ its.toArray.size).all (λi=>bs.getD i AT)=bs.all id:=by
   rw[ak,hlen,Uw]
  rw[e];refine#[.bl _,H,?_,rfl,q];exact I1.turned (t':=tk) (it:=s⁻¹) (λb o hb q=>hk b o ↥hb q) f0 f1 f3 f4 f5
def zes(hfr:A.frames=AQ (env0::outer))(hl:s.heap.FunFrames base (env0::outer))(hf:env0.frame=AQ L)(he:env.frame=AQ L)(hx:s.heap.get? x=AQ (xob C dx t tb))(htb:zbU s.heap x tb)(h:∀h' T oT ts,h'.get? x=AQ (xob C dx t (.ref T))->T≠x->(tb=.ref T\/s⁻¹<=T)->h'.get? T=AQ oT->oT.data=.fields ts->3<ts.size ->
   (∀b o,b≠x->tb≠.ref b->b ∉ frs (env0::outer)->s.heap.get? b=AQ o->h'.get? b=AQ o)->(∀b o,b≠x->tb≠.ref b->s.heap.get? b=AQ o->∃sl,h'.get? b=AQ { o with slots:=sl })->Q Unit.unit { s with heap:=h' }) :
  sC M A (noteFrame (.ref x) env) Q E s:=by
 have land:∀(h1:sV) (T:sv) (oT:tP) (ts:Array sw),h1.get? x=AQ (xob C dx t (.ref T))->T≠x->(tb=.ref T\/s⁻¹<=T)->h1.get? T=AQ oT->oT.data=.fields ts->3<ts.size ->
   (∀b o,b≠x->tb≠.ref b->b ∉ frs (env0::outer)->s.heap.get? b=AQ o->h1.get? b=AQ o)->(∀b o,b≠x->tb≠.ref b->s.heap.get? b=AQ o->∃sl,h1.get? b=AQ { o with slots:=sl }) ->
   Q Unit.unit { s with heap:=h1 }:=λh1 T oT ts e1 nT oldT e2 d2 z2 k1 k2=>h h1 T oT ts e1 nT oldT e2 d2 z2 k1 k2
 unfold noteFrame
 erw[he]
 refine sj (tK hx rfl (x:=tb) rfl ?_);rcases htb with rfl | ⟨T,oT,ts,rfl,nT,e2,d2,z2⟩
 ·rw[w9 ∅];refine ZJ hfr hl hf he hx λh' oT ts e1 ne e2 d2 z2 k1 k2=>land h' _ oT ts e1 ne (.inr (al _)) e2 d2 z2 (λb o hb Z hbf e=>k1 b o hb hbf e) λb o hb Z e=>k2 b o hb e
 ·rw[w6 (show (r8 T != p9)=AS from by simp)];obtain⟨y,hy⟩:∃y,ts[3]? = AQ y:=#[ts[3],by simp [z2]];refine sj (tK e2 d2 (x:=y) hy ?_);by_cases c:(y == rawInt L)=AS
  ·rw[w6 c];exact sk (land s.heap T oT ts hx nT (.inl rfl) e2 d2 z2 (λb o Z Z Z e=>e) λb o Z Z e=>#[o.slots,e])
  ·rw[w9 c];refine sj (tI e2 d2 z2 ?_);have oth:∀b,b≠T->(s.heap.update T (Obj.mapFields (·.setIfInBounds 3 p9))).get? b=s.heap.get? b:=λb hb=>az _ _ (Ne.symm hb);have hl1:(s.heap.update T (Obj.mapFields (·.setIfInBounds 3 p9))).FunFrames base (env0::outer):=hl.of_keeps λb o hb hnf=>#[o,(oth b λq=>by rw[q,e2]at hb;cases hb;exact hnf ts d2).trans hb,rfl];have hsz:(s.heap.update T (Obj.mapFields (·.setIfInBounds 3 p9))).objs.size=s⁻¹:=dg ..;refine ZJ (s:={ s with heap:=s.heap.update T (Obj.mapFields (·.setIfInBounds 3 p9)) }) hfr hl1 hf he ((oth x (Ne.symm nT)).trans hx) λh' oT' ts' e1 ne e2' d2' z2' k1 k2=>?_;refine land h' _ oT' ts' e1 ne (.inr (by rw[hsz];exact al _)) e2' d2' z2' (λb o hb hbt hbf e=>k1 b o hb hbf ((oth b λq=>hbt (by rw[q])).trans e)) λb o hb hbt e=>k2 b o hb ((oth b λq=>hbt (by rw[q])).trans e)
def Inv.noted{tb:sw}(I1:Inv X AU σ H1 s1)(hst:X.stack=X.env::X.outer)(fx:wo X AU H1 x)(fT:∀T,tb=.ref T->wo X AU H1 T)(fT':wo X AU H1 T)(k1:∀b o,b≠x->tb≠.ref b->b ∉ frs (X.env::X.outer)->s1.heap.get? b=AQ o->h'.get? b=AQ o)(k2:∀b o,b≠x->tb≠.ref b->s1.heap.get? b=AQ o->∃sl,h'.get? b=AQ { o with slots:=sl }):Inv X AU σ H1 { s1 with heap:=h' }:=by
 have tbs:∀b,tb=.ref b->H1 b=AR:=λb hb=>(fT b hb).1
 have nch:∀b o,s1.heap.get? b=AQ o->b ∉ (x::T::tbL tb)->b≠x/\tb≠.ref b:=λb o Z hb=>by
  refine#[λz=>hb (by simp [z]),λz=>hb ?_];rw[z];simp [tbL]
 have un:Un (frs X.stack) (x::T::tbL tb) H1 H1 s1.heap h':=by
  rw[hst];refine#[λb o e n hb hc=>?_,λb o e n hb hc=>?_,λb o e n Z=>n,λb o e hc=>?_,λb xs e=>e,λb o u e=>e,λb ps e=>#[#[],by rw[e];simp]]
  ·let#[a1,a2]:=nch b o e hc;exact k1 b o a1 a2 hb e
  ·let#[a1,a2]:=nch b o e hc;exact k2 b o a1 a2 e
  ·let#[a1,a2]:=nch b o e hc;let#[sl,q]:=k2 b o a1 a2 e;exact#[_,q]
 have hok:HOk X.prog X.w H1 h':=λb u e=>by
  refine (I1.hok b u e).stay (λc v hc q=>k1 c v ?_ ?_ ?_ q) (λZ q=>q) λZ Z q=>q
  ·rintro rfl;rcases hc with rfl | hc
   ·rw[fx.1]at e;cases e
   ·rw[fx.1]at hc;cases hc
  ·intro z;have:=tbs c z;rcases hc with rfl | hc
   ·rw[this]at e;cases e
   ·rw[this]at hc;cases hc
  ·intro z;rw[<- hst]at z;have:=I1.stkFree c z;rcases hc with rfl | hc
   ·rw[this]at e;cases e
   ·rw[this]at hc;cases hc
 exact I1.call' (s':={ s1 with heap:=h' }) rfl un hok I1.bare λb hb=>by
  have fb:wo X AU H1 b:=by
   rcases AZ.mp hb with z | z
   ·rw[z];exact fx
   ·rcases AZ.mp z with z | z
    ·rw[z];exact fT'
    ·cases tb with
     | ref b' =>
      have:b=b':=by simpa [tbL] using z
      rw[this];exact fT b' rfl
     | _=>simp [tbL]at z
  let#[_,a1,_,a3,a4,a5]:=fb;exact#[a3,a1,a4,a5]
def Qp(hst:X.stack=X.env::X.outer/\X.env.frame=AQ X.env.locals)(hxe:XE X EX)(hc1:∀y c,cl.lookup y=AQ c->X.env.cells.lookup y=AQ c)(I3:Inv X AU σ H3 s3)(f3:∀b ∈ fp,wo X AU H3 b)(fl:ze0 (yC X scope cl s3⁻¹ N AU s3 H3 fp xe) EX e s1)(hRE:∀m s' x,s'.heap.Ns s3⁻¹ m->(∀h',Heap.SameBut s3⁻¹ s'.heap h'->∀cenv:AJ,cenv.locals=s3⁻¹->sC (model X.prog X.w) X.A (gh "comprehension.variables-let-go" x cenv:Sem sw) (λZ Z=>False) X.xe { s' with heap:=h' })->RE x s') :
  notedBy (model X.prog X.w) X.A (compEnvC scope cl s3⁻¹ X.env) RE e s1:=by
 let#[pins',σ',H1,x,C,t,dx,tb,rfl,I1,ob,tr,fx,fT,q]:=fl
 have IX:Inv X AU σ H1 s1:=I3.call' (s':=s1) I1.os I1.base I1.hok I1.bare λb hb=>by
  let#[_,a1,a2,a3,a4,a5]:=f3 b hb;exact#[a3,a1,a4,a5]
 have up:∀b,wo (yC X scope cl s3⁻¹ N AU s3 H3 fp xe) pins' H1 b->wo X AU H1 b:=λb hb=>by
  let#[a0,a1,a2,a3,a4,a5]:=hb;rcases a3 with a3 | a3
  ·exact#[a0,(f3 b a3).2]
  ·exact I3.fpOk a3 a0
 have fx':=up x fx;have fT':∀T,tb=.ref T->wo X AU H1 T:=λT h=>up T (fT T h);have fr:X.A.frames=AQ (X.env::X.outer):=by rw[<- hst.1];exact IX.ok.frames
 have ff:s1.heap.FunFrames X.base (X.env::X.outer):=by rw[<- hst.1];exact IX.stack
 let#[m,hm,_]:=I1.loc;have fC:wo X AU H1 s3⁻¹:=I3.fpOk (al _) I1.free;refine zes fr ff hst.2 hst.2 ob tr λh' T oT ts e1 nT oldT e2 d2 z2 k1 k2=>?_
 have fT2:wo X AU H1 T:=by
  rcases oldT with z | z
  ·exact fT' T z
  ·exact IX.fpOk z (IX.hok.fresh z)
 have I2:Inv X AU σ H1 { s1 with heap:=h' }:=Inv.noted IX hst.1 fx' fT' fT2 k1 k2;have hCx:s3⁻¹≠x:=λz=>fx.2.1 z.symm;have hCtb:tb≠.ref s3⁻¹:=λz=>(fT _ z).2.1 rfl;let#[oC,es,ep,hoC,rC]:=hm
 have hCT:T≠s3⁻¹:=by
  rcases oldT with z | z
  ·exact (fT T z).2.1
  ·exact cH (aw (au hoC) z)
 have hCf:s3⁻¹ ∉ frs (X.env::X.outer):=λz=>by
  rw[<- hst.1]at z;rcases AZ.mp (IX.stkSub _ z)with y | y
  ·exact fC.2.1 y
  ·exact fC.2.2.1 y
 refine hRE m _ _ #[oC,es,ep,k1 _ _ hCx hCtb hCf hoC,rC] λh2 sb cenv hcenv=>?_;have I3':Inv X AU σ H1 { s1 with heap:=h2 }:=I2.turned (t':=s1.toks) (λb o hb e=>(sb.2 b hb).trans e) fC.1 fC.2.1 fC.2.2.2.1 fC.2.2.2.2.1 fC.2.2.2.2.2;have ob2:h2.get? x=AQ (xob C dx t (.ref T)):=(sb.2 x (Ne.symm hCx)).trans e1;have oT2:h2.get? T=AQ oT:=(sb.2 T hCT).trans e2;unfold gh;refine sj (tK (s:={ s1 with heap:=h2 }) ob2 rfl (x:=.ref T) rfl ?_);rw[w9 (show ¬ (r8 T == p9)=AS from by simp)];unfold setFlight;refine sj (sj (tK (s:={ s1 with heap:=h2 }) ob2 rfl (x:=.ref T) rfl ?_));rw[w6 (show (r8 T != p9)=AS from by simp)];refine tI (s:={ s1 with heap:=h2 }) oT2 d2 z2 (wpAny_throw (hxe _ _ ?_));have d3:=Obj.data_mapFields d2 (·.setIfInBounds 3 (cenv.frame.elim p9 λf=>rawInt f))
 have I4:Inv X AU σ H1 { s1 with heap:=h2.update T (Obj.mapFields (·.setIfInBounds 3 (cenv.frame.elim p9 λf=>rawInt f))) } :=
  I3'.turned (t':=s1.toks) (λb o hb e=>(az _ _ (Ne.symm hb)).trans e) fT2.1 fT2.2.1 fT2.2.2.2.1 fT2.2.2.2.2.1 fT2.2.2.2.2.2
 exact#[AU,σ,H1,x,C,t,dx,.ref T,rfl,I4,(az _ _ nT).trans ob2,.inr #[T,_,_,rfl,nT,cp _ oT2 (Obj.isFreed_of_fields d3),d3,by simpa using z2],fx',λT' z=>by cases z;exact fT2,q]
end
open PySem.AutoSeq1 (wpAny_loadPart')
open MeetsSeq MeetsSeq2 MeetsSeq3 SeqRoads2 SeqAt
mutual section
def jA(op:AE)(A:sZ)(s:sy)(y x:sw)(b:Bool):Prop :=
 ∀(prog:sH) (w:sM) (E:sw->sy->Prop) (Q:sw->sy->Prop),Q (.bool b) s->sC (model prog w) A (richCompare op y x) Q E s
abbrev LtAt:=jA .Lt
def zdB:AE->Nat->Nat->Bool
 | .Gt,m,n=>decide (n<m)
 | _,m,n=>decide (m<n)
def zgR:AE->Int
 | .Gt=>4
 | _=>0
def LG(op:AE):Prop:=op=.Lt\/op=.Gt
def uF(op:AE)(e t r:Nat->Bool)(m n:Nat):Prop:=∀i,i<=m->i<=n->r i=if i<m/\i<n then (if e i=AS then r (i+1)else t i)else zdB op m n
abbrev zfF:=uF .Lt
variable{op:AE}
theorem Qw(ho:LG op)(l b:sv)(items AV:Array sw)(n n2:Nat)(dd dd2:Option sv)(sl sl2:Array (Option sw))(e t r:Nat->Bool)(hr:uF op e t r items.size AV.size)(k:Nat) :
  ∀i:Nat,i<=items.size->i<=AV.size->items.size - i=k->Meets (Builtin.«list.__eq__.loop» #[[.ref l,.ref b,rawInt i,rawInt (zgR op)],[]]) (λA R s=>s.heap.get? l=AQ { cls:=.type "list",dict:=dd,data:=.seq items n,slots:=sl }/\s.heap.get? b=AQ { cls:=.type "list",dict:=dd2,data:=.seq AV n2,slots:=sl2 } /\
    (∀j (h1:j<items.size) (h2:j<AV.size),EqAt A.in1 s items[j] AV[j] (e j))/\(∀j (h1:j<items.size) (h2:j<AV.size),e j=AT->jA op A.in1 s items[j] AV[j] (t j)) /\
    R (.ok (.ret (.bool (r i)))) s):=by
 rcases ho with rfl | rfl <;> erw[zgR] <;> erw[uF,zdB]at hr
 all_goals
  induction k with
  | zero =>
   intro i b1 b2 hk prog w A R s h;let#[hp,g,d,tk,os]:=s;let#[hl,hb,he,ht,h]:=h;have hri:=hr i b1 b2;rw[w9 ⋯]at hri;rw[hri]at h
   wp_walk using wpAny_loadPart' hl,wpAny_loadPart' hb
   have hi1:items[((i:Nat):Int).toNat]? = AR:=by simp;lia
   rw[hi1]
   wp_walk using wpAny_loadPart' hl,wpAny_loadPart' hb
   exact h
  | succ k ih =>
   intro i b1 b2 hk prog w A R s h;let#[hp,g,d,tk,os]:=s;let#[hl,hb,he,ht,h]:=h;have hlt:i<items.size:=⋯;have hi1:items[((i:Nat):Int).toNat]? = AQ items[i]:=by simp [hlt]
   have hc:((i:Int)+1)=((i+1:Nat):Int):=by push_cast;rfl
   have hri:=hr i b1 b2;by_cases hlt2:i<AV.size
   ·rw[w6 #[hlt,hlt2]]at hri;rw[hri]at h;have hi2:AV[((i:Nat):Int).toNat]? = AQ AV[i]:=by simp [hlt2]
    wp_walk using wpAny_loadPart' hl,wpAny_loadPart' hb
    rw[hi1,hi2];refine sj (he i hlt hlt2 prog w _ _ ?_)
    cases hb':e i with
    | true =>
     rw[hb',w6 rfl]at h
     wp_walk
     rw[hc]
     exact#[plainId_quiet plain_eq_loop _,tm entry_eq_loop (by
      rw[Around.under_plainId plain_eq_loop _]
      exact ih (i+1) ⋯ ⋯ ⋯ prog w A R _ #[hl,hb,he,ht,h])]
    | false =>
     rw[hb',w9 aD]at h
     wp_walk using wpAny_loadPart' hl,wpAny_loadPart' hb
     rw[hi1,hi2];refine sj (ht i hlt hlt2 hb' prog w _ _ ?_)
     wp_walk
     exact h
   ·rw[w9 ⋯]at hri;rw[hri]at h;have hi2:AV[((i:Nat):Int).toNat]? = AR:=by simp;lia
    wp_walk using wpAny_loadPart' hl,wpAny_loadPart' hb
    rw[hi1,hi2]
    wp_walk using wpAny_loadPart' hl,wpAny_loadPart' hb
    exact h
def YF(ho:LG op)(l b:sv)(items AV:Array sw)(n n2:Nat)(dd dd2:Option sv)(sl sl2:Array (Option sw))(e t r:Nat->Bool)(hr:uF op e t r items.size AV.size) :
  Meets ((match op with | .Gt=>Builtin.«list.__gt__» | _=>Builtin.«list.__lt__») ⟨[.ref l,.ref b],[]⟩) (λA R s=>s.heap.get? l=AQ { cls:=.type "list",dict:=dd,data:=.seq items n,slots:=sl }/\s.heap.get? b=AQ { cls:=.type "list",dict:=dd2,data:=.seq AV n2,slots:=sl2 } /\
    (∀j (h1:j<items.size) (h2:j<AV.size),EqAt A.in1 s items[j] AV[j] (e j))/\(∀j (h1:j<items.size) (h2:j<AV.size),e j=AT->jA op A.in1 s items[j] AV[j] (t j)) /\
    R (.ok (.ret (.bool (r 0)))) s):=by
 rcases id ho with rfl | rfl
 all_goals
  intro prog w A R s h;let#[hp,g,d,tk,os]:=s;let#[hl,hb,he,ht,h]:=h;have f3:=AutoSeq1.sub_list_list
  wp_walk using wpAny_loadPart' hl,wpAny_loadPart' hb
  exact#[plainId_quiet plain_eq_loop _,tm entry_eq_loop (by
   rw[Around.under_plainId plain_eq_loop _]
   exact Qw ho l b items AV n n2 dd dd2 sl sl2 e t r hr _ 0 (ay _) (ay _) rfl prog w A R _ #[hl,hb,he,ht,h])]
theorem Za(ho:LG op)(l b:sv)(items AV:Array sw)(n n2:Nat)(dd dd2:Option sv)(sl sl2:Array (Option sw))(e t r:Nat->Bool)(hr:uF op e t r items.size AV.size) :
  Meets ((match op with | .Gt=>Builtin.«tuple.__gt__» | _=>Builtin.«tuple.__lt__») ⟨[.ref l,.ref b],[]⟩) (λA R s=>s.heap.get? l=AQ { cls:=.type "tuple",dict:=dd,data:=.seq items n,slots:=sl }/\s.heap.get? b=AQ { cls:=.type "tuple",dict:=dd2,data:=.seq AV n2,slots:=sl2 } /\
    (∀j (h1:j<items.size) (h2:j<AV.size),EqAt A.in1 s items[j] AV[j] (e j))/\(∀j (h1:j<items.size) (h2:j<AV.size),e j=AT->jA op A.in1 s items[j] AV[j] (t j)) /\
    R (.ok (.ret (.bool (r 0)))) s):=by
 rcases ho with rfl | rfl <;> erw[uF,zdB]at hr
 all_goals
  refine .of_wp λprog w A R s h=>?_;let#[hp,g,d,tk,os]:=s;let#[hl,hb,he,ht,h]:=h;have f2:=AutoSeq1.sub_tuple_tuple;have hZ:(items.toList.zip AV.toList).length=min items.size AV.size:=by simp
  wp_walk using wpAny_loadPart' hl,wpAny_loadPart' hb,wpAny_forIn_list _ (λrest b s'=>b.1=AR/\s'=#[hp,g,d,tk,os]/\∃i,i<=min items.size AV.size/\rest=(items.toList.zip AV.toList).drop i /\
   R (.ok (.ret (.bool (r i)))) #[hp,g,d,tk,os]) _
  case turn =>
   rintro⟨y,x⟩ rest b s' ⟨hb',rfl,i,hi,hz,hR⟩
   have hlt:i<(items.toList.zip AV.toList).length:=by
    rcases dX i (items.toList.zip AV.toList).length with h' | h'
    ·exact h'
    ·rw[bf h']at hz;cases hz
   have hm:i<min items.size AV.size:=hZ ▸ hlt;have h1:i<items.size:=aw hm (Nat.min_le_left _ _);have h2:i<AV.size:=aw hm (Nat.min_le_right _ _);rw[aY hlt]at hz;injection hz with hyx hrest;have hy:y=items[i]:=by have:=congrArg Prod.fst hyx;simpa using this
   have hx:x=AV[i]:=by have:=congrArg Prod.snd hyx;simpa using this
   subst hy hx;have hri:=hr i ⋯ ⋯;rw[w6 #[h1,h2]]at hri;rw[hri]at hR;refine sj (he i h1 h2 prog w _ _ ?_)
   cases hy:e i with
   | true =>
    rw[hy,w6 rfl]at hR
    wp_walk
    exact#[rfl,rfl,i+1,⋯,hrest,hR]
   | false =>
    rw[hy,w9 aD]at hR
    erw[fL,if_true]
    refine sj (AG ?_);refine sj (ht i h1 h2 hy prog w _ _ ?_)
    wp_walk
    exact#[_,rfl,hR]
  case fin =>
   rintro⟨b1,b2⟩ s' ⟨hb',rfl,i,hi,hz,hR⟩;simp only at hb';subst hb'
   have hge:min items.size AV.size<=i:=by
    rcases dX i (items.toList.zip AV.toList).length with h' | h'
    ·rw[aY h']at hz;cases hz
    ·exact hZ ▸ h'
   have hri:=hr i ⋯ ⋯;rw[w9 ⋯]at hri;rw[hri]at hR
   wp_walk
   exact#[_,rfl,hR]
  case h =>
   exact#[rfl,rfl,0,ay _,rfl,h]
def LtAt.lists(ho:LG op)(hl:s.heap.IsList l items)(hb:s.heap.IsList b AV)(hr:uF op e t r items.size AV.size)(hu:A.units<cLine)(he:∀j (h1:j<items.size) (h2:j<AV.size),EqAt A.in1 s items[j] AV[j] (e j))(ht:∀j (h1:j<items.size) (h2:j<AV.size),e j=AT->jA op A.in1 s items[j] AV[j] (t j)):jA op A s (.ref l) (.ref b) (r 0):=λprog w E Q h=>by
 let#[#[cls,dd,data,sl],h1,hc,n,hd]:=id hl;let#[#[cls2,dd2,data2,sl2],h2,hc2,n2,hd2]:=id hb;simp only at hc hd hc2 hd2;subst hc hd hc2 hd2;have z:Value.bool (r 0)≠Value.notImplemented/\Q (.bool (r 0)) s:=#[(λx=>nomatch x),h];rcases id ho with rfl | rfl
 ·exact richCompare_meets_room #[_,h1,rfl] #[_,h2,rfl] F.slot_list_lt F.entry_list_lt (F.args_list_lt_2 _ _) (YF ho l b items AV n n2 dd dd2 sl sl2 e t r hr) #[h1,h2,he,ht,z] hu
 ·exact richCompare_meets_room #[_,h1,rfl] #[_,h2,rfl] F.slot_list_gt F.entry_list_gt (F.args_list_gt_2 _ _) (YF ho l b items AV n n2 dd dd2 sl sl2 e t r hr) #[h1,h2,he,ht,z] hu
def LtAt.tuples(ho:LG op)(hl:s.heap.IsTuple l items)(hb:s.heap.IsTuple b AV)(hr:uF op e t r items.size AV.size)(hu:A.units<cLine)(he:∀j (h1:j<items.size) (h2:j<AV.size),EqAt A.in1 s items[j] AV[j] (e j))(ht:∀j (h1:j<items.size) (h2:j<AV.size),e j=AT->jA op A.in1 s items[j] AV[j] (t j)):jA op A s (.ref l) (.ref b) (r 0):=λprog w E Q h=>by
 let#[#[cls,dd,data,sl],h1,hc,n,hd]:=id hl;let#[#[cls2,dd2,data2,sl2],h2,hc2,n2,hd2]:=id hb;simp only at hc hd hc2 hd2;subst hc hd hc2 hd2;have z:Value.bool (r 0)≠Value.notImplemented/\Q (.bool (r 0)) s:=#[(λx=>nomatch x),h];rcases id ho with rfl | rfl
 ·exact richCompare_meets_room #[_,h1,rfl] #[_,h2,rfl] F.slot_tuple_lt F.entry_tuple_lt (F.args_tuple_lt_2 _ _) (Za ho l b items AV n n2 dd dd2 sl sl2 e t r hr) #[h1,h2,he,ht,z] hu
 ·exact richCompare_meets_room #[_,h1,rfl] #[_,h2,rfl] F.slot_tuple_gt F.entry_tuple_gt (F.args_tuple_gt_2 _ _) (Za ho l b items AV n n2 dd dd2 sl sl2 e t r hr) #[h1,h2,he,ht,z] hu
end
mutual
def okD:D->D->Prop
 | .int _,e=>match e with | .int _=>True | _=>False
 | .lst l,e=>match e with | .lst m=>Zz l m | _=>False
 | .tup l,e=>match e with | .tup m=>Zz l m | _=>False
 | _,_=>False
def Zz:List D->List D->Prop
 | d::l,m=>match m with | e::m=>okD d e/\Zz l m | []=>True
 | [],_=>True
end
mutual
noncomputable def ltD:D->D->Bool
 | .int a,e=>match e with | .int b=>decide (a<b) | _=>AT
 | .lst l,e=>match e with | .lst m=>wL l m | _=>AT
 | .tup l,e=>match e with | .tup m=>wL l m | _=>AT
 | _,_=>AT
noncomputable def wL:List D->List D->Bool
 | d::l,m=>match m with | e::m=>if eqD d e=AS then wL l m else ltD d e | []=>AT
 | [],m=>match m with | []=>AT | _::_=>AS
end
theorem QQ(l m:List D):zfF (λj=>eqD (l.getD j .non) (m.getD j .non)) (λj=>ltD (l.getD j .non) (m.getD j .non)) (λi=>wL (l.drop i) (m.drop i)) l.length m.length:=by
 intro i b1 b2
 erw[zdB]
 by_cases h:i<l.length/\i<m.length
 ·rw[w6 h,aY h.1,aY h.2,wL];rw[ae,ae,af h.1,af h.2];rfl
 ·rw[w9 h];by_cases h1:i<l.length
  ·have h2:¬ i<m.length:=λz=>h #[h1,z];rw[aY h1,bf (df h2),wL]
   ·simp;lia
   all_goals simp
  ·rw[bf (df h1)];by_cases h2:i<m.length
   ·rw[aY h2,wL];simp;lia
   ·rw[bf (df h2),wL]
    ·simp;lia
    all_goals simp
mutual
theorem W6:∀d e:D,eqD d e=eqD e d
 | .lst l,e=>by cases e <;> erw[eqD];exact jq l _
 | .tup l,e=>by cases e <;> erw[eqD];exact jq l _
 | .int _,e=>by cases e <;> erw[eqD] <;> exact fX
 | .str _,e=>by cases e <;> erw[eqD] <;> exact fX
 | .bl _,e=>by cases e <;> erw[eqD] <;> exact fX
 | .non,e=>by cases e <;> erw[eqD]
theorem jq:∀l m:List D,uE l m=uE m l
 | [],[]=>rfl
 | [],_::_=>by erw[uE]
 | _::_,[]=>by erw[uE]
 | d::l,e::m=>by erw[uE,W6 d e,jq l m]
end
mutual section
def cm:AE->D->D->Bool
 | .Gt,d,e=>ltD e d
 | _,d,e=>ltD d e
def cms:AE->List D->List D->Bool
 | .Gt,d,e=>wL e d
 | _,d,e=>wL d e
def Jl(ho:LG op)(l m:List D):uF op (λj=>eqD (l.getD j .non) (m.getD j .non)) (λj=>cm op (l.getD j .non) (m.getD j .non)) (λi=>cms op (l.drop i) (m.drop i)) l.length m.length:=by
 rcases ho with rfl | rfl
 ·exact QQ l m
 ·intro i b1 b2;have h:=QQ m l i b2 b1
  erw[zdB,cm,cms]at h ⊢
  rw[h,W6 (m.getD i .non)];by_cases q:i<l.length/\i<m.length
  ·rw[w6 q,w6 q.symm]
  ·rw[w9 q,w9 λz=>q z.symm]
theorem zdW:∀{l m:List D} {j:Nat} {d e:D},Zz l m->l[j]? = AQ d->m[j]? = AQ e->okD d e
 | d::l,e::m,0,_,_,h,q1,q2=>by
  cases q1;cases q2
  erw[Zz]at h
  exact h.1
 | d::l,e::m,j+1,_,_,h,q1,q2=>by
  erw[Zz]at h
  exact zdW (j:=j) h.2 q1 q2
theorem Vr{X:Cx}{H:Hp}{s:sy}(hl:Iss X.K H l xs)(hm:Iss X.K H m ys)(r:Vals xs its)(r':Vals ys its')(hn:vH l<n)(ok:Zz l m)(ih:∀(d e:D) (x y:V) (u v:sw),dpD d<n->okD d e->Is X.K H d x->Is X.K H e y->RelV x u->RelV y v->jA op A s u v (cm op d e)) :
  ∀j (h1:j<its.toArray.size) (h2:j<its'.toArray.size),jA op A s its.toArray[j] its'.toArray[j] (cm op (l.getD j .non) (m.getD j .non)):=by
 intro j h1 h2;rw[ak]at h1 h2;have e1:=hl.len;have e2:=hm.len;have e3:=r.length;have e4:=r'.length;have g1:l[j]? = AQ l[j]:=af ⋯;have g2:m[j]? = AQ m[j]:=af ⋯;generalize l[j]=d at g1;generalize m[j]=e at g2;let#[x,hx,ix]:=hl.at g1;let#[y,hy,iy]:=hm.at g2;let#[u,hu,ru]:=xU r hx;let#[v,hv,rv]:=xU r' hy
 have q1:its.toArray[j]=u:=by
  have:=(AX.mp hu).2;simpa using this
 have q2:its'.toArray[j]=v:=by
  have:=(AX.mp hv).2;simpa using this
 rw[q1,q2,ae,ae,g1,g2];exact ih d e x y u v (bX (zat g1) hn) (zdW ok g1 g2) ix iy ru rv
theorem zb4(ho:LG op)(I:Inv X AU σ H s):∀(n:Nat) (A:sZ) (d e:D) (x y:V) (u v:sw),A.units+n<cLine->dpD d<n->okD d e->Is X.K H d x->Is X.K H e y->RelV x u->RelV y v->jA op A s u v (cm op d e):=by
 intro n
 induction n with
 | zero=>intro A d e x y u v _ h;exact w4 h (bB _)
 | succ n ih =>
  intro A d e x y u v hu hd ok hx hy rx ry;have hu1:A.units<cLine:=⋯;have huA:A.in1.units+n<cLine:=by show A.units+1+n<cLine;lia
  cases d with
  | int a =>
   cases e with
   | int b =>
    erw[Is]at hx hy
    subst hx hy;let#[t,rfl]:=rx;let#[t',rfl]:=ry;rcases ho with rfl | rfl
    ·exact λprog w E Q h=>lt_int h
    ·exact λprog w E Q h=>gt_int h
   | _=>erw[okD]at ok
  | lst l =>
   cases e with
   | lst m =>
    erw[Is]at hx hy
    let#[a,xs,rfl,h1,h2]:=hx;let#[b,ys,rfl,g1,g2]:=hy;cases rx;cases ry;let#[its,r,p,_]:=I.list h1;let#[its',r',p',_]:=I.list g1
    erw[dpD]at hd
    erw[okD]at ok
    have L1:=h2.len;have L2:=g2.len;have L3:=r.length;have L4:=r'.length;have st:=Jl ho l m;rw[show l.length=its.toArray.size by erw[ak];lia,show m.length=its'.toArray.size by erw[ak];lia]at st
    have r0:=LtAt.lists ho (A:=A) p.isList p'.isList st hu1 (xL h2 g2 r r' (n:=n) ⋯ λd e x y u v q1 q2 q3 q4 q5=>qt I n A.in1 d e x y u v huA q1 q2 q3 q4 q5)
     (λj h1 h2 Z=>Vr (n:=n) (A:=A.in1) (by assumption) g2 r r' ⋯ ok (λd e x y u v q1 q2 q3 q4 q5 q6=>ih A.in1 d e x y u v huA q1 q2 q3 q4 q5 q6) j h1 h2)
    rcases id ho with rfl | rfl <;> exact r0
   | _=>erw[okD]at ok
  | tup l =>
   cases e with
   | tup m =>
    erw[Is]at hx hy
    let#[a,xs,rfl,h1,h2]:=hx;let#[b,ys,rfl,g1,g2]:=hy;cases rx;cases ry;let#[its,r,p,_]:=I.tuple h1;let#[its',r',p',_]:=I.tuple g1
    erw[dpD]at hd
    erw[okD]at ok
    have L1:=h2.len;have L2:=g2.len;have L3:=r.length;have L4:=r'.length;have st:=Jl ho l m;rw[show l.length=its.toArray.size by erw[ak];lia,show m.length=its'.toArray.size by erw[ak];lia]at st
    have r0:=LtAt.tuples ho (A:=A) p p' st hu1 (xL h2 g2 r r' (n:=n) ⋯ λd e x y u v q1 q2 q3 q4 q5=>qt I n A.in1 d e x y u v huA q1 q2 q3 q4 q5)
     (λj h1 h2 Z=>Vr (n:=n) (A:=A.in1) (by assumption) g2 r r' ⋯ ok (λd e x y u v q1 q2 q3 q4 q5 q6=>ih A.in1 d e x y u v huA q1 q2 q3 q4 q5 q6) j h1 h2)
    rcases id ho with rfl | rfl <;> exact r0
   | _=>erw[okD]at ok
  | non=>cases e <;> erw[okD]at ok
  | bl _=>cases e <;> erw[okD]at ok
  | str _=>cases e <;> erw[okD]at ok
def Qr(I:Inv X AU σ H s):∀(n:Nat) (A:sZ) (d e:D) (x y:V) (u v:sw),A.units+n<cLine->dpD d<n->okD d e->Is X.K H d x->Is X.K H e y->RelV x u->RelV y v->LtAt A s u v (ltD d e):=zb4 (.inl rfl) I
def zgD(K:su):R2:=λx y H Q=>∃d e,Is K H d x/\Is K H e y/\dpD d<50/\okD d e/\Q (.bl (ltD d e)) H
theorem zeJ(hu:X.A.units+100<cLine):OpR X (sK .Lt) (zgD X.K):=by intros x y v u Q I rx ry h;let#[d,e,hx,hy,hd,ok,q]:=h;exact Qr I 50 X.A d e x y v u ⋯ hd ok hx hy rx ry X.prog X.w X.xe _ #[.bl _,H,I,rfl,q]
def zbA{K:su}(h1:Is K H d x)(h2:Is K H e y)(h3:dpD d<50)(h4:okD d e)(q:Q (.bl (ltD d e)) H):zgD K x y H Q:=#[d,e,h1,h2,h3,h4,q]
def ltI:List Int->List Int->Bool
 | a::l,m=>match m with | b::m=>if a=b then ltI l m else decide (a<b) | []=>AT
 | [],m=>match m with | []=>AT | _::_=>AS
theorem ur:∀(l m:List Int),Zz (l.map D.int) (m.map D.int)
 | [],_=>by erw[aH,Zz]
 | _::_,[]=>by erw[aH,ao,Zz]
 | a::l,b::m=>by erw[ao,Zz,okD,true_and];exact ur l m
theorem Yo:∀(l m:List Int),wL (l.map D.int) (m.map D.int)=ltI l m
 | [],[]=>by erw[aH,wL,ltI]
 | [],_::_=>by erw[aH,ao,wL,ltI]
 | _::_,[]=>by erw[aH,ao,wL,ltI]
 | a::l,b::m=>by
  erw[ao,wL,ltI,eqD,ltD,Yo l m,beq_iff_eq]
end
mutual
def xq:D->Prop
 | .lst _=>False
 | .tup l=>z8 l
 | _=>True
def z8:List D->Prop
 | []=>True
 | d::l=>xq d/\z8 l
end
def qY{K:su}(hp:H p=AQ (.lst ys))(h:SqT K H a xs):SqT K (upd H p (.lst zs)) a xs:=by
 rcases h with (h | ⟨o,h⟩) | h
 ·refine .inl (.inl ?_);rw[zt (λe=>by rw[e,hp]at h;cases h)];exact h
 ·refine .inl (.inr #[o,?_]);rw[zt (λe=>by rw[e,hp]at h;cases h)];exact h
 ·exact .inr h
mutual
theorem Is.updL{K:su}(hp:H p=AQ (.lst ys)):∀(d:D) (v:V),xq d->Is K H d v->Is K (upd H p (.lst zs)) d v
 | .non,v,_,h=>by erw[Is]at h ⊢;exact h
 | .bl b,v,_,h=>by erw[Is]at h ⊢;exact h
 | .int b,v,_,h=>by erw[Is]at h ⊢;exact h
 | .str b,v,_,h=>by erw[Is]at h ⊢;exact h
 | .lst l,v,f,h=>by erw[xq]at f
 | .tup l,v,f,h=>by
  erw[Is]at h ⊢
  erw[xq]at f
  let#[a,xs,e1,e2,e3]:=h;exact#[a,xs,e1,qY hp e2,Iss.updL hp l xs f e3]
theorem Iss.updL{K:su}(hp:H p=AQ (.lst ys)):∀(l:List D) (vs:List V),z8 l->Iss K H l vs->Iss K (upd H p (.lst zs)) l vs
 | [],vs,_,h=>by erw[Iss]at h ⊢;exact h
 | d::l,vs,f,h=>by
  erw[Iss]at h ⊢
  erw[z8]at f
  let#[v,r,e1,e2,e3]:=h;exact#[v,r,e1,Is.updL hp d v f.1 e2,Iss.updL hp l r f.2 e3]
end
mutual section
theorem vd:∀{l:List D},(∀d ∈ l,xq d)->z8 l
 | [],_=>by erw[z8]
 | d::l,h=>by erw[z8];exact#[h d (by simp),vd λe he=>h e (by simp [he])]
theorem Xy : ∀{l:List D},(∀d ∈ l,dpD d<=n)->vH l<=n
 | [],_=>by erw[vH];lia
 | d::l,h=>by
  have h1:=h d (by simp);have h2:=Xy (n:=n) (l:=l) λe he=>h e (by simp [he])
  erw[vH]
  lia
def LsA(K:su)(H:Hp)(a:sv)(ds:List D):Prop:=∃xs,H a=AQ (.lst xs)/\Iss K H ds xs
def LsA.same{K:su}{H H':Hp}{a:sv}{ds:List D}(h:LsA K H a ds)(e:Same H H'):LsA K H' a ds:=let #[xs,h1,h2]:=h; #[xs,e _ _ h1,Iss.same e _ _ h2]
def LsA.is{K:su}(h:LsA K H a ds):Is K H (.lst ds) (.ref a):=by
 let#[xs,h1,h2]:=h
 erw[Is]
 exact#[a,xs,rfl,SqL.of h1,h2]
def LsA.nil{K:su}:LsA K (upd H a (.lst [])) a []:=#[[],zc,by erw[Iss]]
def LsA.snoc{K:su}(h1:H a=AQ (.lst xs))(h2:Iss K H ds xs)(f:z8 ds)(fd:xq d)(hv:Is K H d v):LsA K (upd H a (.lst (xs ++ [v]))) a (ds ++ [d]) :=
 #[_,zc,Iss.append (Iss.updL h1 _ _ f h2) (by erw[Iss];exact#[v,[],rfl,Is.updL h1 _ _ fd hv,rfl])]
def Is.tup{K:su}{H:Hp}{p:sv}{vs:List V}{ds:List D}(hp:H p=AR)(h:Iss K H ds vs):Is K (upd H p (.tup vs)) (.tup ds) (.ref p):=by
 erw[Is]
 exact#[p,vs,rfl,SqT.of zc,Iss.same (zf hp) _ _ h]
abbrev dS(l:()):D:=⇑l
abbrev zH:=() × ()
def dR(r:zH):D:=.tup [dS r.1,dS r.2]
def zea{K:su}(h:Is K H (dR r) v):∃p,v=.ref p/\SqT K H p [⇑r.1,⇑r.2]:=by
 erw[dR,Is,Iss]at h
 let#[a,xs,e,hs,v1,r1,rfl,rfl,v2,r2,rfl,rfl,rfl]:=h;exact#[a,e,hs]
def Uj{K:su}(h:SqT K H p [⇑l,⇑m]):Is K H (dR (l,m)) (.ref p):=by
 erw[dR,Is,Iss]
 exact#[p,_,rfl,h,_,_,rfl,rfl,_,_,rfl,rfl,rfl]
def uQ(r:zH):xq (dR r):=by erw[dR,xq,z8,and_self]
theorem zgc(r:zH):dpD (dR r)<=1:=by erw[dR,dpD,vH];lia
def y9(rs:List zH):z8 (rs.map dR):=vd λd h=>by let#[r,_,rfl]:=AY.mp h;exact uQ r
def zaY(rs:List zH):vH (rs.map dR)<=1:=Xy λd h=>by let#[r,_,rfl]:=AY.mp h;exact zgc r
abbrev N3:=Nat × Nat × Nat
def d3(t:N3):D:=.tup [.int (t.1:Nat),.int (t.2.1:Nat),.int (t.2.2:Nat)]
def zf3{K:su}(h:Is K H (d3 t) v):∃p,v=.ref p/\SqT K H p [.int (t.1:Nat),.int (t.2.1:Nat),.int (t.2.2:Nat)]:=by
 erw[d3,Is,Iss]at h
 let#[a,xs,e,hs,v1,r1,rfl,rfl,v2,r2,rfl,rfl,v3,r3,rfl,rfl,rfl]:=h;exact#[a,e,hs]
def ze2{K:su}:Iss K H [.int (i:Nat),.int (j:Nat),.int (k:Nat)] [.int (i:Nat),.int (j:Nat),.int (k:Nat)]:=by
 erw[Iss,Is]
 exact#[_,_,rfl,rfl,_,_,rfl,rfl,_,_,rfl,rfl,rfl]
def zb5(t:N3):xq (d3 t):=by erw[d3,xq,z8,and_self]
def Vt(rs:List N3):z8 (rs.map d3):=vd λd h=>by let#[r,_,rfl]:=AY.mp h;exact zb5 r
theorem Iss.get{K:su}{j:Nat}(h:Iss K H l vs)(q:vs[j]? = AQ v):∃d,l[j]? = AQ d/\Is K H d v:=by have hj:=(AX.mp q).1;have hl:=h.len;have g1:l[j]? = AQ l[j]:=af ⋯;let#[x,hx,ix]:=h.at g1;rw[q]at hx;cases hx;exact#[_,g1,ix]
def Iss.getR{K:su}{rs:List zH}{j:Nat}(h:Iss K H (rs.map dR) vs)(q:vs[j]? = AQ v):∃r p,rs[j]? = AQ r/\v=.ref p/\SqT K H p [⇑r.1,⇑r.2]:=by let#[d,e,i]:=h.get q;rw[aq]at e;let#[r,hr,rfl]:=Bd.mp e;let#[p,e1,e2]:=zea i;exact#[r,p,hr,e1,e2]
def Iss.get3{K:su}{rs:List N3}{j:Nat}(h:Iss K H (rs.map d3) vs)(q:vs[j]? = AQ v):∃r p,rs[j]? = AQ r/\v=.ref p/\SqT K H p [.int (r.1:Nat),.int (r.2.1:Nat),.int (r.2.2:Nat)]:=by let#[d,e,i]:=h.get q;rw[aq]at e;let#[r,hr,rfl]:=Bd.mp e;let#[p,e1,e2]:=zf3 i;exact#[r,p,hr,e1,e2]
theorem UG(l:List α)(h0:0<=a)(h1:a<=b):cut l (AQ a) (AQ b)=(l.drop a.toNat).take (b - a).toNat:=by
 by_cases h2:b<=l.length
 ·exact Zk l h0 h1 h2
 ·let#[m,rfl]:=bP h0;let#[n,rfl]:=bP (by lia:0<=b);unfold cut;rw[HT.sIx_nat,HT.sIx_nat,cE (by lia:l.length<=n)];have e:(((n:Nat):Int) - ((m:Nat):Int)).toNat=n - m:=⋯;have e2:((m:Nat):Int).toNat=m:=rfl;rw[e,e2,aW (l:=l.drop m) (by rw[aS];lia)];by_cases hm:m<=l.length
  ·rw[cw hm,aW (by rw[aS];lia)]
  ·rw[cE ⋯,bf (al _),bf ⋯,List.take_nil]
def Y8(ns:List Int)(h0:0<=a)(h1:a<=b):Ul (ns.map V.int) (AQ a) (AQ b)=((ns.drop a.toNat).take (b - a).toNat).map V.int:=by have e:Ul (ns.map V.int) (AQ a) (AQ b)=cut (ns.map V.int) (AQ a) (AQ b):=rfl;rw[e,UG _ h0 h1,fY,List.map_drop]
end
open Classical in
end in def eqAtV (K:su) (H:Hp) (d:D) (u:sw):Bool:=decide (∃x e,zgL u=AQ x/\Is K H e x/\eqD e d=AS)
section
variable{X:Cx}{AU:List (sv × tP)}{σ:L2.St}{H:Hp}{s:sy}
open Classical in
theorem Wt(I:Inv X AU σ H s)(r:RelV x u)(h:Is X.K H e x):eqAtV X.K H d u=eqD e d:=by
 unfold eqAtV
 cases hb:eqD e d with
 | true=>exact u6 #[x,e,r.abs,h,hb]
 | false =>
  refine u9 ?_;rintro⟨y,e',hy,hi,hq⟩;rw[r.abs]at hy;cases hy;rw[WU I e' e x hi h,hb]at hq;cases hq
theorem Yn(I:Inv X AU σ H s):∀{l:List D} {xs:List V} {us:List sw},Iss X.K H l xs->Vals xs us->us.any (eqAtV X.K H d)=l.any λe=>eqD e d
 | [],xs,us,h,r=>by
  erw[Iss]at h
  subst h;cases r;rfl
 | e::l,xs,us,h,r=>by
  erw[Iss]at h
  let#[v,vs,rfl,h1,h2]:=h
  cases r with
  | cons r1 r2=>rw[dJ,dJ,Wt I r1 h1,Yn I h2 r2]
theorem WH:∀{xs:List V} {us:List sw} {l:List D} {u:sw},Vals xs us->Iss X.K H l xs->u ∈ us->∃x e,RelV x u/\Is X.K H e x/\e ∈ l
 | _,_,_,_,.nil,_,h=>nomatch h
 | _,_,[],u,.cons r t,hi,h=>by
  erw[Iss]at hi
  cases hi
 | _,_,e::l,u,.cons r t,hi,h=>by
  erw[Iss]at hi
  let#[v,vs,q,h1,h2]:=hi;cases q;rcases AZ.mp h with rfl | h
  ·exact#[_,e,r,h1,aB ..]
  ·let#[x,e',a,b,c]:=WH t h2 h;exact#[x,e',a,b,ar _ c]
def zee(h:e ∈ l):dpD e<=vH l:=by let#[j,hj]:=List.getElem?_of_mem h;exact zat hj
def zg0(K:su)(neg:Bool):R2:=λx y H Q=>∃p l d,y=.ref p/\Is K H (.lst l) y/\Is K H d x/\vH l<50/\Q (.bl (if neg then !(l.any λe=>eqD e d)else l.any λe=>eqD e d)) H
theorem zeE(hu:X.A.units+100<cLine):OpR X (sK .In) (zg0 X.K AT):=by
 intros x y v u Q I rx ry h;let#[p,l,d,rfl,hl,hd,hp,q]:=h;cases ry
 erw[Is]at hl
 let#[_,xs,e,hq,hi]:=hl;cases e;let#[its,r,pl,hz]:=I.list hq;have huA:X.A.in1.units+50<cLine:=by show X.A.units+1+50<cLine;lia
 refine SeqAt.in_listAt (eqAtV X.K H d) pl.isList (λw hw=>?_) #[.bl _,H,I,rfl,?_]
 ·let#[z,e,rz,iz,me]:=WH r hi ↥hw;rw[Wt I rz iz];exact qt I 50 X.A.in1 e d z x w v huA (bX (zee me) hp) iz hd rz rx
 ·rw[show its.toArray.any (eqAtV X.K H d)=its.any (eqAtV X.K H d) by simp,Yn I hi r];exact q
end
mutual section
structure DM(P:sH)(w:sM)(K:su)(mg:sF->Option sw)(base:sV)(CX:CXT)(k:Nat)(C:sv)(m:sF)(ps:List sF)(sp:Sp):Prop where
 ex:∃f fd,zeI K C m f/\FnOk P w K mg base CX k f fd ps sp/\Binds K fd ps []
structure DMk(P:sH)(w:sM)(K:su)(mg:sF->Option sw)(base:sV)(CX:CXT)(k:Nat)(C:sv)(ps:List sF)(sp:Sp):Prop where
 ex:∃f fd,Mk K C f/\FnOk P w K mg base CX k f fd ps sp/\Binds K fd ps []
def me0(D:DM X.prog X.w X.K X.mg X.base CX0 k C m ps sp)(c:Cls X.K C)(hr:Room j X.A)(he:PE X o ta)(ht:eval (.Call (.Attribute o m apos) [] [] pos) X.env=(do
      let ov <- eval o X.env
      standAt apos.atName
      let (f,first) <- holding [ov] (getMethod ov m pl)
      callWith pos f first (sS pos (sq [] X.env)) (sX pos (sN [] X.env))):=by rfl) (hj:‹k<=j›):PE X (.Call (.Attribute o m apos) [] [] pos) (Zf C m sp [] E0 ta xv):=by let#[f,fd,hm,F,hb]:=D.ex;exact zae he c hm F (hr.mono hj) hb .nil VS ht
def me1(D:DM X.prog X.w X.K X.mg X.base CX0 k C m ps sp)(c:Cls X.K C)(hr:Room j X.A)(he:PE X o ta)(ha:PA X (e::es) t)(hst:‹sq (e::es) X.env=(AT,eval e X.env)::sq es X.env›)(hpl:‹(sS pos (sq es X.env)).any (·.1)=AT›)(ht:eval (.Call (.Attribute o m apos) (e::es) [] pos) X.env=(do
      let ov <- eval o X.env
      standAt apos.atName
      let (f,first) <- holding [ov] (getMethod ov m pl)
      callWith pos f first (sS pos (sq (e::es) X.env)) (sX pos (sN [] X.env))):=by rfl) (hj:‹k<=j›):PE X (.Call (.Attribute o m apos) (e::es) [] pos) (Zf C m sp [] E0 ta t):=by let#[f,fd,hm,F,hb]:=D.ex;exact zcl he c hm F (hr.mono hj) hb .nil VS ha hst hpl ht
def mkC(D:DMk X.prog X.w X.K X.mg X.base CX0 k C ps sp)(hr:Room j X.A)(hg:Gl X x)(hm:X.mg x=AQ (.ref C))(ha:PA X (e::es) t)(hdb:‹(x ==("__debug__" : sF))=AT›)(he:‹sq (e::es) X.env=(AT,eval e X.env)::sq es X.env›)(hpl:‹(sS pos (sq es X.env)).any (·.1)=AT›) (hj:‹k+1<=j›):PE X (.Call (.Name x p) (e::es) [] pos) (U7 C sp [] E0 t):=by let#[f,fd,M,F,hb]:=D.ex;exact Ut M F (hr.mono hj) hg hm hb .nil VS ha hdb he hpl
def zC(Fam:sv->Prop)(m:sF)(sp:sv->Sp)(dvs:List V)(E:XK)(ta:TE)(t:TA):TE:=λσ H Q=>ta σ H λx H1=>∃C a dx fs,Fam C/\x=.ref a/\H1 a=AQ (.ins C dx fs)/\fs.lookup m=AR /\
 t σ H1 λvs H2=>sp C (x::(vs ++ dvs)) H2 Q E
structure DMF(P:sH)(w:sM)(K:su)(mg:sF->Option sw)(base:sV)(CX:CXT)(k:Nat)(Fam:sv->Prop)(m:sF)(ps:List sF)(sp:sv->Sp):Prop where
 ex:∀C,Fam C->Cls K C/\DM P w K mg base CX k C m ps (sp C)
def zhk(D:DMF X.prog X.w X.K X.mg X.base CX0 k Fam m ps sp)(hr:Room j X.A)(he:PE X o ta)(ht:eval (.Call (.Attribute o m apos) [] [] pos) X.env=(do
      let ov <- eval o X.env
      standAt apos.atName
      let (f,first) <- holding [ov] (getMethod ov m pl)
      callWith pos f first (sS pos (sq [] X.env)) (sX pos (sN [] X.env))):=by rfl) (hj:‹k<=j›):PE X (.Call (.Attribute o m apos) [] [] pos) (zC Fam m sp [] E0 ta xv):=by intros Q I h;refine cI (pl:=pl) (thn (he AU s σ H _ I h) λu s1=>el5 λx H1 I1 rx q_z=>?_) ht;let#[C,a,dx,fs,fam,ex,ea,l,q]:=q_z;subst ex;obtain rfl:u=r8 a:=rx;let#[c,#[f,fd,hm,F,hb]]:=D.ex C fam;refine wm I1 ea c hm l ?_;exact gc (first:=[.ref a]) I1.kIn hm.kp (Yx (us:=[.ref a]) (vs:=[.ref a]) F (hr.mono hj) hb .nil VS I1 (.cons rfl .nil) q)
def zdg(D:DMF X.prog X.w X.K X.mg X.base CX0 k Fam m ps sp)(hr:Room j X.A)(he:PE X o ta)(ha:PA X (e::es) t)(hst:‹sq (e::es) X.env=(AT,eval e X.env)::sq es X.env›)(hpl:‹(sS pos (sq es X.env)).any (·.1)=AT›)(ht:eval (.Call (.Attribute o m apos) (e::es) [] pos) X.env=(do
      let ov <- eval o X.env
      standAt apos.atName
      let (f,first) <- holding [ov] (getMethod ov m pl)
      callWith pos f first (sS pos (sq (e::es) X.env)) (sX pos (sN [] X.env))):=by rfl) (hj:‹k<=j›):PE X (.Call (.Attribute o m apos) (e::es) [] pos) (zC Fam m sp [] E0 ta t):=by intros Q I h;refine cI (pl:=pl) (thn (he AU s σ H _ I h) λu s1=>el5 λx H1 I1 rx q_z=>?_) ht;let#[C,a,dx,fs,fam,ex,ea,l,q]:=q_z;subst ex;obtain rfl:u=r8 a:=rx;let#[c,#[f,fd,hm,F,hb]]:=D.ex C fam;refine wm I1 ea c hm l ?_;refine cj (first:=[.ref a]) (h₀:=X.base) I.ok.mod.kin hm.kp (thn (ha pos AU s1 σ H1 _ I1 q) λus s2=>el5 λvs H2 I2 r q2=>#[I2.kIn,?_]) hst hpl;exact Yx (us:=.ref a::us) (vs:=.ref a::vs) F (hr.mono hj) hb .nil VS I2 (.cons rfl r) q2
def yz(K:su):List V->Hp->VK->Prop:=λxs H Q=>∃(p:sv) (ns:List Int),xs=[.ref p]/\SqL K H p (ns.map V.int)/\Q (.int ns.sum) H
theorem VY(l:()):((p7 AR AR (-1) (tx l).length).filterMap ((tx l).cps[·]?))=l.reverse:=by
 rw[zI,picked_rev];have e:(tx l).cps=l.toArray:=rfl;rw[e];apply List.ext_getElem?;intro i
 have h:((aJ l.length).map λk=>l.length - 1 - k).filterMap (l.toArray[·]?)=(aJ l.length).map λk=>l.getD (l.length - 1 - k) 0:=by
  rw[filterMap_get,ce]
  ·refine bT λk Z=>?_;show l.toArray.getD (l.length - 1 - k) 0=_;simp [fV,List.getD];split <;> simp_all
  ·intro i hi;let#[k,hk,rfl]:=AY.mp hi;have:=Bc.mp hk;show _<l.toArray.size;rw[ak];lia
 rw[h];by_cases hi:i<l.length
 ·rw[bE hi,aq,eh hi];show AQ (l.getD (l.length - 1 - i) 0)=_;rw[ae,af ⋯];rfl
 ·rw[cq (by simp;lia),cq (by simp;lia)]
def yw(te ts:TE):TE:=λσ H Q=>te σ H λx H1=>ts σ H1 λy H2=>y=.int (-1)/\∃l:(),x=⇑l/\l.length<=sr/\Q ⇑l.reverse H2
end
section
variable{X:Cx}{e st:tH}{te ts:TE}{pos p2:AL}
def zbP(he:PE X e te)(hs:PE X st ts):PE X (.Subscript e (.Slice AR AR (AQ st) p2) pos) (yw te ts):=by
 intros Q I h;refine AI (thn (he AU s σ H _ I h) λv s1=>el5 λx H1 I1 r1 q1=>?_);refine wpAny_Slice ?_;rw[evalPart_none];refine sk (sk ?_);rw[evalPart_some];refine thn (hs AU s1 σ H1 _ I1 q1) λu s2=>el5 λy H2 I2 r2 q_z=>?_;let#[ey,l,ex,hl,q2]:=q_z;subst ey ex;let#[t,rfl]:=r1;let#[tk,rfl]:=r2;have I4:Inv X AU σ H2 { s2 with heap:=s2.heap.push { cls:=.type "slice",data:=.fields (r9 [.none,.none,.int (-1) tk]) } }:=I2.kept (t':=s2.toks) λb ob q=>ag _ q;show sC (model X.prog X.w) X.A (Ap e (.Slice AR AR (AQ st) p2) (.str (tx l) t) (.ref s2⁻¹)) (EP X AU σ Q) X.xe { s2 with heap:=s2.heap.push { cls:=.type "slice",data:=.fields (r9 [.none,.none,.int (-1) tk]) } };refine tail_any (ops:=[.ref s2⁻¹,.str (tx l) t]) (typeIs_str _ (tx l) t) slot_str_getitem.lookup ?_ (by with_unfolding_all rfl);refine Ab (l:=AR) (u:=AR) (st:=AQ (-1,tk)) (Heap.IsSliceOf.new ..) rfl ?_;unfold sliceMade slicePicked
 have hc':¬ (((AQ ((-1:Int),tk)).map (·.1)).getD 1 == 1 && (p7 ((AR:Option (Int × AF)).map (·.1)) ((AR:Option (Int × AF)).map (·.1)) (((AQ ((-1:Int),tk)).map (·.1)).getD 1) (tx l).length).length ==(tx l).length)=AS:=by
  have:(((AQ ((-1:Int),tk)).map (·.1)).getD 1 == 1)=AT:=rfl;rw[this];simp
 rw[w9 hc']
 have e:Str.mk ((p7 AR AR (-1) (tx l).length).filterMap ((tx l).cps[·]?)).toArray=tx l.reverse:=by
  rw[VY]
 show (Str.mk ((p7 AR AR (-1) (tx l).length).filterMap ((tx l).cps[·]?)).toArray).length<=sr/\_;rw[e];refine#[by rw[zI,bK];exact hl,?_]
 exact#[⇑l.reverse,H2,I4.tok _,#[_,by
  show Value.str (Str.mk ((p7 AR AR (-1) (tx l).length).filterMap ((tx l).cps[·]?)).toArray) _=_
  rw[e]],q2]
end
def zB:V->List V->Hp->VK->Prop:=λx xs H Q=>∃(z y:sF) (i:Nat),x=.str z/\xs=[.str y]/\PySem.Txt.find z y=(i:Int)/\Q (.int (i:Nat)) H
theorem JN:MtR X "str.index" zB:=by
 intros x xs v us Q I rx rv h;let#[z,y,i,rfl,rfl,hf,q]:=h;let#[t,rfl]:=rx;let#[u,rfl,t',rfl]:=wK rv;unfold PySem.Txt.find at hf
 cases ho:Builtin.Str.occurrences z y 0 z.length 1 with
 | nil=>rw[ho]at hf;dsimp only at hf;lia
 | cons a r =>
  rw[ho]at hf;have:a=i:=by dsimp only at hf;lia
  subst this;exact PySem.SC.index ho #[.int _,H,I.tok _,#[_,rfl],q]
end in def Izs(K:su)(l:())(b:sv):It:=#[λi H=>∃ys y,SqT K H b ys/\i<l.length/\ys[i]? = AQ y,λi H v H'=>∃p c y,H p=AR/\l[i]? = AQ c/\(∀ys,SqT K H b ys->ys[i]? = AQ y)/\v=.ref p/\H'=upd H p (.tup [⇑[c],y]),λi H=>i=l.length]
def iZs(K:su)(ta:TA):TI:=λσ H R=>ta σ H λvs H1=>∃l b,vs=[⇑l,.ref b]/\(∃ys,SqT K H1 b ys)/\R (Izs K l b) H1
def zfm(K:su)(l:())(b:sv)(g:TG)(tt:TT)(te:TE)(own:Nat)(ix:())(σ:L2.St)(H1:Hp)(Q:VK)(D:sv):Prop:=Y3 (Izs K l b) g tt te own ix σ H1 Q D
def zL{K:su}:qH (iZs K ta) g tt te own ix σ H Q=ta σ H λvs H1=>∃l b,vs=[⇑l,.ref b]/\(∃ys,SqT K H1 b ys)/\∀D,H1 D=AR->zfm K l b g tt te own ix σ H1 Q D:=rfl
def yq(t1 t2:TE):TE:=λσ H Q=>t1 σ H Q\/t2 σ H Q
def zaG(h1:PE X e t1)(h2:PE X e t2):PE X e (yq t1 t2):=by
 intros Q I h;rcases h with h | h
 ·exact h1 AU s σ H Q I h
 ·exact h2 AU s σ H Q I h
def ze4(D1:DM X.prog X.w X.K X.mg X.base CX0 k1 C1 m ps s1)(D2:DM X.prog X.w X.K X.mg X.base CX0 k2 C2 m ps s2)(D3:DM X.prog X.w X.K X.mg X.base CX0 k3 C3 m ps s3)(c1:Cls X.K C1)(c2:Cls X.K C2)(c3:Cls X.K C3)(hr:Room j X.A)(he:PE X o ta)(ha:PA X (e::es) t)(hst:‹sq (e::es) X.env=(AT,eval e X.env)::sq es X.env›)(hpl:‹(sS pos (sq es X.env)).any (·.1)=AT›)(ht:eval (.Call (.Attribute o m apos) (e::es) [] pos) X.env=(do
      let ov <- eval o X.env
      standAt apos.atName
      let (f,first) <- holding [ov] (getMethod ov m pl)
      callWith pos f first (sS pos (sq (e::es) X.env)) (sX pos (sN [] X.env))):=by rfl) (h1:‹k1<=j›) (h2:‹k2<=j›) (h3:‹k3<=j›) :
    PE X (.Call (.Attribute o m apos) (e::es) [] pos) (yq (Zf C1 m s1 [] E0 ta t) (yq (Zf C2 m s2 [] E0 ta t) (Zf C3 m s3 [] E0 ta t))) :=
  zaG (me1 (pl:=pl) D1 c1 hr he ha hst hpl ht h1) (zaG (me1 (pl:=pl) D2 c2 hr he ha hst hpl ht h2) (me1 (pl:=pl) D3 c3 hr he ha hst hpl ht h3))
open PySem PySem.Spec PyProof.Rows L2 PySem.W PySem.Calls
def uV(n:Int):Prop:=Builtin.Int.intBits n<=1048576
theorem zbi:∀(ns:List Int),WData.weightAll (ns.map WData.int)<=1048576->∀n ∈ ns,uV n
 | [],_,n,h=>nomatch h
 | m::ns,hw,n,h=>by
  rw[ao,WData.weightAll]at hw;rcases AZ.mp h with rfl | h
  ·have e:WData.weight (.int n)=Builtin.Int.intBits n:=by
    rw[WData.weight];rfl
   unfold uV;lia
  ·exact zbi ns ⋯ n h
theorem zaf(hi:uV i)(hj:uV j):IntMulOk i j:=by unfold IntMulOk Builtin.Int.intTooBig;unfold uV at hi hj;have:(bitsLine:Nat)=134217728:=rfl;simp;intro _ _;lia
def K1:OpR X (binaryOp .Mult) (rI (λi j=>uV i/\uV j) λi j=>.int (i * j)):=opI λZ Z Z Z Z Z Z hc q=>mul_int q (zaf hc.1 hc.2)
def Xd{l:AN}{XP:(sF->Option sw)->sV->Prop}(hn:l.most=AQ n)(hdf:d.params.defaults=[])(call:∀(w:sM) (s₀ s₁:sy) (mg mb:sF->Option sw) (fa:sv) (o:tP) (pm cd doc:sw) (a:sv) (vs:List sw) (ns:List Int),
   Ground q loose [] XP w s₀ mg mb s₁.heap->YP w s₁.heap ->
   s₁.heap.get? fa=AQ o->o.data=.func (docDef d.name d.params d.body d.scope pm cd doc)->s₁.heap.CodeRec cd d.name->mg d.name=AQ (.ref fa) ->
   s₁.heap.get? a=AQ { cls:=.type "list",data:=.seq vs.toArray }->Ax vs ns->ns.length<=n->(∀z ∈ ns,uV z)->s₁.gens=#[] ->
   tB (model l.prog w) callerA (.call (.ref fa) #[[.ref a],[]]) (λr s'=>r=.ok (.ret (.bool AS))/\OldK s₁.heap s'.heap/\s'.os=s₁.os/\tW s'.gens) s₁) :
  WalkO q loose XP YP l.row.toRowW d [] (λf vs=>fS f vs):=by
 intro w s₀ s₁ mg mb G Y fa o pm cd doc dV kV ho hd hcd hD hmg hg args vals as hpre hlay hrd hwl hlo;obtain rfl:dV=.none:=Dflts.none hD hdf;obtain rfl:kV=.none:=Dflts.noKw hD;let#[a,vs,ns,rfl,rfl,hobj,hints,hlen]:=Att.script_of hn hpre hwl
 have hb:∀z ∈ ns,uV z:=by
  refine zbi ns ?_
  have h1:WData.layable (WData.list (ns.map WData.int))=AS:=by
   have:=hlay;unfold WData.layableAll at this;simpa using this
  unfold WData.layable at h1
  erw[ba,decide_eq_true_eq]at h1
  have h2:=h1.2;rw[WData.weight]at h2;exact h2
 refine enter_call (tO (call w s₀ s₁ mg mb fa o pm cd doc a vs ns G Y ho (fd_plain hd) hcd hmg hobj hints hlen hb hg) λr s' hq=>?_);let#[rfl,h2,h3,h4]:=hq;exact#[.inl #[.bool AS,.bool AS,[],rfl,λZ=>rfl,.bool AS,Att.post_true l _,λZ=>#[List.Pairwise.nil,λZ hm=>(nomatch hm)]],h2,h3,h4]
def XEg.xe(h:XEg X E):XE X E:=λe s hz=>by
 let#[AU,σ,H,x,C,t,dx,tb,q]:=hz;exact h e s #[.none,AT,AU,σ,H,x,C,t,dx,tb,q]
theorem Wn(x y:sF)(i j:Int)(t u v v':AF):Gives (Builtin.«str.find» #[[.str x t,.str y u,.int i v,.int j v'],[]]) (.int (match Builtin.Str.occurrences x y (fromIndex x.length i) (min (fromIndex x.length j) x.length) 1 with | k::_=>(k:Int) | []=>-1)):=by
 show Gives (match Builtin.Str.occurrences x y (fromIndex x.length i) (min (fromIndex x.length j) x.length) 1 with | k::_=>retInt k | []=>(do rule "str.find.not-found";retInt (-1))) _
 cases Builtin.Str.occurrences x y (fromIndex x.length i) (min (fromIndex x.length j) x.length) 1 with
 | nil=>exact .rule (.of_eq rfl)
 | cons k _=>exact .of_eq rfl
theorem Wp(x y:sF)(lo hi:Nat) :
  (Builtin.Str.occurrences x y lo hi 1=[]/\∀i,lo<=i->¬ StrLaws.At x y hi i) \/
  ∃i r,Builtin.Str.occurrences x y lo hi 1=i::r/\lo<=i/\StrLaws.At x y hi i/\∀k,lo<=k->k<i->¬ StrLaws.At x y hi k:=by
 rw[StrLaws.occ_eq];rcases StrLaws.occ_first x y hi 1 (al 1) (List.range' lo (hi+1 - lo)) lo (λi hm=>(List.mem_range'_1.mp hm).1)with ⟨e,no⟩ | ⟨pre,a,post,e,e0,at_a,no⟩
 ·exact .inl #[by rw[e],λi h1 h2=>no i (by have:=h2.1;rw[List.mem_range'_1];lia) h2]
 ·have sp:=StrLaws.range'_split_from e;generalize (forIn (List.range' lo (hi+1 - lo)) ((#[]:Array Nat),lo) (StrLaws.occBody x y hi 1)).run.fst=z at e0 ⊢;let#[zs]:=z
  cases zs with
  | nil=>simp at e0
  | cons b r =>
   have:b=a:=by simpa using e0
   subst this;exact .inr #[b,r,rfl,sp.1,at_a,λk h1 h2=>no k (sp.2 k h1 h2)]
def zdj(l p:())(hi i:Nat):StrLaws.At (tx l) (tx p) hi i ↔ i+p.length<=hi/\(l.drop i).take p.length=p:=by
 unfold StrLaws.At Builtin.Str.subAt;rw[zI,beq_iff_eq]
 have e1:((tx l).cps.extract i (i+p.length)).toList=(l.drop i).take p.length:=by
  show (l.toArray.extract i (i+p.length)).toList=_;simp [eU]
 have e2:((tx l).cps.extract i (i+p.length)=(tx p).cps) ↔ (l.drop i).take p.length=p:=by
  constructor
  ·intro h;rw[<- e1,h]
  ·intro h;apply Array.toList_inj.mp;rw[e1,h]
 rw[e2]
def zbf:V->List V->Hp->VK->Prop:=λx xs H Q=>∃(l p:()) (lo hi:Int),x=⇑l/\xs=[⇑p,.int lo,.int hi]/\0<=lo/\0<=hi/\∀r:Int,((r=-1/\∀q:Nat,lo<=q->(q:Int)+p.length<=hi->q+p.length<=l.length->(l.drop q).take p.length≠p)\/∃k:Nat,r=k/\lo<=k/\(k:Int)+p.length<=hi/\k+p.length<=l.length/\(l.drop k).take p.length=p/\∀q:Nat,lo<=q->q<k->(l.drop q).take p.length≠p)->Q (.int r) H
theorem zbS : MtR X "str.find" zbf:=by
 intros x xs v us Q I rx rv h;let#[l,p,lo,hi,rfl,rfl,h0,h1,q]:=h;let#[t,rfl]:=rx
 cases rv with
 | cons r1 r2 =>
  cases r2 with
  | cons r2 r3 =>
   let#[w3,rfl,t3,rfl]:=wK r3;let#[t1,rfl]:=r1;let#[t2,rfl]:=r2;have f0:fromIndex (tx l).length lo=lo.toNat:=by unfold fromIndex;rw[w9 ⋯];lia
   have f1:fromIndex (tx l).length hi=hi.toNat:=by unfold fromIndex;rw[w9 ⋯];lia
   refine call_gives F.slot_str_find (typeIs_str _ _ _) F.entry_str_find (F.args_str_find_4 _ _ _ _) (Wn _ _ lo hi t t1 t2 t3) ?_;refine#[.int _,H,I.tok _,#[_,rfl],q _ ?_];rw[f0,f1];have hm:∀k:Nat,k+p.length<=min hi.toNat (tx l).length ↔ (k:Int)+p.length<=hi/\k+p.length<=l.length:=λk=>by rw[zI];lia
   rcases Wp (tx l) (tx p) lo.toNat (min hi.toNat (tx l).length)with ⟨e,no⟩ | ⟨i,r,e,hl,ha,no⟩
   ·rw[e];exact .inl #[rfl,λk k1 k2 k3 k4=>no k ⋯ ((zdj l p _ k).mpr #[(hm k).mpr #[k2,k3],k4])]
   ·rw[e];let#[a1,a2]:=(zdj l p _ i).mp ha;let#[b1,b2]:=(hm i).mp a1;exact .inr #[i,rfl,⋯,b1,b2,a2,λk k1 k2 k4=>no k ⋯ k2 ((zdj l p _ k).mpr #[(hm k).mpr #[⋯,⋯],k4])]
end L3
set_option linter.unusedVariables false
namespace L3
def zfU(l p:())(r:Int):Prop:=(r=-1/\∀q:Nat,¬ (q+p.length<=l.length/\(l.drop q).take p.length=p))\/∃q:Nat,r=(q:Int)/\(q+p.length<=l.length/\(l.drop q).take p.length=p)/\∀q':Nat,q'<q->¬ (q'+p.length<=l.length/\(l.drop q').take p.length=p)
def zfJ:V->List V->Hp->VK->Prop:=λx xs H Q=>∃l p:(),x=⇑l/\xs=[⇑p]/\∀r:Int,zfU l p r->Q (.int r) H
def zch:MtR X "str.find" zfJ:=by
 intros x xs v us Q I rx rv h;let#[l,p,rfl,rfl,q]:=h;refine Ju AU s σ H _ _ v us Q I rx rv #[_,_,rfl,rfl,q _ ?_];rcases find_whole (tx l) (tx p)with ⟨h1,h2⟩ | ⟨e,h1,h2,h3⟩
 ·exact .inl #[h1,λq hq=>h2 q ((zdj l p _ q).mpr (by rw[zI];exact hq))]
 ·refine .inr #[e,h1,?_,λk hk hq=>h3 k hk ((zdj l p _ k).mpr (by rw[zI];exact hq))];have:=(zdj l p _ e).mp h2;rw[zI]at this;exact this
theorem Jt(hh:A.handled=AR)(hlI:l≠I)(hSI:S≠I)(hSl:S≠l)(xs:Array sw)(val:Nat->Int)(hv:∀i v,xs[i]? = AQ v->∃t,v=Value.int (val i) t)(d:sw) :
  ∀(k j:Nat) (z:Int) (t:AF) (s:sy) (c:Nat),xs.size - j=k->j<=xs.size->(∀i,i<j->val i<=z)->s.heap.IsListIter I l j->s.heap.IsList l xs->s.heap.get? S=AQ (sJ "list" (r9 [.int z t,.int z t]) c) ->
   (∀z' t' h' tk,(∀i,i<xs.size->val i<=z')->(∀b o,b≠I->b≠S->s.heap.get? b=AQ o->h'.get? b=AQ o)->R (.ok (.ret (.int z' t'))) { s with heap:=h',toks:=tk }) ->
   tB (model prog w) A (.builtin "max.loop" #[[.ref I,.none,.ref S],[(cy "default",d)]]) R s:=by
 have nm:(toString "max" ++ toString ".loop" : String)="max.loop":=∅;have W:=Walks.list (prog:=prog) (w:=w) (A:=A.in1) hh I l hlI xs;intro k
 induction k with
 | zero =>
  intro j z t s c hk hj hz hit hl hS hR;have e:j=xs.size:=⋯;refine tm (b:=Builtin.«max.loop») dH ?_;rw[Around.under_plainId (id:="max.loop") bQ _];show sC _ A.in1 (seqItems? (r8 S) >>= _) _ _ s;refine sj (tJ (items:=(r9 [.int z t,.int z t])) hS rfl ?_);show sC _ A.in1 (tryCatch (pyNext (r8 I)) _ >>= _) _ _ s;refine sj (sY (W.done s _ _ #[e ▸ hit,hl] λh' tk kp=>?_));have hS':=kp S _ ↥hSI hS;show sC _ A.in1 (updateSeq S (λZ=>(#[]:Array sw)) >>= _) _ _ _;refine sj (tF hS' rfl (sj (tD (sk ?_))));exact hR z t _ tk (λi hi=>hz i ⋯) λb o hb hb' q=>(az _ _ (Ne.symm hb')).trans (kp b o ↥hb q)
 | succ k ih =>
  intro j z t s c hk hj hz hit hl hS hR;refine tm (b:=Builtin.«max.loop») dH ?_;rw[Around.under_plainId (id:="max.loop") bQ _];show sC _ A.in1 (seqItems? (r8 S) >>= _) _ _ s;refine sj (tJ (items:=(r9 [.int z t,.int z t])) hS rfl ?_);show sC _ A.in1 (tryCatch (pyNext (r8 I)) _ >>= _) _ _ s;refine sj (sY (W.item j s _ _ ⋯ #[hit,hl] λv h' tk hP st kp=>?_));let#[t2,rfl]:=hv j v hP;have hS':=kp S _ ↥hSI hS;show sC _ A.in1 (tryCatch (holding [Value.int (val j) t2,Value.int (val j) t2] (richCompare .Gt (.int (val j) t2) (.int z t) >>= _)) _ >>= _) _ _ _;refine sj (sY (sQ (sj (CmpOf.ints_gt (prog:=prog) (w:=w) (A:=A.in1) (P:=λi v=>∃t,v=Value.int (if i=0 then val j else z) t) (λi=>if i=0 then val j else z) (λi v h=>h) 0 1 _ _ _ _ _ #[t2,rfl] #[t,rfl] ?_))));refine sj (sQ (sP (sj (tD (sk ?_)))));by_cases g:val j > z
  ·erw[if_true,Nat.one_ne_zero,if_false,g,decide_true]
   refine sj (tF hS' rfl (sj (tD ?_)));rw[nm];refine sk #[plainId_quiet bQ _,ih (j+1) (val j) t2 _ _ ⋯ ⋯ (λi hi=>?_) (W.frame _ _ _ st λb hb o q=>?_).1 (W.frame _ _ _ st λb hb o q=>?_).2 (get?_update_seq hS' _) λz' t' h'' tk'' a1 a2=>hR z' t' h'' tk'' a1 λb o hb hb' q=>a2 b o hb hb' ((az _ _ (Ne.symm hb')).trans (kp b o ↥hb q))]
   ·by_cases e:i=j
    ·rw[e];exact Int.le_refl _
    ·have:=hz i ⋯;lia
   all_goals
    refine (az _ _ (λe:S=b=>?_)).trans q;subst e;rcases AZ.mp hb with e | e
    ·exact hSI e
    ·exact hSl (Bb.mp e)
  ·erw[if_true,Nat.one_ne_zero,if_false,g,decide_false,be]
   refine sj (tD ?_);rw[nm];refine sk #[plainId_quiet bQ _,ih (j+1) z t _ _ ⋯ ⋯ (λi hi=>?_) st.1 st.2 hS' λz' t' h'' tk'' a1 a2=>hR z' t' h'' tk'' a1 λb o hb hb' q=>a2 b o hb hb' (kp b o ↥hb q)];by_cases e:i=j
   ·rw[e];lia
   ·exact hz i ⋯
def Jg(a v:sw):argsOk "max" #[[a],[(cy "default",v)]]:=by unfold argsOk;kernel_rfl
def Q6(hh:A.handled=AR)(xs:Array sw)(val:Nat->Int)(hv:∀i v,xs[i]? = AQ v->∃t,v=Value.int (val i) t)(hl:s.heap.IsList l xs)(d:sw)(h:∀v h' tk,(xs.size=0->v=d)->(0<xs.size->∃z t,v=Value.int z t/\∀i,i<xs.size->val i<=z)->(∀b o,s.heap.get? b=AQ o->h'.get? b=AQ o)->Q v { s with heap:=h',toks:=tk }) :
  sC (model prog w) A (call (.builtin "max") [.ref l] [(cy "default",d)]) Q E s:=by
 have nm:(toString "max" ++ toString ".loop" : String)="max.loop":=∅;have hlt:l<s⁻¹:=by let#[_,e,_]:=hl;exact au e
 refine kmb_tree PySem.F.kind_max PySem.F.plain_max PySem.F.entry_max (Jg _ _) ?_;show sC _ A.in1 (Builtin.Builtins.bindParams "max" ["key","default"] 0 #[[],[(cy "default",d)]] >>= _) _ _ s;refine sj (wpAny_of_eq (show Builtin.Builtins.bindParams "max" ["key","default"] 0 #[[],[(cy "default",d)]]=pure [AR,AQ d]from rfl) (sj (sk ?_)));refine sj (tS hl (sj (tV ?_ (ay _))));rw[nm];refine sk #[plainId_quiet bQ _,?_];have gI:(s.heap.push { cls:=.type "list_iterator",data:=.fields (r9 [.ref l,.int 0 0]) }).IsListIter s⁻¹ l 0:=#[_,aE _ rfl,rfl,rfl];have gl:=hl.push { cls:=.type "list_iterator",data:=.fields (r9 [.ref l,.int 0 0]) };have kp0:∀b o,s.heap.get? b=AQ o->(s.heap.push { cls:=.type "list_iterator",data:=.fields (r9 [.ref l,.int 0 0]) }).get? b=AQ o:=λb o q=>ag _ q;have hsz:(s.heap.push { cls:=.type "list_iterator",data:=.fields (r9 [.ref l,.int 0 0]) }).objs.size=s⁻¹+1:=cZ _ _;have hold:∀b o,s.heap.get? b=AQ o->b<s⁻¹:=λb o q=>au q;have hlI:l≠s⁻¹:=ax hlt;generalize s.heap.push { cls:=.type "list_iterator",data:=.fields (r9 [.ref l,.int 0 0]) }=h1 at *;generalize hIe:s⁻¹=I at *;have W:=Walks.list (prog:=prog) (w:=w) (A:=A.in1) hh I l hlI xs;have gS:(h1.push { cls:=.type "list",data:=.seq ([]:List sw).toArray }).get? h1.objs.size=AQ (sJ "list" #[] 0):=aE _ rfl;have st0:=W.frame 0 _ (h1.push { cls:=.type "list",data:=.seq ([]:List sw).toArray }) #[gI,gl] λb Z o q=>ag _ q;have kp1:∀b o,s.heap.get? b=AQ o->(h1.push { cls:=.type "list",data:=.seq ([]:List sw).toArray }).get? b=AQ o:=λb o q=>ag _ (kp0 b o q);have hSI:h1.objs.size≠I:=by rw[hsz];exact Nat.succ_ne_self I
 have hSl:h1.objs.size≠l:=by rw[hsz];exact cH (cY hlt)
 have hSb:∀b o,s.heap.get? b=AQ o->b≠I/\b≠h1.objs.size:=λb o q=>#[ax (hold b o q),by rw[hsz];exact ax (cY (hold b o q))];generalize h1.push { cls:=.type "list",data:=.seq ([]:List sw).toArray }=h2 at *;generalize h1.objs.size=S at *;refine tm (b:=Builtin.«max.loop») dH ?_;rw[Around.under_plainId (id:="max.loop") bQ _];show sC _ A.in1 (seqItems? (r8 S) >>= _) _ _ _;refine sj (tJ (items:=#[]) gS rfl ?_);show sC _ A.in1 (tryCatch (pyNext (r8 I)) _ >>= _) _ _ _;by_cases hz:xs.size=0
 ·refine sj (sY (W.done _ _ _ (by rw[hz];exact st0) λh' tk kp=>?_));show sC _ A.in1 (rule _ >>= λZ=>_) _ _ _;refine sj (AG (sk ?_));exact h d h' tk (λZ=>rfl) (λq=>w4 q ⋯) λb o q=>kp b o ↥(hSb b o q).1 (kp1 b o q)
 ·refine sj (sY (W.item 0 _ _ _ ⋯ st0 λv h' tk hP st kp=>?_));let#[t,rfl]:=hv 0 v hP;have hS':=kp S _ ↥hSI gS;show sC _ A.in1 (updateSeq S (λZ=>(r9 [Value.int (val 0) t,Value.int (val 0) t])) >>= _) _ _ _;refine sj (tF hS' rfl ?_);rw[nm]
  have st':=W.frame _ _ (h'.update S (Obj.mapSeq λZ=>(r9 [Value.int (val 0) t,Value.int (val 0) t]))) st λb hb o q=>by
   refine (az _ _ (λe:S=b=>?_)).trans q;subst e;rcases AZ.mp hb with e | e
   ·exact hSI e
   ·exact hSl (Bb.mp e)
  refine sk #[plainId_quiet bQ _,Jt hh hlI hSI hSl xs val hv d _ 1 (val 0) t _ _ rfl ⋯ (λi hi=>?_) st'.1 st'.2 (get?_update_seq hS' _) λz' t' h'' tk'' a1 a2=>?_]
  ·have:i=0:=⋯;rw[this];exact Int.le_refl _
  ·exact h _ h'' tk'' (λq=>w4 q hz) (λZ=>#[z',t',rfl,a1]) λb o q=>a2 b o (hSb b o q).1 (hSb b o q).2 ((az _ _ (Ne.symm (hSb b o q).2)).trans (kp b o ↥(hSb b o q).1 (kp1 b o q)))
def zaE(X:Cx)(id:String)(ks:List sF)(r:List V->List V->Hp->VK->Prop):Prop :=
 ∀(AU:List (sv × tP)) (s:sy) (σ:L2.St) (H:Hp) (vs zs:List V) (us ws:List sw) (Q:VK),Inv X AU σ H s->Vals vs us->Vals zs ws->r vs zs H Q->sC (model X.prog X.w) X.A (call (.builtin id) us (ks.zip ws)) (EP X AU σ Q) X.xe s
def zgG(r:List V->List V->Hp->VK->Prop)(t tk:TA):TE:=λσ H Q=>t σ H λvs H1=>tk σ H1 λzs H2=>r vs zs H2 Q
def Jm{X:Cx}{id:String}{x:sF}{e:tH}{es:List tH}{kws:List Am}{ks:List sF}{p:AL}{pos:AL}{t:TA}{tk:TA}(hc:zaE X id ks r)(hg:Gl X x)(hm:X.mg x=AR)(hv:sW x=AQ (.builtin id))(ha:PA X (e::es) t)(hk:PK X kws tk)(hks:‹(sX pos (sN kws X.env)).filterMap (·.1)=ks›)(hn:‹x≠"__name__"›)(hdb:‹(x ==("__debug__" : sF))=AT›)(he:‹sS pos (sq (e::es) X.env)=(AT,eval e X.env)::sS pos (sq es X.env)›)(hpl:‹(sS pos (sq (e::es) X.env)).any (·.1)=AT›)(hall:‹(sX pos (sN kws X.env)).all (·.1.isSome)=AS›)(hkw:‹(sX pos (sN kws X.env)).any (·.1.isNone)=AT›):PE X (.Call (.Name x p) (e::es) kws pos) (zgG r t tk):=by intros Q I h;refine sU (vQ I hg hm hv ?_ hn hdb);refine callWith_kw (thn (ha pos AU s σ H _ I h) λus s1=>el5 λvs H1 I1 r1 q1=>thn (hk pos AU s1 σ H1 _ I1 q1) λws s2=>el5 λzs H2 I2 r2 q2=>?_) he hpl hall hkw;rw[hks];exact hc AU s2 σ H2 vs zs us ws Q I2 r1 r2 q2
def zfL(K:su):List V->List V->Hp->VK->Prop:=λvs zs H Q=>∃(a:sv) (ns:List Int) (d:Int),vs=[.ref a]/\zs=[.int d]/\SqL K H a (ns.map V.int)/\∀z:Int,(ns=[]->z=d)->(∀n ∈ ns,n<=z)->Q (.int z) H
def zej(hc:X.calm=AS):zaE X "max" [cy "default"] (zfL X.K):=by
 intros vs zs us ws Q I r1 r2 h;let#[a,ns,d,rfl,rfl,hS,q]:=h;let#[u,rfl,ru]:=wK r1;cases ru;let#[w',rfl,td,rfl]:=wK r2;let#[its,rv,pl,hz]:=I.list hS;have hlen:=rv.length;rw[aa]at hlen
 have hat:∀(i:Nat) (v:sw),its.toArray[i]? = AQ v->∃t,v=Value.int (ns.getD i 0) t:=λi v hi=>by
  have hi':its[i]? = AQ v:=by simpa using hi
  have hil:=(AX.mp hi').1;let#[u,hu,t,rfl]:=xU rv (j:=i) (x:=.int (ns.getD i 0)) (by rw[aq,ae,af ⋯];rfl);rw[hi']at hu;cases hu;exact#[t,rfl]
 refine Q6 (I.ok.hd hc) its.toArray (λi=>ns.getD i 0) hat pl.isList (.int d td) λv h' tk h0 h1 kp=>?_;by_cases hn:ns=[]
 ·have:=h0 (by rw[ak,<- hlen,hn];rfl);subst this;exact#[.int d,H,I.kept kp,#[_,rfl],q d (λZ=>rfl) (λn hm=>by rw[hn]at hm;cases hm)]
 ·let#[z,t,rfl,hzz]:=h1 (by rw[ak,<- hlen];exact Bj.mpr hn);refine#[.int z,H,I.kept kp,#[_,rfl],q z (λe=>w4 e hn) λn hm=>?_];let#[i,hi,rfl]:=List.getElem_of_mem hm;have:=hzz i (by rw[ak,<- hlen];exact hi);rw[ae,af hi]at this;exact this
section
variable{prog:sH}{w:sM}{A:sZ}{R:Result->sy->Prop}{I S:sv}{fp wr:List sv}{P:Nat->sw->Prop}{St:Nat->sV->Prop}
def WC:(toString "min" ++ toString ".loop" : String)="min.loop":=∅
def VA(W:Walks prog w A.in1 I fp wr 2 P St)(hw:S ∉ wr)(st:St 2 s.heap)(hS:s.heap.get? S=AQ (sJ "list" (r9 [v,v]) c))(hR:∀h' tk,(∀b o,b ∉ wr->b≠S->s.heap.get? b=AQ o->h'.get? b=AQ o)->R (.ok (.ret v)) { s with heap:=h',toks:=tk }):tB (model prog w) A (.builtin "min.loop" #[[.ref I,.none,.ref S],[]]) R s:=by refine tm (b:=Builtin.«min.loop») dI ?_;rw[Around.under_plainId (id:="min.loop") bR _];show sC _ A.in1 (seqItems? (r8 S) >>= _) _ _ s;refine sj (tJ (items:=(r9 [v,v])) hS rfl ?_);show sC _ A.in1 (tryCatch (pyNext (r8 I)) _ >>= _) _ _ s;refine sj (sY (W.done s _ _ st λh' tk kp=>?_));have hS':=kp S _ hw hS;show sC _ A.in1 (updateSeq S (λZ=>(#[]:Array sw)) >>= _) _ _ _;refine sj (tF hS' rfl (sj (tD (sk ?_))));exact hR _ tk λb o hb hb' q=>(az _ _ (Ne.symm hb')).trans (kp b o hb q)
theorem VU(W:Walks prog w A.in1 I fp wr 2 P St)(hf:S ∉ fp)(hb:∀v,P 1 v->v=b)(st:St 1 s.heap)(hS:s.heap.get? S=AQ (sJ "list" (r9 [a,a]) c))(hc:∀h' tk,(∀b o,b ∉ wr->b≠S->s.heap.get? b=AQ o->h'.get? b=AQ o)->LtAt A.in1 { s with heap:=h',toks:=tk } b a bt)(hR:∀h' tk,(∀b o,b ∉ wr->b≠S->s.heap.get? b=AQ o->h'.get? b=AQ o)->R (.ok (.ret (if bt=AS then b else a))) { s with heap:=h',toks:=tk }):tB (model prog w) A (.builtin "min.loop" #[[.ref I,.none,.ref S],[]]) R s:=by
 have hw:S ∉ wr:=λh=>hf (W.sub _ h);refine tm (b:=Builtin.«min.loop») dI ?_;rw[Around.under_plainId (id:="min.loop") bR _];show sC _ A.in1 (seqItems? (r8 S) >>= _) _ _ s;refine sj (tJ (items:=(r9 [a,a])) hS rfl ?_);show sC _ A.in1 (tryCatch (pyNext (r8 I)) _ >>= _) _ _ s;refine sj (sY (W.item 1 s _ _ ∅ st λv h' tk hP st' kp=>?_));obtain rfl:=hb v hP;have hS':=kp S _ hw hS;show sC _ A.in1 (tryCatch (holding [v,v] (richCompare .Lt v a >>= _)) _ >>= _) _ _ _;refine sj (sY (sQ (sj (hc h' tk (λb o q Z e=>kp b o q e) prog w _ _ ?_))));refine sj (sQ (sP (sj (tD (sk ?_)))))
 cases bt with
 | true =>
  erw[if_true]
  refine sj (tF hS' rfl (sj (tD ?_)));rw[WC];refine sk #[plainId_quiet bR _,VA W hw (W.frame _ _ _ st' λb hbf o e=>?_) (get?_update_seq hS' _) λh'' tk'' k2=>?_]
  ·exact (az _ _ (λz:S=b=>hf (by rw[z];exact hbf))).trans e
  ·exact hR h'' tk'' λb o q1 q2 e=>k2 b o q1 q2 ((az _ _ (Ne.symm q2)).trans (kp b o q1 e))
 | false =>
  erw[be,if_false]
  refine sj (tD ?_);rw[WC];refine sk #[plainId_quiet bR _,VA W hw st' hS' λh'' tk'' k2=>?_];exact hR h'' tk'' λb o q1 q2 e=>k2 b o q1 q2 (kp b o q1 e)
def Qh(W:Walks prog w A.in1 I fp wr 2 P St)(hf:S ∉ fp)(ha:∀v,P 0 v->v=a)(hb:∀v,P 1 v->v=b)(st:St 0 s.heap)(hS:s.heap.get? S=AQ (sJ "list" #[] c))(hc:∀h' tk,(∀b o,b ∉ wr->b≠S->s.heap.get? b=AQ o->h'.get? b=AQ o)->LtAt A.in1 { s with heap:=h',toks:=tk } b a bt)(hR:∀h' tk,(∀b o,b ∉ wr->b≠S->s.heap.get? b=AQ o->h'.get? b=AQ o)->R (.ok (.ret (if bt=AS then b else a))) { s with heap:=h',toks:=tk }):tB (model prog w) A (.builtin "min.loop" #[[.ref I,.none,.ref S],[]]) R s:=by
  have hw:S ∉ wr:=λh=>hf (W.sub _ h);refine tm (b:=Builtin.«min.loop») dI ?_;rw[Around.under_plainId (id:="min.loop") bR _];show sC _ A.in1 (seqItems? (r8 S) >>= _) _ _ s;refine sj (tJ (items:=#[]) hS rfl ?_);show sC _ A.in1 (tryCatch (pyNext (r8 I)) _ >>= _) _ _ s;refine sj (sY (W.item 0 s _ _ ∅ st λv h' tk hP st' kp=>?_));obtain rfl:=ha v hP;have hS':=kp S _ hw hS;show sC _ A.in1 (updateSeq S (λZ=>(r9 [v,v])) >>= _) _ _ _;refine sj (tF hS' rfl ?_);rw[WC];have k1:∀b o,b ∉ wr->b≠S->s.heap.get? b=AQ o->(h'.update S (Obj.mapSeq λZ=>(r9 [v,v]))).get? b=AQ o:=λb o q1 q2 e=>(az _ _ (Ne.symm q2)).trans (kp b o q1 e);refine sk #[plainId_quiet bR _,VU (a:=v) (bt:=bt) W hf hb (W.frame _ _ _ st' λb hbf o e=>?_) (get?_update_seq hS' _) (λh'' tk'' k2=>?_) λh'' tk'' k2=>?_]
  . exact (az _ _ (λz:S=b=>hf (by rw[z];exact hbf))).trans e
  . exact hc h'' tk'' λb o q1 q2 e=>k2 b o q1 q2 (k1 b o q1 q2 e)
  . exact hR h'' tk'' λb o q1 q2 e=>k2 b o q1 q2 (k1 b o q1 q2 e)
def K5(hh:A.handled=AR)(hc:∀h' tk,(∀b o,s.heap.get? b=AQ o->h'.get? b=AQ o)->LtAt A.in1 { s with heap:=h',toks:=tk } b a bt)(h:∀h' tk,(∀b o,s.heap.get? b=AQ o->h'.get? b=AQ o)->Q (if bt=AS then b else a) { s with heap:=h',toks:=tk }):sC (model prog w) A (call (.builtin "min") [a,b]) Q E s:=by
  refine kmb_tree PySem.F.kind_min PySem.F.plain_min PySem.F.entry_min (PySem.F.args_min2 _ _) ?_;show sC _ A.in1 (Builtin.Builtins.bindParams "min" ["key","default"] 0 #[[],[]] >>= _) _ _ s;refine sj (wpAny_of_eq (show Builtin.Builtins.bindParams "min" ["key","default"] 0 #[[],[]]=pure [AR,AR]from rfl) ?_);show sC _ A.in1 (newTuple [a,b] >>= _) _ _ s;refine sj (tT ?_);have hT:(s.heap.push { cls:=.type "tuple",data:=.seq (r9 [a,b]) }).IsTuple s⁻¹ (r9 [a,b]):=#[_,aE _ rfl,rfl,0,rfl];have hz:(s.heap.push { cls:=.type "tuple",data:=.seq (r9 [a,b]) }).objs.size=s⁻¹+1:=cZ ..;have k0:∀b' o,s.heap.get? b'=AQ o->(s.heap.push { cls:=.type "tuple",data:=.seq (r9 [a,b]) }).get? b'=AQ o:=λb' o q=>ag _ q;have hold:∀b o,s.heap.get? b=AQ o->b<s⁻¹:=λb o q=>au q;refine sj (Aq hT (sj (tT ?_)));rw[WC];refine sk #[plainId_quiet bR _,?_];generalize s.heap.push { cls:=.type "tuple",data:=.seq (r9 [a,b]) }=h1 at *;generalize hTe:s⁻¹=T at *;have gI:(h1.push { cls:=.type "tuple_iterator",data:=.fields (r9 [.ref T,.int 0 0]) }).IsTupleIter h1.objs.size T 0:=#[_,aE _ rfl,rfl,rfl];have gT:=hT.push { cls:=.type "tuple_iterator",data:=.fields (r9 [.ref T,.int 0 0]) };have k1:∀b' o,s.heap.get? b'=AQ o->(h1.push { cls:=.type "tuple_iterator",data:=.fields (r9 [.ref T,.int 0 0]) }).get? b'=AQ o:=λb' o q=>ag _ (k0 b' o q);have hz1:(h1.push { cls:=.type "tuple_iterator",data:=.fields (r9 [.ref T,.int 0 0]) }).objs.size=h1.objs.size+1:=cZ ..;generalize h1.push { cls:=.type "tuple_iterator",data:=.fields (r9 [.ref T,.int 0 0]) }=h2 at *;generalize h1.objs.size=I at *;have a1:Nat.lt T I:=by rw[hz];exact dL _
  have a2:Nat.lt I h2.objs.size:=by rw[hz1];exact dL _
  have W:=Walks.tuple (prog:=prog) (w:=w) (A:=A.in1) hh I T (ax a1) (r9 [a,b]);refine Qh (S:=h2.objs.size) (a:=a) (b:=b) (bt:=bt) W (λq=>?_) (λv q=>?_) (λv q=>?_) (W.frame 0 _ _ #[gI,gT] λb Z o q=>ag _ q) (aE _ rfl) (λh' tk kp=>hc h' tk λb o q=>?_) λh' tk kp=>h h' tk λb o q=>?_
  . rcases AZ.mp q with e | q
    . exact cH a2 e
    . exact cH (gk a1 a2) (Bb.mp q)
  . cases q;rfl
  . cases q;rfl
  all_goals
    have b1:=gk (hold b o q) a1;exact kp b o (λz=>ax b1 (Bb.mp z)) (ax (gk b1 a2)) (ag _ (k1 b o q))
end
mutual section
def zfl(K:su):List V->Hp->VK->Prop:=λxs H Q=>∃(p r:sv) (i j k m:Int),xs=[.ref p,.ref r]/\SqT K H p [.int i,.int j]/\SqT K H r [.int k,.int m]/\Q (if k<i\/(k=i/\m<j)then .ref r else .ref p) H
def zcz(i j k m:Int):ltD (.tup [.int k,.int m]) (.tup [.int i,.int j])=decide (k<i\/(k=i/\m<j)):=by
 erw[ltD,wL,eqD]
 by_cases h1:k=i
 ·subst h1;by_cases h2:m=j
  ·subst h2;simp
  ·simp [h2]
 ·simp [h1]
def zd7(hc:X.calm=AS)(hu:X.A.units+100<cLine):w8 X (.builtin "min") (zfl X.K):=by
 intros xs us Q I r h;let#[p,q,i,j,k,m,rfl,hp,hq,hQ]:=h;let#[u,v,rfl,r1,r2]:=V8 r;have d1:Is X.K H (.tup [.int i,.int j]) (.ref p):=by erw[Is,Iss];exact#[p,_,rfl,hp,_,_,rfl,rfl,_,_,rfl,rfl,rfl]
 have d2:Is X.K H (.tup [.int k,.int m]) (.ref q):=by erw[Is,Iss];exact#[q,_,rfl,hq,_,_,rfl,rfl,_,_,rfl,rfl,rfl]
 refine K5 (bt:=decide (k<i\/(k=i/\m<j))) (I.ok.hd hc) (λh' tk kp=>?_) λh' tk kp=>#[_,H,I.kept kp,?_,hQ]
 ·rw[<- zcz];exact Qr (I.kept kp) 50 X.A.in1 _ _ _ _ _ _ (by show X.A.units+1+50<cLine;lia) (by erw[dpD,vH];decide) (by erw[okD,Zz,and_self]) d2 d1 r2 r1
 ·by_cases g:k<i\/(k=i/\m<j)
  ·rw[w6 g,w6 (u6 g)];exact r2
  ·rw[w9 g,w9 ↥g];exact r1
def zf6(y l:())(e:Nat):Prop:=e+y.length<=l.length/\(l.drop e).take y.length=y
instance (y l:()) (e:Nat):Decidable (zf6 y l e):=by unfold zf6;infer_instance
def zhh(y l:()):Option (() × ()):=((aJ (l.length+1)).find? λe=>decide (zf6 y l e)).map λe=>(l.take e,l.drop (e+y.length))
theorem Zb{D:sv}(hg:Gl X cn)(hm:X.mg cn=AQ (.ref D))(hdb:(cn ==("__debug__" : sF))=AT)(xc:Xm X.K D=AS)(hsu:∀e,PSs (Cx.suite X e) (b0::suite) th)(I:Inv X AU σ H s)(hob:∃t cx kx,s.heap.get? x=AQ (xog C dx t (.ref T) cx kx))(hoT:∃oT ts,s.heap.get? T=AQ oT/\oT.data=.fields ts/\3<ts.size)(fT:wo X AU H T)(hb:dh X.K (.ref C) (.ref D)=AQ AS)(q:th Dd σ H):sC (model X.prog X.w) X.A (handleBy (.ref x) X.env (.ExceptHandler (AQ (.Name cn np)) AR (b0::suite) hpos::hs)) (SP X AU Dd) X.xe s:=by
 let#[t,cx,kx,ob]:=hob;let#[oT,ts,eT,dT,zT]:=hoT;have I':=Inv.suite I (.ref x);refine wpAny_handleBy_cons (codeAny_handlers_test (ub (X:=Cx.suite X (.ref x)) I' hg hm (zep I.kIn xc ob hb ?_) hdb)) (by intro q;cases q);refine codeAny_handlers_suite ?_;unfold setFlight;refine sj (tK ob rfl (x:=.ref T) rfl ?_);rw[w6 (show (r8 T != p9)=AS from by simp)];refine tI eT dT zT ?_;let#[f0,f1,f2,f3,f4,f5]:=fT
 have I2:Inv X AU σ H { s with heap:=s.heap.update T (Obj.mapFields (·.setIfInBounds 3 ((AR:Option sv).elim p9 λf=>rawInt f))) } :=
  I.turned (t':=s.toks) (λb o hb e=>(az _ _ (Ne.symm hb)).trans e) f0 f1 f3 f4 f5
 refine tz (thn (hsu _ AU _ σ H _ (Inv.suite I2 (.ref x)) q) λfl s4 q4=>?_)
 cases fl with
 | next =>
  let#[σ4,H4,I4,n4]:=q4;exact#[_,_,Inv.unsuite I I4,n4]
 | brk =>
  let#[σ4,H4,I4,n4]:=q4;exact#[_,_,Inv.unsuite I I4,n4]
 | cont =>
  let#[σ4,H4,I4,n4]:=q4;exact#[_,_,Inv.unsuite I I4,n4]
 | ret v =>
  let#[y,σ4,H4,I4,r4,n4]:=q4;exact#[y,_,_,Inv.unsuite I I4,r4,n4]
def za7(K:su)(i:Nat)(D:sv)(te:TX)(th:TS):TS:=λDd σ H=>te σ H (λv H1=>Dd.nx (σ.set i (AQ v)) H1) λcls dx H1=>∃C,cls=.ref C/\dh K (.ref C) (.ref D)=AQ AS/\∀x,H1 x=AR->th Dd σ (upd H1 x (XT x C dx))
def zaa{D:sv}(hN:X.N.Nodup)(hy:X.N[i]? = AQ y)(hly:Loc X.env.scope y)(hf:X.fn y=AS\/X.env.scope.names.lookup y=AQ .local)(hst:X.stack=X.env::X.outer/\X.env.frame=AQ X.env.locals)(he:PEX X e te)(hg:Gl X cn)(hm:X.mg cn=AQ (.ref D))(xc:Xm X.K D=AS)(hsu:∀e,PSs (Cx.suite X e) (b0::suite) th)(hdb:‹(cn ==("__debug__" : sF))=AT›)(hsw:‹swapsWith e (AQ (.Name y yp)) apos.line X.env=pure AT›) :
  PS X (.Try [.Assign [.Name y yp] e apos] (.ExceptHandler (AQ (.Name cn np)) AR (b0::suite) hpos::hs) [] [] pos) (za7 X.K i D te th):=by
 intros D I hq;refine AA (tN (Aw (tE (he AU s σ H _ _ I hq) (λv s1=>el5 λz H1 I1 r1 q1=>?_) λe s1 fl=>?_) hsw))
 ·exact ZH I1 hN hy hly r1 (λs2 I2=>tG (tG #[_,H1,I2,q1])) hf
 ·let#[cx,kx,H1,x,C,t,dx,tb,rfl,I1,ob,tr,fx,fT,C',ec,hsb,q1]:=fl;cases ec;have fr:X.A.frames=AQ (X.env::X.outer):=by rw[<- hst.1];exact I1.ok.frames
  have ff:s1.heap.FunFrames X.base (X.env::X.outer):=by rw[<- hst.1];exact I1.stack
  refine ZV fr ff hst.2 hst.2 ob tr λh' T oT ts e1 nT oldT e2 d2 z2 k1 k2=>?_
  have fT':wo X AU H1 T:=by
   rcases oldT with z | z
   ·exact fT T z
   ·exact I1.fpOk z (I1.hok.fresh z)
  have tbs:∀b,tb=.ref b->H1 b=AR:=λb hb=>(fT b hb).1
  have nch:∀b o,s1.heap.get? b=AQ o->b ∉ (x::T::tbL tb)->b≠x/\tb≠.ref b:=λb o Z hb=>by
   refine#[λz=>hb (by simp [z]),λz=>hb ?_];rw[z];simp [tbL]
  have un:Un (frs X.stack) (x::T::tbL tb) H1 H1 s1.heap h':=by
   rw[hst.1];refine#[λb o e n hb hc=>?_,λb o e n hb hc=>?_,λb o e n Z=>n,λb o e hc=>?_,λb xs e=>e,λb o u e=>e,λb ps e=>#[#[],by rw[e];simp]]
   ·let#[a1,a2]:=nch b o e hc;exact k1 b o a1 a2 hb e
   ·let#[a1,a2]:=nch b o e hc;exact k2 b o a1 a2 e
   ·let#[a1,a2]:=nch b o e hc;let#[sl,q]:=k2 b o a1 a2 e;exact#[_,q]
  have hok:HOk X.prog X.w H1 h':=λb u e=>by
   refine (I1.hok b u e).stay (λc v hc q=>k1 c v ?_ ?_ ?_ q) (λZ q=>q) λZ Z q=>q
   ·rintro rfl;rcases hc with rfl | hc
    ·rw[fx.1]at e;cases e
    ·rw[fx.1]at hc;cases hc
   ·intro z;have:=tbs c z;rcases hc with rfl | hc
    ·rw[this]at e;cases e
    ·rw[this]at hc;cases hc
   ·intro z;rw[<- hst.1]at z;have:=I1.stkFree c z;rcases hc with rfl | hc
    ·rw[this]at e;cases e
    ·rw[this]at hc;cases hc
  have I2:Inv X AU σ H1 { s1 with heap:=h' }:=I1.call' (s':={ s1 with heap:=h' }) rfl un hok I1.bare λb hb=>by
   have fb:wo X AU H1 b:=by
    rcases AZ.mp hb with z | z
    ·rw[z];exact fx
    ·rcases AZ.mp z with z | z
     ·rw[z];exact fT'
     ·cases tb with
      | ref b' =>
       have:b=b':=by simpa [tbL] using z
       rw[this];exact fT b' rfl
      | _=>simp [tbL]at z
   let#[_,a1,_,a3,a4,a5]:=fb;exact#[a3,a1,a4,a5]
  have I3:Inv X AU σ (upd H1 x (XT x C dx)) { s1 with heap:=h' }:=Inv.track I2 fx (zew e1);exact Zb hg hm hdb xc hsu I3 #[t,_,_,e1] #[oT,ts,e2,d2,z2] #[by rw[zt nT];exact fT'.1,fT'.2] hsb (q1 x fx.1)
def Jc(K:su)(D:sv)(te:TX)(th:TS):TS:=λDd σ H=>te σ H (λz H1=>Dd.rt z H1) λcls dx H1=>∃C,cls=.ref C/\dh K (.ref C) (.ref D)=AQ AS/\∀x,H1 x=AR->th Dd σ (upd H1 x (XT x C dx))
def Vu{D:sv}(hst:X.stack=X.env::X.outer/\X.env.frame=AQ X.env.locals)(he:PEX X e te)(hg:Gl X cn)(hm:X.mg cn=AQ (.ref D))(xc:Xm X.K D=AS)(hsu:∀e,PSs (Cx.suite X e) (b0::suite) th)(hdb:‹(cn ==("__debug__" : sF))=AT›) :
  PS X (.Try [.Return (AQ e) apos] (.ExceptHandler (AQ (.Name cn np)) AR (b0::suite) hpos::hs) [] [] pos) (Jc X.K D te th):=by
 intros D I hq;refine AA (tN (Av (tE (he AU s σ H _ _ I hq) (λv s1=>el5 λz H1 I1 r1 q1=>?_) λe s1 fl=>?_)))
 ·exact#[z,σ,H1,I1,r1,q1]
 ·let#[cx,kx,H1,x,C,t,dx,tb,rfl,I1,ob,tr,fx,fT,C',ec,hsb,q1]:=fl;cases ec;have fr:X.A.frames=AQ (X.env::X.outer):=by rw[<- hst.1];exact I1.ok.frames
  have ff:s1.heap.FunFrames X.base (X.env::X.outer):=by rw[<- hst.1];exact I1.stack
  refine ZV fr ff hst.2 hst.2 ob tr λh' T oT ts e1 nT oldT e2 d2 z2 k1 k2=>?_
  have fT':wo X AU H1 T:=by
   rcases oldT with z | z
   ·exact fT T z
   ·exact I1.fpOk z (I1.hok.fresh z)
  have tbs:∀b,tb=.ref b->H1 b=AR:=λb hb=>(fT b hb).1
  have nch:∀b o,s1.heap.get? b=AQ o->b ∉ (x::T::tbL tb)->b≠x/\tb≠.ref b:=λb o Z hb=>by
   refine#[λz=>hb (by simp [z]),λz=>hb ?_];rw[z];simp [tbL]
  have un:Un (frs X.stack) (x::T::tbL tb) H1 H1 s1.heap h':=by
   rw[hst.1];refine#[λb o e n hb hc=>?_,λb o e n hb hc=>?_,λb o e n Z=>n,λb o e hc=>?_,λb xs e=>e,λb o u e=>e,λb ps e=>#[#[],by rw[e];simp]]
   ·let#[a1,a2]:=nch b o e hc;exact k1 b o a1 a2 hb e
   ·let#[a1,a2]:=nch b o e hc;exact k2 b o a1 a2 e
   ·let#[a1,a2]:=nch b o e hc;let#[sl,q]:=k2 b o a1 a2 e;exact#[_,q]
  have hok:HOk X.prog X.w H1 h':=λb u e=>by
   refine (I1.hok b u e).stay (λc v hc q=>k1 c v ?_ ?_ ?_ q) (λZ q=>q) λZ Z q=>q
   ·rintro rfl;rcases hc with rfl | hc
    ·rw[fx.1]at e;cases e
    ·rw[fx.1]at hc;cases hc
   ·intro z;have:=tbs c z;rcases hc with rfl | hc
    ·rw[this]at e;cases e
    ·rw[this]at hc;cases hc
   ·intro z;rw[<- hst.1]at z;have:=I1.stkFree c z;rcases hc with rfl | hc
    ·rw[this]at e;cases e
    ·rw[this]at hc;cases hc
  have I2:Inv X AU σ H1 { s1 with heap:=h' }:=I1.call' (s':={ s1 with heap:=h' }) rfl un hok I1.bare λb hb=>by
   have fb:wo X AU H1 b:=by
    rcases AZ.mp hb with z | z
    ·rw[z];exact fx
    ·rcases AZ.mp z with z | z
     ·rw[z];exact fT'
     ·cases tb with
      | ref b' =>
       have:b=b':=by simpa [tbL] using z
       rw[this];exact fT b' rfl
      | _=>simp [tbL]at z
   let#[_,a1,_,a3,a4,a5]:=fb;exact#[a3,a1,a4,a5]
  have I3:Inv X AU σ (upd H1 x (XT x C dx)) { s1 with heap:=h' }:=Inv.track I2 fx (zew e1);exact Zb hg hm hdb xc hsu I3 #[t,_,_,e1] #[oT,ts,e2,d2,z2] #[by rw[zt nT];exact fT'.1,fT'.2] hsb (q1 x fx.1)
theorem JB(bs:List Bool):(aJ bs.length).any (λi=>bs.getD i AT)=bs.any id:=by
 induction bs with
 | nil=>rfl
 | cons b bs ih =>
  rw[aG,dF,dJ,List.any_map,dJ,<- ih];rfl
def zg6(K:su):List V->Hp->VK->Prop:=λxs H Q=>∃(p:sv) (bs:List Bool),xs=[.ref p]/\SqL K H p (bs.map V.bl)/\Q (.bl (bs.any id)) H
def zf4(hc:X.calm=AS):w8 X (.builtin "any") (zg6 X.K):=by
 intros xs us Q I r h;let#[p,bs,rfl,hS,q]:=h;let#[u,rfl,ru]:=wK r;cases ru;let#[its,rv,pl,hz]:=I.list hS
 have hlen:its.length=bs.length:=by
  have:=rv.length;rw[aa]at this;exact this.symm
 have hh:X.A.in1.handled=AR:=I.ok.hd hc
 have hne:p≠s⁻¹:=by
  let#[o,n,e,_]:=pl;exact ax (au e)
 let#[f0,f1,f2,f3,f4,f5]:=I.fpOk (H':=H) (al _) (I.hok.fresh (al _));have I1:=I.kept (t':=s.toks) (h':=s.heap.push { cls:=.type "list_iterator",data:=.fields (r9 [.ref p,.int 0 0]) }) λb o e=>ag _ e;refine call_any_walk (tS pl.isList ?_);refine#[s⁻¹,_,_,_,_,_,λi=>bs.getD i AT,rfl,Walks.list hh s⁻¹ p hne its.toArray,#[#[_,aE _ rfl,rfl,rfl],?_],?_,?_]
 ·let#[o,n,e,c,d,dt]:=pl;exact#[o,ag _ e,c,n,dt]
 ·intro i v s' Q' E' hv hq;have:=Zq rv (i:=i) (v:=v) ↥hv;rw[this];exact sP hq
 ·intro h' tk hk
  have e:(aJ its.toArray.size).any (λi=>bs.getD i AT)=bs.any id:=by
   rw[ak,hlen,JB]
  rw[e];refine#[.bl _,H,?_,rfl,q];exact I1.turned (t':=tk) (it:=s⁻¹) (λb o hb q=>hk b o ↥hb q) f0 f1 f3 f4 f5
def CompEL(K:su)(a:sv)(g:TG)(tt:TT)(te:TE)(own:Nat)(ix:())(σ:L2.St)(H1:Hp)(Q:VK)(D:sv):Prop:=Y3 (Iel K a) g tt te own ix σ H1 Q D
def zd8{K:su}:qH (Q9 K ta) g tt te own ix σ H Q=ta σ H λvs H1=>∃a,vs=[.ref a]/\(∃xs,SqL K H1 a xs)/\∀D,H1 D=AR->CompEL K a g tt te own ix σ H1 Q D:=rfl
def CompEL.by{g:TG}{tt:TT}{te:TE}{own:Nat}{ix:()}{σ:L2.St}{H1:Hp}{Q:VK}{D:sv}{K:su}(Pv:Nat->List V->Hp->Prop)(h0:Pv 0 [] (upd H1 D (.lst [])))(hl:∀i AW H',i<=xs.length->Pv i AW H'->SqL K H' a xs)(hs:∀i x AW H' p,xs[i]? = AQ x->Pv i AW H'->H' p=AR->g (.ref p) (vR σ own ix) (upd H' p (.tup [.int (i:Nat),x])) λσ3 H3=>xm (vR σ own ix) σ3/\tt σ3 H3 λb H4=>if b=AS then
   te σ3 H4 λv H5=>H5 D=AQ (.lst AW)/\AW.length<sr/\CNx xs.length i Pv (AW ++ [v]) (upd H5 D (.lst (AW ++ [v])))else CNx xs.length i Pv AW H4) (hd:∀AW H',Pv xs.length AW H'->Q (.ref D) H'):CompEL K a g tt te own ix σ H1 Q D:=by
 refine#[λi m AW H=>m=xs.length - i/\i<=xs.length/\Pv i AW H,#[xs.length,by simp,ay _,h0],?_];rintro i m AW H' ⟨rfl,hi,p⟩;have q:=hl i AW H' hi p;by_cases hlt:i<xs.length
 ·refine .inr #[#[xs,xs[i],q,by simp [hlt]],λv H2 y=>?_];let#[p',x,hp,hx,ev,eH]:=y;subst ev eH;exact hs i x AW H' p' (hx xs q) p hp
 ·have e:i=xs.length:=⋯;subst e;exact .inl #[#[xs,q,rfl],hd AW H' p]
end
open PySem PySem.W PyProof.Rows
end in def J4(lt:Nat->Nat->Bool){α:Type}:AO α->α
 | .ret a=>a
 | .ask i j k=>J4 lt (k (lt i j))
def Kok(lt:Nat->Nat->Bool)(n:Nat){α:Type}:AO α->(α->Prop)->Prop
 | .ret a,Q=>Q a
 | .ask i j k,Q=>i<n/\j<n/\Kok lt n (k (lt i j)) Q
section
variable{lt:Nat->Nat->Bool}{n:Nat}{α β:Type}
theorem Kok.mono(hq:∀a,Q a->Q' a):∀(t:AO α),Kok lt n t Q->Kok lt n t Q'
 | .ret a,h=>hq a h
 | .ask _ _ k,h=>#[h.1,h.2.1,Kok.mono hq (k _) h.2.2]
theorem Kok.bind : ∀(t:AO α),Kok lt n t (λa=>Kok lt n (f a) Q)->Kok lt n (t.bind f) Q
 | .ret _,h=>h
 | .ask _ _ k,h=>#[h.1,h.2.1,Kok.bind (k _) h.2.2]
theorem Kok.run : ∀(t:AO α),Kok lt n t Q->Q (J4 lt t)
 | .ret _,h=>h
 | .ask _ _ k,h=>Kok.run (k _) h.2.2
theorem Kok.same{Q:α->Prop}:∀(t:AO α),Kok lt n t Q->Kok lt n t (λa=>a=J4 lt t)
 | .ret _,h=>rfl
 | .ask _ _ k,h=>#[h.1,h.2.1,Kok.same (k _) h.2.2]
theorem Kok.wp{I:sy->Prop}(hc:∀i j C s,i<n->j<n->I s->(∀s',I s'->C (lt i j) s')->cmp i j C s)(hR:∀a s,Q a->I s->R a s):∀(t:AO α) (s:sy),I s->Kok lt n t Q->t.kasWp cmp R s
 | .ret a,s,hI,h=>hR a s h hI
 | .ask i j k,s,hI,h=>hc i j _ s h.1 h.2.1 hI λs' hI'=>Kok.wp hc hR (k _) s' hI' h.2.2
end
structure Wk(lt:Nat->Nat->Bool):Prop where
 asym:∀a b,lt a b=AS->lt b a=AT
 ntr:∀a b c,lt b a=AT->lt c b=AT->lt c a=AT
section
mutual section
variable{lt:Nat->Nat->Bool}{n:Nat}
abbrev Lq(lt:Nat->Nat->Bool)(a b:Nat):Prop:=lt b a=AT
theorem Wk.refl(W:Wk lt)(a:Nat):Lq lt a a:=by
 cases h:lt a a with
 | false=>exact h
 | true=>exact w4 h (by rw[W.asym a a h];decide)
abbrev pg(p:Array Nat)(i:Nat):Nat:=p.getD i 0
def VF(p:Array Nat)(i:Nat):pg p i=(p[i]?).getD 0:=by simp [pg,Array.getD_eq_getD_getElem?]
def Up(lt:Nat->Nat->Bool)(p:Array Nat)(m:Nat):Prop:=∀i j,i<j->j<m->Lq lt (pg p i) (pg p j)
def Dn(lt:Nat->Nat->Bool)(p:Array Nat)(m:Nat):Prop:=∀i j,i<j->j<m->Lq lt (pg p j) (pg p i)
def Rg(n:Nat)(p:Array Nat):Prop:=p.toList.Perm (aJ n)
def Rg.size(h:Rg n p):p.size=n:=by have:=h.length_eq;simpa using this
theorem Rg.bd(h:Rg n p)(hi:i<n):pg p i<n:=by
 have hs:=h.size;have hi':i<p.size:=⋯;have e:pg p i=p[i]:=by simp [pg,fV,hi']
 rw[e];have hm:p[i] ∈ p.toList:=Array.mem_toList_iff.mpr (Array.getElem_mem hi');exact Bc.mp (h.mem_iff.mp hm)
def vS(hj:j<=p.size)(k:Nat):pg (kas_rev p i j) k=if i<=k/\k<j then pg p (i+j - 1 - k)else pg p k:=by rw[VF,kas_rev,getElem?_mirror_all hj];split <;> rw[VF]
def Rg.rev(h:Rg n p)(i j:Nat):Rg n (kas_rev p i j):=(Array.perm_iff_toList_perm.mp (mirror_perm p i j _)).trans h
def Rg.bub(h:Rg n p)(i j:Nat):Rg n (bubble p i j):=(Array.perm_iff_toList_perm.mp (bubble_perm p i j)).trans h
theorem UT(W:Wk lt)(hp:Rg n p):∀(f k:Nat),1<=k->k+f<=n->Up lt p k->Kok lt n (kas_asc p f k) (λm=>k<=m/\m<=k+f/\Up lt p m/\(m=k+f\/lt (pg p m) (pg p (m - 1))=AS))
 | 0,k,h1,h2,hu=>#[⋯,⋯,hu,Or.inl ⋯]
 | f+1,k,h1,h2,hu=>by
  refine#[hp.bd ⋯,hp.bd ⋯,?_];rcases cz (lt (pg p k) (pg p (k - 1)))with hc | hc
  ·show Kok lt n (if lt (pg p k) (pg p (k - 1))=AS then .ret k else _) _;rw[w6 hc];exact#[⋯,⋯,hu,Or.inr hc]
  ·show Kok lt n (if lt (pg p k) (pg p (k - 1))=AS then .ret k else _) _;rw[w9 (by rw[hc];decide)];refine (UT W hp f (k+1) ⋯ ⋯ λi j hij hj=>?_).mono (λm hm=>#[⋯,⋯,hm.2.2.1,?_]) _
   ·by_cases e:j=k
    ·subst e;by_cases e2:i=j - 1
     ·subst e2;exact hc
     ·exact W.ntr _ _ _ (hu i (j - 1) ⋯ ⋯) hc
    ·exact hu i j hij ⋯
   ·rcases hm.2.2.2 with h | h
    ·exact Or.inl ⋯
    ·exact Or.inr h
def Ev(lt:Nat->Nat->Bool)(p:Array Nat)(a b:Nat):Prop:=∀i j,a<=i->i<b->a<=j->j<b->Lq lt (pg p i) (pg p j)
theorem zaL(hm:m<=p.size)(hq:q+1<=m)(hd:Dn lt p m)(he:Ev lt p (m - (q+1)) m):Dn lt (kas_rev p (m - (q+1)) m) m:=by
 intro i j hij hj;rw[vS hm,vS hm];by_cases h1:m - (q+1)<=i
 ·rw[w6 (show m - (q+1)<=i/\i<m by lia),w6 (show m - (q+1)<=j/\j<m by lia)];exact he _ _ ⋯ ⋯ ⋯ ⋯
 ·rw[w9 (show ¬ (m - (q+1)<=i/\i<m) by lia)];split
  ·exact hd _ _ ⋯ ⋯
  ·exact hd _ _ ⋯ ⋯
end
set_option tactic.hygienic true in
theorem Z0(W:Wk lt):∀(f:Nat) (p:Array Nat) (k q:Nat),Rg n p->1<=k->k+f<=n->q+1<=k->Dn lt p k->Ev lt p (k - (q+1)) k ->
  Kok lt n (kas_desc f p k q) (λr=>Rg n r.1/\k<=r.2.1/\r.2.1<=k+f/\r.2.2+1<=r.2.1/\Dn lt r.1 r.2.1/\Ev lt r.1 (r.2.1 - (r.2.2+1)) r.2.1)
 | 0,p,k,q,hp,h1,h2,hq,hd,he=>#[hp,al _,Nat.le_add_right _ _,hq,hd,he]
 | f+1,p,k,q,hp,h1,h2,hq,hd,he=>by
  have hps:=hp.size;refine#[hp.bd ⋯,hp.bd ⋯,?_]
  have one:∀(p:Array Nat),Ev lt p (k+1 - (0+1)) (k+1):=λp i j a b c d=>by
   have:i=j:=⋯;subst this;exact W.refl _
  rcases cz (lt (pg p k) (pg p (k - 1)))with hc | hc
  ·show Kok lt n (if lt (pg p k) (pg p (k - 1))=AS then _ else _) _;rw[w6 hc];have hle:Lq lt (pg p k) (pg p (k - 1)):=W.asym _ _ hc;split
   ·rename_i hq0;refine (Z0 W f _ (k+1) 0 (hp.rev _ _) ⋯ ⋯ ⋯ (λi j hij hj=>?_) (one _)).mono (λr hr=>#[hr.1,⋯,⋯,hr.2.2.2]) _;by_cases e:j=k
    ·subst e;rw[vS ⋯,vS ⋯,w9 ⋯];split
     ·exact W.ntr _ _ _ hle (he _ _ ⋯ ⋯ ⋯ ⋯)
     ·exact W.ntr _ _ _ hle (hd _ _ ⋯ ⋯)
    ·exact zaL ⋯ hq hd he i j hij ⋯
   ·refine (Z0 W f _ (k+1) 0 hp ⋯ ⋯ ⋯ (λi j hij hj=>?_) (one _)).mono (λr hr=>#[hr.1,⋯,⋯,hr.2.2.2]) _;by_cases e:j=k
    ·subst e;by_cases e2:i=j - 1
     ·subst e2;exact hle
     ·exact W.ntr _ _ _ hle (hd i (j - 1) ⋯ ⋯)
    ·exact hd i j hij ⋯
  ·show Kok lt n (if lt (pg p k) (pg p (k - 1))=AS then _ else _) _;rw[w9 (by rw[hc];decide)];refine#[hp.bd ⋯,hp.bd ⋯,?_];rcases cz (lt (pg p (k - 1)) (pg p k))with hd2 | hd2
   ·show Kok lt n (if lt (pg p (k - 1)) (pg p k)=AS then _ else _) _;rw[w6 hd2];exact#[hp,al _,Nat.le_add_right _ _,hq,hd,he]
   ·show Kok lt n (if lt (pg p (k - 1)) (pg p k)=AS then _ else _) _;rw[w9 (by rw[hd2];decide)];refine (Z0 W f _ (k+1) (q+1) hp ⋯ ⋯ ⋯ (λi j hij hj=>?_) (λi j a b c d=>?_)).mono (λr hr=>#[hr.1,⋯,⋯,hr.2.2.2]) _
    ·by_cases e:j=k
     ·subst e;by_cases e2:i=j - 1
      ·subst e2;exact hd2
      ·exact W.ntr _ _ _ hd2 (hd i (j - 1) ⋯ ⋯)
     ·exact hd i j hij ⋯
    ·have b1:∀i,k+1 - (q+1+1)<=i->i<k->Lq lt (pg p i) (pg p (k - 1))/\Lq lt (pg p (k - 1)) (pg p i):=λi a b=>#[he _ _ ⋯ ⋯ ⋯ ⋯,he _ _ ⋯ ⋯ ⋯ ⋯];by_cases e:j=k
     ·subst e;by_cases e3:i=j
      ·subst e3;exact W.refl _
      ·exact W.ntr _ _ _ (b1 i ⋯ ⋯).1 hc
     ·by_cases e3:i=k
      ·subst e3;exact W.ntr _ _ _ hd2 (b1 j ⋯ ⋯).2
      ·exact he _ _ ⋯ ⋯ ⋯ ⋯
theorem WJ(W:Wk lt)(hp:Rg n p)(h1:1<=m)(hm:m<=n)(hd:Dn lt p m):Kok lt n (kas_tail3 m n p) (λr=>Rg n r.2/\1<=r.1/\r.1<=n/\Up lt r.2 r.1):=by have hps:=hp.size;unfold kas_tail3;refine Kok.bind _ ((UT W (hp.rev 0 m) (n - m) m h1 ⋯ λi j hij hj=>?_).mono (λk hk=>#[hp.rev 0 m,by show 1<=k;lia,by show k<=n;lia,hk.2.2.1]) _);rw[vS ⋯,vS ⋯,w6 ⋯,w6 ⋯];exact hd _ _ ⋯ ⋯
theorem ju(W:Wk lt)(hp:Rg n p)(h1:1<=m)(hm:m+1<=n)(hd:Dn lt p (m+1)):Kok lt n (kas_descPart m n p) (λr=>Rg n r.2/\1<=r.1/\r.1<=n/\Up lt r.2 r.1):=by
 unfold kas_descPart;refine Kok.bind _ ((Z0 W (n - (m+1)) p (m+1) 0 hp ⋯ ⋯ ⋯ hd λi j a b c d=>?_).mono (λr hr=>?_) _)
 ·have:i=j:=⋯;subst this;exact W.refl _
 ·let#[r1,r2,r3,r4,r5,r6]:=hr;have hs:=r1.size
  (try dsimp only)
  split
  ·exact WJ W (r1.rev _ _) ⋯ ⋯ (zaL ⋯ r4 r5 r6)
  ·exact WJ W r1 ⋯ ⋯ r5
theorem KI(W:Wk lt)(hp:Rg n p)(hn:1<=n):Kok lt n (kas_count n p) (λr=>Rg n r.2/\1<=r.1/\r.1<=n/\Up lt r.2 r.1):=by
 have hps:=hp.size;unfold kas_count;refine Kok.bind _ ((UT W hp (n - 1) 1 (al _) ⋯ λi j hij hj=>by lia).mono (λm hm=>?_) _);let#[m1,m2,mu,ms]:=hm;by_cases e:(m == n)=AS
 ·rw[w6 e];exact#[hp,by show 1<=m;lia,by show m<=n;lia,mu]
 ·rw[w9 e];have hne:m≠n:=λh=>e (by rw[h];exact beq_self_eq_true _)
  have hlt:lt (pg p m) (pg p (m - 1))=AS:=by
   rcases ms with h | h
   ·lia
   ·exact h
  have hle:Lq lt (pg p m) (pg p (m - 1)):=W.asym _ _ hlt;by_cases h1:m > 1
  ·rw[w6 h1];refine#[hp.bd ⋯,hp.bd ⋯,?_];rcases cz (lt (pg p 0) (pg p (m - 1)))with hc | hc
   ·show Kok lt n (if lt (pg p 0) (pg p (m - 1))=AS then _ else _) _;rw[w6 hc];exact#[hp,by show 1<=m;lia,by show m<=n;lia,mu]
   ·show Kok lt n (if lt (pg p 0) (pg p (m - 1))=AS then _ else _) _;rw[w9 (by rw[hc];decide)]
    have u0:∀i,i<m->Lq lt (pg p 0) (pg p i):=λi hi=>by
     by_cases h:i=0
     ·subst h;exact W.refl _
     ·exact mu 0 i ⋯ hi
    have ul:∀i,i<m->Lq lt (pg p i) (pg p (m - 1)):=λi hi=>by
     by_cases h:i=m - 1
     ·subst h;exact W.refl _
     ·exact mu i (m - 1) ⋯ ⋯
    have ev:∀i j,i<m->j<m->Lq lt (pg p i) (pg p j):=λi j hi hj=>W.ntr _ _ _ (ul i hi) (W.ntr _ _ _ hc (u0 j hj));refine ju W (hp.rev 0 m) ⋯ ⋯ λi j hij hj=>?_;by_cases h:j=m
    ·subst h;rw[vS ⋯,vS ⋯,w9 ⋯,w6 ⋯];exact W.ntr _ _ _ hle (ev _ _ ⋯ ⋯)
    ·rw[vS ⋯,vS ⋯,w6 ⋯,w6 ⋯];exact ev _ _ ⋯ ⋯
  ·rw[w9 h1];refine ju W hp ⋯ ⋯ λi j hij hj=>?_;have h0:i=m - 1:=⋯;have h1:j=m:=⋯;subst h0 h1;exact hle
theorem ZI(W:Wk lt)(hp:Rg n p)(hk:k<n)(hu:Up lt p k):∀(f l r:Nat),l<=r->r<=k->r - l<=f->(∀i,i<l->Lq lt (pg p i) (pg p k))->(∀i,r<=i->i<k->Lq lt (pg p k) (pg p i)) ->
  Kok lt n (kas_place p k f l r) (λm=>m<=k/\(∀i,i<m->Lq lt (pg p i) (pg p k))/\(∀i,m<=i->i<k->Lq lt (pg p k) (pg p i)))
 | 0,l,r,hl,hr,hf,h1,h2=>by
  have:l=r:=⋯;subst this;exact#[hr,h1,h2]
 | f+1,l,r,hl,hr,hf,h1,h2=>by
  unfold kas_place;by_cases e:l ≥ r
  ·rw[w6 e];have:l=r:=⋯;subst this;exact#[hr,h1,h2]
  ·rw[w9 e];refine#[hp.bd hk,hp.bd ⋯,?_];rcases cz (lt (pg p k) (pg p ((l+r) / 2)))with hc | hc
   ·show Kok lt n (if lt (pg p k) (pg p ((l+r) / 2))=AS then _ else _) _;rw[w6 hc];refine ZI W hp hk hu f l ((l+r) / 2) ⋯ ⋯ ⋯ h1 λi hi hik=>?_;by_cases e2:i=(l+r) / 2
    ·subst e2;exact W.asym _ _ hc
    ·exact W.ntr _ _ _ (W.asym _ _ hc) (hu _ _ ⋯ hik)
   ·show Kok lt n (if lt (pg p k) (pg p ((l+r) / 2))=AS then _ else _) _;rw[w9 (by rw[hc];decide)];refine ZI W hp hk hu f ((l+r) / 2+1) r ⋯ hr ⋯ (λi hi=>?_) h2;by_cases e2:i=(l+r) / 2
    ·subst e2;exact hc
    ·exact W.ntr _ _ _ (hu i ((l+r) / 2) ⋯ ⋯) hc
theorem zbb(hk:k<p.size)(hl:l<=k)(i:Nat):pg (bubble p k (k - l)) i=if i=l then pg p k else if l<i/\i<=k then pg p (i - 1)else pg p i:=by
 have e:k - (k - l)=l:=⋯;rw[VF,getElem?_bubble hk (k - l) ⋯,e];by_cases h:i=l
 ·rw[w6 h,w6 h];exact (VF p k).symm
 ·rw[w9 h,w9 h];by_cases h':l<i/\i<=k
  ·rw[w6 h',w6 h'];exact (VF p (i - 1)).symm
  ·rw[w9 h',w9 h'];exact (VF p i).symm
theorem zaD(W:Wk lt):∀(f:Nat) (p:Array Nat) (k:Nat),Rg n p->k+f=n->Up lt p k->Kok lt n (kas_bin f p k) (λp'=>Rg n p'/\Up lt p' n)
 | 0,p,k,hp,hk,hu=>by
  have:k=n:=⋯;subst this;exact#[hp,hu]
 | f+1,p,k,hp,hk,hu=>by
  have hps:=hp.size;refine Kok.bind _ ((ZI W hp ⋯ hu k 0 k ⋯ ⋯ ⋯ (λi hi=>by lia) (λi h1 h2=>by lia)).mono (λl hl=>?_) _);let#[l1,l2,l3]:=hl;refine zaD W f _ (k+1) (hp.bub _ _) ⋯ λi j hij hj=>?_;rw[zbb ⋯ l1,zbb ⋯ l1];by_cases h1:i=l
  ·rw[w6 h1,w9 ⋯,w6 ⋯];exact l3 _ ⋯ ⋯
  ·rw[w9 h1];by_cases h2:j=l
   ·rw[w6 h2,w9 ⋯];exact l2 _ ⋯
   ·rw[w9 h2];by_cases h3:l<i/\i<=k
    ·rw[w6 h3,w6 ⋯];exact hu _ _ ⋯ ⋯
    ·rw[w9 h3];by_cases h4:l<j/\j<=k
     ·rw[w6 h4];by_cases h5:i=j - 1
      ·lia
      ·exact hu _ _ ⋯ ⋯
     ·rw[w9 h4];exact hu _ _ ⋯ ⋯
theorem X6(W:Wk lt)(hn:1<=n):Kok lt n (kas_sort n) (λp=>Rg n p/\Up lt p n):=by
 unfold kas_sort;refine Kok.bind _ ((KI W (p:=aU (aJ n)) (by unfold Rg;exact List.Perm.refl _) hn).mono (λr hr=>?_) _);let#[r1,r2,r3,r4]:=hr
 (try dsimp only)
 split
 ·have:max r.1 1=r.1:=⋯;rw[this];exact zaD W _ _ _ r1 ⋯ r4
 ·have:r.1=n:=⋯;rw[this]at r4;exact#[r1,r4]
end
end in def srt{α:Type}(lt:α->α->Bool)(d:α)(xs:List α):List α :=
 if xs.length<2 then xs else (J4 (λi j=>lt (xs.getD i d) (xs.getD j d)) (kas_sort xs.length)).toList.map λi=>xs.getD i d
structure WkO{α:Type}(lt:α->α->Bool):Prop where
 asym:∀a b,lt a b=AS->lt b a=AT
 ntr:∀a b c,lt b a=AT->lt c b=AT->lt c a=AT
set_option tactic.hygienic true in
def Vp{lt:α->α->Bool}(W:WkO lt)(d:α)(xs:List α):(srt lt d xs).Perm xs/\(srt lt d xs).Pairwise λa b=>lt b a=AT:=by
 unfold srt;split
 ·rename_i h;refine#[List.Perm.refl _,?_]
  match xs,h with
  | [],_=>exact List.Pairwise.nil
  | [a],_=>exact fm _ _
  | _::_::_,h=>exact w4 h (by simp)
 ·rename_i h;have W':Wk (λi j=>lt (xs.getD i d) (xs.getD j d)):=#[λa b=>W.asym _ _,λa b c=>W.ntr _ _ _];let#[h1,h2]:=Kok.run _ (X6 (n:=xs.length) W' ⋯);generalize J4 (λi j=>lt (xs.getD i d) (xs.getD j d)) (kas_sort xs.length)=p at h1 h2
  have e:(aJ xs.length).map (λi=>xs.getD i d)=xs:=by
   refine List.ext_getElem (by simp) λi a b=>?_;have hb:i<xs.length:=by simpa using b
   simp [hb]
  refine#[(h1.map (λi=>xs.getD i d)).trans (by rw[e]),?_];rw[List.pairwise_map,List.pairwise_iff_getElem];intro i j hi hj hij;have hs:=h1.size;have hi':i<p.size:=by simpa using hi
  have hj':j<p.size:=by simpa using hj
  have q:=h2 i j hij ⋯;have ei:pg p i=p.toList[i]:=by simp [pg,fV,hi']
  have ej:pg p j=p.toList[j]:=by simp [pg,fV,hj']
  rw[ei,ej]at q;exact q
theorem Qb{lt lt':Nat->Nat->Bool}{Q:α->Prop}(h:∀i j,i<n->j<n->lt i j=lt' i j):∀t:AO α,Kok lt n t Q->J4 lt t=J4 lt' t
 | .ret _,_=>rfl
 | .ask i j k,q=>by
  show J4 lt (k (lt i j))=J4 lt' (k (lt' i j));rw[<- h i j q.1 q.2.1];exact Qb h _ q.2.2
set_option tactic.hygienic true in
def zaK{lt lt':α->α->Bool}(W:WkO lt){d d':α}{xs:List α}(h:∀a ∈ xs,∀b ∈ xs,lt a b=lt' a b):srt lt d xs=srt lt' d' xs:=by
 have g:∀i,i<xs.length->∃a ∈ xs,xs.getD i d=a/\xs.getD i d'=a:=λi hi=>#[xs[i],dN hi,by rw[ae,af hi];rfl,by rw[ae,af hi];rfl];unfold srt;split
 ·rfl
 ·rename_i hl;have W':Wk (λi j=>lt (xs.getD i d) (xs.getD j d)):=#[λa b=>W.asym _ _,λa b c=>W.ntr _ _ _];have ok:=X6 (n:=xs.length) W' ⋯
  have e:=Qb (lt':=λi j=>lt' (xs.getD i d') (xs.getD j d')) (λi j hi hj=>by
   let#[a,ha,a1,a2]:=g i hi;let#[b,hb,b1,b2]:=g j hj;show lt (xs.getD i d) (xs.getD j d)=lt' (xs.getD i d') (xs.getD j d');rw[a1,a2,b1,b2]
   exact h a ha b hb) _ ok
  rw[<- e];let#[h1,_]:=Kok.run _ ok;refine bT λi hi=>?_;let#[a,_,a1,a2]:=g i (Bc.mp (h1.mem_iff.mp hi));rw[a1,a2]
def UQ{lt:β->β->Bool}(f:α->β)(d:α)(xs:List α):srt lt (f d) (xs.map f)=(srt (λa b=>lt (f a) (f b)) d xs).map f:=by
 have e:∀i,(xs.map f).getD i (f d)=f (xs.getD i d):=λi=>by
  rw[ae,ae,aq];cases xs[i]? <;> rfl
 unfold srt;rw[aa];split
 ·rfl
 ·erw[e,ce]
  rfl
end L3
namespace L3
open PySem PySem.W PyProof.Rows
structure Idp(n:Nat)(p:Array Nat)(m:Nat):Prop where
 r:Rg n p
 lo:∀i,i<m->pg p i<m
 hi:∀i,m<=i->i<n->pg p i=i
def Idp.up(h:Idp n p m)(hk:m<=k)(hn:k<=n):Idp n p k:=#[h.r,λi hi=>by
 by_cases e:i<m
 ·have:=h.lo i e;lia
 ·rw[h.hi i ⋯ ⋯];exact hi,λi a b=>h.hi i ⋯ b]
end L3
namespace L3
structure KeyFam(α:Type) where
 dec:α->List D
 lt:α->α->Bool
 fst:Bool
 d0:α
structure KeyFam.Ok{α:Type}(F:KeyFam α):Prop where
 w:WkO F.lt
 eq:∀a b,wL (F.dec a) (F.dec b)=F.lt a b
 ok:∀a b,Zz (F.dec a) (F.dec b)
 dp:∀a,vH (F.dec a)<40
 sh:∀a,∃d r,F.dec a=d::r/\((F.fst=AS/\∃n,d=.int n)\/(F.fst=AT/\∃l,d=.tup l))
def okF:List D->List D->Prop
 | d::l,e::m=>if eqD d e=AS then okF l m else okD d e
 | _,_=>True
structure KeyFam.OkF{α:Type}(F:KeyFam α):Prop where
 w:WkO F.lt
 eq:∀a b,wL (F.dec a) (F.dec b)=F.lt a b
 ok:∀a b,okF (F.dec a) (F.dec b)
 dp:∀a,vH (F.dec a)<40
 sh:∀a,∃d r,F.dec a=d::r/\((F.fst=AS/\∃n,d=.int n)\/(F.fst=AT/\∃l,d=.tup l))
theorem zaS:∀{l m:List D},Zz l m->okF l m
 | [],m,_=>by erw[okF]
 | d::l,[],_=>by erw[okF]
 | d::l,e::m,h=>by
  erw[Zz]at h
  erw[okF]
  split
  ·exact zaS h.2
  ·exact h.1
def KeyFam.Ok.f{F:KeyFam α}(h:F.Ok):F.OkF:=#[h.w,h.eq,λa b=>zaS (h.ok a b),h.dp,h.sh]
def Inv.repin(I:Inv X (AU ++ [(b,o)]) σ H s)(hs:X.s₀.heap.objs.size<=b)(hn:∀p ∈ X.pn ++ AU,p.1≠b)(sb:Heap.SameBut b s.heap h')(ho:h'.get? b=AQ o')(hd:∀v,o'.data≠.cell v) :
  Inv X (AU ++ [(b,o')]) σ H { s with heap:=h' }:=by
 have I1:Inv X AU σ H s:=I.unpinned;let#[p1,p2,p3,p4,p5]:=I.pin (b,o) (aF _ (aF _ (Bb.mpr rfl)))
 have I2:Inv X AU σ H { s with heap:=h' }:=Inv.turns I1 (fp:=[b]) (t':=s.toks) (λb' u hb e=>(sb.2 b' ↥hb).trans e) λb' hb=>by
  have e:b'=b:=by simpa using hb
  subst e;refine#[p2,p3,p4,.inr hs,λx c e z=>?_,hn];let#[v,o1,ho1,hd1]:=I.cell x c e;subst z;rw[p1]at ho1;cases ho1;exact p5 v hd1
 exact I2.pins_of λp hp=>by
  rcases Ba.mp hp with z | z
  ·exact I2.pin p (aF _ z)
  ·have e:p=(b,o'):=by simpa using z
   subst e;exact#[ho,p2,p3,p4,hd]
def Inv.newpin(I:Inv X AU σ H s)(hf:wo X AU H b)(ho:s.heap.get? b=AQ o)(hd:∀v,o.data≠.cell v):Inv X (AU ++ [(b,o)]) σ H s :=
 I.pins_of λp hp=>by
  rcases Ba.mp hp with z | z
  ·exact I.pin p (aF _ z)
  ·have e:p=(b,o):=by simpa using z
   subst e;exact#[ho,hf.1,hf.2.1,hf.2.2.1,hd]
set_option tactic.hygienic true in
theorem zds(I:Inv X AU σ H s)(hu:A.units+50<cLine):∀(l m:List D) (xs ys:List V) (its its':List sw) (i:Nat),Iss X.K H l xs->Iss X.K H m ys->Vals xs its->Vals ys its'->okF l m->vH l<40 ->
  (b=AS->i=0->(∃n r,l=.int n::r)/\∃n r,m=.int n::r)->Q (wL l m) s->PySem.W.KatLex X.prog X.w A b (decide (its.length<its'.length)) Q (its.zip its') i s
 | [],m,xs,ys,its,its',i,h1,h2,r1,r2,ok,hd,hb,q=>by
  erw[Iss]at h1
  subst h1;cases r1
  have e:wL [] m=decide (([]:List sw).length<its'.length):=by
   have e1:=h2.len;have e2:=r2.length;have e3:m.length=its'.length:=⋯;rw[<- e3]
   cases m with
   | nil=>simp [wL]
   | cons _ _=>simp [wL]
  rw[e]at q;rw[List.zip_nil_left];exact gx q
 | d::l,[],xs,ys,its,its',i,h1,h2,r1,r2,ok,hd,hb,q=>by
  erw[Iss]at h2
  subst h2;cases r2
  erw[wL]at q
  rw[List.zip_nil_right];exact gx ↥q
 | d::l,e::m,xs,ys,its,its',i,h1,h2,r1,r2,ok,hd,hb,q=>by
  erw[Iss]at h1 h2
  let#[x,xr,rfl,hx,hxr]:=h1;let#[y,yr,rfl,hy,hyr]:=h2
  cases r1 with | cons rx rxr =>
  cases r2 with | cons ry ryr =>
  erw[okF]at ok
  erw[vH]at hd
  rename_i u us v vs;rw[dq];refine PySem.W.kat_cons (qt I 45 A d e x y u v ⋯ ⋯ hx hy rx ry X.prog X.w _ _ ?_)
  cases he:eqD d e with
  | true =>
   refine PySem.W.kat_yes ?_;have:=zds I (b:=b) hu l m xr yr us vs (i+1) hxr hyr rxr ryr (by rw[w6 he]at ok;exact ok) ⋯ (λZ z=>w4 z ⋯) (by simpa only[wL,he,if_true] using q);simpa using this
  | false =>
   refine PySem.W.kat_no ?_;have q':Q (ltD d e) s:=by simpa only[wL,he,be,if_false] using q
   by_cases hbi:(b && i == 0)=AS
   ·rw[hbi]
    erw[ba,beq_iff_eq]at hbi
    let#[#[n,r,e1],n',r',e2]:=hb hbi.1 hbi.2;cases e1;cases e2
    erw[Is]at hx hy
    subst hx hy;let#[t,rfl]:=rx;let#[t',rfl]:=ry
    erw[ltD]at q'
    exact oneLt_int q'
   ·rw[show (b && i == 0)=AT by simpa using hbi];exact PySem.W.kat_one _ _ (Qr I 45 A d e x y u v ⋯ ⋯ (by rw[w9 (by rw[he];decide)]at ok;exact ok) hx hy rx ry X.prog X.w _ _ q')
def zce(I:Inv X AU σ H s)(hu:A.units+50<cLine)(hx:Is X.K H (.tup l) x)(hy:Is X.K H (.tup m) y)(rx:RelV x u)(ry:RelV y v)(ok:okF l m)(hd:vH l<40)(hb:b=AS->(∃n r,l=.int n::r)/\∃n r,m=.int n::r)(q:Q (wL l m) s):sC (model X.prog X.w) A (keyLt' (tuples' b) u v) Q E s:=by
 erw[Is]at hx hy
 let#[a,xs,rfl,h1,h2]:=hx;let#[c,ys,rfl,g1,g2]:=hy;cases rx;cases ry;let#[its,r,#[o,ho,hoc,n,hod],_]:=I.tuple h1;let#[its',r',#[o',ho',hoc',n',hod'],_]:=I.tuple g1;refine PySem.W.kat_lt ho hod ho' hod' ?_;have:=zds I (A:=A) (b:=b) (Q:=Q) hu l m xs ys its its' 0 h2 g2 r r' ok hd (λz Z=>hb z) q;simpa using this
set_option tactic.hygienic true in
mutual section
theorem zbm{F:KeyFam α}(FO:F.OkF)(I:Inv X AU σ H s):∀(rs:List α) (AW:List V) (ks:List sw),Iss X.K H (rs.map λa=>.tup (F.dec a)) AW->Vals AW ks ->
  ∃fs,PySem.W.KatTups s.heap ks fs/\fs.length=rs.length/\∀v ∈ fs,PySem.W.Looks M s.heap (typeOf v) (.type (if F.fst=AS then "int" else "tuple"))
 | [],AW,ks,h,r=>by
  erw[aH,Iss]at h
  subst h;cases r;exact#[[],PySem.W.KatTups.nil,rfl,λv hv=>by cases hv]
 | a::rs,AW,ks,h,r=>by
  erw[ao,Iss]at h
  let#[x,xr,rfl,hx,hxr]:=h
  cases r with | cons rx rxr =>
  rename_i u us;let#[fs,t1,t2,t3]:=zbm FO I (M:=M) rs xr us hxr rxr
  erw[Is]at hx
  let#[c,xs,rfl,h1,h2]:=hx;cases rx;let#[its,ri,#[o,ho,hoc,n,hod],_]:=I.tuple h1;let#[d,dr,ed,hsh]:=FO.sh a;rw[ed]at h2
  erw[Iss]at h2
  let#[y,yr,rfl,hy,_]:=h2
  cases ri with | cons ry rir =>
  rename_i v vs;refine#[v::fs,PySem.W.KatTups.cons ho hoc hod (by simp) t1,by simp [t2],λz hz=>?_];rcases AZ.mp hz with e | hz
  ·subst e;rcases hsh with ⟨hf,n',rfl⟩ | ⟨hf,l,rfl⟩
   ·rw[w6 hf]
    erw[Is]at hy
    subst hy;let#[t,rfl]:=ry;exact PySem.W.Looks.of_pure rfl
   ·rw[w9 (by rw[hf];decide)]
    erw[Is]at hy
    let#[c',xs',rfl,g1,_]:=hy;cases ry;let#[its',ri',#[o',ho',hoc',n',hod'],_]:=I.tuple g1;rw[<- hoc'];exact (PySem.W.Looks.ld ho').andThen .now
  ·exact t3 z hz
def V7{α:Type}(K:su)(F:KeyFam α)(xs:List V)(Q:VK):List V->Hp->Prop:=λAW H'=>∃rs:List α,Iss K H' (rs.map λa=>.tup (F.dec a)) AW /\
 ∀ys:List (α × V),ys=srt (λp q=>F.lt p.1 q.1) (F.d0,.non) (rs.zip xs)->∀D,H' D=AR->Q (.ref D) (upd H' D (.lst (ys.map (·.2))))
def Inv.fp_of_pin(I:Inv X (AU ++ [(b,o)]) σ H s)(hs:X.s₀.heap.objs.size<=b)(hn:∀p ∈ X.pn ++ AU,p.1≠b):wo X AU H b:=by let#[p1,p2,p3,p4,p5]:=I.pin (b,o) (aF _ (aF _ (Bb.mpr rfl)));refine#[p2,p3,p4,.inr hs,λx c e z=>?_,hn];let#[v,o1,ho1,hd1]:=I.cell x c e;subst z;rw[p1]at ho1;cases ho1;exact p5 v hd1
def Inv.at_pin(I:Inv X (AU ++ [(b,o)]) σ H s):s.heap.get? b=AQ o:=(I.pin (b,o) (aF _ (aF _ (Bb.mpr rfl)))).1
def y4 : ∀v,(sJ c xs n).data≠.cell v:=λv z=>by cases z
def zdz{D kS:sv}{st:SortSt}(I:Inv X ((AU ++ [(D,sJ "list" #[] e1)]) ++ [(kS,sJ "list" (aU ks) e)]) σ H s)(hD:X.s₀.heap.objs.size<=D)(hK:X.s₀.heap.objs.size<=kS)(nD:∀p ∈ X.pn ++ AU,p.1≠D)(nK:∀p ∈ X.pn ++ (AU ++ [(D,sJ "list" #[] e1)]),p.1≠kS)(hkz:ks.length<64)(hout:(arrOf st).map (·.2)=aU out)(hoz:out.length<64)(hf:failedOf st=AR)(h:∀s' c,Inv X (AU ++ [(D,sJ "list" (aU out) c)]) σ H s'->P (.done (.ret .none)) s') :
  sC (model X.prog X.w) A (ksk_tail D AT e1 (.ref kS) st) P E s:=by
 have pk:=Inv.at_pin I;have s1:=Heap.SameBut.update s.heap kS (Obj.mapSeq λZ=>(#[]:Array sw));obtain⟨ck,hck⟩:∃ck,(s.heap.update kS (Obj.mapSeq λZ=>(#[]:Array sw))).get? kS=AQ (sJ "list" #[] ck):=#[_,get?_update_seq pk λZ=>#[]];have I2:=(Inv.repin I hK nK s1 hck y4).unpinned;have pd:=Inv.at_pin I2;have s2:=Heap.SameBut.update (s.heap.update kS (Obj.mapSeq λZ=>(#[]:Array sw))) D (Obj.mapSeq λZ=>aU out);obtain⟨c2,hc2⟩:∃c2,((s.heap.update kS (Obj.mapSeq λZ=>(#[]:Array sw))).update D (Obj.mapSeq λZ=>aU out)).get? D=AQ (sJ "list" (aU out) c2):=#[_,get?_update_seq pd λZ=>aU out];have I3:=Inv.repin I2 hD nD s2 hc2 y4;unfold ksk_tail
 (try dsimp only)
 rw[hout];refine sj (listUpdate_at pk rfl ?_ (by rw[ak,sL];lia) (ay _));refine sj (tD ?_);refine sj (seqEpoch_at pd rfl ?_);refine sj (listUpdate_at pd rfl ?_ (ay _) (by erw[be,if_false];rw[ak,sL];lia));rw[hf]
 erw[bne_self_eq_false,be,if_false]
 exact sk (h _ c2 I3)
def zeD{F:KeyFam α}(FO:F.OkF){rs:List α}{T:SortSt->Sem PySem.Fin}(hu:A.units+50<cLine)(I:Inv X pz σ H s)(rk:Vals AW ks)(rv:Vals xs its)(hl:ks.length=its.length)(hz:its.length<64)(hR:Iss X.K H (rs.map λa=>.tup (F.dec a)) AW)(h:∀st s' (out:List sw),Vals ((srt (λp q=>F.lt p.1 q.1) (F.d0,V.non) (rs.zip xs)).map (·.2)) out->out.length<64->(arrOf st).map (·.2)=aU out->failedOf st=AR->Inv X pz σ H s'->sC (model X.prog X.w) A (T st) P E s') :
  sC (model X.prog X.w) A (do
   let kind <- if its.toArray.size<2 then pure general' else keyKind' (aU ks)
   let (Unit.unit,st) <- (if its.toArray.size<2 then pure Unit.unit else sortRuns').run (SortSt.mk' kind ((aU ks).zip its.toArray) #[] 7 AR)
   T st) P E s:=by
 have L1:=hR.len;have L2:=rk.length;have L3:=rv.length;rw[aa]at L1;have lz:(rs.zip xs).length=its.length:=by rw[List.length_zip];lia
 by_cases h2:its.toArray.size<2
 ·rw[w6 h2,w6 h2];refine sj (sk ?_);dsimp only;rw[StateT.run_pure];refine sj (sk ?_)
  (try dsimp only)
  refine h _ _ its ?_ hz ?_ rfl I
  ·rw[ak]at h2;unfold srt;rw[w6 ⋯,List.map_snd_zip ⋯];exact rv
  ·show ((aU ks).zip its.toArray).map (·.2)=_;apply Array.toList_inj.mp;rw[Array.toList_map,ksk_zip];exact List.map_snd_zip (by simp;lia)
 ·rw[w9 h2,w9 h2];rw[ak]at h2;let#[fs,t1,t2,t3]:=zbm FO I (M:=model X.prog X.w) rs AW ks hR rk;refine sj (PySem.W.kat_kind t1 ⋯ t3 (by simp) ?_)
  have hfst:((Value.type (if F.fst=AS then "int" else "tuple"):sw) != Value.type "tuple")=F.fst:=by
   cases hF:F.fst with
   | true=>rfl
   | false=>rfl
  rw[hfst];have W:Wk (λi j=>F.lt (rs.getD i F.d0) (rs.getD j F.d0)):=#[λa b=>FO.w.asym _ _,λa b c=>FO.w.ntr _ _ _];have ok:=X6 (n:=its.length) W ⋯
  have lt_eq:(λi j=>F.lt (rs.getD i F.d0) (rs.getD j F.d0))=(λi j=>(λ(p q:α × V)=>F.lt p.1 q.1) ((rs.zip xs).getD i (F.d0,.non)) ((rs.zip xs).getD j (F.d0,.non))):=by
   have one:∀i,((rs.zip xs).getD i (F.d0,V.non)).1=rs.getD i F.d0:=λi=>by
    by_cases hi:i<its.length
    ·have a1:i<rs.length:=⋯;have a2:i<xs.length:=⋯;rw[ae,ae,af ⋯,af a1];simp
    ·rw[ae,ae,cq ⋯,cq ⋯];rfl
   funext i j
   erw[one]
  have wp:=Kok.wp (n:=its.length) (cmp:=gy X.prog X.w A (tuples' F.fst) ks) (I:=λs'=>Inv X pz σ H s')
   (R:=λp s'=>p=J4 (λi j=>F.lt (rs.getD i F.d0) (rs.getD j F.d0)) (PySem.W.kas_sort its.length)/\Inv X pz σ H s')
   (λi j C s' hi hj I' hC=>?_) (λp s' hp I'=>#[hp,I']) _ s I (Kok.same _ ok)
  ·have run:=PySem.W.kat_run (E:=E) (vs:=its) (ks:=ks) (Q:=λst' s'=>∃p:Array Nat,p.size=its.length/\arrOf st'=p.map (PySem.W.kas_item (ks.toArray.zip its.toArray))/\failedOf st'=AR/\_) hl ⋯ hz (λp' st' s' a1 a2 a3 a4=>#[p',a1,a2,a3,a4]) wp;refine sj (tE run ?_ λZ Z e=>e);rintro⟨⟨⟩,st'⟩ s' ⟨p,hp,har,hf,hpk,I'⟩
   (try dsimp only)
   have hout:=PySem.W.kat_snds (ks:=ks) (vs:=its) hl har;have hR1:Rg its.length p:=by rw[hpk];exact (Kok.run _ ok).1
   have g1:(p.toList.map λi=>(rs.zip xs).getD i (F.d0,.non))=srt (λp q=>F.lt p.1 q.1) (F.d0,.non) (rs.zip xs):=by
    unfold srt;rw[w9 ⋯,lz,<- lt_eq,<- hpk]
   have olen:(p.toList.map λi=>its.getD i p9).length=its.length:=by rw[aa,ee,hp]
   refine h _ _ (p.toList.map λi=>its.getD i p9) ?_ ⋯ hout hf I';rw[<- g1,ce]
   have all:∀(js:()),(∀j ∈ js,j<its.length)->Vals (js.map ((λx:α × V=>x.2) ∘ λi=>(rs.zip xs).getD i (F.d0,.non))) (js.map λi=>its.getD i p9):=by
    intro js
    induction js with
    | nil=>intro _;exact .nil
    | cons j js ih =>
     intro hj;refine .cons ?_ (ih λi hi=>hj i (ar _ hi));have hjl:=hj j aB;have a1:j<xs.length:=⋯;let#[u,hu1,ru]:=xU rv (j:=j) (x:=xs[j]) (af a1)
     have e1:((rs.zip xs).getD j (F.d0,V.non)).2=xs[j]:=by
      rw[ae,af ⋯];simp
     have e2:its.getD j p9=u:=by rw[ae,hu1];rfl
     show RelV ((rs.zip xs).getD j (F.d0,V.non)).2 (its.getD j p9);rw[e1,e2];exact ru
   exact all p.toList λj hj=>Bc.mp (hR1.mem_iff.mp hj)
  ·have a1:i<rs.length:=⋯;have a2:j<rs.length:=⋯;have gi:(rs.map λa=>_root_.L3.D.tup (F.dec a))[i]? = AQ (.tup (F.dec rs[i])):=by rw[aq,af a1];rfl
   have gj:(rs.map λa=>_root_.L3.D.tup (F.dec a))[j]? = AQ (.tup (F.dec rs[j])):=by rw[aq,af a2];rfl
   let#[x,hx,ix]:=hR.at gi;let#[y,hy,iy]:=hR.at gj;let#[u,hu1,ru]:=xU rk hx;let#[v,hv1,rv1]:=xU rk hy;have e1:ks.getD i p9=u:=by rw[ae,hu1];rfl
   have e2:ks.getD j p9=v:=by rw[ae,hv1];rfl
   have e3:rs.getD i F.d0=rs[i]:=by rw[ae,af a1];rfl
   have e4:rs.getD j F.d0=rs[j]:=by rw[ae,af a2];rfl
   unfold gy;rw[e1,e2];refine zce I' hu ix iy ru rv1 (FO.ok _ _) (FO.dp _) (λhb=>?_) ?_
   ·let#[d,r,ed,hd]:=FO.sh rs[i];let#[d',r',ed',hd']:=FO.sh rs[j];rcases hd with ⟨_,n,rfl⟩ | ⟨z,_⟩
    ·rcases hd' with ⟨_,n',rfl⟩ | ⟨z,_⟩
     ·exact#[#[n,r,ed],n',r',ed']
     ·rw[hb]at z;cases z
    ·rw[hb]at z;cases z
   ·rw[FO.eq,<- e3,<- e4];exact hC s' I'
def zfA{F:KeyFam α}(FO:F.OkF){D kS:sv}{rs:List α}(hu:A.units+50<cLine)(I:Inv X ((AU ++ [(D,sJ "list" #[] e1)]) ++ [(kS,sJ "list" (aU ks) e)]) σ H s)(hD:X.s₀.heap.objs.size<=D)(hK:X.s₀.heap.objs.size<=kS)(nD:∀p ∈ X.pn ++ AU,p.1≠D)(nK:∀p ∈ X.pn ++ (AU ++ [(D,sJ "list" #[] e1)]),p.1≠kS)(rk:Vals AW ks)(rv:Vals xs its)(hl:ks.length=its.length)(hz:its.length<64)(hR:Iss X.K H (rs.map λa=>.tup (F.dec a)) AW)(h:∀s' (ys:List (α × V)) (out:List sw) c,ys=srt (λp q=>F.lt p.1 q.1) (F.d0,.non) (rs.zip xs)->Vals (ys.map (·.2)) out->out.length<64->Inv X (AU ++ [(D,sJ "list" (aU out) c)]) σ H s'->P (.done (.ret .none)) s') :
  sC (model X.prog X.w) A (ksk_end D AT its.toArray e1 (.ref kS) (aU ks)) P E s:=by
 unfold ksk_end
 erw[be,if_false]
 exact zeD FO hu I rk rv hl hz hR λst s' out hv ho har hf I'=>zdz I' hD hK nD nK ⋯ har ho hf λs2 c I2=>h s2 _ out c rfl hv ho I2
def qu(kc:V->Hp->VK->Prop):List V->List V->Hp->(List V->Hp->Prop)->Prop
 | [],AW,H,Q=>Q AW H
 | x::xs,AW,H,Q=>kc x H (λk H'=>qu kc xs (AW ++ [k]) H' Q)
def zbY(FO:F.Ok)(hr:Room (k+2) X.A)(hkc:∀(pins':List (sv × tP)) (s:sy) (H:Hp) (x:V) (u:sw) (Q:VK),Inv X pins' σ H s->RelV x u->kc x H Q->sC (model X.prog X.w) X.A.in1.in1 (call (.ref q) [u]) (EP X pins' σ Q) (λZ Z=>False) s){D kS:sv}(I:Inv X ((AU ++ [(D,sJ "list" #[] e1)]) ++ [(kS,sJ "list" #[] 0)]) σ H s)(hD:X.s₀.heap.objs.size<=D)(hK:X.s₀.heap.objs.size<=kS)(nD:∀p ∈ X.pn ++ AU,p.1≠D)(nK:∀p ∈ X.pn ++ (AU ++ [(D,sJ "list" #[] e1)]),p.1≠kS)(rv:Vals xs its)(hz:its.length<64)(ht:qu kc xs [] H (V7 X.K F xs Q))(hP:∀s',EP X AU σ Q (.ref D) s'->P (.done (.ret .none)) s') :
  sC (model X.prog X.w) X.A.in1.in1 (ksk_rest D (.ref q) AT its.toArray e1 (.ref kS)) P E s:=by
 unfold ksk_rest;refine sj (AG ?_);rw[List.forIn_toArray]
 refine sj (ksk_fold (λj s'=>∃AW ks e H',Inv X ((AU ++ [(D,sJ "list" #[] e1)]) ++ [(kS,sJ "list" (aU ks) e)]) σ H' s'/\Vals AW ks/\ks.length=j/\qu kc (xs.drop j) AW H' (V7 X.K F xs Q))
  its 0 s #[[],[],0,H,I,.nil,rfl,ht] (λj x s1 hx hJ=>?_) λs1 hJ=>?_)
 ·let#[AW,ks,e,H1,I1,rk,hkl,tk]:=hJ;rw[dY]at hkl tk;have hjl:j<its.length:=(AX.mp hx).1;have L3:=rv.length;let#[u,hu,ru]:=xU rv (j:=j) (x:=xs[j]) (af ⋯);rw[hx]at hu;cases hu;rw[aY ⋯]at tk;refine sj (Ao (tE (hkc _ _ _ _ _ _ I1 ru tk) (λkv s2 hk=>?_) λZ Z z=>z.elim));let#[v,H2,I2,rv2,tk2]:=hk;have pk:=Inv.at_pin I2;have sb:=Heap.SameBut.update s2.heap kS (Obj.mapSeq (·.push kv));have ea:(aU ks).push kv=aU (ks ++ [kv]):=by simp
  obtain⟨c2,hc2⟩:∃c2,(s2.heap.update kS (Obj.mapSeq (·.push kv))).get? kS=AQ (sJ "list" (aU (ks ++ [kv])) c2):=#[_,by rw[<- ea];exact get?_update_seq pk (·.push kv)];have I3:=Inv.repin I2 hK nK sb hc2 y4
  (try dsimp only)
  refine sj (listUpdate_at pk rfl ?_ (by rw[ak,sL];lia) (by rw[Array.size_push,ak,sL];lia));refine sk #[rfl,AW ++ [v],ks ++ [kv],c2,H2,I3,rk.append (.cons rv2 .nil),by rw[aj,fG,hkl];lia,?_];rw[dY];exact tk2
 ·let#[AW,ks,e,H1,I1,rk,hkl,tk]:=hJ;rw[dY]at hkl tk;have L3:=rv.length;rw[<- L3,dM]at tk;let#[rs,hR,hq]:=tk
  (try dsimp only)
  refine sj (listItems_at (Inv.at_pin I1) rfl ?_);refine zfA FO.f (by have:=hr.in1.in1.un;lia) I1 hD hK nD nK rk rv hkl hz hR λs' ys out c p1 p3 p4 I'=>hP s' ?_;have fp:=Inv.fp_of_pin I' hD nD;refine#[.ref D,_,Inv.track I'.unpinned (a:=D) (o:=.lst (ys.map (·.2))) fp #[?_,out,c,p3,Inv.at_pin I'],rfl,hq ys p1 D fp.1];rw[p3.length,sL];lia
def Qz(FO:F.Ok)(hr:Room (k+2) X.A)(hkc:∀(pins':List (sv × tP)) (s:sy) (H:Hp) (x:V) (u:sw) (Q:VK),Inv X pins' σ H s->RelV x u->kc x H Q->sC (model X.prog X.w) X.A.in1.in1 (call (.ref q) [u]) (EP X pins' σ Q) (λZ Z=>False) s)(I:Inv X AU σ H s)(hS:SqL X.K H l xs)(hz:xs.length<64)(ht:qu kc xs [] H (V7 X.K F xs Q)) :
  sC (model X.prog X.w) X.A (call (.builtin "sorted") [.ref l] [(cy "key",.ref q)]) (EP X AU σ Q) X.xe s:=by
 let#[its,rv,pl,_]:=I.list hS;have hlen:=rv.length;refine call_function_entry_kw kind_sorted plain_sorted entry_sorted (ksk_s1 _ _) ?_;unfold Builtin.«sorted»;refine sj (m:=checkCount "sorted" 1 1 _) (sk ?_);refine sj (collect_list pl.isList ?_ (by rw[sL];lia));refine sj (tV ?_ (by rw[sL];lia));generalize hh1:((s.heap.push (sJ "list" #[] 0)).update s⁻¹ (Obj.mapSeq (· ++ its.toArray)))=h1;have sz1:h1.objs.size=s⁻¹+1:=by rw[<- hh1,dg,size_push']
 have kp1:∀b o,s.heap.get? b=AQ o->h1.get? b=AQ o:=λb o e=>by
  have hlt:b<s⁻¹:=au e;rw[<- hh1,gd _ _ _ _ (ax hlt),Heap.get?_push_ne _ _ _ (ax hlt)];exact e
 have hoL:(h1.push (sJ "list" its.toArray 0)).get? h1.objs.size=AQ (sJ "list" its.toArray 0):=aE _ rfl;show sC _ _ _ _ _ { s with heap:=h1.push (sJ "list" its.toArray 0) };refine sj (sQ (wpAny_call_entry_kw slot_list_sort #[_,hoL,rfl] entry_list_sort ?body (ksk_l1 _ _)));show sC _ _ (Builtin.«list.sort» #[[.ref h1.objs.size],[(cy "key",.ref q)]]) _ _ _;rw[ksk_t1];generalize hh2:h1.push (sJ "list" its.toArray 0)=h2 at hoL;have sz2:h2.objs.size=h1.objs.size+1:=by rw[<- hh2,size_push']
 have kp2:∀b o,s.heap.get? b=AQ o->h2.get? b=AQ o:=λb o e=>by rw[<- hh2];exact ag _ (kp1 b o e)
 generalize hDD:h1.objs.size=D at hoL;obtain⟨e1,ho1⟩:∃e1,(h2.update D (Obj.mapSeq λZ=>(#[]:Array sw))).get? D=AQ (sJ "list" #[] e1):=#[_,get?_update_seq hoL λZ=>#[]];have hDs:s⁻¹<=D:=by rw[<- hDD,sz1];exact cF _
 have sb:=Heap.SameBut.update h2 D (Obj.mapSeq λZ=>(#[]:Array sw));unfold ksk_tree;refine sj (listItems_at hoL rfl ?_);refine sj (listUpdate_at hoL rfl ?_ (by rw[ak,sL];lia) (ay _));refine sj (seqEpoch_at ho1 rfl ?_);refine sj (wpAny_newTuple ?_ (by show its.length<=_;rw[sL];lia));refine sj (tV ?_ (ay _));refine sQ ?_;generalize hh3:(h2.update D (Obj.mapSeq λZ=>(#[]:Array sw))).push (sJ "tuple" its.toArray 0)=h3;have sz3:h3.objs.size=s⁻¹+3:=by rw[<- hh3,size_push',dg,sz2,sz1]
 have hoK:(h3.push (sJ "list" #[] 0)).get? h3.objs.size=AQ (sJ "list" #[] 0):=aE _ rfl;have hoD:(h3.push (sJ "list" #[] 0)).get? D=AQ (sJ "list" #[] e1):=ag _ (by rw[<- hh3];exact ag _ ho1)
 have kp3:∀b o,s.heap.get? b=AQ o->(h3.push (sJ "list" #[] 0)).get? b=AQ o:=λb o e=>by
  have hlt:b<s⁻¹:=au e;refine ag _ ?_;rw[<- hh3];exact ag _ ((sb.2 b (ax (aw hlt hDs))).trans (kp2 b o e))
 have I1:Inv X AU σ H { s with heap:=h3.push (sJ "list" #[] 0) }:=I.kept (t':=s.toks) kp3;have fD:wo X AU H D:=I.fpOk ⋯ (I.hok.fresh ⋯);have fK:wo X AU H h3.objs.size:=I.fpOk ⋯ (I.hok.fresh ⋯);have I2:=Inv.newpin I1 fD hoD y4
 have nK:∀p ∈ X.pn ++ (AU ++ [(D,sJ "list" #[] e1)]),p.1≠h3.objs.size:=λp hp=>by
  rcases Ba.mp hp with z | z
  ·exact fK.2.2.2.2.2 p (bx _ z)
  ·rcases Ba.mp z with z | z
   ·exact fK.2.2.2.2.2 p (aF _ z)
   ·have e:p=(D,sJ "list" #[] e1):=by simpa using z
    subst e;show D≠_;lia
 have I3:=Inv.newpin I2 (b:=h3.objs.size) #[fK.1,fK.2.1,fK.2.2.1,fK.2.2.2.1,fK.2.2.2.2.1,nK] hoK y4;have hsz:=I.sz;have hK0:X.s₀.heap.objs.size<=h3.objs.size:=⋯;exact zbY FO hr hkc I3 ⋯ hK0 fD.2.2.2.2.2 nK rv ⋯ ht λs' hE=>#[_,rfl,sk #[_,rfl,hE]]
def jS(D:sv)(before:Nat)(st:SortSt):Sem PySem.Fin:=do
 let sorted:=(arrOf st).map (·.2)
 let touched:=(<- seqEpoch D) != before
 Builtin.List.listUpdate (.ref D) λZ=>sorted
 if let AQ e:=failedOf st then rule "list.sort.comparison-raised";throw e
 if touched then rule "list.sort.modified";raiseError "ValueError" "list modified during sort"
 ret .none
def zdX(K:su):List V->Hp->VK->Prop:=λvs H Q=>∃(l:sv) (xs:List V) (α:Type) (F:KeyFam α) (rs:List α),vs=[.ref l]/\SqL K H l xs/\xs.length<64/\F.OkF/\Iss K H (rs.map λa=>.tup (F.dec a)) xs /\
 ∀D,H D=AR->Q (.ref D) (upd H D (.lst ((srt (λp q=>F.lt p.1 q.1) (F.d0,V.non) (rs.zip xs)).map (·.2))))
def zcI{D:sv}{st:SortSt}(I:Inv X (AU ++ [(D,sJ "list" #[] e1)]) σ H s)(hD:X.s₀.heap.objs.size<=D)(nD:∀p ∈ X.pn ++ AU,p.1≠D)(hout:(arrOf st).map (·.2)=aU out)(hoz:out.length<64)(hf:failedOf st=AR)(h:∀s' c,Inv X (AU ++ [(D,sJ "list" (aU out) c)]) σ H s'->P (.done (.ret .none)) s') :
  sC (model X.prog X.w) A (jS D e1 st) P E s:=by
 have pd:=Inv.at_pin I;have s2:=Heap.SameBut.update s.heap D (Obj.mapSeq λZ=>aU out);obtain⟨c2,hc2⟩:∃c2,(s.heap.update D (Obj.mapSeq λZ=>aU out)).get? D=AQ (sJ "list" (aU out) c2):=#[_,get?_update_seq pd λZ=>aU out];have I3:=Inv.repin I hD nD s2 hc2 y4;unfold jS
 (try dsimp only)
 rw[hout];refine sj (seqEpoch_at pd rfl ?_);refine sj (listUpdate_at pd rfl ?_ (ay _) (by rw[ak,sL];lia));rw[hf]
 erw[bne_self_eq_false,be,if_false]
 exact sk (h _ c2 I3)
def zdF{F:KeyFam α}(FO:F.OkF){D:sv}{rs:List α}(hu:A.units+50<cLine)(I:Inv X (AU ++ [(D,sJ "list" #[] e1)]) σ H s)(hD:X.s₀.heap.objs.size<=D)(nD:∀p ∈ X.pn ++ AU,p.1≠D)(rv:Vals xs its)(hz:its.length<64)(hR:Iss X.K H (rs.map λa=>.tup (F.dec a)) xs)(h:∀s' (out:List sw) c,Vals ((srt (λp q=>F.lt p.1 q.1) (F.d0,V.non) (rs.zip xs)).map (·.2)) out->out.length<64->Inv X (AU ++ [(D,sJ "list" (aU out) c)]) σ H s'->P (.done (.ret .none)) s') :
  sC (model X.prog X.w) A (do
   let kind <- if its.toArray.size<2 then pure general' else keyKind' its.toArray
   let (Unit.unit,st) <- (if its.toArray.size<2 then pure Unit.unit else sortRuns').run (SortSt.mk' kind (its.toArray.zip its.toArray) #[] 7 AR)
   jS D e1 st) P E s:=by exact zeD FO hu I rv rv rfl hz hR λst s' out hv ho har hf I'=>zcI I' hD nD har ho hf λs2 c I2=>h s2 out c hv ho I2
def zcA(hr:Room (k+2) X.A):w8 X (.builtin "sorted") (zdX X.K):=by
 intros vs us Q I r1 h;let#[l,xs,α,F,rs,rfl,hS,hz,FO,hR,q]:=h;let#[u,rfl,ru]:=wK r1;cases ru;let#[its,rv,pl,_]:=I.list hS;have hlen:=rv.length;refine Calls.call_function_entry kind_sorted plain_sorted entry_sorted (args_sorted1 _) ?_;unfold Builtin.«sorted»;refine sj (m:=checkCount "sorted" 1 1 _) (sk ?_);refine sj (collect_list pl.isList ?_ (by rw[sL];lia));refine sj (tV ?_ (by rw[sL];lia));generalize hh1:((s.heap.push (sJ "list" #[] 0)).update s⁻¹ (Obj.mapSeq (· ++ its.toArray)))=h1;have sz1:h1.objs.size=s⁻¹+1:=by rw[<- hh1,dg,size_push']
 have kp1:∀b o,s.heap.get? b=AQ o->h1.get? b=AQ o:=λb o e=>by
  have hlt:b<s⁻¹:=au e;rw[<- hh1,gd _ _ _ _ (ax hlt),Heap.get?_push_ne _ _ _ (ax hlt)];exact e
 have hoL:(h1.push (sJ "list" its.toArray 0)).get? h1.objs.size=AQ (sJ "list" its.toArray 0):=aE _ rfl;show sC _ _ _ _ _ { s with heap:=h1.push (sJ "list" its.toArray 0) };refine sj (sQ (wpAny_call_entry slot_list_sort #[_,hoL,rfl] entry_list_sort ?body (args_list_sort _)));show sC _ _ (Builtin.«list.sort» #[[.ref h1.objs.size],[]]) _ _ _;rw[list_sort_plain];generalize hh2:h1.push (sJ "list" its.toArray 0)=h2 at hoL;have sz2:h2.objs.size=h1.objs.size+1:=by rw[<- hh2,size_push']
 have kp2:∀b o,s.heap.get? b=AQ o->h2.get? b=AQ o:=λb o e=>by rw[<- hh2];exact ag _ (kp1 b o e)
 generalize hDD:h1.objs.size=D at hoL;obtain⟨e1,ho1⟩:∃e1,(h2.update D (Obj.mapSeq λZ=>(#[]:Array sw))).get? D=AQ (sJ "list" #[] e1):=#[_,get?_update_seq hoL λZ=>#[]];have hDs:s⁻¹<=D:=by rw[<- hDD,sz1];exact cF _
 have sb:=Heap.SameBut.update h2 D (Obj.mapSeq λZ=>(#[]:Array sw));refine sj (listItems_at hoL rfl ?_);refine sj (listUpdate_at hoL rfl ?_ (by rw[ak,sL];lia) (ay _));refine sj (seqEpoch_at ho1 rfl ?_);refine sj (wpAny_newTuple ?_ (by show its.length<=_;rw[sL];lia));refine sj (tV ?_ (ay _));refine sQ ?_;generalize hh3:(h2.update D (Obj.mapSeq λZ=>(#[]:Array sw))).push (sJ "tuple" its.toArray 0)=h3;have hoD:(h3.push (sJ "list" #[] 0)).get? D=AQ (sJ "list" #[] e1):=ag _ (by rw[<- hh3];exact ag _ ho1)
 have kp3:∀b o,s.heap.get? b=AQ o->(h3.push (sJ "list" #[] 0)).get? b=AQ o:=λb o e=>by
  have hlt:b<s⁻¹:=au e;refine ag _ ?_;rw[<- hh3];exact ag _ ((sb.2 b (ax (aw hlt hDs))).trans (kp2 b o e))
 have I1:Inv X AU σ H { s with heap:=h3.push (sJ "list" #[] 0) }:=I.kept (t':=s.toks) kp3;have fD:wo X AU H D:=I.fpOk ⋯ (I.hok.fresh ⋯);have I2:=Inv.newpin I1 fD hoD y4;have hsz:=I.sz;refine zdF FO (by have:=hr.in1.in1.un;lia) I2 ⋯ fD.2.2.2.2.2 rv ⋯ hR λs' out c p3 p4 I'=>#[_,rfl,sk #[_,rfl,?_]];have fp:=Inv.fp_of_pin I' ⋯ fD.2.2.2.2.2;refine#[.ref D,_,Inv.track I'.unpinned (a:=D) (o:=.lst _) fp #[?_,out,c,p3,Inv.at_pin I'],rfl,q D fp.1];rw[p3.length,sL];lia
def JO(X:Cx)(N:List sF)(s:sy)(H:Hp)(qual:sF)(scope:tZ)(f:sv)(cd:sw)(cl:List (sF × sv)):Cx where
 prog:=X.prog
 w:=X.w
 K:=X.K
 mg:=X.mg
 base:=X.base
 A:=X.A.in1.in1.deeper (eY qual scope s⁻¹ f cd cl)
 N:=N
 s₀:=s
 H₀:=H
 env:=eY qual scope s⁻¹ f cd cl
 outer:=X.stack
 stack:=eY qual scope s⁻¹ f cd cl::X.stack
 ex:=[]
 calm:=AS
 fn:=λZ=>AT
 pn:=[]
 xe:=λZ Z=>False
structure zcb(p y:sF)(scope:tZ):Prop where
 kind:scope.kind=.function
 co:scope.isCoroutine=AT
 gen:scope.isGenerator=AT
 nocell:∀z ∈ scope.names,z.2≠.cell
 par:scope.names.lookup p=AQ .local
 fre:scope.names.lookup y=AQ .free
 one:∀q ∈ scope.names,q.2=.free->q.1=y
 ne:p≠y
end
section
variable{X:Cx}{AU:List (sv × tP)}{σ:L2.St}{H:Hp}{s:sy}{p y name qual:sF}{scope:tZ}{params:AC}{body:tH}{f c' c:sv}{pm ctv cv:sw}{k iy:Nat}{vy x:V}{u:sw}{Q:VK}{t:TE}
def zb2(S:zcb p y scope)(hd:X.A.in1.in1.handled=AR)(I:Inv X AU σ H s)(hy:X.N[iy]? = AQ y)(hσ:σ[iy]? = AQ (AQ vy))(hvis:X.env.scope.names.lookup y=AQ .cell)(hc:X.env.cells.lookup y=AQ c)(rx:RelV x u)(hns:h₁.Ns s⁻¹ (λz=>[(p,u)].reverse.lookup z))(hk₁:∀b o,s.heap.get? b=AQ o->h₁.get? b=AQ o) :
  Inv (JO X [p,y] s H qual scope f cv [(y,c)]) [] [AQ x,AQ vy] H { s with heap:=h₁,toks:=tk }:=by
 let#[m,hn,hl]:=I.loc;let#[uy,ry,lk]:=hl iy y vy hy hσ (.inr (.inl hvis))
 have hcell:s.heap.IsCell c (AQ uy):=by
  rcases lk with ⟨z,_⟩ | ⟨_,c2,e2,z⟩
  ·have z':X.env.scope.names.lookup y=AQ .local:=z;rw[hvis]at z';cases z'
  ·rw[hc]at e2;cases e2;exact z
 have hcell':h₁.IsCell c (AQ uy):=by
  let#[o,e,d]:=hcell;exact#[o,hk₁ _ _ e,d]
 have e0:=I.env0;have noA:∀b:sv,b ∉ (JO X [p,y] s H qual scope f cv [(y,c)]).ex:=λb z=>w4 (show b ∈ ([]:List sv)from z) (by simp)
 have lkc:∀z d,bA z [(y,c)]=AQ d->z=y/\d=c:=λz d h=>by
  rw[aZ]at h;by_cases hz:(z == y)=AS
  ·rw[hz]at h;cases h;exact#[by simpa using hz,rfl]
  ·rw[show (z == y)=AT by simpa using hz]at h;cases h
 have lky:bA y [(y,c)]=AQ c:=by rw[aZ];simp
 refine#[#[e0.mod,S.kind,rfl,rfl,al _,λz z' d h1 h2=>?_,λz hz=>?_,λz d h Z=>?_,λZ=>hd,Around.frames_deeper e0.frames,.inr #[rfl,rfl],λb z=>w4 z (noA b),e0.bs,e0.bsz,λb Z Z=>noA b,λb z=>w4 z (noA b),e0.funs,e0.frf],
  rfl,e0.bare,Un.kept hk₁,#[_,hns,λi z v h1 h2 h3=>?_],λz d h=>?_,e0.hok.fresh (al _),λz d h=>?_,λq hq=>w4 (show q ∈ ([]:List (sv × tP))from hq) (by simp),e0.hok.kept hk₁,rfl]
 ·rw[(lkc _ _ h1).1,(lkc _ _ h2).1]
 ·have hz':scope.names.lookup z=AQ .cell\/scope.names.lookup z=AQ .free:=hz;rcases hz' with hz' | hz'
  ·exact w4 rfl (S.nocell _ (cb hz'))
  ·rw[show z=y from S.one _ (cb hz') rfl];exact#[c,lky]
 ·exact w4 (show (AT:Bool)=AS from h) ∅
 ·match i,h1,h2 with
  | 0,h1,h2 =>
   cases h1;cases h2;refine#[u,rx,.inl #[S.par,?_]];show bA p [(p,u)].reverse=AQ u;simp [bA]
  | 1,h1,h2 =>
   cases h1;cases h2;exact#[uy,ry,.inr #[.inr S.fre,c,lky,hcell']]
  | i+2,h1,h2=>simp at h2
 ·let#[_,rfl]:=lkc z d h;exact#[_,hcell']
 ·let#[_,rfl]:=lkc z d h;exact I.freeC y _ hc
def KA(S:zcb p y scope)(hr:Room (k+3) X.A)(hbind:bindArgs (cr name qual params body scope [(y,c)] pm cv ctv) #[[u],[]]=pure [(p,u)])(I:Inv X AU σ H s)(ho:s.heap.get? f=AQ { cls:=.type "function",data:=.func (cr name qual params body scope [(y,c)] pm cv ctv) }) (hcd:s.heap.CodeRec cv qual) (hy:X.N[iy]? = AQ y) (hσ:σ[iy]? = AQ (AQ vy)) (hvis:X.env.scope.names.lookup y=AQ .cell) (hc:X.env.cells.lookup y=AQ c)(rx:RelV x u) (hb:PE (JO X [p,y] s H qual scope f cv [(y,c)]) body t) (h:t [AQ x,AQ vy] H Q) :
  sC (model X.prog X.w) X.A.in1.in1 (call (.ref f) [u]) (EP X AU σ Q) (λZ Z=>False) s:=by
 have hr2:Room (k+1) X.A.in1.in1:=hr.in1.in1;refine tL (PySem.W.kla_callFunE hr2.depth ho rfl S.co S.gen rfl hcd ?_);rw[hbind];refine sk (Ah S.nocell (λz hz=>?_) (λh₁ hns hsb=>?_) S.kind)
 ·have e:z=(p,u):=by simpa using hz
  subst e;exact S.par
 have hk₁:∀b o,s.heap.get? b=AQ o->h₁.get? b=AQ o:=λb o e=>hsb.extBut b o (ax (au e)) (ag _ e);refine#[I.nolimit.keeps hk₁,?_];have I1:=zb2 (qual:=qual) (f:=f) (cv:=cv) (tk:=s.toks+1) S hr2.hd I hy hσ hvis hc rx hns hk₁;show tB _ _ (.expr body (eY qual scope s⁻¹ f cv [(y,c)])) _ _;refine PySem.W.kla_codeExpr (tE (hb [] _ _ H Q I1 h) (λv s' hv=>?_) λZ Z z=>False.elim z);let#[w',H',J,rw',q]:=hv;exact I.after #[w',H',J.os,J.bare,J.base,J.hok,rw',q]
end
mutual section
def cdE(c':sv)(q:sF):HO:=.ext λh=>h.CodeRec (.ref c') q
def fnE(f:sv)(o:tP):HO:=.ext λh=>h.get? f=AQ o
def TabOk(H:Hp)(P:sv)(pos:AL)(q:sF):Prop :=
 ∃ps:Array sw,H P=AQ (.tbl ps)/\AK ps.toList/\(codeAmong pos ps.toList=AR\/∃c',codeAmong pos ps.toList=AQ (.ref c')/\H c'=AQ (cdE c' q))
def SamT(P:sv)(H H':Hp):Prop:=∀b o,b≠P->H b=AQ o->H' b=AQ o
def LamAt(H:Hp)(f:sv)(name qual:sF)(params:AC)(body:tH)(scope:tZ)(cl:List (sF × sv)):Prop :=
 ∃(c':sv) (pm ctv:sw),H c'=AQ (cdE c' qual)/\H f=AQ (fnE f { cls:=.type "function",data:=.func (cr name qual params body scope cl pm (.ref c') ctv) })
def zd5(x:h.CodeRec (.ref c') q):ObjOk P w H h c' (cdE c' q):=by
 refine#[x,?_,λh1 h2 a k=>?_]
 ·let#[c,o,vs,t,e,g,_]:=x;cases e;exact#[o,g]
 ·let#[c,o,vs,t,e,g,r]:=a;cases e;exact#[_,o,vs,t,rfl,k o g,r]
def zbq(x:h.get? f=AQ o):ObjOk P w H h f (fnE f o) :=
 #[x,#[o,x],λh1 h2 a k=>k o a]
def Inv.grow(I:Inv X AU σ H s)(hP:H P=AQ (.tbl ps))(hk:∀b u,b≠P->s.heap.get? b=AQ u->h'.get? b=AQ u)(hP':h'.get? P=AQ { cls:=.none,data:=.fields (ps ++ more) })(hc:s⁻¹<=c')(hf:s⁻¹<=f)(hcf:c'≠f)(hcr:h'.CodeRec (.ref c') q)(hfo:h'.get? f=AQ o) :
  Inv X AU σ (upd (upd (upd H P (.tbl (ps ++ more))) c' (cdE c' q)) f (fnE f o)) { s with heap:=h',toks:=tk }:=by
 have Pl:P<s⁻¹:=I.hok.lt hP;have hPc:P≠c':=ax (aw Pl hc);have hPf:P≠f:=ax (aw Pl hf)
 have old:∀b,b<s⁻¹->b≠P->(upd (upd (upd H P (.tbl (ps ++ more))) c' (cdE c' q)) f (fnE f o)) b=H b:=λb hb hbP=>by
  rw[zt (ax (aw hb hf)),zt (ax (aw hb hc)),zt hbP]
 have atP:(upd (upd (upd H P (.tbl (ps ++ more))) c' (cdE c' q)) f (fnE f o)) P=AQ (.tbl (ps ++ more)):=by
  rw[zt hPf,zt hPc,zc]
 have neP:∀b,H b=AR->b≠P:=λb e z=>by rw[z,hP]at e;cases e
 refine I.un #[λb u e n Z Z=>hk b u (neP b n) e,λb u e n Z Z=>#[u.slots,hk b u (neP b n) e],λb u e n Z=>?_,λb u e Z=>?_,λb xs e=>?_,λb ob u e=>?_,λb qs e=>?_] λb u e=>?_
 ·rw[old b (au e) (neP b n)];exact n
 ·by_cases hb:b=P
  ·subst hb;exact#[_,hP']
  ·exact#[u,hk b u hb e]
 ·rw[old b (I.hok.lt e) (λz=>by rw[z,hP]at e;cases e)];exact e
 ·rw[old b (I.hok.lt e) (λz=>by rw[z,hP]at e;cases e)];exact e
 ·by_cases hb:b=P
  ·subst hb;rw[hP]at e;cases e;exact#[more,atP]
  ·rw[old b (I.hok.lt e) hb];exact#[#[],by rw[e];simp]
 ·by_cases hbf:b=f
  ·subst hbf;rw[zc]at e;cases e;exact zbq hfo
  ·rw[zt hbf]at e;by_cases hbc:b=c'
   ·subst hbc;rw[zc]at e;cases e;exact zd5 hcr
   ·rw[zt hbc]at e;by_cases hbP:b=P
    ·subst hbP;rw[zc]at e;cases e;exact hP'
    ·rw[zt hbP]at e;refine (I.hok b u e).stay (λd v hd g=>hk d v ?_ g) (λd g=>?_) λd xs g=>?_
     ·rcases hd with z | z
      ·rw[z];exact hbP
      ·intro z';rw[z',hP]at z;cases z
     ·rw[old d (I.hok.lt g) (λz=>by rw[z,hP]at g;cases g)];exact g
     ·rw[old d (I.hok.lt g) (λz=>by rw[z,hP]at g;cases g)];exact g
theorem qy : ∀(l:List sw),AK l->AK (l ++ [rawInt a,rawInt b,v])
 | [],_=>trivial
 | .int _ _::.int _ _::_::rest,h=>qy rest h
def Y5{h h':sV}(x:h.BuiltinsAt mg T)(k:∀b o,h.get? b=AQ o->h'.get? b=AQ o):h'.BuiltinsAt mg T:=by let#[bm,o,b1,b2,b3,b4,b5,b6]:=x;exact#[bm,o,b1,b2,b3,b4,k _ _ b5,b6]
def KS(hcode:X.env.code=.ref cc)(hC:PySem.W.CodeHd X.base cc P)(hB:X.base.BuiltinsAt X.mg P)(hgP:so≠P)(hcl:closureFor scope X.env=pure [(y,c)])(hdef:defaultsOf params X.env=([],[]))(I:Inv X AU σ H s)(hT:TabOk H P pos (X.env.qual ++ "<lambda>"))(h:∀f H',H f=AR->LamAt H' f "<lambda>" (X.env.qual ++ "<lambda>") params body scope [(y,c)]->TabOk H' P pos (X.env.qual ++ "<lambda>")->SamT P H H'->Q (.ref f) H') :
  sC (model X.prog X.w) X.A (eval (.Lambda params body scope pos) X.env) (EP X AU σ Q) X.xe s:=by
 refine PySem.W.kla_eval hdef ?_;let#[ps,hP,ht,hh]:=hT;have hPo:s.heap.get? P=AQ (PySem.W.tabObj ps):=I.hok _ _ hP;have hg:=I.mod.glob.keeps I.bk;have Pl:P<s⁻¹:=I.hok.lt hP;rcases hh with hn | ⟨c',hit,hc'⟩
 ·refine PySem.W.kla_makeFunction (mg:=X.mg) hcl I.ok.glob hg hcode (hC.keeps I.bk) hPo ht hn hgP (Y5 hB I.bk) λc' ctv h' tk hx hge hlt hrec htb=>?_;have hsz:s⁻¹<=h'.objs.size:=dn (bX hge hlt)
  have I1:=Inv.grow (P:=P) (c':=c') (f:=h'.objs.size) (more:=(r9 [rawInt pos.line,rawInt pos.col,.ref c'])) (tk:=tk) (o:={ cls:=.type "function",data:=.func (cr "<lambda>" (X.env.qual ++ "<lambda>") params body scope [(y,c)] ((X.mg "__name__").getD .none) (.ref c') ctv) }) I hP
   (λb u hb e=>ag _ (hx b u hb e)) (ag _ htb) hge hsz (ax hlt) (hrec.push _) (aE _ rfl)
  have hPc:P≠c':=ax (aw Pl hge);have hPf:P≠h'.objs.size:=ax (aw Pl hsz)
  have atc:(upd (upd (upd H P (.tbl (ps ++ (r9 [rawInt pos.line,rawInt pos.col,.ref c'])))) c' (cdE c' (X.env.qual ++ "<lambda>"))) h'.objs.size (fnE h'.objs.size { cls:=.type "function",data:=.func (cr "<lambda>" (X.env.qual ++ "<lambda>") params body scope [(y,c)] ((X.mg "__name__").getD .none) (.ref c') ctv) })) c'=AQ (cdE c' (X.env.qual ++ "<lambda>")):=by
   rw[zt (ax hlt),zc]
  refine#[.ref h'.objs.size,_,I1,rfl,h _ _ (I.hok.fresh hsz) #[c',_,ctv,atc,zc] #[ps ++ (r9 [rawInt pos.line,rawInt pos.col,.ref c']),?_,?_,.inr #[c',?_,atc]] λb o hb e=>?_]
  ·rw[zt hPf,zt hPc,zc]
  ·rw[ge];exact qy _ ht
  ·rw[ge];exact codeAmong_snoc _ ht hn
  ·have hl:=I.hok.lt e;rw[zt (ax (aw hl hsz)),zt (ax (aw hl hge)),zt hb];exact e
 ·refine PySem.W.kla_makeFunctionHit (mg:=X.mg) hcl I.ok.glob hg hcode (hC.keeps I.bk) hPo ht hit (Y5 hB I.bk) λctv h' tk hk hsz=>?_;have hfr:H h'.objs.size=AR:=I.hok.fresh hsz
  have I1:=I.laid (a:=h'.objs.size) (t':=tk) (h':=h'.push { cls:=.type "function",data:=.func (cr "<lambda>" (X.env.qual ++ "<lambda>") params body scope [(y,c)] ((X.mg "__name__").getD .none) (.ref c') ctv) })
   (o:=fnE h'.objs.size { cls:=.type "function",data:=.func (cr "<lambda>" (X.env.qual ++ "<lambda>") params body scope [(y,c)] ((X.mg "__name__").getD .none) (.ref c') ctv) })
   (λb u e=>ag _ (hk b u e)) hsz (zbq (aE _ rfl))
  have sm:=zf (o:=fnE h'.objs.size { cls:=.type "function",data:=.func (cr "<lambda>" (X.env.qual ++ "<lambda>") params body scope [(y,c)] ((X.mg "__name__").getD .none) (.ref c') ctv) }) hfr;exact#[.ref h'.objs.size,_,I1,rfl,h _ _ hfr #[c',_,ctv,sm _ _ hc',zc] #[ps,sm _ _ hP,ht,.inr #[c',hit,sm _ _ hc']] λb o Z e=>sm _ _ e]
def zfp(R:V->Hp->Prop):List V->Hp->Prop
 | [v],H=>R v H
 | _,_=>False
theorem QB : ∀{vs:List V} {H:Hp},zfp R vs H->∃v,vs=[v]/\R v H
 | [v],_,h=>#[v,rfl,h]
def zgN(P:sv)(pos:AL)(q:sF)(LA:Hp->sv->Prop):TE:=λσ H Q=>TabOk H P pos q/\∀f H',H f=AR->LA H' f->TabOk H' P pos q->SamT P H H'->Q (.ref f) H'
def za9{α:Type}(K:su)(F:KeyFam α)(P:sv)(pos:AL)(q:sF)(LA:Hp->sv->Prop)(iy:Nat)(te tb:TE):TE:=λσ H Q=>te σ H λv H1=>TabOk H1 P pos q /\
 ∀f H2,H1 f=AR->LA H2 f->TabOk H2 P pos q->SamT P H1 H2->∃l xs vy,v=.ref l/\SqL K H2 l xs/\xs.length<64/\σ[iy]? = AQ (AQ vy)/\qu (λx H Q=>LA H f/\tb [AQ x,AQ vy] H Q) xs [] H2 (V7 K F xs Q)
def zdJ(hcode:X.env.code=.ref cc)(hC:PySem.W.CodeHd X.base cc P)(hB:X.base.BuiltinsAt X.mg P)(hgP:so≠P)(hcl:closureFor scope X.env=pure [(y,c)])(hdef:defaultsOf params X.env=([],[])) :
  PE X (.Lambda params body scope lpos) (zgN P lpos (X.env.qual ++ "<lambda>") λH f=>LamAt H f "<lambda>" (X.env.qual ++ "<lambda>") params body scope [(y,c)]):=by intros Q I h;exact KS hcode hC hB hgP hcl hdef I h.1 h.2
def K2(FO:F.Ok)(S:zcb p y scope)(hr:Room (k+3) X.A)(hg:Gl X x)(hm:X.mg x=AR)(hv:sW x=AQ (.builtin "sorted"))(ha:PA X [e] (zK te xv))(hcode:X.env.code=.ref cc)(hC:PySem.W.CodeHd X.base cc P)(hB:X.base.BuiltinsAt X.mg P)(hgP:so≠P)(hcl:closureFor scope X.env=pure [(y,c)])(hdef:defaultsOf params X.env=([],[]))(hbind:∀(cv pm ctv u:sw),bindArgs (cr "<lambda>" (X.env.qual ++ "<lambda>") params body scope [(y,c)] pm cv ctv) #[[u],[]]=pure [(p,u)])(hy:X.N[iy]? = AQ y)(hvis:X.env.scope.names.lookup y=AQ .cell)(hc:X.env.cells.lookup y=AQ c)(hb:∀(s:sy) (H:Hp) (f:sv) (cv:sw),Room k (JO X [p,y] s H (X.env.qual ++ "<lambda>") scope f cv [(y,c)]).A->PE (JO X [p,y] s H (X.env.qual ++ "<lambda>") scope f cv [(y,c)]) body tb)(hn:‹x≠"__name__"›)(hdb:‹(x ==("__debug__" : sF))=AT›)(hks:‹(sX pos (sN [#[AQ "key",.Lambda params body scope lpos,kpos]] X.env)).filterMap (·.1)=[cy "key"]›)(hst:‹sS pos (sq [e] X.env)=(AT,eval e X.env)::sS pos (sq [] X.env)›)(hpl:‹(sS pos (sq [e] X.env)).any (·.1)=AT›)(hall:‹(sX pos (sN [#[AQ "key",.Lambda params body scope lpos,kpos]] X.env)).all (·.1.isSome)=AS›)(hkw:‹(sX pos (sN [#[AQ "key",.Lambda params body scope lpos,kpos]] X.env)).any (·.1.isNone)=AT›) :
  PE X (.Call (.Name x pp) [e] [#[AQ "key",.Lambda params body scope lpos,kpos]] pos) (za9 X.K F P lpos (X.env.qual ++ "<lambda>") (λH f=>LamAt H f "<lambda>" (X.env.qual ++ "<lambda>") params body scope [(y,c)]) iy te tb):=by
 intros Q I h;have hlam:PE X (.Lambda params body scope lpos) (zgN P lpos (X.env.qual ++ "<lambda>") λH f=>LamAt H f "<lambda>" (X.env.qual ++ "<lambda>") params body scope [(y,c)]):=zdJ hcode hC hB hgP hcl hdef;refine sU (vQ I hg hm hv ?_ hn hdb)
 have h':(zK te xv) σ H (zfp λv H1=>TabOk H1 P lpos (X.env.qual ++ "<lambda>")/\∀f H2,H1 f=AR->LamAt H2 f "<lambda>" (X.env.qual ++ "<lambda>") params body scope [(y,c)]->TabOk H2 P lpos (X.env.qual ++ "<lambda>")->SamT P H1 H2 ->
   ∃l xs vy,v=.ref l/\SqL X.K H2 l xs/\xs.length<64/\σ[iy]? = AQ (AQ vy)/\qu (λx H Q=>LamAt H f "<lambda>" (X.env.qual ++ "<lambda>") params body scope [(y,c)]/\tb [AQ x,AQ vy] H Q) xs [] H2 (V7 X.K F xs Q)):=h
 refine callWith_kw (thn (ha pos AU s σ H _ I h') λus s1=>el5 λvs H1 I1 r1 q1=>?_) hst hpl hall hkw;let#[v,rfl,hT,q1]:=QB q1;let#[u,rfl,ru]:=wK r1
 refine thn ((Jp hlam zaQ:PK X [#[AQ "key",.Lambda params body scope lpos,kpos]] _) pos AU s1 σ H1 (zfp λkv H2=>∃f,kv=.ref f/\LamAt H2 f "<lambda>" (X.env.qual ++ "<lambda>") params body scope [(y,c)] /\
   ∃l xs vy,v=.ref l/\SqL X.K H2 l xs/\xs.length<64/\σ[iy]? = AQ (AQ vy)/\qu (λx H Q=>LamAt H f "<lambda>" (X.env.qual ++ "<lambda>") params body scope [(y,c)]/\tb [AQ x,AQ vy] H Q) xs [] H2 (V7 X.K F xs Q)) I1 #[hT,λf H2 a1 a2 a3 a4=>#[f,rfl,a2,q1 f H2 a1 a2 a3 a4]]) λws s2=>el5 λzs H2 I2 r2 q2=>?_
 let#[kv,rfl,f,rfl,hLA,l,xs,vy,rfl,hS,hz,hσ,hk]:=QB q2;let#[w',rfl,rw']:=wK r2;cases rw';cases ru;rw[hks];show sC _ _ (call (.builtin "sorted") [.ref l] [(cy "key",.ref f)]) _ _ _;refine Qz FO (k:=k+1) hr (λpins' s3 H3 x3 u3 Q3 I3 r3 h3=>?_) I2 hS hz hk;let#[#[c',pm,ctv,e1,e2],h4]:=h3;have hcd:s3.heap.CodeRec (.ref c') (X.env.qual ++ "<lambda>"):=(I3.hok _ _ e1).1;have ho:=(I3.hok _ _ e2).1;exact KA (k:=k) S hr (hbind _ _ _ _) I3 ho hcd hy hσ hvis hc r3 (hb s3 H3 f (.ref c') (hr.in1.in1.deeper _)) h4
end
section
variable{K:su}
def SamT.of(s:Same H H'):SamT T H H':=λb o Z e=>s b o e
def SamT.trans(s:SamT T H H')(s':SamT T H' H''):SamT T H H'':=λb o n e=>s' b o n (s b o n e)
def SamT.at(s:SamT T H H')(hT:H T=AQ (.tbl ps))(e:H b=AQ o)(ho:∀qs,o≠.tbl qs):H' b=AQ o:=s b o (λz=>by rw[z,hT]at e;cases e;exact ho _ rfl) e
theorem SamT.free(s:SamT T H H')(hT:H' T=AQ o)(h:H' b=AR):H b=AR:=by
 cases e:H b with
 | none=>rfl
 | some u =>
  by_cases hb:b=T
  ·rw[hb,hT]at h;cases h
  ·rw[s b u hb e]at h;cases h
def SamT.seqL(s:SamT T H H')(hT:H T=AQ (.tbl ps))(h:SqL K H a xs):SqL K H' a xs:=by
 rcases h with (h | ⟨o,h⟩) | h
 ·exact .inl (.inl (s.at hT h λZ z=>by cases z))
 ·exact .inl (.inr #[o,s.at hT h λZ z=>by cases z])
 ·exact .inr h
def SamT.seqT(s:SamT T H H')(hT:H T=AQ (.tbl ps))(h:SqT K H a xs):SqT K H' a xs:=by
 rcases h with (h | ⟨o,h⟩) | h
 ·exact .inl (.inl (s.at hT h λZ z=>by cases z))
 ·exact .inl (.inr #[o,s.at hT h λZ z=>by cases z])
 ·exact .inr h
mutual
theorem Is.samT(s:SamT T H H')(hT:H T=AQ (.tbl ps)):∀(d:D) (v:V),Is K H d v->Is K H' d v
 | .non,v,h=>by erw[Is]at h ⊢;exact h
 | .bl b,v,h=>by erw[Is]at h ⊢;exact h
 | .int b,v,h=>by erw[Is]at h ⊢;exact h
 | .str b,v,h=>by erw[Is]at h ⊢;exact h
 | .lst l,v,h=>by
  erw[Is]at h ⊢
  let#[a,xs,e1,e2,e3]:=h;exact#[a,xs,e1,s.seqL hT e2,Iss.samT s hT l xs e3]
 | .tup l,v,h=>by
  erw[Is]at h ⊢
  let#[a,xs,e1,e2,e3]:=h;exact#[a,xs,e1,s.seqT hT e2,Iss.samT s hT l xs e3]
theorem Iss.samT(s:SamT T H H')(hT:H T=AQ (.tbl ps)):∀(l:List D) (vs:List V),Iss K H l vs->Iss K H' l vs
 | [],vs,h=>by erw[Iss]at h ⊢;exact h
 | d::l,vs,h=>by
  erw[Iss]at h ⊢
  let#[v,r,e1,e2,e3]:=h;exact#[v,r,e1,Is.samT s hT d v e2,Iss.samT s hT l r e3]
end
def LsA.samT(h:LsA K H a ds)(s:SamT T H H')(hT:H T=AQ (.tbl ps)):LsA K H' a ds:=by let#[xs,h1,h2]:=h;exact#[xs,s.at hT h1 (λZ z=>by cases z),Iss.samT s hT _ _ h2]
def TabOk.same{H H':Hp}{T:sv}{pos:AL}{q:sF}(h:TabOk H T pos q)(s:Same H H'):TabOk H' T pos q:=by
 let#[ps,h1,h2,h3]:=h;refine#[ps,s _ _ h1,h2,?_];rcases h3 with h3 | ⟨c',h4,h5⟩
 ·exact .inl h3
 ·exact .inr #[c',h4,s _ _ h5]
def LamAt.same{H H':Hp}{f:sv}{name qual:sF}{params:AC}{body:tH}{scope:tZ}{cl:List (sF × sv)}(h:LamAt H f name qual params body scope cl)(s:Same H H'):LamAt H' f name qual params body scope cl:=by let#[c',pm,ctv,h1,h2]:=h;exact#[c',pm,ctv,s _ _ h1,s _ _ h2]
end
section
variable{P:sH}{w:sM}{K:su}{mg mb:sF->Option sw}{CX:CXT}{k:Nat}{fa a T cc:sv}{fd:tM}{x:sF}{sp:Sp}{s₁:sy}{vs:List sw}{ns:List Int}{ps:Array sw}
def Yu(KX:K.In s₁.heap)(hKT:K.lookup T=AR)(hT:s₁.heap.get? T=AQ { cls:=.none,data:=.fields ps })(hTc:AD s₁.heap T)(hns:s₁.heap.Ns so mg)(hb:s₁.heap.Ns builtinsNs mb)(hbb:∀x:sF,x≠"__name__"->mb x=sW x)(hlim:s₁.heap.NoLimit)(hg:s₁.gens=#[])(ha:s₁.heap.get? a=AQ { cls:=.type "list",data:=.seq vs.toArray }) (hr:Room k callerA)(hbm:s₁.heap.BuiltinsAt mg T) (hcd:PySem.W.CodeHd s₁.heap cc T) (F:∀base:sV,K.In base->base.Ns so mg->base.BuiltinsAt mg T->PySem.W.CodeHd base cc T->FnOk P w K mg base CX k fa fd [x] sp) (hbind:∀(s:sy) (u:sw),An s fd #[[u],[]] [(x,u)])(hCX:∀H e s',CX [] H s₁ (λZ Z Z=>False) e s'->False) (H:Hp) (h1:H T=AQ (.tbl ps)) (h2:∀b u,H b=AQ u->b=T\/(b=a/\K.lookup a=AR/\u=.frz { cls:=.type "list",data:=.seq vs.toArray } (.lst (ns.map V.int))))(hok:HOk P w H s₁.heap) (hsp:sp [.ref a] H (λv Z=>v=.bl AS) λZ Z Z=>False) :
  tB (model P w) callerA (.call (.ref fa) #[[.ref a],[]]) (λr s'=>r=.ok (.ret (.bool AS))/\OldK s₁.heap s'.heap/\s'.os=s₁.os/\tW s'.gens) s₁:=by
 have stay:∀b o,s₁.heap.get? b=AQ o->(b≠T)->(b≠a)->(QM s₁.heap H).get? b=AQ o:=λb o e n1 n2=>Wx e (by
  cases q:H b with
  | none=>rfl
  | some u =>
   rcases h2 b u q with z | z
   ·exact w4 z n1
   ·exact w4 z.1 n2)
 have nsStay:∀(b:sv) (m:sF->Option sw),s₁.heap.Ns b m->(QM s₁.heap H).Ns b m:=λb m hN=>by
  let#[o,es,ep,e,d,rest]:=hN;refine#[o,es,ep,stay b o e (λz=>?_) (λz=>?_),d,rest]
  ·rw[z,hT]at e;cases e;cases d
  ·rw[z,ha]at e;cases e;cases d
 have kStay:K.In (QM s₁.heap H):=λb o e=>by
  have g:=KX b o e;refine Wx g ?_
  cases q:H b with
  | none=>rfl
  | some u =>
   rcases h2 b u q with z | z
   ·rw[z,hKT]at e;cases e
   ·rw[z.1,z.2.1]at e;cases e
 have bStay:(QM s₁.heap H).BuiltinsAt mg T:=by
  let#[bm,o,b1,b2,b3,b4,b5,b6,b7,b8]:=hbm;refine#[bm,o,b1,b2,b3,b4,stay bm o b5 b4 (λz=>?_),b6,b7,b8];rw[z,ha]at b5;cases b5;simp at b6
 have cStay:PySem.W.CodeHd (QM s₁.heap H) cc T:=by
  let#[o,vs',file,tf,flags,tg,inF,text,tt,c1,c2,c3,c4,c5,c6,c7,c8,c9,c10]:=hcd;refine#[o,vs',file,tf,flags,tg,inF,text,tt,stay cc o c1 c10 (λz=>?_),c2,c3,c4,c5,c6,c7,c8,c9,c10];rw[z,ha]at c1;cases c1;simp at c2
 let#[mc,l1,l2]:=hlim;have M0:Mod K mg (QM s₁.heap H):={ kin:=kStay,glob:=nsStay _ _ hns,blt:=#[mb,nsStay _ _ hb,hbb],nolimit:=#[mc,nsStay _ _ l1,l2] };have E0:Env0 P w K mg (QM s₁.heap H) callerA [] s₁ H:={ frames:=rfl,mod:=M0,bs:=λb o e=>zcw e,bsz:=gf (UU _ _),funs:=trivial,frf:=λb z=>(nomatch (show b ∈ ([]:List sv)from z)),hok:=hok,bare:=.of_eq hg };refine tO ((F _ kStay (nsStay _ _ hns) bStay cStay).run callerA [] s₁ H #[[.ref a],[]] [.ref a] [.ref a] (λv Z=>v=.bl AS) (λZ Z Z=>False) hr E0 (hbind s₁ (.ref a)) (.cons rfl .nil) hsp) λr s' hq=>?_;rcases r with e | fl
 ·exact (hCX H e s' hq).elim
 rcases fl with _ | _ | _ | u
 all_goals first | exact False.elim hq | skip
 let#[v,H',e1,e2,un,hok',rv,ev]:=hq;have ev':v=V.bl AS:=ev;subst ev';have eu:u=Value.bool AS:=rv;subst eu;let#[more,hT2]:=un.tbls T ps h1;have hT3:s'.heap.get? T=AQ { cls:=.none,data:=.fields (ps ++ more) }:=hok' T _ hT2
 have each:∀b o,s₁.heap.get? b=AQ o->b≠T->s'.heap.get? b=AQ o:=λb o e n=>by
  cases q:H b with
  | none=>exact un.keep b o e q (λz=>(nomatch (show b ∈ ([]:List sv)from z))) (λz=>(nomatch z))
  | some ob =>
   rcases h2 b ob q with z | ⟨z,_,zz⟩
   ·exact w4 z n
   ·subst zz;have g:=(hok' b _ (un.frzs b _ _ q)).1;rw[z,ha]at e;cases e;exact g
 refine#[rfl,#[λb o e=>?_,λb o e=>?_],e1,e2]
 ·by_cases hbT:b=T
  ·subst hbT;rw[hT]at e;cases e;exact .inr (.inl #[hTc,rfl,ps,more,rfl,hT3])
  ·exact .inl (each b o e hbT)
 ·by_cases hbT:b=T
  ·subst hbT;exact#[_,hT3]
  ·exact#[o,each b o e hbT]
def Jo(KX:K.In s₁.heap)(hKT:K.lookup T=AR)(hT:s₁.heap.get? T=AQ { cls:=.none,data:=.fields ps })(hTc:AD s₁.heap T)(hns:s₁.heap.Ns so mg)(hb:s₁.heap.Ns builtinsNs mb)(hbb:∀x:sF,x≠"__name__"->mb x=sW x)(hlim:s₁.heap.NoLimit)(hg:s₁.gens=#[])(ha:s₁.heap.get? a=AQ { cls:=.type "list",data:=.seq vs.toArray }) (hi:Ax vs ns) (hl:ns.length<=sr) (hr:Room k callerA)(hbm:s₁.heap.BuiltinsAt mg T) (hcd:PySem.W.CodeHd s₁.heap cc T) (F:∀base:sV,K.In base->base.Ns so mg->base.BuiltinsAt mg T->PySem.W.CodeHd base cc T->FnOk P w K mg base CX k fa fd [x] sp) (hbind:∀(s:sy) (u:sw),An s fd #[[u],[]] [(x,u)])(hCX:∀H e s',CX [] H s₁ (λZ Z Z=>False) e s'->False) (hsp:∀H:Hp,H T=AQ (.tbl ps)->SqL K H a (ns.map V.int)->sp [.ref a] H (λv Z=>v=.bl AS) λZ Z Z=>False) :
  tB (model P w) callerA (.call (.ref fa) #[[.ref a],[]]) (λr s'=>r=.ok (.ret (.bool AS))/\OldK s₁.heap s'.heap/\s'.os=s₁.os/\tW s'.gens) s₁:=by
 have rv:=YW hi;have hlv:=hi.length
 have hTa:a≠T:=λz=>by
  rw[z,hT]at ha;cases ha
 rcases hk:K.lookup a with _ | o
 ·refine Yu (ns:=ns) KX hKT hT hTc hns hb hbb hlim hg ha hr hbm hcd F hbind hCX (upd (upd (λZ=>AR) T (.tbl ps)) a (.frz { cls:=.type "list",data:=.seq vs.toArray } (.lst (ns.map V.int)))) ?_ (λb u e=>?_) (λb u e=>?_) ?_
  ·rw[zt (Ne.symm hTa),zc]
  ·by_cases hba:b=a
   ·subst hba;rw[zc]at e;cases e;exact .inr #[rfl,hk,rfl]
   ·rw[zt hba]at e;by_cases hbT:b=T
    ·exact .inl hbT
    ·rw[zt hbT]at e;cases e
  ·by_cases hba:b=a
   ·subst hba;rw[zc]at e;cases e;exact#[ha,by rw[aa];exact hl,vs,_,rv,ha]
   ·rw[zt hba]at e;by_cases hbT:b=T
    ·subst hbT;rw[zc]at e;cases e;exact hT
    ·rw[zt hbT]at e;cases e
  ·exact hsp _ (by rw[zt (Ne.symm hTa),zc]) (.inl (.inr #[_,zc]))
 ·have e:=KX a o hk;rw[ha]at e;cases e;refine Yu (ns:=ns) KX hKT hT hTc hns hb hbb hlim hg ha hr hbm hcd F hbind hCX (upd (λZ=>AR) T (.tbl ps)) zc (λb u e=>?_) (λb u e=>?_) (hsp _ zc (.inr #[_,vs.toArray,_,hk,rfl,rfl,rfl,by rw[ak,hlv];exact hl,by simpa using rv]))
  ·by_cases hbT:b=T
   ·exact .inl hbT
   ·rw[zt hbT]at e;cases e
  ·by_cases hbT:b=T
   ·subst hbT;rw[zc]at e;cases e;exact hT
   ·rw[zt hbT]at e;cases e
end
end in def zcO(K:su):Bool:=K.all λp=>match p.2 with
 | ⟨.none,_,.fields _,_⟩=>AT
 | _=>AS
theorem WO : ∀{K:su},K.lookup T=AQ o->(T,o) ∈ K
 | [],h=>by cases h
 | p::K,h=>by
  rw[aZ]at h;by_cases hp:T=p.1
  ·rw[show (T == p.1)=AS by simpa using hp]at h;cases h;rw[hp];exact aB
  ·rw[show (T == p.1)=AT by simpa using hp]at h;exact ar _ (WO h)
theorem zan{K:su}(e:zcO K=AS)(X:K.In h)(hT:h.get? T=AQ { cls:=.none,data:=.fields ps }):K.lookup T=AR:=by
 cases q:K.lookup T with
 | none=>rfl
 | some o =>
  have g:=X _ _ q;rw[hT]at g;cases g;have:=Bg.mp e _ (WO q);simp at this
def walk_ofT{l:PySem.W.OpenLaw}{XP:(sF->Option sw)->sV->Prop}{K:Params->su}{CX:sM->CXT}{sp:sM->sv->Sp}(hn:l.most=AQ n)(hn2:n<=sr)(hdf:d.params.defaults=[])(hr:Room k callerA)(hdin:din ∈ recsOf q)(hY:∀(w:sM) (h:sV),YP w h->(K w.params).In h)(hno:∀w:sM,zcO (K w.params)=AS)(F:∀(w:sM) (mg:sF->Option sw) (fa:sv) (h:sV) (cc T:sv),(K w.params).In h->h.Ns so mg->mg d.name=AQ (.ref fa)->(∃a o fd,mg din.name=AQ (.ref a)/\h.get? a=AQ o/\o.data=.func fd/\fd.code=.ref cc)->so≠T ->
   ∃fd:tM,(∀(s:sy) (u:sw),An s fd #[[u],[]] [(x,u)]) /\
    ∀base:sV,(K w.params).In base->base.Ns so mg->base.BuiltinsAt mg T->PySem.W.CodeHd base cc T->FnOk l.prog w (K w.params) mg base (CX w) k fa fd [x] (sp w T)) (hsp:∀(w:sM) (H:Hp) (a:sv) (ns:List Int) (T:sv),ns.length<=n->(∀z ∈ ns,uV z)->H T=AQ (.tbl #[])->SqL (K w.params) H a (ns.map V.int)->sp w T [.ref a] H (λv Z=>v=.bl AS) λZ Z Z=>False) (hCX:∀(w:sM) (H:Hp) (s:sy) (e:sw) (s':sy),CX w [] H s (λZ Z Z=>False) e s'->False) :
  PySem.W.WalkO q loose XP YP l.row.toRowW d [] (λf vs=>fS f vs):=by
 refine Xd hn hdf λw s₀ s₁ mg mb fa o pm cd doc a vs ns G Y ho hd hcd hmg hobj hints hlen hb' hg=>?_;have X0:=hY w _ Y;let#[ai,oi,fdi,cc,T,m1,m2,m3,m4,m5,m6]:=G.T.tab din hdin;have hcd':PySem.W.CodeHd s₁.heap cc T:=PySem.W.CodeHd.of m5 m6;have hTo:s₁.heap.get? T=AQ { cls:=.none,data:=.fields #[] }:=m6.2;have hTc:AD s₁.heap T:=m6.isCodeTable
 have hgT:so≠T:=λz=>by
  let#[o,es,ep,e,hd',_]:=G.T.g;rw[z,hTo]at e;cases e;cases hd'
 have hbm:s₁.heap.BuiltinsAt mg T:=by
  let#[bm,ob,b1,b2,b3,b4,b5,b6]:=G.T.bmain;refine#[bm,ob,b1,b2,λz=>?_,λz=>?_,b3,b4,b5,b6]
  ·let#[o,es,ep,e,hd',_]:=G.T.g;rw[z,e]at b3;cases b3;rw[hd']at b6;cases b6
  ·rw[z,hTo]at b3;cases b3;cases b4
 let#[fd,hbd,hF]:=F w mg fa _ cc T X0 G.T.g hmg #[ai,oi,fdi,m1,m2,m3,m4] hgT;exact Jo (T:=T) (ps:=#[]) X0 (zan (hno w) X0 hTo) hTo hTc G.T.g G.T.b G.T.builtins G.T.nolimit hg hobj hints (aP hlen hn2) hr hbm hcd' hF hbd (λH e s'=>hCX w H s₁ e s') λH h1 h2=>hsp w H a ns T hlen hb' h1 h2
def zbF{K:su}{st:sI}(F:Fun K x qual st f fd)(hcc:fd.code=.ref cc)(S:zo N ps (zi st))(len:∀vs H Q E,sp vs H Q E->vs.length=ps.length)(hbody:∀(A:sZ) (outer:List AJ) (s:sy) (H:Hp) (vs:List V) (Q:VK) (E:XK),Room k (A.deeper (tR qual (zi st) s⁻¹ f (.ref cc)))->sp vs H Q E ->
   ∃t,PSs (ja CX0 P w K mg base N qual (zi st) f (.ref cc) A outer s H E).nox (yj st) t/\t { nx:=λZ H'=>Q .non H',rt:=Q } (start N vs) H):FnOk P w K mg base CX0 (k+1) f fd ps sp:=by let#[oc,od,kV,doc,pm,an,cdv,ct,osl,rfl,lk,hcd]:=F.ex;have e:cdv=.ref cc:=hcc;subst e;refine Kn lk hcd S len λA outer s H vs Q E hr hsp=>?_;let#[t,h,q]:=hbody A outer s H vs Q E hr hsp;exact#[t,h.nox,q]
end L3
namespace L3
end L3
namespace PySem
namespace F
end F
def Heap.IsRevS(h:sV)(a:sv)(x:sF)(t:AF)(i:Int):Prop:=∃o,h.get? a=AQ o/\o.cls=.type "reversed"/\o.data=.fields (r9 [.str x t,rawInt i])
def Heap.IsRevS.typeIs{s:sy}(z:s.heap.IsRevS a x t i):s.TypeIs (.ref a) "reversed":=let #[o,ho,hc,_]:=z; #[o,ho,hc]
def Heap.IsRevS.at{h h':sV}(z:h.IsRevS a x t i)(e:∀o,h.get? a=AQ o->h'.get? a=AQ o):h'.IsRevS a x t i:=let #[o,ho,r]:=z; #[o,e _ ho,r]
end PySem
namespace L3
end L3
namespace L2
end in def Itk(lo k:Int)(n:Nat):It:=#[λi Z=>i<n,λi H x H'=>H'=H/\x=.int (lo+i * k),λi Z=>n<=i]
def XX{K:su}(it:sv)(lo k:Int)(n:Nat):J6 P w K tg (Itk lo k n) [it] it (λi h=>Al h it (lo+(i:Nat) * k) ((n:Int) - (i:Nat)) k) where
 mem:=by simp
 obj:=λi h st b hb=>by
  have e:b=it:=by simpa using hb
  subst e
  exact#[_,st,λv z=>by
   have z':Data.fields _=Data.cell v:=z
   cases z']
 keep:=λi h h' st k=>k it (by simp) _ st
 item:=by
  intro X hP hw hK hc i AU s σ H E I hf st hg;subst hP hw hK;let#[f0,f1,f2,f3,f4,f5]:=hf it (by simp);have W:=Walks.range (prog:=X.prog) (w:=X.w) (I.ok.hd hc) it lo k n;refine W.item i s _ _ hg st λv h' tk hv st' kk=>?_;let#[t,rfl]:=hv;have I1:Inv X AU σ H { s with heap:=h',toks:=tk }:=I.turned (λb o hb e=>kk b o ↥hb e) f0 f1 f3 f4 f5;exact#[_,rfl,Xv (s:={ s with heap:=h',toks:=tk }) (n:="range_iterator") st' rfl rfl ∅ #[.int (lo+i * k),H,I1,#[t,rfl],#[rfl,rfl],st',λb hb=>(hf b hb).1]]
 done:=by
  intro X hP hw hK hc i AU s σ H E I hf st hg;subst hP hw hK;let#[f0,f1,f2,f3,f4,f5]:=hf it (by simp);exact Ac (I.ok.hd hc) st (by have:n<=i:=hg;lia) λh' eb=>#[rfl,I.turned (t':=s.toks) (λb o hb e=>eb b o hb e) f0 f1 f3 f4 f5]
 self:=λZ Z Z Z Z st h=>Ad st h
def zbp(h1:0<=i)(h2:i<=2 ^ 30)(h3:0<=j)(h4:j<=2 ^ 30)(h5:0<k)(h6:k<2 ^ 30):0<=p0 i j k/\p0 i j k<2 ^ 30+1:=by
 unfold p0;rw[w6 h5];split
 ·have a:=Int.ediv_nonneg (a:=j - i - 1) (b:=k) ⋯ ⋯;have b:=Int.ediv_le_self (a:=j - i - 1) k ⋯;lia
 ·lia
def zc9(h1:0<=i)(h2:i<=2 ^ 30)(h3:0<=j)(h4:j<=2 ^ 30)(h5:0<k)(h6:k<2 ^ 30):Builtin.Range.small i j k=AS:=by
 let#[a,b]:=zbp h1 h2 h3 h4 h5 h6;unfold Builtin.Range.small
 erw[Builtin.Range.rangeFitsLong,ba,dU,decide_eq_true_eq,beq_iff_eq,h5,gt_iff_lt,if_true]
 lia
def JP{lo hi k:Int}(I:Inv X AU σ H s)(h1:0<=lo)(h2:lo<=2 ^ 30)(h3:0<=hi)(h4:hi<=2 ^ 30)(h5:0<k)(h6:k<2 ^ 30)(q:R (Itk lo k (p0 lo hi k).toNat) H):sC (model X.prog X.w) X.A (pyIter (.ref s⁻¹)) (PIE X AU σ tg R) E { s with heap:=s.heap.push { cls:=.type "range",data:=.fields (r9 [.int lo t,.int hi u,.int k v]) },toks:=tk }:=by
 refine Ar (IsRange.new ..) (zc9 h1 h2 h3 h4 h5 h6) ?_;have I1:Inv X AU σ H { s with heap:=s.heap.push { cls:=.type "range",data:=.fields (r9 [.int lo t,.int hi u,.int k v]) },toks:=tk }:=I.kept λb o e=>ag _ e
 refine#[(s.heap.push { cls:=.type "range",data:=.fields (r9 [.int lo t,.int hi u,.int k v]) }).objs.size,[(s.heap.push { cls:=.type "range",data:=.fields (r9 [.int lo t,.int hi u,.int k v]) }).objs.size],_,_,H,rfl,
  I1.kept (t':=tk) λb o e=>ag _ e,XX _ lo k (p0 lo hi k).toNat,?_,λb hb=>?_,q]
 ·have e1:lo+((0:Nat):Int) * k=lo:=by simp
  have e2:(((p0 lo hi k).toNat:Nat):Int) - ((0:Nat):Int)=p0 lo hi k:=by have:=(zbp h1 h2 h3 h4 h5 h6).1;lia
  show Al _ _ (lo+((0:Nat):Int) * k) ((((p0 lo hi k).toNat:Nat):Int) - ((0:Nat):Int)) k;rw[e1,e2];exact aE _ rfl
 ·have e:b=(s.heap.push { cls:=.type "range",data:=.fields (r9 [.int lo t,.int hi u,.int k v]) }).objs.size:=by simpa using hb
  subst e;exact I1.fpOk (al _) (I1.hok.fresh (al _))
def zeX(ta:TA):TI:=λσ H R=>ta σ H λvs H1=>∃i j k:Int,vs=[.int i,.int j,.int k]/\(0<=i/\i<=2 ^ 30/\0<=j/\j<=2 ^ 30/\0<k/\k<2 ^ 30)/\R (Itk i k (p0 i j k).toNat) H1
theorem U4(hg:Gl X "range")(hm:X.mg "range" = AR)(ha:PA X [a,b,c] ta)(hs:‹sq [a,b,c] X.env=[(AT,eval a X.env),(AT,eval b X.env),(AT,eval c X.env)]›)(hs2:‹sq [b,c] X.env=[(AT,eval b X.env),(AT,eval c X.env)]›) :
  PI X tg (.Call (.Name "range" p) [a,b,c] [] pos) (zeX ta):=by
 intros R I h;refine Call_ (vQ I hg hm boot_range (bN (thn (ha pos AU s σ H _ I h) λus s1=>el5 λvs H1 I1 r1 q1=>?_) (by rw[hs,hs2]) (by rw[hs2];rfl)));let#[i,j,k,e,#[q1,q2,q3,q4,q5,q6],q]:=q1;subst e
 cases r1 with
 | cons r rr =>
  cases rr with
  | cons r' rr =>
   cases rr with
   | cons r'' rr =>
    cases rr;let#[t,rfl]:=r;let#[t',rfl]:=r';let#[t'',rfl]:=r'';exact call_range_3 ⋯ (JP I1 q1 q2 q3 q4 q5 q6 q) (Or.inl (PyProof.noPylong_small ⋯))
end L2
namespace L3
open PySem L2
def CompK(lo k:Int)(n:Nat)(g:TG)(tt:TT)(te:TE)(own:Nat)(ix:())(σ:L2.St)(H1:Hp)(Q:VK)(D:sv):Prop:=Y3 (Itk lo k n) g tt te own ix σ H1 Q D
def zey : qH (zeX ta) g tt te own ix σ H Q=ta σ H λvs H1=>∃i j k:Int,vs=[.int i,.int j,.int k]/\(0<=i/\i<=2 ^ 30/\0<=j/\j<=2 ^ 30/\0<k/\k<2 ^ 30)/\∀D,H1 D=AR->CompK i k (p0 i j k).toNat g tt te own ix σ H1 Q D:=rfl
def CompK.by{g:TG}{tt:TT}{te:TE}{own:Nat}{ix:()}{σ:L2.St}{H1:Hp}{Q:VK}{D:sv}{lo k:Int}(Pv:Nat->List V->Hp->Prop)(h0:Pv 0 [] (upd H1 D (.lst [])))(hs:∀i AW H',i<n->Pv i AW H'->g (.int (lo+i * k)) (vR σ own ix) H' λσ3 H3=>xm (vR σ own ix) σ3/\tt σ3 H3 λb H4=>if b=AS then
   te σ3 H4 λv H5=>H5 D=AQ (.lst AW)/\AW.length<sr/\CNx n i Pv (AW ++ [v]) (upd H5 D (.lst (AW ++ [v])))else CNx n i Pv AW H4) (hd:∀AW H',Pv n AW H'->Q (.ref D) H'):CompK lo k n g tt te own ix σ H1 Q D:=by
 refine#[λi m AW H=>m=n - i/\i<=n/\Pv i AW H,#[n,by simp,ay _,h0],?_];rintro i m AW H' ⟨rfl,hi,p⟩;by_cases hlt:i<n
 ·refine .inr #[hlt,λx H2 y=>?_];let#[e,y]:=y;subst e y;exact hs i AW _ hlt p
 ·have e:i=n:=⋯;subst e;exact .inl #[al _,hd AW H' p]
end L3
namespace L3
open PySem.AutoSeq1 (wpAny_loadPart')
open MeetsSeq MeetsSeq2 MeetsSeq3 SeqRoads2 SeqAt
end L3
namespace L3
theorem Vm{α:Type}[DecidableEq α](k:α)(v:sw)(x:α):∀kvs:List (α × sw),(kvs.map λkv=>if kv.1=k then (kv.1,v)else kv).find? (λkv=>kv.1=x)=(kvs.find? λkv=>kv.1=x).map λkv=>if kv.1=k then (kv.1,v)else kv
 | []=>rfl
 | p::kvs=>by
  have e:(if p.1=k then (p.1,v)else p).1=p.1:=by split <;> rfl
  rw[ao,dk,dk,Vm k v x kvs]
  erw[e]
  by_cases h:p.1=x
  ·simp [h]
  ·simp [h]
set_option tactic.hygienic true in
mutual section
def Ua[DecidableEq α](kvs:List (α × sw))(k:α)(v:sw)(x:α):valueAt (stored kvs k v) x=if x=k then AQ v else valueAt kvs x:=by
 unfold stored valueAt;split
 ·rename_i h;rw[Vm];by_cases e:x=k
  ·subst e;rw[w6 rfl];let#[p,hp,hk]:=Bo.mp h
   cases hf:kvs.find? λkv=>kv.1=x with
   | none =>
    have:=Bw.mp hf p hp;exact w4 hk this
   | some q =>
    have hq:=dZ hf;have hq':q.1=x:=by simpa using hq
    simp [hq']
  ·rw[w9 e]
   cases hf:kvs.find? λkv=>kv.1=x with
   | none=>rfl
   | some q =>
    have hq:=dZ hf;have hq':q.1=x:=by simpa using hq
    have:¬ q.1=k:=λz=>e (hq'.symm.trans z);simp [this]
 ·rename_i h;rw[List.find?_append];by_cases e:x=k
  ·subst e;rw[w6 rfl]
   have:kvs.find? (λkv=>kv.1=x)=AR:=by
    rw[du];intro p hp hk;exact h (Bo.mpr #[p,hp,hk])
   rw[this];simp
  ·have e':¬ k=x:=λz=>e z.symm;rw[w9 e];simp [e']
def ka(P:sH)(w:sM)(a:sv)(m:sF->Option V)(n:Nat):HO:=.ext λh=>(a == sysModules)=AT/\∃kvs:List (sF × sw),h.DictOf (bG P w) a kvs/\kvs.length<=n/\∀k,RelO (m k) (valueAt kvs k)
def UX(hs:(a == sysModules)=AT)(d:h.DictOf (bG P w) a kvs)(hl:kvs.length<=n)(r:∀k,RelO (m k) (valueAt kvs k)):ObjOk P w H h a (ka P w a m n) :=
 #[#[hs,kvs,d,hl,r],(let #[o,es,ep,ho,_]:=d; #[o,ho]),λh1 h2 ⟨hs,kvs,⟨o,es,ep,ho,rest⟩,z⟩ k=>#[hs,kvs,#[o,es,ep,k _ ho,rest],z]]
def Inv.beyond(I:Inv X AU σ H s):(s⁻¹ == sysModules)=AT:=by let#[o,es,ep,e,_]:=I.ok.mod.glob;have h1:=au e;have h2:=I.ok.bsz;have h3:=I.sz;have h4:1<=so:=∅;have h5:1<s⁻¹:=aw (bX h4 h1) (aP h2 h3);rw[beq_eq_false_iff_ne];intro z;exact cH h5 z
def ze5(P:sH)(w:sM):TE:=λZ H Q=>∀p,H p=AR->Q (.ref p) (upd H p (ka P w p (λZ=>AR) 0))
def zcn:PE X (.Dict [] [] pos) (ze5 X.prog X.w):=λAU s σ H Q I h =>
 AB #[.ref s⁻¹,_,I.laid (a:=s⁻¹) (t':=s.toks) (λZ Z q=>ag _ q) (al _) (UX (m:=λZ=>AR) (Inv.beyond I) (Heap.DictOf.new s.heap) (al _) λZ=>trivial),rfl,h _ (I.hok.fresh (al _))]
def Inv.tdic(I:Inv X AU σ H s)(h:H a=AQ (ka X.prog X.w a m n)):(a == sysModules)=AT/\∃kvs:List (sF × sw),s.heap.DictOf (bG X.prog X.w) a kvs/\kvs.length<=n/\∀k,RelO (m k) (valueAt kvs k):=(I.hok _ _ h).1
def zfK(P:sH)(w:sM):R2:=λx y H Q=>∃a m n k v,x=.ref a/\y=.str k/\H a=AQ (ka P w a m n)/\m k=AQ v/\Q v H
def zbW:IxR X (zfK X.prog X.w):=by intro value slice AU s σ H x y v u Q I rx ry h hs;let#[a,m,n,k,z,rfl,rfl,ha,hk,q]:=h;cases rx;let#[t,rfl]:=ry;let#[_,kvs,dd,hl,r]:=Inv.tdic I ha;let#[w',hw,rw']:=RelO.some_of (v:=z) (o:=valueAt kvs k) (by rw[<- hk];exact r k);exact tail_any dd.typeIs slot_dict_getitem.lookup (Az (knd:=bG X.prog X.w) (strKind_is _ _ _ _) dd.mapOf hw #[z,H,I.tok _,rw',q]) hs
def zdP(P:sH)(w:sM):V->V->V->Hp->(Hp->Prop)->Prop:=λo i v H Q=>∃a m n k,o=.ref a/\i=.str k/\H a=AQ (ka P w a m n)/\n<=100000/\Q (upd H a (ka P w a (λx=>if x=k then AQ v else m x) (n+1)))
def zaj:zfH X (zdP X.prog X.w):=by
 intros o i v ov iv u Q I ro ri rv h;let#[a,m,n,k,rfl,rfl,ha,hn,q]:=h;cases ro;let#[t,rfl]:=ri;let#[hsm,kvs,dd,hl,r]:=Inv.tdic I ha;have s16:=zW;refine wpAny_setItem_pairs (knd:=bG X.prog X.w) (hsz:=by lia) (strKind_is _ _ _ _) dd λh' dd' hs=>#[_,?_,q];have he:∃q,h'.get? a=AQ q:=let #[q,_,_,hq,_]:=dd'; #[q,hq];refine I.write (x:=a) (e:=a) (by rw[ha];exact True.intro) (.inl rfl) (λb q hb z=>(hs.2 b hb).trans z) he (UX hsm dd' (aP (stored_length_le _ _ _) ⋯) λx=>?_);rw[Ua];by_cases e:x=k
 ·rw[w6 e,w6 e];exact rv
 ·rw[w9 e,w9 e];exact r x
def zeo(P:sH)(w:sM):R2:=λx y H Q=>∃a m n k,x=.str k/\y=.ref a/\H a=AQ (ka P w a m n)/\Q (.bl (m k).isNone) H
def J9:OpR X (sK .NotIn) (zeo X.prog X.w):=by
 intros x y v u Q I rx ry h;let#[a,m,n,k,rfl,rfl,ha,q]:=h;let#[t,rfl]:=rx;cases ry;let#[hsm,kvs,dd,hl,r]:=Inv.tdic I ha;refine wpAny_notIn_of (knd:=bG X.prog X.w) (strKind_is _ _ _ _) hsm dd.mapOf ?_
 have e:(!(valueAt kvs k).isSome)=(m k).isNone:=by
  have:=r k
  cases hm:m k with
  | none =>
   cases hv:valueAt kvs k with
   | none=>rfl
   | some z=>rw[hm,hv]at this;exact this.elim
  | some z0 =>
   cases hv:valueAt kvs k with
   | none=>rw[hm,hv]at this;exact this.elim
   | some z=>rfl
 rw[e];exact#[.bl _,H,I.tok _,rfl,q]
def X1(P:sH)(w:sM)(a:sv)(kvs:List (sF × V))(ep:Nat):HO:=.ext λh=>(a == sysModules)=AT/\∃kus:List (sF × sw),kus.map (·.1)=kvs.map (·.1)/\Vals (kvs.map (·.2)) (kus.map (·.2))/\h.DictAt (bG P w) a kus ep
def atD(kvs:List (sF × V))(k:sF):Option V:=(kvs.find? λp=>p.1=k).map (·.2)
theorem Xp:∀{kvs:List (sF × V)} {kus:List (sF × sw)},kus.map (·.1)=kvs.map (·.1)->Vals (kvs.map (·.2)) (kus.map (·.2))->∀k,RelO (atD kvs k) (valueAt kus k)
 | [],[],_,_,k=>trivial
 | [],q::kus,e,_,k=>nomatch e
 | p::kvs,[],e,_,k=>nomatch e
 | p::kvs,q::kus,e,r,k=>by
  rw[ao,ao,List.cons.injEq]at e;rw[ao,ao]at r
  cases r with
  | cons r1 r2 =>
   unfold atD valueAt;rw[dk,dk,e.1];by_cases h:p.1=k
   ·rw[u6 h];exact r1
   ·rw[u9 h];exact Xp e.2 r2 k
def U6(hs:(a == sysModules)=AT)(e:kus.map (·.1)=kvs.map (·.1))(r:Vals (kvs.map (·.2)) (kus.map (·.2)))(d:h.DictAt (bG P w) a kus ep):ObjOk P w H h a (X1 P w a kvs ep) :=
 #[#[hs,kus,e,r,d],(let #[o,es,ho,_]:=d; #[o,ho]),λh1 h2 ⟨hs,kus,e,r,o,es,ho,z⟩ k=>#[hs,kus,e,r,o,es,k _ ho,z]]
end
section
variable{X:Cx}{pos:AL}
def zgm(P:sH)(w:sM):TE:=λZ H Q=>∀p ep,H p=AR->Q (.ref p) (upd H p (X1 P w p [] ep))
def zcC:PE X (.Dict [] [] pos) (zgm X.prog X.w):=λAU s σ H Q I h=>by
 let#[ep,d]:=(Heap.DictOf.new (knd:=bG X.prog X.w) s.heap).dictAt;exact AB #[.ref s⁻¹,_,I.laid (a:=s⁻¹) (t':=s.toks) (λZ Z q=>ag _ q) (al _) (U6 (kvs:=[]) (Inv.beyond I) rfl .nil d),rfl,h _ ep (I.hok.fresh (al _))]
def Inv.odic(I:Inv X AU σ H s)(h:H a=AQ (X1 X.prog X.w a kvs ep)):(a == sysModules)=AT/\∃kus:List (sF × sw),kus.map (·.1)=kvs.map (·.1)/\Vals (kvs.map (·.2)) (kus.map (·.2))/\s.heap.DictAt (bG X.prog X.w) a kus ep:=(I.hok a _ h).1
def zdR(P:sH)(w:sM):R2:=λx y H Q=>∃a kvs ep k v,x=.ref a/\y=.str k/\H a=AQ (X1 P w a kvs ep)/\atD kvs k=AQ v/\Q v H
def zcX:IxR X (zdR X.prog X.w):=by intro value slice AU s σ H x y v u Q I rx ry h hs;let#[a,kvs,ep,k,z,rfl,rfl,ha,hk,q]:=h;cases rx;let#[t,rfl]:=ry;let#[_,kus,e,r,dd]:=Inv.odic I ha;let#[w',hw,rw']:=RelO.some_of (v:=z) (o:=valueAt kus k) (by rw[<- hk];exact Xp e r k);exact tail_any dd.dictOf.typeIs slot_dict_getitem.lookup (Az (knd:=bG X.prog X.w) (strKind_is _ _ _ _) dd.dictOf.mapOf hw #[z,H,I.tok _,rw',q]) hs
def zg7(P:sH)(w:sM):V->List V->Hp->VK->Prop:=λx vs H Q=>∃a kvs ep k v,x=.ref a/\vs=[.str k,v]/\H a=AQ (X1 P w a kvs ep)/\kvs.length<=1000/\(∀u,atD kvs k=AQ u->Q u H)/\(atD kvs k=AR->∀ep',Q v (upd H a (X1 P w a (kvs ++ [(k,v)]) ep')))
theorem zdA:MtR X "dict.setdefault" (zg7 X.prog X.w):=by
 intros x vs v us Q I rx rv h;let#[a,kvs,ep,k,d,rfl,rfl,ha,hn,q1,q2]:=h;cases rx;let#[u1,u2,rfl,r1,r2]:=Vals.two rv;let#[t,rfl]:=r1;let#[hsm,kus,e,r,da]:=Inv.odic I ha;have hl:kus.length=kvs.length:=by have:=congrArg cG e;rw[aa,aa]at this;exact this
 have s16:=zW;have hv:=Xp e r k;refine call_meetsIn eF da.dictOf.typeIs PySem.F.entry_dict_setdefault (PySem.F.args_dict_setdefault_3 _ _ _) (kt_meets_setdefault (bG X.prog X.w) a (strKind_is _ _ k t) hsm u2) #[kus,da.dictOf,⋯,λz hz=>?_,λhz h' dd hs=>?_]
 ·rw[hz]at hv
  cases hk:atD kvs k with
  | none=>rw[hk]at hv;exact hv.elim
  | some y =>
   rw[hk]at hv;exact#[y,H,I.tok _,hv,q1 y hk]
 ·rw[hz]at hv
  have hk:atD kvs k=AR:=by
   cases hk:atD kvs k with
   | none=>rfl
   | some y=>rw[hk]at hv;exact hv.elim
  have es:stored kus k u2=kus ++ [(k,u2)]:=by
   unfold stored;rw[w9];intro h;let#[p,hp,hpk]:=Bo.mp h;unfold valueAt at hz;rw[fA,du]at hz;exact hz p hp hpk
  rw[es]at dd;let#[ep',dd']:=dd.dictAt;have he:∃q,h'.get? a=AQ q:=let #[q,_,hq,_]:=dd'; #[q,hq];refine#[d,_,I.write (x:=a) (e:=a) (by rw[ha];exact True.intro) (.inl rfl) (λb q hb z=>(hs.2 b hb).trans z) he (U6 hsm ?_ ?_ dd'),r2,q2 hk ep']
  ·rw[am,am,e];rfl
  ·rw[am,am];exact r.append (.cons r2 .nil)
def zgX(P:sH)(w:sM)(r:V->List V->Hp->VK->Prop)(to:TE)(t:TA):TE:=λσ H Q=>to σ H λx H1=>(∃a kvs ep,x=.ref a/\H1 a=AQ (X1 P w a kvs ep))/\t σ H1 λxs H2=>r x xs H2 Q
variable{o e:tH}{es:List tH}{to:TE}{t:TA}{name:sF}{apos cpos:AL}{id:String}{r:V->List V->Hp->VK->Prop}
def zd0(slot:Slot "dict" name id)(hty:typeOf (.builtin id)=pure (.type "method_descriptor"))(hm:MtR X id r)(ho:PE X o to)(ha:PA X (e::es) t)(hbase:‹attributeBase o name X.env (eval o X.env)=eval o X.env›)(hfew:((sS cpos (sq (e::es) X.env)).all (λx=>!x.1) && (sX cpos (sN [] X.env)).all (λx=>x.1.isSome)
   && decide ((e::es).length+([]:List Am).length+(if ([]:List Am).isEmpty then 0 else 1)<30))=AS:=by rfl)(hline:‹(apos.endLine == cpos.line)=AS›) (hs:‹sq (e::es) X.env=(AT,eval e X.env)::sq es X.env›) (hplain:‹(sS cpos (sq es X.env)).any (·.1)=AT›) :
  PE X (.Call (.Attribute o name apos) (e::es) [] cpos) (zgX X.prog X.w r to t):=by intros Q I h;refine Ae hbase hfew hline rfl (thn (ho AU s σ H _ I h) λv s1=>el5 λx H1 I1 r1=>ua2 λty q1=>?_);let#[a,kvs,ep,rfl,hA]:=ty;cases r1;let#[_,kus,_,_,dd]:=Inv.odic I1 hA;refine#["dict",id,PySem.F.plainAttrs_dict,slot,hty,dd.dictOf.typeIs,dd.dictOf.mapOf.noDict,?_];have hA:=ha cpos AU s1 σ H1 _ I1 q1;rw[hs]at hA ⊢;refine Calls.callWith_builtin (by show (AT || (sS cpos (sq es X.env)).any (·.1))=AT;rw[hplain] <;> rfl) (Calls.evalArgs_plain ?_);exact thn hA λus s2=>el5 λvs H2 I2 r2 q2=>hm AU s2 σ H2 (.ref a) vs _ us Q I2 rfl r2 q2
end
mutual section
def Itd(P:sH)(w:sM)(a:sv)(kvs:List (sF × V))(ep:Nat):It :=
 #[λi H=>i<kvs.length/\H a=AQ (X1 P w a kvs ep),λi H x H'=>H'=H/\∃p,kvs[i]? = AQ p/\x=.str p.1,λi H=>i=kvs.length/\H a=AQ (X1 P w a kvs ep)]
def Q2{K:su}(a it:sv)(kvs:List (sF × V))(ep:Nat):J6 P w K tg (Itd P w a kvs ep) [it] it (λi h=>h.IsKeyIter it a i kvs.length ep) where
 mem:=by simp
 obj:=λi h st b hb=>by
  have e:b=it:=by simpa using hb
  subst e;let#[o,e,c,d]:=st;exact#[o,e,λv z=>by rw[d]at z;cases z]
 keep:=λi h h' st k=>st.at λo e=>k it (by simp) o e
 item:=by
  intro X hP hw hK hc i AU s σ H E I hf st hg;subst hP hw hK;let#[hi,ha]:=hg;let#[f0,f1,f2,f3,f4,f5]:=hf it (by simp);let#[_,kus,e,r,dd]:=Inv.odic I ha;have hl:kus.length=kvs.length:=by have:=congrArg cG e;rw[aa,aa]at this;exact this
  rw[<- hl]at st
  have hk:kus[i].1=kvs[i].1:=by
   have h1:=congrArg (λl=>l[i]?) e;simpa [hi,hl] using h1
  refine wpAny_pyNext_dict_item st dd (af ⋯) λkey h' hkey st' sb=>?_;have I1:Inv X AU σ H { s with heap:=h' }:=I.turned (t':=s.toks) (λb o hb e=>(sb.2 b hb).trans e) f0 f1 f3 f4 f5;let#[o,e',c,d]:=id st'
  have hr:RelV (.str kvs[i].1) key:=by
   replace hkey:(bG X.prog X.w).is kvs[i].1 key=AS:=by rw[<- hk];exact hkey
   cases key <;> simp [bG,Value.isStrOf]at hkey;exact#[_,by rw[hkey]]
  rw[hl]at st';exact#[key,rfl,Xv (s:={ s with heap:=h' }) e' c d ∅ #[_,H,I1,hr,#[rfl,_,af hi,rfl],st',λb hb=>(hf b hb).1]]
 done:=by
  intro X hP hw hK hc i AU s σ H E I hf st hg;subst hP hw hK;let#[rfl,ha]:=hg;let#[f0,f1,f2,f3,f4,f5]:=hf it (by simp);let#[_,kus,e,r,dd]:=Inv.odic I ha;have hl:kus.length=kvs.length:=by have:=congrArg cG e;rw[aa,aa]at this;exact this
  rw[<- hl]at st;exact wpAny_pyNext_dict_end (I.ok.hd hc) st dd (by simp) λh' eb=>#[rfl,I.turned (t':=s.toks) (λb o hb e=>eb b o hb e) f0 f1 f3 f4 f5]
 self:=λZ Z Z Z Z st h=>wpAny_pyIter_keyiter st h
def zfB(P:sH)(w:sM)(tl:TE):TI:=λσ H R=>tl σ H λx H1=>∃a kvs ep,x=.ref a/\H1 a=AQ (X1 P w a kvs ep)/\R (Itd P w a kvs ep) H1
def zeW(hl:PE X l tl):PI X tg l (zfB X.prog X.w tl):=by
 intros R I h;refine thn (hl AU s σ H _ I h) λv s1=>el5 λx H1 I1 r1 q1=>?_;let#[a,kvs,ep,e,ha,q]:=q1;subst e;cases r1;let#[hsm,kus,e,r,dd]:=Inv.odic I1 ha;have hlen:kus.length=kvs.length:=by have:=congrArg cG e;rw[aa,aa]at this;exact this
 refine wpAny_pyIter_dict hsm dd ?_;refine#[s1⁻¹,[s1⁻¹],_,_,H1,rfl,I1.kept (t':=s1.toks) λb o e=>ag _ e,Q2 a _ kvs ep,#[_,aE _ rfl,rfl,by rw[hlen];rfl],λb hb=>?_,q];have e:b=s1⁻¹:=by simpa using hb
 subst e;exact I1.fpOk (al _) (I1.hok.fresh (al _))
def CompD(P:sH)(w:sM)(a:sv)(kvs:List (sF × V))(ep:Nat)(g:TG)(tt:TT)(te:TE)(own:Nat)(ix:())(σ:L2.St)(H1:Hp)(Q:VK)(D:sv):Prop:=Y3 (Itd P w a kvs ep) g tt te own ix σ H1 Q D
def zfG : qH (zfB P w tl) g tt te own ix σ H Q=tl σ H λx H1=>∃a kvs ep,x=.ref a/\H1 a=AQ (X1 P w a kvs ep)/\∀D,H1 D=AR->CompD P w a kvs ep g tt te own ix σ H1 Q D:=rfl
def CompD.by{g:TG}{tt:TT}{te:TE}{own:Nat}{ix:()}{σ:L2.St}{H1:Hp}{Q:VK}{D:sv}(Pv:Nat->List V->Hp->Prop)(h0:Pv 0 [] (upd H1 D (.lst [])))(hl:∀i AW H',Pv i AW H'->H' a=AQ (X1 P w a kvs ep))(hs:∀i p AW H',kvs[i]? = AQ p->Pv i AW H'->g (.str p.1) (vR σ own ix) H' λσ3 H3=>xm (vR σ own ix) σ3/\tt σ3 H3 λb H4=>if b=AS then
   te σ3 H4 λv H5=>H5 D=AQ (.lst AW)/\AW.length<sr/\CNx kvs.length i Pv (AW ++ [v]) (upd H5 D (.lst (AW ++ [v])))else CNx kvs.length i Pv AW H4) (hd:∀AW H',Pv kvs.length AW H'->Q (.ref D) H'):CompD P w a kvs ep g tt te own ix σ H1 Q D:=by
 refine#[λi m AW H=>m=kvs.length - i/\i<=kvs.length/\Pv i AW H,#[kvs.length,by simp,ay _,h0],?_];rintro i m AW H' ⟨rfl,hi,p⟩;have q:=hl i AW H' p;by_cases hlt:i<kvs.length
 ·refine .inr #[#[hlt,q],λv H2 y=>?_];let#[rfl,r,hx,rfl]:=y;exact hs i r AW _ hx p
 ·have e:i=kvs.length:=⋯;subst e;exact .inl #[#[rfl,q],hd AW H' p]
def ql(hc:X.calm=AS)(S:kN X scope own caps ix)(hg:∀cl C AU s3 H3 fp,PG (yC X scope cl C (own ++ caps) AU s3 H3 fp λZ Z=>False) tg g)(ht:∀cl C AU s3 H3 fp xe,XE (yC X scope cl C (own ++ caps) AU s3 H3 fp xe) EX->PTs (yC X scope cl C (own ++ caps) AU s3 H3 fp xe) ifs tt)(hst:X.stack=X.env::X.outer/\X.env.frame=AQ X.env.locals)(hxe:XE X EX)(he:∀cl C AU s3 H3 fp xe,XE (yC X scope cl C (own ++ caps) AU s3 H3 fp xe) EX->PE (yC X scope cl C (own ++ caps) AU s3 H3 fp xe) elt te)(hc1:∀y c,cl.lookup y=AQ c->X.env.cells.lookup y=AQ c)(hc2:∀y,(y,NameKind.free) ∈ scope.names->∃c,cl.lookup y=AQ c){Q:VK}(I2:Inv X AU σ H2 s2)(T:J6 X.prog X.w X.K tg J fp it tn)(st2:tn 0 s2.heap)(f2:∀b ∈ fp,wo X AU H2 b)(q:∀D,H2 D=AR->∃W:Nat->Nat->List V->Hp->Prop,(∃m,W 0 m [] (upd H2 D (.lst []))) /\
   ∀i m AW H',W i m AW H'->(J.stop i H'/\Q (.ref D) H')\/(J.go i H'/\∀x H2,J.yld i H' x H2->g x (vR σ own.length ix) H2 λσ3 H3=>xm (vR σ own.length ix) σ3/\tt σ3 H3 λb H4=>if b=AS then
    te σ3 H4 λv H5=>H5 D=AQ (.lst AW)/\AW.length<sr/\∃m',m'<m/\W (i+1) m' (AW ++ [v]) (upd H5 D (.lst (AW ++ [v])))
    else ∃m',m'<m/\W (i+1) m' AW H4)) {RR:sw->sv->Result->sy->Prop} (hRR:∀D C m s' H',H2 D=AR->s'.heap.Ns C m->wo X AU H' C->Inv X AU σ H' s'->Q (.ref D) H'->RR (.ref D) C (.ok .next) s') (hRE:∀D C m s' x,s'.heap.Ns C m->(∀h',Heap.SameBut C s'.heap h'->∀cenv:AJ,cenv.locals=C->sC (model X.prog X.w) X.A (gh "comprehension.variables-let-go" x cenv:Sem sw) (λZ Z=>False) X.xe { s' with heap:=h' })->RR (.ref D) C (.error x) s') :
  sC (model X.prog X.w) X.A (newList []) (λAW s3=>sC (model X.prog X.w) X.A (newFunctionEnv scope X.env.globals cl [] X.env.qual AR .none (AQ X.env)) (λcenv s4 =>
   tB (model X.prog X.w) X.A (.compStart (.ListComp elt [#[tg,iter,ifs,0]] scope pos) 0 (.ref it) AW { cenv with scope:=relabel scope X.env }) (RR AW cenv.locals) s4) E s3) E s2:=by
 have hD:H2 s2⁻¹=AR:=I2.hok.fresh (al _);let#[W,#[m0,w0],turn]:=q _ hD;refine tT (Ah S.nocell (by intro y hy;simp at hy) (λh1 hns1 hsb1=>?_) S.kind);dsimp only at hns1 hsb1 ⊢
 have I3:Inv X AU σ (upd H2 s2⁻¹ (.lst [])) { s2 with heap:=s2.heap.push { cls:=.type "list",dict:=AR,data:=.seq ([]:List sw).toArray } } :=
  I2.lnew (its:=[]) (t':=s2.toks) .nil (ay _)
 generalize hs3:({ s2 with heap:=s2.heap.push { cls:=.type "list",dict:=AR,data:=.seq ([]:List sw).toArray } }:sy)=s3 at I3;have e3:s2.heap.push { cls:=.type "list",dict:=AR,data:=.seq ([]:List sw).toArray }=s3.heap:=by rw[<- hs3]
 rw[e3]at hns1 hsb1 ⊢;have k1:∀b o,s3.heap.get? b=AQ o->h1.get? b=AQ o:=λb o e=>(hsb1.2 b (ax (au e))).trans (ag _ e);have k23:∀b o,s2.heap.get? b=AQ o->s3.heap.get? b=AQ o:=λb o e=>by rw[<- e3];exact ag _ e
 have hz:s3⁻¹=s2⁻¹+1:=by rw[<- e3,cZ]
 have fpObj:∀b ∈ fp,∃o,s2.heap.get? b=AQ o:=λb hb=>let #[o,e,_]:=T.obj 0 _ st2 b hb; #[o,e];have fplt:∀b ∈ fp,b<s2⁻¹:=λb hb=>let #[o,e]:=fpObj b hb;au e;have f3:∀b ∈ fp,wo X AU (upd H2 s2⁻¹ (.lst [])) b:=λb hb=>#[by rw[zt (ax (fplt b hb))];exact (f2 b hb).1,(f2 b hb).2]
 have I4:Inv (yC X scope cl s3⁻¹ (own ++ caps) AU s3 (upd H2 s2⁻¹ (.lst [])) fp λZ Z=>False) [] (vR σ own.length ix) (upd H2 s2⁻¹ (.lst [])) { s3 with heap:=h1,toks:=s3.toks+([]:List (sF × sw)).length } :=
  VH S hc1 hc2 I3 f3 (λb hb=>by rw[hz];exact cY (fplt b hb)) hns1 k1
 have st4:tn 0 h1:=T.keep 0 _ _ st2 λb hb o e=>k1 b o (k23 b o e);generalize hs4:({ s3 with heap:=h1,toks:=s3.toks+([]:List (sF × sw)).length }:sy)=s4 at I4;have es4:({ s2 with heap:=h1,toks:=s2.toks+([]:List (sF × sw)).length }:sy)=s4:=by rw[<- hs4,<- hs3]
 have e4:h1=s4.heap:=by rw[<- hs4]
 have loop:tB (model X.prog X.w) X.A (.compLoop (.ListComp elt [#[tg,iter,ifs,0]] scope pos) 0 (.ref it) (.ref s2⁻¹) (compEnvC scope cl s3⁻¹ X.env)) (RR (.ref s2⁻¹) s3⁻¹) s4:=by
  let X':=yC X scope cl s3⁻¹ (own ++ caps) AU s3 (upd H2 s2⁻¹ (.lst [])) fp λZ Z=>False
  have fp':∀{H':Hp},(∀b ∈ fp,H' b=AR)->∀b ∈ fp,wo X' [] H' b:=λ{H'} hn b hb=>by
   let#[_,a1,a2,a3,a4,a5]:=f3 b hb;refine#[hn b hb,ax (show b<s3⁻¹ from by rw[hz];exact cY (fplt b hb)),λz=>?_,.inl hb,λx c e=>a4 x c (hc1 x c e),λp hp=>?_]
   ·rcases AZ.mp (I3.stkSub b z)with e | e
    ·exact a1 e
    ·exact a2 e
   ·have:p ∈ (X.pn ++ AU) ++ []:=hp;rw[aT]at this;exact a5 p this
  refine Q0 (λn s'=>∃i AW H',Inv X' [] (vR σ own.length ix) H' s'/\tn i s'.heap/\(∀b ∈ fp,H' b=AR)/\W i n AW H') rfl ?_ m0 #[0,[],_,I4,by rw[<- e4];exact st4,λb hb=>(f3 b hb).1,w0];rintro n s5 ⟨i,AW,H5,I5,st5,fr5,w5⟩;refine tz ?_;rcases turn i n AW H5 w5 with ⟨stop,qn⟩ | ⟨go,step⟩
  ·refine thn (T.done X' rfl rfl rfl hc i [] s5 _ H5 _ I5 (fp' fr5) st5 stop) λr s6 ⟨hr,I6⟩=>?_;subst hr;let#[m,hm,_]:=I6.loc;refine hRR _ _ m s6 H5 hD hm (I3.fpOk (al _) I6.free) (I3.call' (s':=s6) I6.os I6.base I6.hok I6.bare λb hb=>?_) qn;let#[_,a1,a2,a3,a4,a5]:=f3 b hb;exact#[a3,a1,a4,a5]
  ·refine thn (T.item X' rfl rfl rfl hc i [] s5 _ H5 (λZ Z=>False) I5 (fp' fr5) st5 go) λr s6 ⟨u,hr,h6⟩=>?_;subst hr;refine tz (thn h6 λZ s7=>el5 λx H7 I7 r7 q_z=>?_);let#[y7,st7,fr7]:=q_z;have I7':=I7.pinned (fp' fr7) (T.obj _ _ st7);refine tz (thn (hg _ _ _ _ _ _ _ s7 _ H7 x u _ I7' r7 (step x H7 y7)) λZ s8=>el5 λσ8 H8 I8 ks q8=>?_);refine thn (ht cl _ AU s3 (upd H2 s2⁻¹ (.lst [])) fp _ (λe s hfl=>Qp (RE:=λe s'=>RR (.ref s2⁻¹) s3⁻¹ (.error e) s') hst hxe hc1 I3 f3 hfl λm s' x a b=>hRE _ _ m s' x a b) _ s8 σ8 H8 _ (I8.wish _) q8) λb s9=>el3 λH9 I9' q9=>?_;have I9:=Inv.unwish (X:=X') I9'
   have back:∀{s':sy} {H':Hp} {acc':List V} {m':Nat},Inv X' ([] ++ YZ fp s7.heap) σ8 H' s'->m'<n->W (i+1) m' acc' H'->∃m,m<n/\∃i AW H',Inv X' [] (vR σ own.length ix) H' s'/\tn i s'.heap/\(∀b ∈ fp,H' b=AR)/\W i m AW H':=λ{s' H' acc' m'} J' hm w'=>by
    refine#[m',hm,i+1,acc',H',(J'.unpinned).weak ks.1 ks.2,T.keep _ _ _ st7 λb hb o e=>(J'.pin (b,o) (aF _ (aF _ (vE hb e)))).1,λb hb=>?_,w'];let#[o,e,d]:=T.obj _ _ st7 b hb;exact (J'.pin (b,o) (aF _ (aF _ (vE hb e)))).2.1
   cases b with
   | false =>
    rw[w9 aD]at q9 ⊢;let#[m',hm,w']:=q9;exact back I9 hm w'
   | true =>
    rw[w6 rfl]at q9 ⊢;refine thn (he cl _ AU s3 (upd H2 s2⁻¹ (.lst [])) fp _ (λe s hfl=>Qp (RE:=λe s'=>RR (.ref s2⁻¹) s3⁻¹ (.error e) s') hst hxe hc1 I3 f3 hfl λm s' x a b=>hRE _ _ m s' x a b) _ s9 σ8 H9 _ (I9.wish _) q9) λv s10=>el5 λy H10 I10' r10 q_z=>?_;let#[hD10,hsz,m',hm,w']:=q_z;have I10:=Inv.unwish (X:=X') I10';refine tz ?_;have:=yy (X:=X') _ s10 σ8 H10 (.ref s2⁻¹) [y] (.ref s2⁻¹) [v] (λZ H'=>H'=upd H10 s2⁻¹ (.lst (AW ++ [y]))) I10 rfl (.cons r10 .nil) #[AW,hD10,hsz,rfl];refine thn this λ_ s11 ⟨_,H11,I11,_,eH⟩=>?_;subst eH;exact back I11 hm w'
 have goal:tB (model X.prog X.w) X.A (.compStart (.ListComp elt [#[tg,iter,ifs,0]] scope pos) 0 (.ref it) (.ref s2⁻¹) (compEnvC scope cl s3⁻¹ X.env)) (RR (.ref s2⁻¹) s3⁻¹) s4 :=
  codeAny_compStart_list loop (T.self _ 0 s4 _ _ (by rw[<- e4];exact st4) loop)
 rw[<- es4]at goal;exact goal
def Yg(hc:X.calm=AS)(S:kN X scope own caps ix)(hst:X.stack=X.env::X.outer/\X.env.frame=AQ X.env.locals)(hxe:XE X EX)(hi:PI X tg iter wi)(hg:∀cl C AU s3 H3 fp,PG (yC X scope cl C (own ++ caps) AU s3 H3 fp λZ Z=>False) tg g)(ht:∀cl C AU s3 H3 fp xe,XE (yC X scope cl C (own ++ caps) AU s3 H3 fp xe) EX->PTs (yC X scope cl C (own ++ caps) AU s3 H3 fp xe) ifs tt)(he:∀cl C AU s3 H3 fp xe,XE (yC X scope cl C (own ++ caps) AU s3 H3 fp xe) EX->PE (yC X scope cl C (own ++ caps) AU s3 H3 fp xe) elt te)(hs:‹∀x,foldedSetIterable iter X.env x=pure x›) :
  PE X (.ListComp elt [#[tg,iter,ifs,0]] scope pos) (qH wi g tt te own.length ix):=by
 intros Q I h;let#[cl,hclos,hc1,hc2]:=uK (scope:=scope) (env:=X.env) λy hy=>I.ok.has y (S.free y hy);rw[eval_ListComp];refine Aa (use:=AR) rfl hs hclos S.kind S.names (thn (hi AU s σ H _ I h) λv s1 h1=>thn h1 λitv s2 h2=>?_);let#[it,fp,tn,J,H2,e,I2,T,st2,f2,q]:=h2;subst e;refine ql (RR:=λAW C=>compPost (model X.prog X.w) X.A X.xe AR (EP X AU σ Q) AW C) hc S hg ht hst hxe he hc1 hc2 I2 T st2 f2 q ?_ ?_
 ·intro D C m s' H' _ hn fc I' qn;let#[a0,a1,a2,a3,a4,a5]:=fc;exact#[m,hn,λh' sb=>#[.ref D,H',I'.turned (t':=s'.toks) (λb o hb e=>(sb.2 b hb).trans e) a0 a1 a3 a4 a5,rfl,qn]]
 ·intro D C m s' x hn hp;exact#[m,hn,hp]
def xeN:XE X E0:=λe s h=>by
 let#[_,_,_,_,_,_,_,_,_,_,_,_,_,_,h]:=h;exact h.elim
def zer(h:PE (X.wish λZ Z=>False) e t):PE X e t:=λAU s σ H Q I hq=>tz (thn (h AU s σ H Q (I.wish _) hq) λv s'=>el5 λx H' I' r q=>#[x,H',I'.unwish,r,q])
def zaM(h:PTs (X.wish λZ Z=>False) ifs t):PTs X ifs t:=λAU s σ H Q I hq=>tz (thn (h AU s σ H Q (I.wish _) hq) λv s'=>el3 λH' I' q=>#[H',I'.unwish,q])
def yJ(hc:X.calm=AS)(S:kN X scope own caps ix)(hi:PI X tg iter wi)(hg:∀cl C AU s3 H3 fp,PG (yC X scope cl C (own ++ caps) AU s3 H3 fp λZ Z=>False) tg g)(ht:∀cl C AU s3 H3 fp,PTs (yC X scope cl C (own ++ caps) AU s3 H3 fp λZ Z=>False) ifs tt)(he:∀cl C AU s3 H3 fp,PE (yC X scope cl C (own ++ caps) AU s3 H3 fp λZ Z=>False) elt te)(hst:‹X.stack=X.env::X.outer/\X.env.frame=AQ X.env.locals›) (hs:‹∀x,foldedSetIterable iter X.env x=pure x›) :
  PE X (.ListComp elt [#[tg,iter,ifs,0]] scope pos) (qH wi g tt te own.length ix) :=
 Yg hc S hst xeN hi hg (λa b c d e f Z Z=>zaM (ht a b c d e f)) (λa b c d e f Z Z=>zer (he a b c d e f)) hs
def XD(hN:X.N.Nodup)(hy:X.N[i]? = AQ y)(hly:Loc X.env.scope y)(hf:X.fn y=AS\/X.env.scope.names.lookup y=AQ .local)(hc:X.calm=AS)(S:kN X scope own caps ix)(hi:PI X tg iter wi)(hg:∀cl C AU s3 H3 fp,PG (yC X scope cl C (own ++ caps) AU s3 H3 fp λZ Z=>False) tg g)(ht:∀cl C AU s3 H3 fp,PTs (yC X scope cl C (own ++ caps) AU s3 H3 fp λZ Z=>False) ifs tt)(he:∀cl C AU s3 H3 fp,PE (yC X scope cl C (own ++ caps) AU s3 H3 fp λZ Z=>False) elt te)(hst:‹X.stack=X.env::X.outer/\X.env.frame=AQ X.env.locals›)(hsw:‹swapsWith (.ListComp elt [#[tg,iter,ifs,0]] scope pos) (AQ (.Name y py)) spos.line X.env=pure AS›)(hs:‹∀x,foldedSetIterable iter X.env x=pure x›) :
  PS X (.Assign [.Name y py] (.ListComp elt [#[tg,iter,ifs,0]] scope pos) spos) (ZL i (qH wi g tt te own.length ix)):=by
 intros D I h;let#[cl,hclos,hc1,hc2]:=uK (scope:=scope) (env:=X.env) λy hy=>I.ok.has y (S.free y hy);rw[exec_Assign_Name_used _ _ _ _ hsw];refine sj (tw (sj ?_));show sC _ X.A (do let _ <- comprehension (.ListComp elt [#[tg,iter,ifs,0]] scope pos) scope X.env _ (newList []) AT (eval iter X.env) (AQ (assign (.Name y py) X.env))) _ _ s;refine sj (thn (Aa (use:=AQ (assign (.Name y py) X.env)) (Q:=λZ s'=>SP X AU D .next s') rfl hs hclos S.kind S.names (thn (hi AU s σ H _ I h) λv s1 h1=>thn h1 λitv s2 h2=>?_)) λZ s' hq=>sk (sk hq));let#[it,fp,tn,J,H2,e,I2,T,st2,f2,q]:=h2;subst e;refine ql (Q:=λx H1=>D.nx (σ.set i (AQ x)) H1) (RR:=λAW C=>compPost (model X.prog X.w) X.A X.xe (AQ (assign (.Name y py) X.env)) (λZ s'=>SP X AU D .next s') AW C) hc S hg (λa b c d e f Z Z=>zaM (ht a b c d e f)) hst xeN (λa b c d e f Z Z=>zer (he a b c d e f)) hc1 hc2 I2 T st2 f2 q ?_ λD C m s' x hn hp=>#[m,hn,hp];intro D' C m s' H1 hD' hn fc I1 nx;let#[a0,a1,a2,a3,a4,a5]:=fc;show sC _ X.A (assign (.Name y py) X.env (.ref D')) _ _ s';refine Au (Xh I1 hN hy hly (v:=.ref D') rfl (λs'' I2' ⟨a,sb,ha⟩=>?_) hf)
 have hCa:C≠a:=by
  rcases ha with e | e
  ·rw[e];exact a1
  ·exact λz=>a4 _ _ e z.symm
 refine#[m,hn.sameBut sb hCa,λh' sb'=>#[_,H1,I2'.turned (t':=s''.toks) (λb o hb e=>(sb'.2 b hb).trans e) a0 a1 a3 a4 a5,nx]]
end
end L3
namespace LL
open PySem L2 L3
mutual section
def top(i:Nat):sI:=PySem.Challenge.pw_letterlaw_k90_whole_thin_lists_judged.main.body.getD i (.Pass #[0,0,0,0])
abbrev yM:sI:=yH (top 4) 0
abbrev yc:sI:=yH (top 5) 0
abbrev y3:sI:=top 11
abbrev vj:sI:=top 12
abbrev vZ:sI:=top 13
abbrev zb6:sI:=top 14
abbrev WT:sI:=top 16
abbrev Z8:sI:=top 17
abbrev xS:sI:=top 20
abbrev vp:sI:=top 21
abbrev vL:sI:=top 22
abbrev wv:sI:=yH (top 23) 0
abbrev yG:sI:=yH (top 23) 1
abbrev Xu:sI:=top 25
abbrev qi:sI:=top 26
abbrev JM:sI:=top 27
abbrev jK:sI:=top 28
abbrev ZA:sI:=top 29
abbrev xT:sI:=top 30
abbrev qf:sI:=top 36
abbrev vC:sI:=top 37
abbrev vY:sI:=top 38
abbrev jH:sI:=top 39
abbrev yK:sI:=top 40
abbrev xZ:sI:=top 41
abbrev xz:sI:=top 42
abbrev wZ:sI:=top 43
abbrev jV:sI:=top 44
abbrev yQ:sI:=top 50
abbrev wB:sI:=top 51
abbrev xl:sI:=top 52
abbrev xP:sI:=top 53
abbrev qb:sI:=top 54
abbrev wA:sI:=top 55
abbrev vq:sI:=top 58
abbrev vo:sI:=yH (top 59) 0
abbrev wC:sI:=yH (top 59) 1
abbrev vV:sI:=yH (top 59) 3
abbrev xY:sI:=yH (top 59) 5
abbrev xV:sI:=yH (top 59) 6
abbrev wG:sI:=top 62
abbrev xx:sI:=top 63
abbrev vx:sI:=top 64
abbrev wu:sI:=top 65
abbrev wz:sI:=top 66
abbrev ww:sI:=top 70
abbrev y6:sI:=top 71
abbrev yS:sI:=top 72
abbrev ZD:sI:=top 73
abbrev vm:sI:=yH (top 75) 0
abbrev xR:sI:=yH (top 75) 1
abbrev wW:sI:=yH (top 75) 2
abbrev xN:sI:=yH (top 75) 3
abbrev wa:sI:=yH (top 75) 4
abbrev xj:sI:=yH (top 76) 0
abbrev QW:sI:=top 78
abbrev XZ:sI:=top 79
abbrev jr:sI:=top 80
abbrev Uy:sI:=top 81
abbrev Wc:sI:=top 82
abbrev XY:sI:=top 83
abbrev XR:sI:=top 84
abbrev JC:sI:=top 85
abbrev Qq:sI:=top 86
abbrev XF:sI:=top 87
abbrev zcM:sI:=top 88
abbrev jJ:sI:=top 89
abbrev vB:sI:=top 90
abbrev ZS:sI:=top 91
abbrev QY:sI:=top 92
abbrev JE:sI:=top 93
abbrev Zm:sI:=top 94
abbrev Z3:sI:=top 95
abbrev qh:sI:=top 96
abbrev zcR:sI:=top 97
abbrev Wj:sI:=top 98
abbrev ux:sI:=top 99
abbrev wx:sI:=top 100
abbrev u7:sI:=top 101
abbrev kC:sI:=top 102
end
section
variable{P:sH}{w:sM}{K:su}{mg:sF->Option sw}{base:sV}
seal L2.PE L2.PS L2.PA L2.PT L2.PSs L2.PI L2.PG L2.PW L2.PGs
local macro_rules | `($a<<<$b)=>`(Df $(mkIdent `P) $(mkIdent `w) $(mkIdent `K) $(mkIdent `mg) $(mkIdent `base) CX0 $a $b)
local macro_rules | `($a>>>$b)=>`(Df $(mkIdent `P) $(mkIdent `w) $(mkIdent `K) $(mkIdent `mg) $(mkIdent `base) (CXx $(mkIdent `P) $(mkIdent `w)) $a $b)
local macro_rules | `($a&&&$b)=>`(FnOk $(mkIdent `P) $(mkIdent `w) $(mkIdent `K) $(mkIdent `mg) $(mkIdent `base) CX0 $a $(mkIdent `f) $(mkIdent `fd) $b)
local macro_rules | `($a|||$b)=>`(FnOk $(mkIdent `P) $(mkIdent `w) $(mkIdent `K) $(mkIdent `mg) $(mkIdent `base) (CXx $(mkIdent `P) $(mkIdent `w)) $a $(mkIdent `f) $(mkIdent `fd) $b)
local macro_rules | `(!!$a)=>`(AQ (.ref $a))
local macro_rules | `(~~~$a)=>`(AQ (.str (tx $a)))
local macro_rules | `(-~~~$a)=>`(AQ (.int (($a):Nat)))
local macro_rules | `(~~~!$a)=>`(AQ (.int $a))
local macro_rules | `($a^^^$b)=>`(Fun $(mkIdent `K) $a $a $b $(mkIdent `f) $(mkIdent `fd))
end in abbrev sQz(n:Nat)(a:List PySem.Str)(s:PySem.Stmt):=zo a (a.take n) (zi s)
local macro_rules | `(tactic| rfl')=>do
 let A0←("zfu zfX zfw zge zfY zf7 zgi zfS zfD zft zbG zcD zcy zf9 zgj zfq zfM zf2 zbR zcr zbO zcN zcv zc4 zcQ zbL zc1 zf0 zgr zfo zfC zgq zgd zgg zgn zbJ zcU zcZ zbI zcP zci zco zcp".splitOn " ").toArray.mapM fun s=>`(Lean.Parser.Tactic.simpLemma| ↓$(mkIdent s.toName):ident)
 let A1←("zff Kl zaH zfh VT tOp tUn tC uc zK xv tCB zdk yt Kg zdi zfe tOr Jb US k7 tIf rI rI0 rU rGe zdC ut za0 zde zeB zem tSl ZG YV Um zdU tBM zfb zbC zbV L2.start zf1 cxK cxP cxW ao aH aG bH cD eC Nat.reduceAdd Nat.reduceSub cP dz aL aM bg bD vR eZ e7".splitOn " ").toArray.mapM fun s=>`(Lean.Parser.Tactic.simpLemma| $(mkIdent s.toName):ident)
 let A2←("zeL zbd zbc za1 zgB zfu zfX zfw zge zfY zf7 zgi zfS zfD zft zbG zcD zcy zf9 zgj zfq zfM zf2 zbR zcr zbO zcN zcv zc4 zcQ zbL zc1 zf0 zgr zfo zfC zgq zgd zgg zgn zbJ zcU zcZ zbI zcP zci zco zcp".splitOn " ").toArray.mapM fun s=>`(Lean.Parser.Tactic.simpLemma| ↓$(mkIdent s.toName):ident)
 let A3←("zff vR eZ e7 rU ZL zaz zdr zdp Kl zaH zfh VT tOp tUn Jk tC uc zK xv tCB zdk yt Kg zdi zfe tOr Jb US k7 tIf rI rI0 rEq_is rNe_is zdC ut za0 zeB zem zde tSl ZG YV rGe decide_false decide_true Prod.mk.injEq rLen_is zdq zfj UK K6 QP tyV tBM zfb if_true if_false be decide_eq_true_eq decide_eq_false_iff_not dC fZ fL lt1 Um zdU zdh YG zdf Wg Wh zeC zeO zdT zdy zdV zdx Value.ref.injEq L2.start zev ze3 zgT zgZ zgJ zed zgP zbC zbV zgz Uu zdN zdd zfr Zf U7 Yd yR jv zI zf1 zaB zeg cxK cxP cxW ao aH aG bH cD eC Nat.reduceAdd Nat.reduceSub and_assoc ze6 exists_eq exists_eq' exists_eq_left' exists_eq_left exists_eq_right exists_eq_right' exists_and_left exists_and_right V.int.injEq V.ref.injEq V.str.injEq V.bl.injEq V.ty.injEq reduceCtorEq false_and and_false true_and and_true or_false false_or exists_false exists_const cP dz Option.some.injEq aL aM List.cons.injEq aT bg bD zaF zaA zaN zaU".splitOn " ").toArray.mapM fun s=>`(Lean.Parser.Tactic.simpLemma| $(mkIdent s.toName):ident)
 `(tactic| first | (dsimp only[$A0,*,$A1,*];try simp only[$A2,*,$A3,*]) | simp only[$A2,*,$A3,*])
local macro_rules | `(tactic| ac_rfl)=>do
 let A0←("yq zC zL yw yz zB".splitOn " ").toArray.mapM fun s=>`(Lean.Parser.Tactic.simpLemma| $(mkIdent s.toName):ident)
 `(tactic| repeat (first | rfl' | simp only[$A0,*]))
mutual section
def nmB{α β:Type}{P B:α->β->Prop}(h:∀G:α->β->Prop,G=B->∀a b,P a b->G a b):∀a b,P a b->B a b:=h _ rfl
def nmC{α β γ:Type}{P B:α->β->γ->Prop}(h:∀G:α->β->γ->Prop,G=B->∀a b c,P a b c->G a b c):∀a b c,P a b c->B a b c:=h _ rfl
def nmE{α β γ δ ε:Type}{P R S B:α->β->γ->δ->ε->Prop}(h:∀G:α->β->γ->δ->ε->Prop,G=B->∀a b c d e,P a b c d e->R a b c d e->S a b c d e->G a b c d e):∀a b c d e,P a b c d e->R a b c d e->S a b c d e->B a b c d e:=h _ rfl
def xe0 : XE X E0:=λe s h=>by
 let#[_,_,_,_,_,_,_,_,_,_,_,_,_,_,h]:=h;exact h.elim
def small(l:()):Prop:=∀c ∈ l,97<=c/\c<=122
instance (l:()):Decidable (small l):=by unfold small;infer_instance
def kg(l:()):Bool:=decide (1<=l.length/\l.length<=6/\small l/\l.Nodup)
def Zo:Sp:=λvs H Q Z=>∃c:Nat,vs=[⇑[c]]/\Q (.bl (decide (97<=c/\c<=122))) H
def Kf:sQz 1 ["sign"] y3:=by nofun
def Kt(F:("is_small_letter"^^^y3)):(1&&&["sign"]) Zo:=by
 exists F.ok Kf
 ·let#[c,rfl,q]:=h;refine#[_,(ze (zl (Vn wH wH z9 (pv 0) z9))),?_];have ea:cs (("a" : sF))=[97]:=rfl;have ez:cs (("z" : sF))=[122]:=rfl
  rfl'
  erw[ea,ez,jv,lt1]
  refine yb (λh=>?_) λh=>?_
  ·have e:decide (97<=c/\c<=122)=!decide (122<c):=by
    by_cases h2:122<c
    ·rw[u6 h2,u9 ⋯];rfl
    ·rw[u9 h2,u6 ⋯];rfl
   rw[e]at q;exact q
  ·rw[u9 ⋯]at q;exact q
structure zgw(K:su)(mg:sF->Option sw)(C:sv):Prop where
 xi:XI K C
 ini:ah K (.ref C) "__init__" = AQ (AQ (.builtin "ValueError.__init__"))
 g:mg "NoLetters" = AQ (.ref C)
 most:∃t,mg "MOST_LETTERS" = AQ (.int 6 t)
def wD(C:sv):Sp:=λvs H Q E=>∃l:(),vs=[⇑l]/\l.length<=1000/\(kg l=AS->Q ⇑l H)/\(kg l=AT->E (.ref C) AR H)
def nE:sQz 1 ["text","sign"] vj:=by nofun
def ZK(B:Bt mg)(T:zgw K mg C)(F:("letters_of"^^^vj))(Ds:(1<<<"is_small_letter") ["sign"] [] Zo):(2|||["text"]) (wD C):=by
 exists Fun.okX F nE,0
 ·let#[l,rfl,hl,q1,q2]:=h;let#[t6,g6]:=T.most
  refine#[_,(zG (zJ (yf (qQ wH wH zd (zA B.len (pv 0)) (yI (v:=.int 6) rfl g6 #[t6,rfl]))) (ze (ym hx rfl T.xi.toXC T.ini rfl T.g (za z9 zg)))
    zr) (zG (zR PassesOwn.leaving rfl (YO (pv 0)) (zq (i:=1) nE.nd rfl (.inl rfl)) (zG (zJ (yf (WV (cl0 Ds hr .nil rfl (za (pv 1) zg)) (λZ=>rfl))) (ze (ym hx rfl T.xi.toXC T.ini rfl T.g (za z9 zg)))
     zr) (ze (zJ (zv Yw (wl bJ PySem.F.slot_str_count PySem.F.type_str_count zb0 (pv 0) (za (pv 1) zg)) zd (zx _)) (ze (ym hx rfl T.xi.toXC T.ini rfl T.g (za z9 zg)))
     zr)))) (ze (zl (pv 0))))),?_]
  have s16:=zW
  rfl'
  have bad:(¬ (1<=l.length/\l.length<=6/\small l/\l.Nodup))->∀H':Hp,H'=H->E (.ref C) AR H':=λh H' e=>by
   rw[e];exact q2 (u9 h)
  refine#[⋯,yb (λc=>yb (λc2=>#[⋯,bad (λh=>by have:=h.2.1;lia) H rfl]) (λc2=>?_)) (λc=>#[⋯,bad (λh=>by have:=h.1;lia) H rfl])];refine ForS.by (λi σ H'=>H'=H/\∃v,σ=[~~~l,v]/\small (l.take i)/\∀c ∈ l.take i,l.count c<=1) #[rfl,AR,rfl,λc h=>w4 h (by simp),λc h=>w4 h (by simp)] ?_ ?_
  ·refine nm4 ?_;rintro i c σ H' hg ⟨eH,v,rfl,hs,hn⟩:_;have hc:=ac hg;right
   rfl'
   erw[Zo]
   rfl'
   refine yb (λh=>#[⋯,bad (λz=>by have:=z.2.2.1 c hc;lia) _ eH]) (λh=>yb (λh2=>#[⋯,bad (λz=>?_) _ eH]) (λh2=>#[eH,?_,?_]))
   ·have:=Bx.mp z.2.2.2 c;lia
   ·rw[zQ hg];intro x hx;rcases Ba.mp hx with q | q
    ·exact hs x q
    ·have:x=c:=by simpa using q
     subst this;lia
   ·rw[zQ hg];intro x hx;rcases Ba.mp hx with q | q
    ·exact hn x q
    ·have:x=c:=by simpa using q
     subst this;lia
  ·refine nmB ?_;rintro σ H' ⟨eH,v,rfl,hs,hn⟩:_;rw[aI]at hs hn;right
   rfl'
   rw[eH];refine q1 (u6 #[⋯,⋯,hs,Bx.mpr λc=>?_]);by_cases hc:c ∈ l
   ·exact hn c hc
   ·rw[List.count_eq_zero.mpr hc];lia
def zw(l:())(k:Int)(p:()):Bool:=decide (0<=k/\k+p.length<=l.length/\(l.drop k.toNat).take p.length=p)
def vc:Sp:=λvs H Q Z=>∃(l p:()) (k:Int),vs=[⇑l,.int k,⇑p]/\l.length<=10000/\p.length<=10000/\Q (.bl (zw l k p)) H
def ZP(h1:l.length<=10000)(h2:p.length<=10000)(h:Q (.bl (zw l k p)) H):vc [⇑l,.int k,⇑p] H Q E:=#[l,p,k,rfl,h1,h2,h]
def YX:sQz 3 ["word","place","part"] vZ:=by nofun
def YM(B:Bt mg)(F:("stands_at"^^^vZ)):(1&&&["word","place","part"]) vc:=by
 exists F.ok YX
 ·let#[l,p,k,rfl,hl,hp,q]:=h
  refine#[_,(zG (zJ (yf (qQ wH wH zd (pv 1) (zD wc (zA B.len (pv 0)) (zA B.len (pv 2))))) (ze (zl yv))
    zr) (ze (zl (yi xA (zP yL (pv 0) (zO (pv 1)) (zO (zD z7 (pv 1) (zA B.len (pv 2))))) (pv 2) (zx _))))),?_]
  have s16:=zW
  rfl'
  have no:¬ (0<=k/\k+p.length<=l.length/\(l.drop k.toNat).take p.length=p)->Q (.bl AT) H:=λh=>by
   have e:zw l k p=AT:=u9 h;rw[e]at q;exact q
  refine yb (λh0=>#[⋯,⋯,yb (λh1=>no λh=>w4 h.2.1 ⋯) λh1=>#[⋯,⋯,?_]]) λh0=>no λh=>h0 h.1;rw[Zk _ h0 ⋯ ⋯];have e:(k+(p.length:Int) - k).toNat=p.length:=⋯;rw[e]
  have e2:zw l k p=decide ((l.drop k.toNat).take p.length=p):=by
   unfold zw;exact decide_eq_decide.mpr #[λh=>h.2.2,λh=>#[h0,⋯,h]]
  rw[<- e2];exact q
def yX(l:())(k:Int)(o n:()):():=l.take k.toNat ++ n ++ l.drop (k.toNat+o.length)
def yB(h:zw l k o=AS):l.take k.toNat ++ o ++ l.drop (k.toNat+o.length)=l/\(l.take k.toNat).length=k.toNat/\0<=k/\k+o.length<=l.length:=by
 unfold zw at h;rw[decide_eq_true_eq]at h;let#[h0,h1,h2]:=h;refine#[?_,by rw[aC];lia,h0,h1]
 have e:l.drop k.toNat=o ++ l.drop (k.toNat+o.length):=by
  have:=bW o.length (l.drop k.toNat);rw[h2,eG]at this;exact this.symm
 rw[aQ,<- e,bW]
def WQ(n:())(h:zw l k o=AS):zw (yX l k o n) k n=AS/\yX (yX l k o n) k n o=l:=by
 let#[e,hl,h0,h1]:=yB h
 have e1:(yX l k o n).take k.toNat=l.take k.toNat:=by
  unfold yX;rw[aQ,bw ⋯,aW ⋯]
 have e2:(yX l k o n).drop k.toNat=n ++ l.drop (k.toNat+o.length):=by
  unfold yX;rw[aQ,cB ⋯,bf ⋯,bg]
 have e3:(yX l k o n).length=l.length - o.length+n.length:=by
  unfold yX
  erw[aj,aS,hl]
  lia
 refine#[?_,?_]
 ·unfold zw;refine u6 #[h0,⋯,?_];rw[e2,bw ⋯,aW ⋯]
 ·show (yX l k o n).take k.toNat ++ o ++ (yX l k o n).drop (k.toNat+n.length)=l;rw[e1,<- eG,e2,cB ⋯,bf ⋯,bg];exact e
def zcj(h0:0<=k):cut l AR (AQ k) ++ n ++ cut l (AQ (k + ↑o.length)) AR=yX l k o n:=by rw[uI _ h0,xp _ ⋯];have:(k+(o.length:Int)).toNat=k.toNat+o.length:=⋯;rw[this];rfl
structure TNU(K:su)(mg:sF->Option sw)(C:sv):Prop where
 xi:XI K C
 g:mg "NoUse" = AQ (.ref C)
 na:NoAttr K C "at"
def Zs:sQz 2 ["self","at"] yM:=by nofun
def ZN(T:TNU K mg C)(F:Fun K "__init__" "NoUse.__init__" yM f fd):(1&&&["self","at"]) (uj C "at"):=by
 exists F.ok Zs
 ·let#[x,v,rfl,hx,q]:=h;refine#[_,(ze (UM (pv 0) (pv 1) rfl)),?_]
  erw[zb1]
  rfl'
  exact#[C,hx,T.xi.toXC,T.na,q]
structure DNU(P:sH)(w:sM)(K:su)(mg:sF->Option sw)(base:sV)(C:sv):Prop extends TNU K mg C where
 ini:∃f fd,ah K (.ref C) "__init__" = AQ (AQ (.ref f))/\bc K (.ref f)=AS/\(1&&&["self","at"]) (uj C "at")/\Binds K fd ["self","at"] []
def Wv(C:sv):Sp:=λvs H Q E=>∃(l o n:()) (k:Int),vs=[⇑l,.int k,⇑o,⇑n]/\l.length<=10000/\o.length<=10000/\n.length<=10000/\(zw l k o=AS->Q ⇑(yX l k o n) H)/\(zw l k o=AT->∀d H',zfy H d "at" (.int 0) H'->E (.ref C) (AQ d) H')
def zdw:sQz 4 ["word","place","old","new"] zb6:=by nofun
def zdK(B:Bt mg)(T:DNU P w K mg base C)(F:("put"^^^zb6))(rf:(1<<<"stands_at") ["word","place","part"] [] vc):(3|||["word","place","old","new"]) (Wv C):=by
 let#[fi,fdi,hi,hfn,Fi,Bi]:=T.ini
 exists Fun.okX F zdw,0
 ·let#[l,o,n,k,rfl,hl,ho,hn,q1,q2]:=h
  refine#[_,(zG (zJ (yf (WV (cl0 rf hr .nil rfl (za (pv 0) (za (pv 1) (za (pv 2) zg)))) (λZ=>rfl))) (ze (YB hx rfl T.xi.toXC hi hfn Fi hr Bi rfl T.g (za zd zg)))
    zr) (ze (zl (zD zS (zD zS (zP yL (pv 0) yo (zO (pv 1))) (pv 3)) (zP yL (pv 0) (zO (zD z7 (pv 1) (zA B.len (pv 2)))) yo))))),?_]
  have s16:=zW
  rfl'
  refine ZP hl ho ?_
  rfl'
  refine yb (λhb=>#[⋯,Qn (q2 hb)]) λhb=>?_;have hb':zw l k o=AS:=by simpa using hb
  let#[_,_,h0,h1]:=yB hb';have c1:=vb l AR (AQ k);have c2:=vb l (AQ (k + ↑o.length)) AR;refine#[⋯,⋯,⋯,⋯,?_,?_]
  ·erw[aj]
   lia
  ·have e:cut l AR (AQ k) ++ n ++ cut l (AQ (k + ↑o.length)) AR=yX l k o n:=by
    rw[uI _ h0,xp _ ⋯];have:(k+(o.length:Int)).toNat=k.toNat+o.length:=⋯;rw[this];rfl
   rw[e];exact q1 hb'
structure TOrd(K:su)(mg:sF->Option sw)(CO CR CW:sv):Prop where
 cO:Cls K CO
 cR:Cls K CR
 cW:Cls K CW
 gO:mg "Order" = AQ (.ref CO)
 gR:mg "FromRight" = AQ (.ref CR)
 lO:NoAttr K CO "letters"
 lR:NoAttr K CR "letters"
 lW:NoAttr K CW "letters"
def OrdAt(CO CR CW:sv)(H:Hp)(o:sv)(k:Nat)(l:())(ns:List Int):Prop:=∃dx,(k=0/\H o=AQ (.ins CO dx [("letters",⇑l)]))\/(k=1/\H o=AQ (.ins CR dx [("letters",⇑l)]))
def OrdAt.same{CO CR CW:sv}{H H':Hp}{o:sv}{k:Nat}{l:()}{ns:List Int}(h:OrdAt CO CR CW H o k l ns)(e:Same H H'):OrdAt CO CR CW H' o k l ns:=by
 obtain⟨dx,⟨h1,h2⟩ | ⟨h1,h2⟩⟩:=h
 ·exact#[dx,.inl #[h1,e _ _ h2]]
 ·exact#[dx,.inr #[h1,e _ _ h2]]
def J0(l:())(ns:List Int)(w:()):Int:=((l.zip ns).map λp=>(w.count p.1:Int) * p.2).sum
def zE(k:Nat)(l:())(ns:List Int)(w:()):Int:=if k=2 then J0 l ns w else (w.length:Int)
def yD(k:Nat)(w:()):():=if k=1 then w.reverse else w
def Zv(K:su):Sp:=λvs H Q Z=>∃(x C dx:sv) (l:()),vs=[.ref x,⇑l]/\kg l=AS/\Cls K C/\NoAttr K C "letters"/\H x=AQ (.ins C dx [])/\Q .non (upd H x (.ins C dx [("letters",⇑l)]))
def Zt:sQz 2 ["self","letters"] vm:=by nofun
def ui(B:Bt mg)(F:Fun K "__init__" "Order.__init__" vm f fd)(mq:(2>>>"letters_of") ["text"] [] (wD C)):(3&&&["self","letters"]) (Zv K):=by
 exists F.ok Zt
 ·let#[x,C,dx,l,rfl,hg,hC,hN,hx,q]:=h;refine#[_,(ze (Xj (pv 0) (clP xe0 mq hr .nil rfl (za (pv 1) zg)) rfl)),?_];have s16:=zW
  rfl'
  exact#[l,rfl,by have:=u5 hg;lia,λZ=>#[_,_,_,hx,hC,hN,∅,q],λe=>by rw[hg]at e;cases e]
def Z7:Sp:=λvs H Q Z=>∃(o:sv) (w:()),vs=[.ref o,⇑w]/\w.length<=1000/\Q (.int (w.length:Nat)) H
def jB:sQz 2 ["self","word"] xR:=by nofun
def wQ(B:Bt mg)(F:Fun K "weight" "Order.weight" xR f fd):(1&&&["self","word"]) Z7:=by
 exists F.ok jB
 ·let#[o,w,rfl,hw,q]:=h;refine#[_,(ze (zl (zA B.len (pv 1)))),?_];have s16:=zW
  rfl'
  exact#[⋯,q]
def Js:Sp:=λvs H Q Z=>∃(o:sv) (w:()),vs=[.ref o,⇑w]/\Q ⇑w H
def ZY:sQz 2 ["self","word"] wW:=by nofun
def ZZ(B:Bt mg)(F:Fun K "seen" "Order.seen" wW f fd):(1&&&["self","word"]) Js:=by
 exists F.ok ZY
 ·let#[o,w,rfl,q]:=h;refine#[_,(ze (zl (pv 1))),?_];have s16:=zW
  rfl'
  exact q
def Xr:Sp:=λvs H Q Z=>∃(o:sv) (w:()),vs=[.ref o,⇑w]/\w.length<=1000/\Q ⇑w.reverse H
def uO:sQz 2 ["self","word"] xj:=by nofun
def qg(B:Bt mg)(F:Fun K "seen" "FromRight.seen" xj f fd):(1&&&["self","word"]) Xr:=by
 exists F.ok uO
 ·let#[o,w,rfl,hw,q]:=h;refine#[_,(ze (zl (zbP (pv 1) (zfP zd3 zd)))),?_];have s16:=zW;ac_rfl;exact#[⋯,q]
theorem zdG : xm (AR::AR::r) (AQ x::AQ y::r):=#[rfl,λi v h=>by
 cases i with
 | zero=>cases h
 | succ i =>
  cases i with
  | zero=>cases h
  | succ i=>exact h]
def zf8(l:())(c e:Nat):StrLaws.At (tx l) (tx [c]) (tx l).length e ↔ l[e]? = AQ c:=by
 unfold StrLaws.At Builtin.Str.subAt;rw[zI,zI];have h1:[c].length=1:=rfl;rw[h1,beq_iff_eq]
 have e1:((tx l).cps.extract e (e+1)).toList=(l.drop e).take 1:=by
  show (l.toArray.extract e (e+1)).toList=_;simp [eU]
 have e2:((tx l).cps.extract e (e+1)=(tx [c]).cps) ↔ (l.drop e).take 1=[c]:=by
  constructor
  ·intro h;rw[<- e1,h]
  ·intro h;apply Array.toList_inj.mp;rw[e1,h]
 constructor
 ·rintro⟨h2,h3⟩;have:=e2.mp h3;rw[aY ⋯,eD,bu]at this;rw[af ⋯];injection this with h _;rw[h]
 ·intro h;let#[he,hx]:=AX.mp h;refine#[⋯,e2.mpr ?_];rw[aY he,eD,bu,hx]
def WP(h:c ∈ l):Txt.find (tx l) (tx [c])=((l.idxOf c:Nat):Int):=by
 have hlt:=bO h;have hg:l[l.idxOf c]? = AQ c:=by rw[af hlt,eI]
 rcases PyProof.Rows.find_whole (tx l) (tx [c])with ⟨h1,h2⟩ | ⟨e,h1,h2,h3⟩
 ·exact w4 ((zf8 l c _).mpr hg) (h2 _)
 ·have he:=(zf8 l c e).mp h2
  have:e=l.idxOf c:=by
   rcases dD e (l.idxOf c)with q | q | q
   ·have:=List.not_of_lt_findIdx (p:=(· == c)) q;let#[h4,h5]:=AX.mp he;simp [h5]at this
   ·exact q
   ·exact w4 ((zf8 l c _).mpr hg) (h3 _ q)
  rw[h1,this]
abbrev MkO(P:sH)(w:sM)(K:su)(mg:sF->Option sw)(base:sV)(C:sv):Prop:=DMk P w K mg base CX0 3 C ["self","letters"] (Zv K)
abbrev MW(P:sH)(w:sM)(K:su)(mg:sF->Option sw)(base:sV)(C:sv)(m:sF)(sp:Sp):Prop:=DM P w K mg base CX0 1 C m ["self","word"] sp
structure TWS(P:sH)(w:sM)(K:su)(mg:sF->Option sw)(base:sV)(CO CR CW:sv):Prop extends TOrd K mg CO CR CW where
 mO:MkO P w K mg base CO
 mR:MkO P w K mg base CR
 wO:MW P w K mg base CO "weight" Z7
 wR:MW P w K mg base CR "weight" Z7
 sO:MW P w K mg base CO "seen" Js
 sR:MW P w K mg base CR "seen" Xr
structure OG(l:())(ns:List Int)(k:Nat):Prop where
 g:kg l=AS
 k3:k<3
 nl:ns.length=l.length
 nb:∀n ∈ ns,1<=n/\n<=1000000
def qF(l:())(w:()):List Int:=w.map λc=>((l.idxOf c:Nat):Int)
def uo(k:Nat)(l:())(w:()):List Int:=qF l (yD k w)
def zeU(CO CR CW:sv):sv->Prop:=λC=>C=CO\/C=CR\/C=CW
def OrdAt.fam{CO CR CW:sv}(h:OrdAt CO CR CW H o k l ns):∃C dx fs,zeU CO CR CW C/\H o=AQ (.ins C dx fs)/\(∀m:sF,m≠"letters"->m≠"weights"->fs.lookup m=AR)/\fs.lookup ("letters" : sF)=AQ (V.str (tx l)):=by
 have e1:∀m:sF,m≠"letters"->(m ==("letters" : sF))=AT:=λm hm=>by simpa using hm
 obtain⟨dx,⟨h1,h2⟩ | ⟨h1,h2⟩⟩:=h
 ·exact#[_,_,_,.inl rfl,h2,λm hm Z=>by simp [bA,e1 m hm],rfl]
 ·exact#[_,_,_,.inr (.inl rfl),h2,λm hm Z=>by simp [bA,e1 m hm],rfl]
def jN(CO CR CW:sv):Sp:=λvs H Q Z=>∃(o:sv) (k:Nat) (l:()) (ns:List Int) (w:()),vs=[.ref o,⇑w]/\OrdAt CO CR CW H o k l ns/\OG l ns k/\w.length<=1000/\(∀c ∈ w,c ∈ l)/\∀(p q:sv) (H':Hp),Same H H'->H' p=AQ (.tup [.int (zE k l ns w),.ref q])->H' q=AQ (.lst ((uo k l w).map V.int))->Q (.ref p) H'
def KJ{CO CR CW o D:sv}(T:TOrd K mg CO CR CW)(ho:OrdAt CO CR CW H o k l ns)(hl:v.length<=1000)(hm:∀c ∈ v,c ∈ l)(hD:H D=AR)(q:∀H',Same H H'->H' D=AQ (.lst ((qF l v).map V.int))->Q (.ref D) H') :
  CompS (tx v) (yt 0) xo (tBM K "str" zB (zdd K (ya 1) "letters") (zK (ya 0) xv)) 1 [0] [!!o,a1] H Q D:=by
 have s16:=zW;refine CompS.by (λi AW H'=>Same H H'/\H' D=AQ (.lst AW)/\AW=(qF l (v.take i)).map V.int) #[zf hD,zc,rfl] ?_ ?_
 ·refine nm4 ?_;rintro i c AW H' hc ⟨hs,hH,rfl⟩:_;have hci:=(AX.mp hc).1;have hcl:=hm c (ac hc);let#[C,dx,fs,hf,ho',_,hlk]:=(ho.same hs).fam
  have hC:Cls K C/\NoAttr K C "letters":=by
   rcases hf with rfl | rfl | rfl
   ·exact#[T.cO,T.lO]
   ·exact#[T.cR,T.lR]
   ·exact#[T.cW,T.lW]
  right
  erw[xo]
  ac_rfl;refine#[yx,_,_,_,ho',hC.1,hC.2,_,hlk,trivial,_,rfl,_,WP hcl,hH,by rw[aa];unfold qF;rw[aa,aC];lia,CNx.mk hci #[zu hs hD,zc,?_]];unfold qF;rw[zQ hc,am,am];rfl
 ·refine nmB ?_;rintro AW H' ⟨hs,hH,rfl⟩:_;rw[aI]at hH;right;exact q H' hs hH
def ZE:sQz 2 ["self","word"] xN:=by nofun
def ug{f CO CR CW:sv}(B:Bt mg)(T:TWS P w K mg base CO CR CW)(F:Fun K "rank" "Order.rank" xN f fd):(2&&&["self","word"]) (jN CO CR CW):=by
 exists F.ok ZE
 ·let#[o,k,l,ns,w,rfl,ho,hG,hw,hm,q]:=h;refine#[_,(ze (zl (zX (za (ze4 T.wO T.wR T.wO T.cO T.cR T.cO hr (pv 0) (za (pv 1) zg)) (za (yJ (own:=["letter"]) (caps:=["self"]) (ix:=[0]) (tt:=xo) (te:=(tBM K "str" zB (zdd K (ya 1) "letters") (zK (ya 0) xv))) rfl (zM (sc:=zi xN) rfl (!0) (!0) (!0) rfl (!0) (!0) rfl) (YO (ze4 T.sO T.sR T.sO T.cO T.cR T.cO hr (pv 0) (za (pv 1) zg))) (λZ Z Z Z Z Z=>zq (i:=0) (show List.Nodup [_,_] by decide) rfl (.inl rfl)) (λZ Z Z Z Z Z=>yh) (λZ Z Z Z Z Z=>(wl bJ fB fF JN (jg (pv 1) rfl) (za (pv 0) zg)))) zg))))),?_];have s16:=zW
  have hsl:(yD k w).length<=1000:=by
   unfold yD;split
   ·rw[bK];exact hw
   ·exact hw
  have hsm:∀c ∈ yD k w,c ∈ l:=λc hc=>by
   unfold yD at hc;split at hc
   ·exact hm c (Bf.mp hc)
   ·exact hm c hc
  have l6:l.length<=6:=(u5 hG.g).2.1;have fin:∀H1,Same H H1->∀D,H1 D=AR->CompS (tx (yD k w)) (yt 0) xo (tBM K "str" zB (zdd K (ya 1) "letters") (zK (ya 0) xv)) 1 [0] [!!o,~~~w] H1 (λx5 H1=>2<=sr/\∀p,H1 p=AR->Q (.ref p) (upd H1 p (.tup [.int (zE k l ns w),x5]))) D:=λH1 s1 D hD=>KJ T.toTOrd (ho.same s1) hsl hsm hD λH' s' hH=>#[⋯,λp hp=>q p D _ (s1.trans (s'.trans (zf hp))) zc (zf hp _ _ hH)];ac_rfl;obtain⟨dx',⟨h1,h2⟩ | ⟨h1,h2⟩⟩:=id ho
  ·have e1:zE k l ns w=(w.length:Int):=by unfold zE;rw[w9 ⋯]
   have e2:yD k w=w:=by unfold yD;rw[w9 ⋯]
   rw[e1,e2]at fin;exact .inl #[_,_,h2,rfl,o,w,rfl,hw,.inl #[_,_,h2,rfl,o,w,rfl,_,rfl,fin H (Same.refl _)]]
  ·have e1:zE k l ns w=(w.length:Int):=by unfold zE;rw[w9 ⋯]
   have e2:yD k w=w.reverse:=by unfold yD;rw[w6 h1]
   rw[e1,e2]at fin;exact .inr (.inl #[_,_,h2,rfl,o,w,rfl,hw,.inr (.inl #[_,_,h2,rfl,o,w,rfl,hw,_,rfl,fin H (Same.refl _)])])
def zU(k:Nat)(l:())(ns:List Int)(u v:()):Bool:=if zE k l ns u=zE k l ns v then ltI (uo k l u) (uo k l v)else decide (zE k l ns u<zE k l ns v)
abbrev DR(P:sH)(w:sM)(K:su)(mg:sF->Option sw)(base:sV)(CO CR CW:sv):Prop:=DMF P w K mg base CX0 2 (zeU CO CR CW) "rank" ["self","word"] (λZ=>jN CO CR CW)
def Z4{ns:List Int}(hp:H p=AQ (.tup [.int z,.ref q]))(hq:H q=AQ (.lst (ns.map V.int))):Is K H (.tup [.int z,.lst (ns.map L3.D.int)]) (.ref p):=by
 erw[Is,Iss]
 exact#[p,_,rfl,SqT.of hp,_,_,rfl,rfl,_,_,rfl,#[q,_,rfl,SqL.of hq,Iss.ints ns],rfl]
theorem xt:∀x:List Int,ltI x x=AT
 | []=>rfl
 | a::x=>by
  rw[ltI,w6 rfl];exact xt x
def Qo(a b:Int)(x y:List Int):ltD (.tup [.int a,.lst (x.map L3.D.int)]) (.tup [.int b,.lst (y.map L3.D.int)])=if a=b then ltI x y else decide (a<b):=by
 erw[ltD,wL,eqD,je,Yo]
 by_cases h:a=b
 ·subst h;by_cases h2:x=y
  ·subst h2;simp [xt]
  ·simp [h2]
 ·simp [h]
def U8(CO CR CW:sv):Sp:=λvs H Q Z=>∃(o:sv) (k:Nat) (l:()) (ns:List Int) (u v:()),vs=[.ref o,⇑u,⇑v]/\OrdAt CO CR CW H o k l ns/\OG l ns k/\u.length<=1000/\v.length<=1000/\(∀c ∈ u,c ∈ l)/\(∀c ∈ v,c ∈ l)/\∀H':Hp,Same H H'->Q (.bl (zU k l ns u v)) H'
def jz:sQz 3 ["self","one","other"] wa:=by nofun
def va{f CO CR CW:sv}(B:Bt mg)(DRk:DR P w K mg base CO CR CW)(F:Fun K "before" "Order.before" wa f fd):(3&&&["self","one","other"]) (U8 CO CR CW):=by
 exists F.ok jz
 ·let#[o,k,l,ns,u,v,rfl,ho,hG,hu,hv,hmu,hmv,q]:=h;refine#[_,(ze (zl (yi (zeJ (wE hr)) (zdg DRk hr (pv 0) (za (pv 1) zg)) (zdg DRk hr (pv 0) (za (pv 2) zg)) (zx _)))),?_];have s16:=zW;ac_rfl;let#[C,dx,fs,hf,ho1,hn,_]:=ho.fam;have h1:fs.lookup ("rank" : sF)=AR:=hn _ ∅ ∅;refine#[C,hf,dx,fs,ho1,h1,o,k,l,ns,u,rfl,ho,hG,hu,hmu,λp x H1 s1 hp hx=>#[C,hf,dx,fs,s1 _ _ ho1,h1,o,k,l,ns,v,rfl,ho.same s1,hG,hv,hmv,λp' x' H2 s2 hp' hx'=>?_]];refine zbA (Z4 (s2 _ _ hp) (s2 _ _ hx)) (Z4 hp' hx') (by erw[dpD,vH,uN];decide) (by erw[okD,Zz];exact#[trivial,ur _ _,trivial]) ?_;rw[Qo];exact q H2 (s1.trans s2)
abbrev DB(P:sH)(w:sM)(K:su)(mg:sF->Option sw)(base:sV)(CO CR CW:sv):Prop:=DMF P w K mg base CX0 3 (zeU CO CR CW) "before" ["self","one","other"] (λZ=>U8 CO CR CW)
def zaZ(k:Int)(ls:())(ns:List Int)(w:()):Int:=(w.map λc=>if k=2 then ns.getD (ls.idxOf c) 0 else 1).sum
theorem Kz{w:()}(h:k≠2):zaZ k ls ns w=(w.length:Int):=by
 unfold zaZ
 induction w with
 | nil=>rfl
 | cons c w ih =>
  rw[ao,bv,ih,w9 h,aG];lia
theorem jP{ls:()}(f g:Nat->Int):((ls.zip ns).map λp=>(f p.1+g p.1) * p.2).sum=((ls.zip ns).map λp=>f p.1 * p.2).sum+((ls.zip ns).map λp=>g p.1 * p.2).sum:=by
 induction ls.zip ns with
 | nil=>rfl
 | cons p r ih =>
  rw[ao,ao,ao,bv,bv,bv,ih,Int.add_mul];lia
theorem Q1:∀{ls:()} {ns:List Int} {c:Nat},ls.Nodup->ns.length=ls.length->c ∈ ls->((ls.zip ns).map λp=>(if p.1=c then (1:Int)else 0) * p.2).sum=ns.getD (ls.idxOf c) 0
 | [],ns,c,_,_,hc=>(nomatch hc)
 | d::ls,[],c,_,hl,_=>by cases hl
 | d::ls,n::ns,c,hn,hl,hc=>by
  rw[dq,ao,bv];have hnd:=Bh.mp hn;by_cases h:d=c
  ·subst h
   have h0:∀(l:()) (m:List Int),d ∉ l->((l.zip m).map λp=>(if p.1=d then (1:Int)else 0) * p.2).sum=0:=by
    intro l
    induction l with
    | nil=>intro m _;rfl
    | cons x l ih =>
     intro m hx
     cases m with
     | nil=>rfl
     | cons y m =>
      rw[dq,ao,bv,ih m (λq=>hx (ar _ q)),w9 (show ¬ x=d from λe=>hx (by rw[e];exact aB))];lia
   rw[h0 ls ns hnd.1,w6 rfl,List.idxOf_cons_self];simp
  ·have hc':c ∈ ls:=by
    rcases AZ.mp hc with e | e
    ·exact w4 e.symm h
    ·exact e
   rw[Q1 hnd.2 ↥hl hc',w9 h,List.idxOf_cons,show (d == c)=AT by simpa using h];simp
theorem VC(hn:ls.Nodup)(hl:ns.length=ls.length):∀{w:()},(∀x ∈ w,x ∈ ls)->zaZ 2 ls ns w=J0 ls ns w
 | [],_=>by
  have h0:∀r:List (Nat × Int),(r.map λp=>((([]:()).count p.1:Nat):Int) * p.2).sum=0:=by
   intro r
   induction r with
   | nil=>rfl
   | cons p r ih=>rw[ao,bv,ih];simp
  exact (h0 _).symm
 | c::w,h=>by
  have ih:=VC hn hl (w:=w) λx hx=>h x (ar _ hx)
  have e1:zaZ 2 ls ns (c::w)=ns.getD (ls.idxOf c) 0+zaZ 2 ls ns w:=by
   unfold zaZ;rw[ao,bv,w6 rfl]
  rw[e1,ih,<- Q1 hn hl (h c aB)];unfold J0;rw[<- jP (λx=>if x=c then 1 else 0) (λx=>(w.count x:Int))];refine congrArg List.sum (bT λp Z=>?_);rw[List.count_cons];by_cases e:c=p.1
  ·rw[w6 e.symm,w6 ↥e];simp [Int.add_comm]
  ·rw[w9 (λz=>e z.symm),w9 ↥e];simp
def wt(k:Nat)(ns:List Int)(i:Int):Int:=if k=2 then ns.getD i.toNat 0 else 1
theorem wk{g:Int->Int}:∀{x:List Int},(∀i ∈ x,0<g i)->0<=(x.map g).sum
 | [],_=>by simp
 | a::x,h=>by
  have h1:=h a aB;have h2:=wk (x:=x) λi hi=>h i (ar _ hi);rw[ao,bv];lia
theorem wY:∀{x y:List Int},x≠y->ltI x y=!ltI y x
 | [],[],h=>w4 rfl h
 | [],_::_,_=>rfl
 | _::_,[],_=>rfl
 | a::x,b::y,h=>by
  rw[ltI,ltI];by_cases e:a=b
  ·rw[w6 e,w6 e.symm];exact wY λq=>h (by rw[e,q])
  ·rw[w9 e,w9 λq=>e q.symm];by_cases c:a<b
   ·rw[u6 c,u9 ⋯];rfl
   ·rw[u9 c,u6 ⋯];rfl
theorem jI:∀{x y z:List Int},ltI x y=AS->ltI y z=AS->ltI x z=AS
 | [],[],_,h,_=>by cases h
 | [],_::_,[],_,h=>by cases h
 | [],_::_,_::_,_,_=>rfl
 | _::_,[],_,h,_=>by cases h
 | _::_,_::_,[],_,h=>by cases h
 | a::x,b::y,c::z,h1,h2=>by
  rw[ltI]at h1 h2 ⊢;by_cases e:a=b
  ·subst e;rw[w6 rfl]at h1;by_cases f:a=c
   ·rw[w6 f]at h2 ⊢;exact jI h1 h2
   ·rw[w9 f]at h2 ⊢;exact h2
  ·rw[w9 e]at h1;have h1':=u5 h1;by_cases f:b=c
   ·subst f;rw[w9 e];exact h1
   ·rw[w9 f]at h2;have h2':=u5 h2;rw[w9 ⋯];exact u6 ⋯
theorem X4:∀(c x y:List Int),ltI (c ++ x) (c ++ y)=ltI x y
 | [],_,_=>rfl
 | a::c,x,y=>by
  rw[bD,bD,ltI,w6 rfl];exact X4 c x y
theorem Wr{g:Int->Int}:∀{x y:List Int},(∀i ∈ x,0<g i)->(∀i ∈ y,0<g i)->(x.map g).sum=(y.map g).sum->ltI (x ++ c) (y ++ c)=ltI x y
 | [],[],_,_,_=>xt c
 | [],b::y,_,hy,h=>by
  have h1:=hy b aB;have h2:=wk (x:=y) λi hi=>hy i (ar _ hi);rw[ao,bv,aH,List.sum_nil]at h;lia
 | a::x,[],hx,_,h=>by
  have h1:=hx a aB;have h2:=wk (x:=x) λi hi=>hx i (ar _ hi);rw[ao,bv,aH,List.sum_nil]at h;lia
 | a::x,b::y,hx,hy,h=>by
  rw[bD,bD,ltI,ltI];by_cases e:a=b
  ·rw[w6 e,w6 e];rw[ao,bv,ao,bv,e]at h;exact Wr (λi hi=>hx i (ar _ hi)) (λi hi=>hy i (ar _ hi)) ⋯
  ·rw[w9 e,w9 e]
end
section
mutual section
variable{k:Nat}{l:()}{ns:List Int}{t u v:()}
def zar(a b:()):J0 l ns (a ++ b)=J0 l ns a+J0 l ns b:=by unfold J0;rw[<- jP (λx=>(a.count x:Int)) (λx=>(b.count x:Int))];refine congrArg List.sum (bT λp Z=>?_);rw[List.count_append];simp
theorem xw(a b:()):zE k l ns (a ++ b)=zE k l ns a+zE k l ns b:=by
 unfold zE;by_cases h:k=2
 ·rw[w6 h,w6 h,w6 h,zar]
 ·rw[w9 h,w9 h,w9 h,aj];lia
theorem xu(G:OG l ns k):∀{w:()},(∀c ∈ w,c ∈ l)->zE k l ns w=((qF l w).map (wt k ns)).sum:=by
 intro w hm;have hn:l.Nodup:=(u5 G.g).2.2.2
 have e:((qF l w).map (wt k ns)).sum=zaZ (k:Int) l ns w:=by
  unfold qF zaZ;rw[ce];refine congrArg List.sum (bT λc Z=>?_);show wt k ns _=_;unfold wt;by_cases h:k=2
  ·rw[w6 h,w6 ⋯,aA]
  ·rw[w9 h,w9 ⋯]
 rw[e];unfold zE;by_cases h:k=2
 ·rw[w6 h,h];exact (VC hn G.nl hm).symm
 ·rw[w9 h,Kz ⋯]
theorem YA(G:OG l ns k)(hm:∀c ∈ u,c ∈ l):∀i ∈ qF l u,0<wt k ns i:=by
 intro i hi;let#[c,hc,rfl]:=AY.mp hi;have hlt:=bO (hm c hc);have hl:=G.nl;unfold wt;split
 ·rw[aA,ae,af ⋯];have:=(G.nb _ (dN (l:=ns) (n:=l.idxOf c) ⋯)).1;show 0<ns[l.idxOf c];lia
 ·decide
def uB(G:OG l ns k)(hm:∀c ∈ u,c ∈ l):0<=zE k l ns u:=by rw[xu G hm];exact wk (YA G hm)
theorem kH(G:OG l ns k)(hm:∀c ∈ u,c ∈ l)(h:u≠[]):0<zE k l ns u:=by
 cases u with
 | nil=>exact w4 rfl h
 | cons a u =>
  have h1:=YA G hm (l.idxOf a:Nat) (AY.mpr #[a,aB,rfl]);have h2:0<=((qF l u).map (wt k ns)).sum:=wk (YA (u:=u) G λc hc=>hm c (ar _ hc));rw[xu G hm];show 0<((((l.idxOf a:Nat):Int)::qF l u).map (wt k ns)).sum;rw[ao,bv];lia
theorem ZC:∀{u v:()},(∀c ∈ u,c ∈ l)->(∀c ∈ v,c ∈ l)->qF l u=qF l v->u=v
 | [],[],_,_,_=>rfl
 | [],_::_,_,_,h=>by cases h
 | _::_,[],_,_,h=>by cases h
 | a::u,b::v,hu,hv,h=>by
  unfold qF at h;rw[ao,ao]at h;injection h with h1 h2;have h3:l.idxOf a=l.idxOf b:=⋯;have ha:=eI (bO (hu a aB));have hb:=eI (bO (hv b aB))
  have:a=b:=by
   rw[<- ha,<- hb]
   erw[h3]
  rw[this,ZC (λc hc=>hu c (ar _ hc)) (λc hc=>hv c (ar _ hc)) h2]
def xG:zU k l ns u u=AT:=by unfold zU;rw[w6 rfl,xt]
def Yb(hu:∀c ∈ u,c ∈ l)(hv:∀c ∈ v,c ∈ l)(h:uo k l u=uo k l v):u=v:=by
 unfold uo yD at h;by_cases e:k=1
 ·rw[w6 e,w6 e]at h;exact List.reverse_inj.mp (ZC (λc hc=>hu c (Bf.mp hc)) (λc hc=>hv c (Bf.mp hc)) h)
 ·rw[w9 e,w9 e]at h;exact ZC hu hv h
theorem jQ(hu:∀c ∈ u,c ∈ l)(hv:∀c ∈ v,c ∈ l)(h:u≠v):zU k l ns u v=!zU k l ns v u:=by
 unfold zU;by_cases e:zE k l ns u=zE k l ns v
 ·rw[w6 e,w6 e.symm];exact wY λq=>h (Yb hu hv q)
 ·rw[w9 e,w9 λq=>e q.symm];by_cases c:zE k l ns u<zE k l ns v
  ·rw[u6 c,u9 ⋯];rfl
  ·rw[u9 c,u6 ⋯];rfl
theorem ji(h1:zU k l ns t u=AS)(h2:zU k l ns u v=AS):zU k l ns t v=AS:=by
 unfold zU at h1 h2 ⊢;generalize zE k l ns t=a at *;generalize zE k l ns u=b at *;generalize zE k l ns v=c at *;by_cases e:a=b
 ·subst e;rw[w6 rfl]at h1;by_cases f:a=c
  ·rw[w6 f]at h2 ⊢;exact jI h1 h2
  ·rw[w9 f]at h2 ⊢;exact h2
 ·rw[w9 e]at h1;have h1':=u5 h1;by_cases f:b=c
  ·subst f;rw[w9 e];exact h1
  ·rw[w9 f]at h2;have h2':=u5 h2;rw[w9 ⋯];exact u6 ⋯
def WZ(a b:()):qF l (a ++ b)=qF l a ++ qF l b:=am
def Ys(G:OG l ns k)(hu:∀c ∈ u,c ∈ l)(hv:∀c ∈ v,c ∈ l)(e:zE k l ns u=zE k l ns v)(c:List Int):ltI (qF l u ++ c) (qF l v ++ c)=ltI (qF l u) (qF l v):=by rw[xu G hu,xu G hv]at e;exact Wr (YA G hu) (YA G hv) e
def kT(G:OG l ns k)(hu:∀c ∈ u,c ∈ l):zE k l ns u.reverse=zE k l ns u:=by rw[xu G hu,xu G λc hc=>hu c (Bf.mp hc)];unfold qF;rw[e8,e8,List.sum_reverse]
theorem YK(G:OG l ns k)(ht:∀c ∈ t,c ∈ l)(hu:∀c ∈ u,c ∈ l)(hv:∀c ∈ v,c ∈ l):zU k l ns (t ++ u) (t ++ v)=zU k l ns u v/\zU k l ns (u ++ t) (v ++ t)=zU k l ns u v:=by
 have hur:∀c ∈ u.reverse,c ∈ l:=λc hc=>hu c (Bf.mp hc);have hvr:∀c ∈ v.reverse,c ∈ l:=λc hc=>hv c (Bf.mp hc);unfold zU;rw[xw,xw,xw,xw];by_cases e:zE k l ns u=zE k l ns v
 ·rw[w6 ⋯,w6 e,w6 ⋯];unfold uo yD;by_cases f:k=1
  ·erw[w6 f,List.reverse_append,WZ]
   exact#[Ys G hur hvr (by rw[kT G hu,kT G hv,e]) _,X4 _ _ _]
  ·erw[w9 f,WZ]
   exact#[X4 _ _ _,Ys G hu hv e _]
 ·rw[w9 ⋯,w9 e,w9 ⋯];exact#[by congr 1;exact propext ⋯,by congr 1;exact propext ⋯]
theorem Kb(G:OG l ns k)(ht:∀c ∈ t,c ∈ l)(hu:∀c ∈ u,c ∈ l)(hv:∀c ∈ v,c ∈ l)(h:t ++ u ++ v≠u):zU k l ns u (t ++ u ++ v)=AS/\zU k l ns (t ++ u ++ v) u=AT:=by
 have h0:0<zE k l ns t+zE k l ns v:=by
  have h1:=uB G ht;have h2:=uB G hv;by_cases e:t=[]
  ·by_cases f:v=[]
   ·subst e f;simp at h
   ·have:=kH G hv f;lia
  ·have:=kH G ht e;lia
 unfold zU;rw[xw,xw,w9 ⋯,w9 ⋯];exact#[u6 ⋯,u9 ⋯]
end
end
mutual section
theorem Yv:∀x y:List Int,ltI x y=AS->ltI y x=AT
 | [],[],h=>by cases h
 | [],_::_,_=>rfl
 | _::_,[],h=>by cases h
 | a::x,b::y,h=>by
  rw[ltI]at h ⊢;by_cases e:a=b
  ·rw[w6 e]at h;rw[w6 e.symm];exact Yv x y h
  ·rw[w9 e]at h;rw[w9 (λq=>e q.symm)];have:=u5 h;exact u9 ⋯
def XB(h:zU k l ns u v=AS):zU k l ns v u=AT:=by
 unfold zU at h ⊢;by_cases e:zE k l ns u=zE k l ns v
 ·rw[w6 e]at h;rw[w6 e.symm];exact Yv _ _ h
 ·rw[w9 e]at h;rw[w9 (λq=>e q.symm)];have:=u5 h;exact u9 ⋯
def stJ(l:())(ps:List zH)(q j:Nat):Bool:=((ps[j]?).map λp=>zw l (q:Int) p.1).getD AT
def k8(h:ps[j]? = AQ p):stJ l ps q j=zw l (q:Int) p.1:=by unfold stJ;rw[h];rfl
theorem vK(h:stJ l ps q j=AS):j<ps.length/\∃p,ps[j]? = AQ p/\zw l (q:Int) p.1=AS:=by
 unfold stJ at h
 cases e:ps[j]? with
 | none=>rw[e]at h;cases h
 | some p =>
  rw[e]at h;exact#[(AX.mp e).1,p,rfl,h]
def jc(l:())(ps:List zH)(q i:Nat):List (Nat × Nat):=((aJ i).filter (stJ l ps q)).map λj=>(j,q)
def xO(l:())(ps:List zH)(k:Nat):List (Nat × Nat):=(aJ k).flatMap λq=>jc l ps q ps.length
def Uf(l:())(ps:List zH)(q i:Nat):jc l ps q (i+1)=jc l ps q i ++ (if stJ l ps q i=AS then [(i,q)]else []):=by
 unfold jc;rw[cJ,cX,am];congr 1;by_cases h:stJ l ps q i=AS
 ·rw[w6 h,fo h];rfl
 ·rw[w9 h,fq h];rfl
def kE(l:())(ps:List zH)(k:Nat):xO l ps (k+1)=xO l ps k ++ jc l ps k ps.length:=by unfold xO;rw[cJ,di];simp
def QI(l:())(ps:List zH)(q i:Nat):(jc l ps q i).length<=i:=by unfold jc;rw[aa];have:=db (stJ l ps q) (aJ i);rw[bL]at this;exact this
theorem JH(l:())(ps:List zH):∀k,(xO l ps k).length<=k * ps.length
 | 0=>by simp [xO]
 | k+1=>by
  rw[kE,aj,dQ];have:=JH l ps k;have:=QI l ps k ps.length;lia
def usesN_mem : u ∈ jc l ps q i ↔ u.2=q/\u.1<i/\stJ l ps q u.1=AS:=by
 unfold jc;rw[List.mem_map];constructor
 ·rintro⟨j,hj,rfl⟩;rw[List.mem_filter,fM]at hj;exact#[rfl,hj.1,hj.2]
 ·rintro⟨h1,h2,h3⟩;exact#[u.1,Be.mpr #[Bc.mpr h2,h3],by rw[<- h1]]
def usesK_mem : u ∈ xO l ps k ↔ u.2<k/\stJ l ps u.2 u.1=AS:=by
 unfold xO;rw[List.mem_flatMap];constructor
 ·rintro⟨q,hq,hu⟩;let#[h1,h2,h3]:=usesN_mem.mp hu;rw[fM]at hq;rw[h1];exact#[hq,h3]
 ·rintro⟨h1,h2⟩;exact#[u.2,Bc.mpr h1,usesN_mem.mpr #[rfl,(vK h2).1,h2]]
def uLt(a b:Nat × Nat):Prop:=a.2<b.2\/(a.2=b.2/\a.1<b.1)
theorem qk(l:())(ps:List zH)(q:Nat):∀i,(jc l ps q i).Pairwise uLt
 | 0=>by simp [jc]
 | i+1=>by
  rw[Uf];refine Bp.mpr #[qk l ps q i,?_,λa ha b hb=>?_]
  ·split
   ·exact fm _ _
   ·exact List.Pairwise.nil
  ·let#[h1,h2,_]:=usesN_mem.mp ha;split at hb
   ·rw[Bb.mp hb];exact .inr #[h1,h2]
   ·cases hb
theorem wM(l:())(ps:List zH):∀k,(xO l ps k).Pairwise uLt
 | 0=>by simp [xO]
 | k+1=>by
  rw[kE];refine Bp.mpr #[wM l ps k,qk l ps k _,λa ha b hb=>?_];have h1:=(usesK_mem.mp ha).1;have h2:=(usesN_mem.mp hb).1;exact .inl ⋯
def FirstN(l:())(ps:List zH)(lo hi n:Nat)(r:Option (Nat × Nat)):Prop :=
 (r=AR/\∀j q,j<n->lo<=q->q<hi->stJ l ps q j=AT) \/
 ∃n0 q0,r=AQ (n0,q0)/\n0<n/\lo<=q0/\q0<hi/\stJ l ps q0 n0=AS/\∀j q,j<n->lo<=q->stJ l ps q j=AS->q0<q\/(q0=q/\n0<=j)
def FirstN.uniq{lo hi n:Nat}(h:FirstN l ps lo hi n r)(h':FirstN l ps lo hi n r'):r=r':=by
 rcases h with ⟨rfl,h⟩ | ⟨n0,q0,rfl,a1,a2,a3,a4,a5⟩
 ·rcases h' with ⟨rfl,_⟩ | ⟨n0,q0,rfl,a1,a2,a3,a4,a5⟩
  ·rfl
  ·rw[h n0 q0 a1 a2 a3]at a4;cases a4
 ·rcases h' with ⟨rfl,h⟩ | ⟨n1,q1,rfl,b1,b2,b3,b4,b5⟩
  ·rw[h n0 q0 a1 a2 a3]at a4;cases a4
  ·have x1:=a5 n1 q1 b1 b2 b4;have x2:=b5 n0 q0 a1 a2 a4;have e1:q0=q1:=⋯;have e2:n0=n1:=⋯;rw[e1,e2]
theorem VR(h:FirstN l ps 0 l.length ps.length r):r=(xO l ps l.length).head?:=by
 have hs:=wM l ps l.length;refine h.uniq ?_
 cases e:xO l ps l.length with
 | nil =>
  refine .inl #[rfl,λj q Z Z hq=>?_]
  cases hb:stJ l ps q j with
  | false=>rfl
  | true =>
   have:(j,q) ∈ xO l ps l.length:=usesK_mem.mpr #[hq,hb];rw[e]at this;cases this
 | cons u us =>
  rw[e]at hs;have hu:u ∈ xO l ps l.length:=by rw[e];exact aB
  let#[h1,h2]:=usesK_mem.mp hu;refine .inr #[u.1,u.2,rfl,(vK h2).1,ay _,h1,h2,λj q hj Z hb=>?_];by_cases hq:q<l.length
  ·have:(j,q) ∈ xO l ps l.length:=usesK_mem.mpr #[hq,hb];rw[e]at this;rcases AZ.mp this with e2 | e2
   ·rw[<- e2];exact .inr #[rfl,al _]
   ·rcases (By.mp hs).1 _ e2 with h | ⟨h,h'⟩
    ·exact .inl h
    ·exact .inr #[h,dn h']
  ·exact .inl ⋯
def jd{q:Nat}(hp:p≠[])(h:zw l (q:Int) p=AS):q<l.length:=by let#[h0,h1,_]:=u5 h;have:0<p.length:=Bj.mpr hp;lia
def FirstN.keep{lo hi n:Nat}(h:FirstN l ps lo hi n r)(hp:ps[n]? = AQ p)(hn:∀q:Nat,lo<=q->q<(r.map Prod.snd).getD hi->zw l (q:Int) p.1=AT):FirstN l ps lo hi (n+1) r:=by
 rcases h with ⟨rfl,h⟩ | ⟨n0,q0,rfl,a1,a2,a3,a4,a5⟩
 ·refine .inl #[rfl,λj q hj h1 h2=>?_];by_cases e:j<n
  ·exact h j q e h1 h2
  ·have:j=n:=⋯;subst this;rw[k8 hp];exact hn q h1 h2
 ·refine .inr #[n0,q0,rfl,⋯,a2,a3,a4,λj q hj h1 h2=>?_];by_cases e:j<n
  ·exact a5 j q e h1 h2
  ·have:j=n:=⋯;subst this;rw[k8 hp]at h2;by_cases hq:q<q0
   ·rw[hn q h1 hq]at h2;cases h2
   ·lia
def FirstN.take{lo hi n k:Nat}(h:FirstN l ps lo hi n r)(hp:ps[n]? = AQ p)(h1:lo<=k)(h2:k<(r.map Prod.snd).getD hi)(h3:zw l (k:Int) p.1=AS)(hn:∀q:Nat,lo<=q->q<k->zw l (q:Int) p.1=AT):FirstN l ps lo hi (n+1) (AQ (n,k)):=by
 have hk:k<hi/\∀j q,j<n->lo<=q->stJ l ps q j=AS->k<q:=by
  rcases h with ⟨rfl,h⟩ | ⟨n0,q0,rfl,a1,a2,a3,a4,a5⟩
  ·refine#[h2,λj q hj hl hb=>?_];by_cases hq:q<hi
   ·rw[h j q hj hl hq]at hb;cases hb
   ·have h2':k<hi:=h2;lia
  ·have h2':k<q0:=h2;refine#[⋯,λj q hj hl hb=>?_];have:=a5 j q hj hl hb;lia
 refine .inr #[n,k,rfl,⋯,h1,hk.1,by rw[k8 hp];exact h3,λj q hj hl hb=>?_];by_cases e:j<n
 ·exact .inl (hk.2 j q e hl hb)
 ·have:j=n:=⋯;subst this;rw[k8 hp]at hb;by_cases hq:q<k
  ·rw[hn q hl hq]at hb;cases hb
  ·lia
def FirstN.window{lo mid hi n:Nat}(h0:FirstN l ps lo mid n AR)(hm:lo<=mid)(h:FirstN l ps mid hi n r):FirstN l ps lo hi n r:=by
 have h0':∀j q,j<n->lo<=q->q<mid->stJ l ps q j=AT:=by
  rcases h0 with ⟨_,h⟩ | ⟨_,_,h,_⟩
  ·exact h
  ·cases h
 rcases h with ⟨rfl,h⟩ | ⟨n0,q0,rfl,a1,a2,a3,a4,a5⟩
 ·refine .inl #[rfl,λj q hj h1 h2=>?_];by_cases e:q<mid
  ·exact h0' j q hj h1 e
  ·exact h j q hj ⋯ h2
 ·refine .inr #[n0,q0,rfl,a1,⋯,a3,a4,λj q hj h1 h2=>?_];by_cases e:q<mid
  ·rw[h0' j q hj h1 e]at h2;cases h2
  ·exact a5 j q hj ⋯ h2
def NeL(ps:List zH):Prop:=∀p ∈ ps,p.1≠[]
def FirstN.toEnd{lo hi n:Nat}(hN:NeL ps)(h:FirstN l ps lo hi n r)(hl:r=AR->l.length<=hi):FirstN l ps lo l.length n r:=by
 have hlt:∀j q,stJ l ps q j=AS->q<l.length:=λj q hb=>by
  let#[_,p,hp,hs]:=vK hb;exact jd (hN p (ac hp)) hs
 rcases h with ⟨rfl,h⟩ | ⟨n0,q0,rfl,a1,a2,a3,a4,a5⟩
 ·exact .inl #[rfl,λj q hj h1 h2=>h j q hj h1 (by have:=hl rfl;lia)]
 ·exact .inr #[n0,q0,rfl,a1,a2,hlt _ _ a4,a4,a5]
def zF(l:())(ps:List zH):Option (Nat × Nat):=(xO l ps l.length).head?
def Zu(h:FirstN l ps 0 l.length ps.length r):r=zF l ps:=VR h
theorem Vv(l:())(ps:List zH)(hN:NeL ps):FirstN l ps 0 l.length ps.length (zF l ps):=by
 have hs:=wM l ps l.length;unfold zF
 cases e:xO l ps l.length with
 | nil =>
  refine .inl #[rfl,λj q Z Z hq=>?_]
  cases hb:stJ l ps q j with
  | false=>rfl
  | true =>
   have:(j,q) ∈ xO l ps l.length:=usesK_mem.mpr #[hq,hb];rw[e]at this;cases this
 | cons u us =>
  rw[e]at hs;have hu:u ∈ xO l ps l.length:=by rw[e];exact aB
  let#[h1,h2]:=usesK_mem.mp hu;refine .inr #[u.1,u.2,rfl,(vK h2).1,ay _,h1,h2,λj q hj Z hb=>?_]
  have hq:q<l.length:=by
   let#[_,p,hp,hs]:=vK hb;exact jd (hN p (ac hp)) hs
  have:(j,q) ∈ xO l ps l.length:=usesK_mem.mpr #[hq,hb];rw[e]at this;rcases AZ.mp this with e2 | e2
  ·rw[<- e2];exact .inr #[rfl,al _]
  ·rcases (By.mp hs).1 _ e2 with h | ⟨h,h'⟩
   ·exact .inl h
   ·exact .inr #[h,dn h']
def Vj(ps:List zH)(n:Nat):zH:=ps.getD n ([],[])
def yU(h:ps[n]? = AQ p):Vj ps n=p:=by unfold Vj;rw[ae,h];rfl
def Ze(l:())(ps:List zH)(u:Nat × Nat):():=yX l (u.2:Int) (Vj ps u.1).1 (Vj ps u.1).2
def Uo(ps:List zH)(l:()):():=((zF l ps).map (Ze l ps)).getD l
def wAt(ps:List zH)(l:()):Nat->()
 | 0=>l
 | j+1=>Uo ps (wAt ps l j)
def sAt(ps:List zH)(l:())(j:Nat):List (Nat × Nat):=(aJ j).map λi=>(zF (wAt ps l i) ps).getD (0,0)
def WI(ps:List zH)(l:())(j:Nat):sAt ps l (j+1)=sAt ps l j ++ [(zF (wAt ps l j) ps).getD (0,0)]:=by unfold sAt;rw[cJ,am];rfl
def vX(ps:List zH)(l:())(j:Nat):(sAt ps l j).length=j:=by unfold sAt;rw[aa,bL]
def xI(h:zF (wAt ps l j) ps=AQ u):wAt ps l (j+1)=Ze (wAt ps l j) ps u:=by show Uo ps (wAt ps l j)=_;unfold Uo;rw[h];rfl
def kD(ps:List zH)(l:())(j:Nat):Prop:=∀i,i<j->zF (wAt ps l i) ps≠AR
def uH(h1:kD ps l i)(h2:zF (wAt ps l i) ps=AR)(h3:kD ps l j)(h4:zF (wAt ps l j) ps=AR):i=j:=by
 rcases dD i j with h | h | h
 ·exact w4 h2 (h3 i h)
 ·exact h
 ·exact w4 h4 (h1 j h)
def VQ{n q M lo:Nat}(h:FirstN l ps 0 l.length ps.length (AQ (n,q)))(hN:NeL ps)(hM:∀p ∈ ps,p.1.length<=M)(hlo:lo=0\/lo+M<=q+1):FirstN (Ze l ps (n,q)) ps 0 lo ps.length AR:=by
 refine .inl #[rfl,λj x hj Z hx=>?_];rcases h with ⟨h,_⟩ | ⟨n0,q0,e,a1,a2,a3,a4,a5⟩
 ·cases h
 ·injection e with e;injection e with e1 e2;subst e1 e2
  cases hb:stJ (Ze l ps (n,q)) ps x j with
  | false=>rfl
  | true =>
   let#[_,p,hp,hs]:=vK hb;have hpm:=hM p (ac hp);have hpn:=Bj.mpr (hN p (ac hp));have hxq:x+p.1.length<=q:=⋯;let#[s0,s1,s2]:=u5 hs;rw[aA]at s2;let#[_,p2,hp2,hs2]:=vK a4;let#[t0,t1,t2]:=u5 hs2
   have e4:(Ze l ps (n,q)).take q=l.take q:=by
    unfold Ze yX;rw[aA,aQ,bw (by rw[aC];lia),fN,eX]
   have e5:∀z:(),((z.take q).drop x).take p.1.length=(z.drop x).take p.1.length:=λz=>by
    rw[List.drop_take,fN];congr 1;lia
   have s3:(l.drop x).take p.1.length=p.1:=by rw[<- e5,<- e4,e5,s2]
   have:stJ l ps x j=AS:=by
    rw[k8 hp];exact u6 #[⋯,⋯,by rw[aA];exact s3]
   have:=a5 j x hj (ay _) this;lia
def FirstN.lower{lo hi n:Nat}(h:FirstN l ps 0 hi n AR)(hl:lo<=hi):FirstN l ps 0 lo n AR:=by
 rcases h with ⟨_,h⟩ | ⟨_,_,h,_⟩
 ·exact .inl #[rfl,λj q hj h1 h2=>h j q hj h1 ⋯]
 ·cases h
def zgS(a b c:Nat):min a b+(b - (a+c))<=b:=⋯
def KB(h:FirstN l ps 0 l.length ps.length (AQ (n,q)))(hm:∀p ∈ ps,p.2.length<=m):(Ze l ps (n,q)).length<=l.length+m:=by
 rcases h with ⟨h,_⟩ | ⟨n0,q0,e,a1,a2,a3,a4,a5⟩
 ·cases h
 ·injection e with e;injection e with e1 e2;subst e1 e2;let#[_,p,hp,hs]:=vK a4;have:=hm p (ac hp);have er:=yU hp;unfold Ze yX
  erw[aj,aC,aS,er]
  rw[Nat.add_right_comm];exact Nat.add_le_add (zgS _ _ _) this
theorem jt(hN:NeL ps)(hm:∀p ∈ ps,p.2.length<=m):∀j,(wAt ps l j).length<=l.length+j * m
 | 0=>by simp [wAt]
 | j+1=>by
  have ih:=jt (l:=l) hN hm j;have hf:=Vv (wAt ps l j) ps hN;rw[dQ]
  cases e:zF (wAt ps l j) ps with
  | none =>
   show (Uo ps (wAt ps l j)).length<=_;unfold Uo;rw[e];show (wAt ps l j).length<=_;lia
  | some u =>
   rw[xI e];rw[e]at hf;let#[a,b]:=u;have:=KB hf hm;lia
def UseAt(H:Hp)(r:Option (Nat × Nat))(v:V):Prop:=(r=AR/\v=.non)\/∃(n q:Nat) (p:sv),r=AQ (n,q)/\v=.ref p/\H p=AQ (.tup [.int (n:Nat),.int (q:Nat)])
def UseAt.same{H H':Hp}{r:Option (Nat × Nat)}{v:V}(h:UseAt H r v)(s:Same H H'):UseAt H' r v:=by
 rcases h with h | ⟨n,q,p,h1,h2,h3⟩
 ·exact .inl h
 ·exact .inr #[n,q,p,h1,h2,s _ _ h3]
def Uq{lo hi:Int}(h0:0<=lo)(h1:0<=hi)(h:∀r:Int,((r=-1/\∀q:Nat,lo<=q->(q:Int)+p.length<=hi->zw l q p=AT)\/∃k:Nat,r=k/\lo<=k/\(k:Int)+p.length<=hi/\zw l k p=AS/\∀q:Nat,lo<=q->q<k->zw l q p=AT)->Q (.int r) H):zbf ⇑l [⇑p,.int lo,.int hi] H Q:=by
 refine#[l,p,lo,hi,rfl,rfl,h0,h1,λr hr=>h r ?_]
 have no:∀q:Nat,((l.drop q).take p.length≠p\/¬ q+p.length<=l.length)->zw l q p=AT:=λq hq=>u9 λ⟨_,b,c⟩=>by
  rcases hq with hq | hq
  ·exact hq c
  ·lia
 rcases hr with ⟨rfl,hn⟩ | ⟨k,rfl,k1,k2,k3,k4,hn⟩
 ·refine .inl #[rfl,λq q1 q2=>no q ?_];by_cases e:q+p.length<=l.length
  ·exact .inl (hn q q1 q2 e)
  ·exact .inr e
 ·exact .inr #[k,rfl,k1,k2,u6 #[⋯,⋯,k4],λq q1 q2=>no q (.inl (hn q q1 q2))]
def uY(K:su):Sp:=λvs H Q Z=>∃(a:sv) (l:()) (ps:List zH) (st en:Nat),vs=[.ref a,⇑l,.int (st:Nat),.int (en:Nat)]/\LsA K H a (ps.map dR)/\NeL ps/\(∀p ∈ ps,p.1.length<=1000)/\∀(r:Option (Nat × Nat)) (v:V) (H':Hp),Same H H'->UseAt H' r v->FirstN l ps st en ps.length r->Q v H'
def X9{st en:Nat}{s e:Int}(hs:s=(st:Nat))(he:e=(en:Nat))(hA:LsA K H a (ps.map dR))(hN:NeL ps)(hP:∀p ∈ ps,p.1.length<=1000)(q:∀(r:Option (Nat × Nat)) (v:V) (H':Hp),Same H H'->UseAt H' r v->FirstN l ps st en ps.length r->Q v H'):uY K [.ref a,⇑l,.int s,.int e] H Q E:=by subst hs he;exact#[a,l,ps,st,en,rfl,hA,hN,hP,q]
def gH:sQz 4 ["rules","word","start","end","found","number","rule","place"] xS:=by nofun
def jx(B:Bt mg)(F:("first_within"^^^xS)):(1&&&["rules","word","start","end"]) (uY K):=by
 exists F.ok gH
 ·let#[a,l,ps,st,en,rfl,hA,hN,hP,q]:=h
  refine#[_,(zh (zy 4 gH.nd ye) (zh (zR p8 rfl (xf rfl B.enum (za (pv 0) zg)) (vJ (n:=2) rfl (zZ (zq (i:=5) gH.nd rfl (.inl rfl)) (zZ (zq (i:=6) gH.nd rfl (.inl rfl)) xW))) (zG (zy 7 gH.nd (wl bJ dc de zbS (pv 1) (za (!-6) (za (pv 2) (za (zD z7 (zD wc (pv 3) zd) (zA B.len (!-6))) zg))))) (ze (zJ (zv op_ge' (pv 7) zd (zx _)) (zG (zy 4 gH.nd (zX (za (pv 5) (za (pv 7) zg)))) (ze (zy 3 gH.nd (pv 7))))
     zr)))) (ze (zl (pv 4))))),?_]
  have s16:=zW;let#[xs,hX,hI]:=id hA;have hxl:=hI.len;rw[aa]at hxl;have s16:=zW;change H'=H/\σ=[!!a,~~~l,-~~~st,-~~~en,AQ (.non),AR,AR,AR]
  ·rfl'
  rintro σ H1 ⟨rfl,rfl⟩:0;change Same H1 H'/\∃(r:Option (Nat × Nat)) (v:V) (v3 v5 v6 v7:Option V),UseAt H' r v/\FirstN l ps st en ps.length r/\σ=[!!a,~~~l,-~~~st,v3,AQ (v),v5,v6,v7]
  ·rfl'
   refine#[#[_,SqL.of hX],ForEL.by (xs:=xs) (λi σ H'=>Same H1 H'/\∃(r:Option (Nat × Nat)) (v:V) (v5 v6 v7:Option V),UseAt H' r v/\FirstN l ps st en i r/\σ=[!!a,~~~l,-~~~st,AQ (.int (((r.map Prod.snd).getD en:Nat):Int)),AQ (v),v5,v6,v7]) #[Same.refl _,AR,.non,AR,AR,AR,.inl #[rfl,rfl],.inl #[rfl,λj q h=>w4 h (bB j)],rfl] (λi σ H' Z h=>SqL.of (h.1 _ _ hX)) ?_ ?_]
   ·refine nmE ?_;rintro i y σ H' p hy ⟨hs,r,v,v5,v6,v7,hu,hF,rfl⟩ hpn:_;let#[rl,pr,hri,rfl,hqr]:=hI.getR hy;have hm:=ac hri;have hne:=Bj.mpr (hN rl hm);have hrl:=hP rl hm;have s2:=hs.trans (zf (o:=.tup [.int (i:Nat),.ref pr]) hpn);have hq2:=zp s2 hqr;have hu2:=hu.same (zf (o:=.tup [.int (i:Nat),.ref pr]) hpn);right
    rfl'
    refine#[_,SqT.of zc,rfl,_,_,rfl,_,_,rfl,rfl,_,rfl,_,hq2,_,rfl,_,rfl,_,hq2,_,rfl,_,#[by rw[zI];lia,rfl],Uq ⋯ (by rw[zI];lia) λz hz=>#[z,rfl,?_]];rw[zI]at hz;rcases hz with ⟨rfl,hn⟩ | ⟨k,rfl,k1,k2,k3,hn⟩
    ·rw[w9 ∅];exact#[s2,r,v,hu2,hF.keep hri λq q1 q2=>hn q ⋯ ⋯,rfl,rfl]
    ·rw[w6 ⋯];refine#[⋯,λp2 hp2=>#[s2.trans (zf hp2),AQ (i,k),.ref p2,.inr #[i,k,p2,rfl,rfl,zc],hF.take hri ⋯ ⋯ k3 λq q1 q2=>hn q ⋯ q2,rfl,rfl]]
   ·refine nmB ?_;rintro σ H' ⟨hs,r,v,v5,v6,v7,hu,hF,rfl⟩:_;rw[hxl]at hF;right;exact#[hs,r,v,hu,hF,_,_,_,_,rfl]
  rintro σ H2 ⟨s2,r,v,v3,v5,v6,v7,hu,hF,rfl⟩:0
  rfl'
  exact q r v H2 s2 hu hF
structure zgW(mg:sF->Option sw):Prop where
 g:∃t,mg "WINDOW" = AQ (.int 128 t)
def ZT(K:su):Sp:=λvs H Q Z=>∃(a:sv) (l:()) (ps:List zH) (st:Nat),vs=[.ref a,⇑l,.int (st:Nat)]/\LsA K H a (ps.map dR)/\NeL ps/\(∀p ∈ ps,p.1.length<=1000)/\l.length<=100000/\∀(r:Option (Nat × Nat)) (v:V) (H':Hp),Same H H'->UseAt H' r v->FirstN l ps st l.length ps.length r->Q v H'
def Yh{st:Nat}{s:Int}(hs:s=(st:Nat))(hA:LsA K H a (ps.map dR))(hN:NeL ps)(hP:∀p ∈ ps,p.1.length<=1000)(hl:l.length<=100000)(q:∀(r:Option (Nat × Nat)) (v:V) (H':Hp),Same H H'->UseAt H' r v->FirstN l ps st l.length ps.length r->Q v H'):ZT K [.ref a,⇑l,.int s] H Q E:=by subst hs;exact#[a,l,ps,st,rfl,hA,hN,hP,hl,q]
def im:sQz 3 ["rules","word","start","size","found"] vp:=by nofun
def Ya(B:Bt mg)(T:zgW mg)(F:("first_from"^^^vp))(pf:(1<<<"first_within") ["rules","word","start","end"] [] (uY K)):(2&&&["rules","word","start"]) (ZT K):=by
 let#[t8,g8]:=T.g
 exists F.ok im
 ·let#[a,l,ps,st,rfl,hA,hN,hP,hl,q]:=h
  refine#[_,(zh (zy 3 im.nd (yI (v:=.int 128) rfl g8 #[t8,rfl])) (zh (vv p8 (zv Ui (pv 2) (zA B.len (pv 1)) (zx _)) (zG (zy 4 im.nd (cl0 pf hr .nil rfl (za (pv 0) (za (pv 1) (za (pv 2) (za (zD z7 (pv 2) (pv 3)) zg)))))) (zG (zJ (zv op_notN' (pv 4) ye (zx _)) (ze (zl (pv 4)))
     zr) (zG (zy 2 im.nd (zD z7 (pv 2) (pv 3))) (ze (zy 3 im.nd (zD qw (pv 3) zd))))))) (ze (zl ye)))),?_]
  have s16:=zW;change H'=H/\σ=[!!a,~~~l,-~~~st,~~~!128,AR]
  ·rfl'
  rintro σ H1 ⟨rfl,rfl⟩:0;change Same H1 H'/\FirstN l ps st l.length ps.length AR
  ·unfold kY;refine#[λm σ H'=>∃(s z:Nat) (v4:Option V),m=l.length - s/\st<=s/\1<=z/\Same H1 H'/\FirstN l ps st s ps.length AR/\σ=[!!a,~~~l,-~~~s,-~~~z,v4],#[_,st,128,AR,rfl,al _,∅,Same.refl _,.inl #[rfl,λj q Z h1 h2=>by lia],rfl],?_];refine nmC ?_;rintro m σ H' ⟨s,z,v4,rfl,hs,hz,sm,hF,rfl⟩:0
   rfl'
   refine#[⋯,yb (λhlt=>?_) λhge=>#[sm,hF.toEnd hN λZ=>by lia]];refine#[λσ' H''=>∃v4:Option V,Same H1 H''/\FirstN l ps st (s+z) ps.length AR/\σ'=[!!a,~~~l,AQ (.int ((s+z:Nat):Int)),AQ (.int ((z * 2:Nat):Int)),v4],λσ' H'' ⟨v4,a1,a2,a3⟩=>#[l.length - (s+z),⋯,s+z,rfl,⋯,z * 2,⋯,a1,a2,v4,a3],?_];refine X9 (en:=s+z) rfl ⋯ (hA.same sm) hN hP λr v H2 s2 hu hF2=>?_;rcases hu with ⟨rfl,rfl⟩ | ⟨n,qq,p,rfl,rfl,hp⟩
   ·rw[w9 (λh=>h rfl)];exact#[.inr #[∅,∅],AQ .non,sm.trans s2,hF.window hs hF2,by push_cast;rfl]
   ·rw[w6 (by intro h;cases h)];exact q _ _ H2 (sm.trans s2) (.inr #[n,qq,p,rfl,rfl,hp]) ((hF.window hs hF2).toEnd hN (λe=>by cases e))
  rintro σ H2 ⟨s2,hF⟩:0
  rfl'
  exact q AR .non H2 s2 (.inl #[rfl,rfl]) hF
def LsA.pushT{D p:sv}(h1:H D=AQ (.lst xs))(h2:Iss K H ds xs)(hp:H p=AR)(hv:Iss K H es vs)(f:z8 ds)(fe:z8 es):LsA K (upd (upd H p (.tup vs)) D (.lst (xs ++ [.ref p]))) D (ds ++ [.tup es]):=by have e:(upd H p (.tup vs)) D=AQ (.lst xs):=zf hp _ _ h1;exact LsA.snoc e (Iss.same (zf hp) _ _ h2) f (by erw[xq];exact fe) (Is.tup hp hv)
structure zby(K:su)(mg:sF->Option sw)(C:sv):Prop where
 xi:XI K C
 ini:ah K (.ref C) "__init__" = AQ (AQ (.builtin "ValueError.__init__"))
 g:mg "TooFar" = AQ (.ref C)
def dG(u:Nat × Nat):L3.D:=.tup [.int (u.1:Nat),.int (u.2:Nat),.bl AS]
def zcE(u:Nat × Nat):xq (dG u):=by erw[dG,xq,z8,and_self]
def KO(us:List (Nat × Nat)):z8 (us.map dG):=vd λd h=>by let#[r,_,rfl]:=AY.mp h;exact zcE r
def zfv : Iss K H [.int (n:Nat),.int (q:Nat),.bl AS] [.int (n:Nat),.int (q:Nat),.bl AS]:=by
 erw[Iss,Is]
 exact#[_,_,rfl,rfl,_,_,rfl,rfl,_,_,rfl,rfl,rfl]
structure Rd(ps:List zH)(l:())(J:Nat):Prop where
 live:kD ps l J
 len:∀j,j<=J->(wAt ps l j).length<=10000
 most:J<=10000
def xX(K:su)(CF:sv):Sp:=λvs H Q E=>∃(a:sv) (l:()) (ps:List zH) (m:Int) (J:Nat),vs=[.ref a,⇑l,.int m]/\LsA K H a (ps.map dR)/\NeL ps/\ps.length<=100/\(∀p ∈ ps,p.1.length<=1000/\p.2.length<=1000)/\Rd ps l J /\
 ((zF (wAt ps l J) ps=AR/\(J:Int)<=m/\∀(p S:sv) (H':Hp),Same H H'->H' p=AQ (.tup [.ref S,⇑(wAt ps l J)])->LsA K H' S ((sAt ps l J).map dG)->H S=AR->Q (.ref p) H') \/
  (zF (wAt ps l J) ps≠AR/\(J:Int)=m/\∀H',Same H H'->E (.ref CF) AR H'))
def U2{ps:List zH}{D:sv}(hA:LsA K H a (ps.map dR))(hP:∀p ∈ ps,p.1.length<=1000)(hpl:ps.length<=100)(hD:H D=AR)(q:∀H',Same H H'->H' D=AQ (.lst ((ps.map λp=>(p.1.length:Int)).map V.int))->Q (.ref D) H') :
  CompL K a (yt 0) xo (tCB (Wy K) (zK (tOp (ut K) (ya 0) (tC (.int 0))) xv)) 1 [] σ H Q D:=by
 have s16:=zW;let#[xs,hX,hI]:=hA;have hxl:=hI.len;rw[aa]at hxl;refine CompL.by (xs:=xs) (λi AW H'=>Same H H'/\H' D=AQ (.lst AW)/\AW=((ps.take i).map λp=>(p.1.length:Int)).map V.int) #[zf hD,zc,rfl] (λi AW H' Z h=>SqL.of (h.1 _ _ hX)) ?_ ?_
 ·refine nm4 ?_;rintro i x AW H' hx ⟨hs,hH,rfl⟩:_;have hil:=(AX.mp hx).1;let#[r,pr,hri,rfl,hqr]:=hI.getR hx;have hm:=hP r (ac hri);right
  erw[xo]
  rfl'
  refine#[yx,_,zp hs hqr,_,rfl,_,#[by rw[zI];lia,rfl],hH,by rw[aa,aa,aC];lia,CNx.mk hil #[zu hs hD,zc,?_]];rw[zQ hri,am,am,zI];rfl
 ·refine nmB ?_;rintro AW H' ⟨hs,hH,rfl⟩:_;rw[hxl,aI]at hH;right;exact q H' hs hH
def zfV{rs:List zH}{i:Nat}(hI:Iss K H (rs.map dR) xs)(hi:rs[i]? = AQ r):∃p,atI xs (i:Int)=AQ (.ref p)/\SqT K H p [⇑r.1,⇑r.2]:=by have hl:=hI.len;rw[aa]at hl;have hil:=(AX.mp hi).1;let#[v,a1,b1]:=vP (xs:=xs) (i:=(i:Int)) ⋯ ⋯;let#[r',p,h1,rfl,h3]:=hI.getR (j:=i) b1;rw[hi]at h1;cases h1;exact#[p,a1,h3]
def iS:sQz 3 ["rules","word","most","longest","steps","use","number","place"] vL:=by nofun
def zck(B:Bt mg)(T:zby K mg CF)(TU:DNU P w K mg base CU)(F:FunD K "gone" "gone" vL dV f fd)(nL:(2<<<"first_from") ["rules","word","start"] [] (ZT K))(pQ:(3>>>"put") ["word","place","old","new"] [] (Wv CU)):(4|||["rules","word","most"]) (xX K CF):=by
 exists FunD.okX F iS,0
 ·let#[a,l,ps,m,J,rfl,hA,hN,hpl,hP,hR,hq]:=h
  refine#[_,(zh (zy 3 iS.nd (Jm (zej rfl) rfl B.max qW (za (yJ (own:=["rule"]) (caps:=[]) (ix:=[]) (tt:=xo) (te:=(tCB (Wy K) (zK (tOp (ut K) (ya 0) (tC (.int 0))) xv))) rfl (zM (sc:=zi vL) rfl (!0) (!0) (!0) rfl (!0) (!0) rfl) (zY (pv 0)) (λZ Z Z Z Z Z=>zq (i:=0) (show List.Nodup [_] by decide) rfl (.inl rfl)) (λZ Z Z Z Z Z=>yh) (λZ Z Z Z Z Z=>(zA B.len (!-0)))) zg) (Jp zd zaQ))) (zh (zy 4 iS.nd (xh zg)) (zh (zy 5 iS.nd (cl0 nL hr .nil rfl (za (pv 0) (za (pv 1) (za zd zg))))) (zh (vv PassesOwn.leaving (zv op_notN' (pv 5) ye (zx _)) (zh (zJ (zv op_ge' (zA B.len (pv 4)) (pv 2) (zx _)) (ze (ym hx rfl T.xi.toXC T.ini rfl T.g (za z9 zg)))
     zr) (zh (zy 6 iS.nd (!-5)) (zh (zy 7 iS.nd (!-5)) (zh (zy 1 iS.nd (clP hx pQ hr .nil rfl (za (pv 1) (za (pv 7) (za (zk t7 (zk ix_list (pv 0) (pv 6)) zd) (za (zk t7 (zk ix_list (pv 0) (pv 6)) zd) zg)))))) (zh (yW (wl aX bh bn yy (pv 4) (za (zX (za (pv 6) (za (pv 7) (za yv zg)))) zg))) (ze (zy 5 iS.nd (cl0 nL hr .nil rfl (za (pv 0) (za (pv 1) (za (yP (Q5 rfl) rfl B.max qW (za zd (za (zD z7 (zD wc (pv 7) (pv 3)) zd) zg))) zg)))))))))))) (ze (zl (zX (za (pv 4) (za (pv 1) zg))))))))),?_]
  have s16:=zW;change Same H H'/\∃M:Int,(∀p ∈ ps,(p.1.length:Int)<=M)/\σ=[!!a,~~~l,~~~!m,~~~!M,AR,AR,AR,AR]
  ·rfl'
   erw[zgG]
   rfl'
   let#[xs,hX,hI]:=id hA;exact#[#[_,SqL.of hX],λD hD=>U2 hA (λp hp=>(hP p hp).1) hpl hD λH' s' hH=>#[D,_,0,rfl,rfl,SqL.of hH,λz Z hz=>#[s',z,λp hp=>hz _ (AY.mpr #[p,hp,rfl]),rfl]]]
  rintro σ H1 ⟨s1,M,hM,rfl⟩:0;change Same H H'/\∃S:sv,H S=AR/\H' S=AQ (.lst [])/\σ=[!!a,~~~l,~~~!m,~~~!M,!!S,AR,AR,AR]
  ·rfl'
   exact#[⋯,λp hp=>#[s1.trans (zf hp),p,s1.free hp,zc,rfl]]
  rintro σ H2 ⟨s2,S,hSn,hS,rfl⟩:0;change Same H H'/\H' S=AQ (.lst [])/\∃uv:V,UseAt H' (zF l ps) uv/\σ=[!!a,~~~l,~~~!m,~~~!M,!!S,AQ (uv),AR,AR]
  ·rfl'
   exact Yh (st:=0) rfl (hA.same s2) hN (λp hp=>(hP p hp).1) (by have:=hR.len 0 (ay _);exact aP this ∅) λr v H' s' hu hF=>#[s2.trans s',s' _ _ hS,(by rw[Zu hF]at hu;exact hu)]
  rintro σ H3 ⟨s3,hS3,uv,hu,rfl⟩:0;change Same H H'/\zF (wAt ps l J) ps=AR/\LsA K H' S ((sAt ps l J).map dG)/\∃v5 v6 v7,σ=[!!a,AQ ⇑(wAt ps l J),~~~!m,~~~!M,!!S,v5,v6,v7]
  ·unfold kY;refine#[λk σ H'=>∃(j:Nat) (uv:V) (v6 v7:Option V),k=J - j/\j<=J/\Same H H'/\LsA K H' S ((sAt ps l j).map dG)/\UseAt H' (zF (wAt ps l j) ps) uv/\σ=[!!a,AQ ⇑(wAt ps l j),~~~!m,~~~!M,!!S,AQ (uv),v6,v7],#[_,0,uv,AR,AR,rfl,ay _,s3,#[[],hS3,by erw[sAt,List.range_zero,aH,Iss]],hu,rfl],?_];refine nmC ?_;rintro k σ H' ⟨j,uv,v6,v7,rfl,hj,hs,hL,hu,rfl⟩:_;have hlj:=hR.len j hj;have hRm:=hR.most;let#[xs,hX,hI]:=id hA;right
   rfl'
   refine yb (λhne=>?_) λhne=>?_
   ·rcases hu with ⟨_,h⟩ | ⟨n,q0,p,hf,rfl,hp⟩
    ·exact w4 h hne
    have hF:=Vv (wAt ps l j) ps hN;rw[hf]at hF
    have hjJ:j<J\/(j=J/\(J:Int)=m/\∀H',Same H H'->E (.ref CF) AR H'):=by
     by_cases e:j=J
     ·subst e;rcases hq with ⟨h,_⟩ | ⟨_,h1,h2⟩
      ·rw[hf]at h;cases h
      ·exact .inr #[rfl,h1,h2]
     ·exact .inl ⋯
    have hJm:(J:Int)<=m:=by
     rcases hq with ⟨_,h,_⟩ | ⟨_,h,_⟩ <;> lia
    obtain⟨rl,hrl,hst⟩:∃rl,ps[n]? = AQ rl/\zw (wAt ps l j) (q0:Int) rl.1=AS:=by
     rcases hF with ⟨h,_⟩ | ⟨n0,q1,e,_,_,_,a4,_⟩
     ·cases h
     ·cases e;exact (vK a4).2
    have hlp:=hP rl (ac hrl);have hw:=xI hf;let#[pr,hai,hqr]:=zfV hI hrl;refine#[λσ' H''=>∃(uv:V) (v6 v7:Option V),j<J/\Same H H''/\LsA K H'' S ((sAt ps l (j+1)).map dG)/\UseAt H'' (zF (wAt ps l (j+1)) ps) uv/\σ'=[!!a,AQ ⇑(wAt ps l (j+1)),~~~!m,~~~!M,!!S,AQ (uv),v6,v7],λσ' H'' ⟨uv,v6,v7,a0,a1,a2,a3,a4⟩=>#[J - (j+1),⋯,j+1,rfl,⋯,a1,a2,uv,a3,v6,v7,a4],?_];let#[ys,hY,hJ2]:=id hL;have hyl:=hJ2.len;rw[aa,vX]at hyl;refine zj (λσ' H''=>H''=H'/\j<J/\σ'=[!!a,AQ ⇑(wAt ps l j),~~~!m,~~~!M,!!S,!!p,v6,v7]) ?_ ?_
    ·rfl'
     refine#[_,.inl #[_,SqL.of hY,rfl],yb (λhge=>?_) λhge=>?_]
     ·rcases hjJ with h | ⟨_,_,h⟩
      ·lia
      ·exact#[⋯,h _ hs]
     ·rcases hjJ with h | ⟨e,h,_⟩
      ·exact h
      ·lia
    rintro σ' G1 ⟨rfl,hlt,rfl⟩:0;refine zj (λσ' H''=>H''=G1/\σ'=[!!a,AQ ⇑(wAt ps l j),~~~!m,~~~!M,!!S,!!p,-~~~n,v7]) ?_ ?_
    ·rfl'
     exact#[_,SqT.of hp,rfl]
    rintro σ' G2 ⟨rfl,rfl⟩:0;refine zj (λσ' H''=>H''=G2/\σ'=[!!a,AQ ⇑(wAt ps l j),~~~!m,~~~!M,!!S,!!p,-~~~n,-~~~q0]) ?_ ?_
    ·rfl'
     exact#[_,SqT.of hp,rfl]
    rintro σ' G3 ⟨rfl,rfl⟩:0;refine zj (λσ' H''=>H''=G3/\σ'=[!!a,AQ ⇑(wAt ps l (j+1)),~~~!m,~~~!M,!!S,!!p,-~~~n,-~~~q0]) ?_ ?_
    ·rfl'
     have hq2:=zp hs hqr;exact#[_,SqL.of (hs _ _ hX),_,hai,_,rfl,_,hq2,_,rfl,_,SqL.of (hs _ _ hX),_,hai,_,rfl,_,hq2,_,rfl,wAt ps l j,rl.1,rl.2,(q0:Nat),rfl,hlj,by have:=hlp.1;lia,by have:=hlp.2;lia,λZ=>#[rfl,by rw[hw];unfold Ze;rw[yU hrl]],λh=>by rw[hst]at h;cases h]
    rintro σ' G4 ⟨rfl,rfl⟩:0;refine zj (λσ' H''=>Same H H''/\LsA K H'' S ((sAt ps l (j+1)).map dG)/\σ'=[!!a,AQ ⇑(wAt ps l (j+1)),~~~!m,~~~!M,!!S,!!p,-~~~n,-~~~q0]) ?_ ?_
    ·rfl'
     refine#[.inl #[_,SqL.of hY],⋯,λt ht=>#[_,zf ht _ _ hY,⋯,zu (hs.trans (zf ht)) hSn,?_]];rw[WI,hf,am];exact LsA.pushT hY hJ2 ht zfv (KO _) (by erw[z8,xq,and_self])
    rintro σ' G5 ⟨s5,hL5,rfl⟩:_;have hl1:=hR.len (j+1) hlt;have hM0:=hM rl (ac hrl);right
    rfl'
    refine Yh (st:=(if (q0:Int) - M+1 > 0 then (q0:Int) - M+1 else 0).toNat) (by split <;> lia) (hA.same s5) hN (λp hp=>(hP p hp).1) (aP hl1 ∅) λr v H' s' hu hF2=>#[hlt,s5.trans s',hL5.same s',?_];have hb:=VQ (M:=M.toNat) (lo:=(if (q0:Int) - M+1 > 0 then (q0:Int) - M+1 else 0).toNat) hF hN (λp hp=>by have:=hM p hp;lia) (by split <;> lia);rw[<- hw]at hb;rw[Zu (hb.window (ay _) hF2)]at hu;exact hu
   ·have hv:uv=.non:=Decidable.not_not.mp hne
    have hf:zF (wAt ps l j) ps=AR:=by
     rcases hu with ⟨h,_⟩ | ⟨_,_,_,_,h,_⟩
     ·exact h
     ·rw[hv]at h;cases h
    have e:j=J:=by
     rcases dX j J with h | h
     ·exact w4 hf (hR.live j h)
     ·lia
    subst e;exact#[hs,hf,hL,rfl]
  rintro σ H4 ⟨s4,hF,hL,v5,v6,v7,rfl⟩:0
  rfl'
  rcases hq with ⟨_,_,hq⟩ | ⟨h,_⟩
  ·exact#[⋯,λp hp=>hq p S _ (s4.trans (zf hp)) zc (hL.same (zf hp)) hSn]
  ·exact w4 hF h
abbrev Stp:=Int × Int × Bool
def dSt(t:Stp):D:=.tup [.int t.1,.int t.2.1,.bl t.2.2]
def sdl(r:zH)(f:Bool):zH:=if f=AS then r else (r.2,r.1)
def yn(ps:List zH)(w:())(t:Stp):Option (()) :=
 if 0<=t.1/\t.1<ps.length then (if zw w t.2.1 (sdl (ps.getD t.1.toNat ([],[])) t.2.2).1=AS then AQ (yX w t.2.1 (sdl (ps.getD t.1.toNat ([],[])) t.2.2).1 (sdl (ps.getD t.1.toNat ([],[])) t.2.2).2)else AR)else AR
def KD{D p:sv}(h1:H D=AQ (.lst xs))(h2:Iss K H ds xs)(hp:H p=AR)(hv:Iss K H es vs)(f:z8 ds)(fe:z8 es):LsA K (upd (upd H p (.tup vs)) D (.lst (xs ++ [.ref p]))) D (ds ++ [.tup es]):=by have e:(upd H p (.tup vs)) D=AQ (.lst xs):=zf hp _ _ h1;exact LsA.snoc e (Iss.same (zf hp) _ _ h2) f (by erw[xq];exact fe) (Is.tup hp hv)
def zeG : Iss K H [dS l,dS m] [⇑l,⇑m]:=by
 erw[Iss,Is]
 exact#[_,_,rfl,rfl,_,_,rfl,rfl,rfl]
def qL(rs:List zH):Prop:=rs.length<=30/\∀r ∈ rs,r.1.length<=100/\r.2.length<=100
def zbj(h:Is K H (dSt t) v):∃p,v=.ref p/\SqT K H p [.int t.1,.int t.2.1,.bl t.2.2]:=by
 erw[dSt,Is,Iss]at h
 let#[a,xs,e,hs,v1,r1,rfl,rfl,v2,r2,rfl,rfl,v3,r3,rfl,rfl,rfl]:=h;exact#[a,e,hs]
def kG(h:SqT K H p [.int t.1,.int t.2.1,.bl t.2.2]):Is K H (dSt t) (.ref p):=by
 erw[dSt,Is,Iss]
 exact#[p,_,rfl,h,_,_,rfl,rfl,_,_,rfl,rfl,_,_,rfl,rfl,rfl]
def zbk : Iss K H [.int i,.int j,.bl b] [.int i,.int j,.bl b]:=by
 erw[Iss,Is]
 exact#[_,_,rfl,rfl,_,_,rfl,rfl,_,_,rfl,rfl,rfl]
def wf(rs:List Stp):z8 (rs.map dSt):=vd λd h=>by let#[r,_,rfl]:=AY.mp h;erw[dSt,xq,z8,and_self]
def vw{rs:List Stp}{j:Nat}(h:Iss K H (rs.map dSt) vs)(q:vs[j]? = AQ v):∃r p,rs[j]? = AQ r/\v=.ref p/\SqT K H p [.int r.1,.int r.2.1,.bl r.2.2]:=by let#[d,e,i]:=h.get q;rw[aq]at e;let#[r,hr,rfl]:=Bd.mp e;let#[p,e1,e2]:=zbj i;exact#[r,p,hr,e1,e2]
def zec{rs:List zH}{i:Int}(hI:Iss K H (rs.map dR) xs)(h0:0<=i)(hi:i<rs.length):∃p,atI xs i=AQ (.ref p)/\rs[i.toNat]? = AQ (rs.getD i.toNat ([],[]))/\SqT K H p [⇑(rs.getD i.toNat ([],[])).1,⇑(rs.getD i.toNat ([],[])).2]:=by
 have hl:=hI.len;rw[aa]at hl;let#[v,a1,b1]:=vP (xs:=xs) (i:=i) h0 ⋯;let#[r,p,h1,rfl,h3]:=hI.getR b1;have e:rs.getD i.toNat ([],[])=r:=by rw[ae,h1];rfl
 rw[e];exact#[p,a1,h1,h3]
theorem XH(h:qL rs)(i:Nat):(rs.getD i ([],[])).1.length<=100/\(rs.getD i ([],[])).2.length<=100:=by
 rw[ae]
 cases e:rs[i]? with
 | none=>exact#[ay _,ay _]
 | some r=>exact h.2 r (ac e)
def y8{w:()}{t:Stp}(h:¬ (0<=t.1/\t.1<ps.length)):yn ps w t=AR:=w9 h
def yE{w:()}{t:Stp}(h:0<=t.1/\t.1<ps.length):yn ps w t=if zw w t.2.1 (sdl (ps.getD t.1.toNat ([],[])) t.2.2).1=AS then AQ (yX w t.2.1 (sdl (ps.getD t.1.toNat ([],[])) t.2.2).1 (sdl (ps.getD t.1.toNat ([],[])) t.2.2).2)else AR:=w6 h
def Ch(rs:List zH)(ws:List (()))(ss:List Stp):Prop:=ws.length=ss.length+1/\∀i s,ss[i]? = AQ s->∃w w',ws[i]? = AQ w/\ws[i+1]? = AQ w'/\yn rs w s=AQ w'
def bk(s:Stp):Stp:=(s.1,s.2.1,!s.2.2)
def yN(ss:List Stp):List Stp:=ss.reverse.map bk
def mvL(ss:List Stp)(z:Int):List Stp:=ss.map λs=>(s.1,s.2.1+z,s.2.2)
def zc6(r:zH)(f:Bool):sdl r (!f)=((sdl r f).2,(sdl r f).1):=by cases f <;> rfl
def kO{w w':()}(h:yn rs w s=AQ w'):yn rs w' (bk s)=AQ w:=by
 by_cases hb:0<=s.1/\s.1<rs.length
 ·rw[yE hb]at h;have hb':0<=(bk s).1/\(bk s).1<rs.length:=hb;rw[yE hb']
  erw[bk,zc6]
  generalize sdl (rs.getD s.1.toNat ([],[])) s.2.2=r at *;by_cases hs:zw w s.2.1 r.1=AS
  ·rw[w6 hs]at h;cases h;let#[e1,e2]:=WQ r.2 hs;rw[w6 e1,e2]
  ·rw[w9 hs]at h;cases h
 ·rw[y8 hb]at h;cases h
def Ch.back(h:Ch rs ws ss):Ch rs ws.reverse (yN ss):=by
 let#[hl,hs]:=h;refine#[by simp [yN,hl],λi s hi=>?_];have hil:i<ss.length:=by have:=(AX.mp hi).1;simpa [yN] using this
 unfold yN at hi;rw[aq,bE hil]at hi;let#[s0,h0,rfl]:=Bd.mp hi;let#[w,w',e1,e2,e3]:=hs _ _ h0;refine#[w',w,?_,?_,kO e3]
 ·rw[bE ⋯,<- e2];congr 1;lia
 ·rw[bE ⋯,<- e1];congr 1;lia
def Wu{a w b:()}(h:k<=w.length):(a ++ w ++ b).drop (a.length+k)=w.drop k ++ b:=by rw[aQ,<- eG,fO,cB h]
def ZR{a w b o:()}(h:zw w k o=AS):zw (a ++ w ++ b) (k+(a.length:Int)) o=AS:=by let#[_,_,h0,h1]:=yB h;unfold zw at h ⊢;rw[decide_eq_true_eq]at h ⊢;let#[_,_,h2]:=h;refine#[⋯,by erw[aj];lia,?_];rw[show (k+(a.length:Int)).toNat=a.length+k.toNat by lia,Wu ⋯,bw (by rw[aS];lia),h2]
def VZ{a w b o n:()}(h:zw w k o=AS):yX (a ++ w ++ b) (k+(a.length:Int)) o n=a ++ yX w k o n ++ b:=by
 let#[_,_,h0,h1]:=yB h;unfold yX;rw[show (k+(a.length:Int)).toNat=a.length+k.toNat by lia]
 have e1:(a ++ w ++ b).take (a.length+k.toNat)=a ++ w.take k.toNat:=by
  rw[aQ,List.take_length_add_append,bw ⋯]
 have e2:(a ++ w ++ b).drop (a.length+k.toNat+o.length)=w.drop (k.toNat+o.length) ++ b:=by
  rw[Nat.add_assoc];exact Wu ⋯
 rw[e1,e2];simp [aQ]
def qo{w w':()}(a b:())(h:yn rs w s=AQ w'):yn rs (a ++ w ++ b) (s.1,s.2.1+(a.length:Int),s.2.2)=AQ (a ++ w' ++ b):=by
 by_cases hb:0<=s.1/\s.1<rs.length
 ·rw[yE hb]at h;rw[yE (by exact hb)];simp only;generalize sdl (rs.getD s.1.toNat ([],[])) s.2.2=r at *;by_cases hs:zw w s.2.1 r.1=AS
  ·rw[w6 hs]at h;cases h;rw[w6 (ZR hs),VZ hs]
  ·rw[w9 hs]at h;cases h
 ·rw[y8 hb]at h;cases h
def Ch.within(a b:())(h:Ch rs ws ss):Ch rs (ws.map λw=>a ++ w ++ b) (mvL ss (a.length:Int)):=by let#[hl,hs]:=h;refine#[by simp [mvL,hl],λi s hi=>?_];unfold mvL at hi;rw[aq]at hi;let#[s0,h0,rfl]:=Bd.mp hi;let#[w,w',e1,e2,e3]:=hs _ _ h0;exact#[a ++ w ++ b,a ++ w' ++ b,by rw[aq,e1];rfl,by rw[aq,e2];rfl,qo a b e3]
def Fit(rs:List zH)(w:())(m:Int)(s:Stp):Prop:=∃w',yn rs w s=AQ w'/\(w'.length:Int)<=m
def Vo{w o n:()}(h:zw w k o=AS):(yX w k o n).length+o.length=w.length+n.length:=by
 let#[e,hl,h0,h1]:=yB h;unfold yX
 erw[aj,aS,hl]
 lia
def qT{D p:sv}(h1:H D=AQ (.lst xs))(h2:Iss K H ds xs)(hp:H p=AR)(hv:Iss K H es vs)(f:z8 ds)(fe:z8 es):Iss K (upd (upd H p (.tup vs)) D (.lst (xs ++ [.ref p]))) (ds ++ [.tup es]) (xs ++ [.ref p]):=by let#[ys,hy1,hy2]:=KD h1 h2 hp hv f fe;rw[zc]at hy1;cases hy1;exact hy2
def uW(K:su):Sp:=λvs H Q Z=>∃(t:sv) (ss:List Stp),vs=[.ref t]/\Is K H (.lst (ss.map dSt)) (.ref t)/\ss.length<=1000/\∀(D:sv) (H':Hp),H D=AR->Same H H'->LsA K H' D ((yN ss).map dSt)->Q (.ref D) H'
def jb(h1:Is K H (.lst (ss.map dSt)) (.ref t))(h2:ss.length<=1000)(h:∀(D:sv) (H':Hp),H D=AR->Same H H'->LsA K H' D ((yN ss).map dSt)->Q (.ref D) H'):uW K [.ref t] H Q E:=#[t,ss,rfl,h1,h2,h]
def zc0(h:ss.reverse[i]? = AQ s):(yN ss).take (i+1)=(yN ss).take i ++ [bk s]:=zQ (by unfold yN;rw[aq,h];rfl)
def zcs:sQz 1 ["steps"] WT:=by nofun
def zcH(B:Bt mg)(F:("back"^^^WT)):(1&&&["steps"]) (uW K):=by
 exists F.ok zcs
 ·let#[t,ss,rfl,hT,hsl,q]:=h;refine#[_,(ze (zl (yJ (own:=["step"]) (caps:=[]) (ix:=[]) (tt:=xo) (te:=(Um (zK (tOp (ut K) (ya 0) (tC (.int 0))) (zK (tOp (ut K) (ya 0) (tC (.int 1))) (zK (US (tOp (ut K) (ya 0) (tC (.int 2)))) xv))))) rfl (zM (sc:=zi WT) rfl (!0) (!0) (!0) rfl (!0) (!0) rfl) (zef rfl B.rev (za (pv 0) zg)) (λZ Z Z Z Z Z=>zq (i:=0) (show List.Nodup [_] by decide) rfl (.inl rfl)) (λZ Z Z Z Z Z=>yh) (λZ Z Z Z Z Z=>(zX (za (!-0) (za (!-0) (za (zaC (!-0)) zg)))))))),?_];have s16:=zW
  rfl'
  erw[Is]at hT
  let#[_,ts,e,hTs,hJ]:=hT;cases e;have htl:=hJ.len;rw[aa]at htl;have hbl:(yN ss).length=ss.length:=by simp [yN]
  refine#[ts,hTs,λD hD=>CompV.by (xs:=ts) (λi AW H'=>Same H H'/\H' D=AQ (.lst AW)/\Iss K H' (((yN ss).take i).map dSt) AW) #[zf hD,zc,by erw[bu,aH,Iss]] (λi AW H' Z h=>h.1.seq hTs) ?_ ?_]
  ·refine nm4 ?_;rintro i x AW H' hx ⟨hs,hH,hA⟩:_;have hi:i<ts.length:=by have:=(AX.mp hx).1;simpa using this
   rw[bE hi]at hx;let#[s,ps,hsi,rfl,hqs]:=vw hJ hx;have hsr:ss.reverse[i]? = AQ s:=by rw[bE ⋯,<- hsi,htl]
   have hal:=hA.len;rw[aa,aC]at hal;right
   erw[xo]
   rfl'
   refine#[yx,_,zp hs hqs,_,rfl,_,zp hs hqs,_,rfl,_,zp hs hqs,_,rfl,_,rfl,⋯,λp hp=>#[zf hp _ _ hH,⋯,CNx.mk hi #[zu (hs.trans (zf hp)) hD,zc,?_]]];rw[zc0 hsr,am];exact qT hH hA hp zbk (wf _) (by erw[z8,xq,and_self])
  ·refine nmB ?_;rintro AW H' ⟨hs,hH,hA⟩:_;rw[htl,<- hbl,aI]at hA;right;exact q D H' hD hs #[AW,hH,hA]
def Z9(K:su):Sp:=λvs H Q Z=>∃(t:sv) (ss:List Stp) (z:Int),vs=[.ref t,.int z]/\Is K H (.lst (ss.map dSt)) (.ref t)/\ss.length<=1000/\∀(D:sv) (H':Hp),H D=AR->Same H H'->LsA K H' D ((mvL ss z).map dSt)->Q (.ref D) H'
def Xf(h1:Is K H (.lst (ss.map dSt)) (.ref t))(h2:ss.length<=1000)(h:∀(D:sv) (H':Hp),H D=AR->Same H H'->LsA K H' D ((mvL ss z).map dSt)->Q (.ref D) H'):Z9 K [.ref t,.int z] H Q E:=#[t,ss,z,rfl,h1,h2,h]
def Kh:sQz 2 ["steps","size"] Z8:=by nofun
def KT(B:Bt mg)(F:("moved"^^^Z8)):(1&&&["steps","size"]) (Z9 K):=by
 exists F.ok Kh
 ·let#[t,ss,z,rfl,hT,hsl,q]:=h;refine#[_,(ze (zl (yJ (own:=["step"]) (caps:=["size"]) (ix:=[1]) (tt:=xo) (te:=(Um (zK (tOp (ut K) (ya 0) (tC (.int 0))) (zK (tOp Yq (tOp (ut K) (ya 0) (tC (.int 1))) (ya 1)) (zK (tOp (ut K) (ya 0) (tC (.int 2))) xv))))) rfl (zM (sc:=zi Z8) rfl (!0) (!0) (!0) rfl (!0) (!0) rfl) (zY (pv 0)) (λZ Z Z Z Z Z=>zq (i:=0) (show List.Nodup [_,_] by decide) rfl (.inl rfl)) (λZ Z Z Z Z Z=>yh) (λZ Z Z Z Z Z=>(zX (za (!-0) (za (zD jm (!-0) (pv 1)) (za (!-0) zg)))))))),?_];have s16:=zW
  rfl'
  erw[Is]at hT
  let#[_,ts,e,hTs,hJ]:=hT;cases e;have htl:=hJ.len;rw[aa]at htl;have hbl:(mvL ss z).length=ss.length:=by simp [mvL]
  refine#[#[ts,hTs],λD hD=>CompL.by (xs:=ts) (λi AW H'=>Same H H'/\H' D=AQ (.lst AW)/\Iss K H' (((mvL ss z).take i).map dSt) AW) #[zf hD,zc,by erw[bu,aH,Iss]] (λi AW H' Z h=>h.1.seq hTs) ?_ ?_]
  ·refine nm4 ?_;rintro i x AW H' hx ⟨hs,hH,hA⟩:_;have hi:=(AX.mp hx).1;let#[s,ps,hsi,rfl,hqs]:=vw hJ hx;have hm:(mvL ss z)[i]? = AQ (s.1,s.2.1+z,s.2.2):=by unfold mvL;rw[aq,hsi];rfl
   have hal:=hA.len;rw[aa,aC]at hal;right
   erw[xo]
   rfl'
   refine#[yx,_,zp hs hqs,_,rfl,_,zp hs hqs,_,rfl,_,zp hs hqs,_,rfl,⋯,λp hp=>#[zf hp _ _ hH,⋯,CNx.mk hi #[zu (hs.trans (zf hp)) hD,zc,?_]]];rw[zQ hm,am];exact qT hH hA hp zbk (wf _) (by erw[z8,xq,and_self])
  ·refine nmB ?_;rintro AW H' ⟨hs,hH,hA⟩:_;rw[htl,<- hbl,aI]at hA;right;exact q D H' hD hs #[AW,hH,hA]
abbrev Ent:=() × () × List Stp
def dE(e:Ent):L3.D:=.tup [dS e.1,dS e.2.1,.lst (e.2.2.map dSt)]
def XS(es:List Ent)(u:Stp):List Stp:=mvL (if u.2.2=AS then (es.getD u.1.toNat ([],[],[])).2.2 else yN (es.getD u.1.toNat ([],[],[])).2.2) u.2.1
def byL(es:List Ent)(us:List Stp):List Stp:=us.flatMap (XS es)
def zd1(h:Is K H (dE e) v):∃p s,v=.ref p/\SqT K H p [⇑e.1,⇑e.2.1,.ref s]/\Is K H (.lst (e.2.2.map dSt)) (.ref s):=by
 erw[dE,Is,Iss]at h
 let#[a,xs,e0,hs,v1,r1,rfl,rfl,v2,r2,rfl,rfl,v3,r3,rfl,#[s,zs,rfl,h1,h2],rfl]:=h;refine#[a,s,e0,hs,?_]
 erw[Is]
 exact#[s,zs,rfl,h1,h2]
def zg8{es:List Ent}{i:Int}(hI:Iss K H (es.map dE) xs)(h0:0<=i)(hi:i<es.length):∃p s,atI xs i=AQ (.ref p)/\es[i.toNat]? = AQ (es.getD i.toNat ([],[],[]))/\SqT K H p [⇑(es.getD i.toNat ([],[],[])).1,⇑(es.getD i.toNat ([],[],[])).2.1,.ref s]/\Is K H (.lst ((es.getD i.toNat ([],[],[])).2.2.map dSt)) (.ref s):=by
 have hl:=hI.len;rw[aa]at hl;let#[v,a1,b1]:=vP (xs:=xs) (i:=i) h0 ⋯;let#[d,e,ix]:=hI.get b1;rw[aq]at e;let#[r,hr,rfl]:=Bd.mp e;have e:es.getD i.toNat ([],[],[])=r:=by rw[ae,hr];rfl
 rw[e];let#[p,s,rfl,h2,h3]:=zd1 ix;exact#[p,s,a1,hr,h2,h3]
def YI(ss:List Stp)(z:Int):(mvL ss z).length=ss.length:=by simp [mvL]
def yA(ss:List Stp):(yN ss).length=ss.length:=by simp [yN]
def QS(K:su):Sp:=λvs H Q Z=>∃(a t:sv) (es:List Ent) (us:List Stp),vs=[.ref a,.ref t]/\Is K H (.lst (es.map dE)) (.ref a)/\Is K H (.lst (us.map dSt)) (.ref t)/\us.length<=100/\(∀e ∈ es,e.2.2.length<=600)/\(∀u ∈ us,0<=u.1/\u.1<es.length)/\∀(D:sv) (H':Hp),H D=AR->Same H H'->LsA K H' D ((byL es us).map dSt)->Q (.ref D) H'
def lL:sQz 2 ["entries","steps","chain","step","own"] qf:=by nofun
def Xx(B:Bt mg)(F:("by_pacts"^^^qf))(rN:(1<<<"moved") ["steps","size"] [] (Z9 K))(mr:(1<<<"back") ["steps"] [] (uW K)):(2&&&["entries","steps"]) (QS K):=by
 exists F.ok lL
 ·let#[a,t,es,us,rfl,hE,hU,hul,hel,hub,q]:=h
  refine#[_,(zh (zy 2 lL.nd (xh zg)) (zh (zR p8 rfl (zY (pv 1)) (zq (i:=3) lL.nd rfl (.inl rfl)) (zh (zy 4 lL.nd (zk t7 (zk ix_list (pv 0) (!-3)) zd)) (ze (yW (wl aX PySem.F.slot_list_extend PySem.F.type_list_extend JU (pv 2) (za (cl0 rN hr .nil rfl (za (wF (yl (!-3) (λZ=>rfl)) (pv 4) (cl0 mr hr .nil rfl (za (pv 4) zg))) (za (!-3) zg))) zg)))))) (ze (zl (pv 2))))),?_]
  have s16:=zW;have hE':=hE;have hU':=hU
  erw[Is]at hE' hU'
  let#[_,xs,e,hX,hI]:=hE';cases e;let#[_,ts,e,hTs,hJ]:=hU';cases e;have htl:=hJ.len;rw[aa]at htl;change ∃D,H D=AR/\Same H H'/\H' D=AQ (.lst [])/\σ=[!!a,!!t,!!D,AR,AR]
  ·rfl'
   exact#[⋯,λp hp=>#[p,hp,zf hp,zc,rfl]]
  rintro σ H1 ⟨D,hD,s1,hD1,rfl⟩:0;change Same H H'/\LsA K H' D ((byL es us).map dSt)/\∃v3 v4,σ=[!!a,!!t,!!D,v3,v4]
  ·rfl'
   refine#[#[_,s1.seq hTs],ForL.by (xs:=ts) (λi σ H'=>Same H H'/\LsA K H' D ((byL es (us.take i)).map dSt)/\(byL es (us.take i)).length<=i * 600/\∃v3 v4,σ=[!!a,!!t,!!D,v3,v4]) #[s1,#[[],hD1,by erw[bu,byL,List.flatMap_nil,aH,Iss]],by simp [byL],_,_,rfl] (λi σ H' Z h=>h.1.seq hTs) ?_ ?_]
   ·refine nm4 ?_;rintro i x σ H' hx ⟨hs,hL,hl,v3,v4,rfl⟩:_;let#[u,pu,hui,rfl,hqu]:=vw hJ hx;have hil:=(AX.mp hui).1;let#[u0,u1]:=hub u (ac hui);let#[pe,se,g1,g2,g3,g4]:=zg8 hI u0 u1;have hle:=hel _ (ac g2)
    have hby:byL es (us.take (i+1))=byL es (us.take i) ++ XS es u:=by
     unfold byL;rw[zQ hui,di];simp
    right
    erw[yt,aM,aL]
    refine zj (λσ H''=>H''=H'/\σ=[!!a,!!t,!!D,!!pu,!!se]) ?_ ?_
    ·rfl'
     exact#[_,zp hs hqu,_,rfl,_,rfl,_,hs.seq hX,_,g1,_,rfl,_,zp hs g3,rfl]
    rintro σ G ⟨rfl,rfl⟩:_;let#[zs,hZ,hZI]:=id hL;have hzl:=hZI.len;rw[aa]at hzl;have hse:=Is.same hs _ _ g4
    have fin:∀(ws:List Stp) (M:sv) (G2:Hp),XS es u=ws->ws.length<=600->Same G G2->LsA K G2 M (ws.map dSt)->Q8 (V.ref D) [V.ref M] G2 λx H1=>Same H H1/\LsA K H1 D ((byL es (us.take (i+1))).map dSt)/\(byL es (us.take (i+1))).length<=(i+1) * 600:=λws M G2 ew hwl sg hM=>by
     let#[ys,hY,hYI]:=hM;have hyl:=hYI.len;rw[aa]at hyl;have hZ2:=sg _ _ hZ;refine#[D,M,zs,ys,rfl,rfl,hZ2,hY,⋯,zu (hs.trans sg) hD,#[_,zc,?_],?_]
     ·rw[hby,ew,am];exact Iss.append (Iss.updL hZ2 _ _ (wf _) (Iss.same sg _ _ hZI)) (Iss.updL hZ2 _ _ (wf _) hYI)
     ·rw[hby,ew,aj];lia
    right
    rfl'
    refine#[.inl #[_,SqL.of hZ],_,zp hs hqu,_,rfl,_,rfl,yb (λhf=>#[_,zp hs hqu,_,rfl,Xf hse ⋯ λM G2 Z sg hM=>fin _ M G2 (by unfold XS;rw[w6 hf]) (by rw[YI];lia) sg hM]) λhf=>jb hse ⋯ λM0 G1 Z sg0 hM0=>#[_,zp (hs.trans sg0) hqu,_,rfl,Xf hM0.is (by rw[yA];lia) λM G2 Z sg hM=>fin _ M G2 (by unfold XS;rw[w9 hf]) (by rw[YI,yA];lia) (sg0.trans sg) hM]]
   ·refine nmB ?_;rintro σ H' ⟨hs,hL,hl,v3,v4,rfl⟩:_;rw[htl,aI]at hL;right;exact#[hs,hL,_,_,rfl]
  rintro σ H2 ⟨s2,hL2,v3,v4,rfl⟩:0
  rfl'
  exact q D H2 hD s2 hL2
def yg(rs:List zH):()->List Stp->Option (())
 | w,[]=>AQ w
 | w,s::ss=>(yn rs w s).bind λw'=>yg rs w' ss
theorem xJ(rs:List zH):∀(ss ts:List Stp) (w:()),yg rs w (ss ++ ts)=(yg rs w ss).bind λw'=>yg rs w' ts
 | [],ts,w=>rfl
 | s::ss,ts,w=>by
  erw[bD,yg]
  cases yn rs w s with
  | none=>rfl
  | some w1=>exact xJ rs ss ts w1
def uf{w w':()}(h:yg rs w (s::ss)=AQ w'):∃w1,yn rs w s=AQ w1/\yg rs w1 ss=AQ w':=by
 erw[yg]at h
 let#[w1,h1,h2]:=Bq.mp h;exact#[w1,h1,h2]
def jL{w w1 w2:()}(h:yg rs w ss=AQ w1)(h2:yn rs w1 s=AQ w2):yg rs w (ss ++ [s])=AQ w2:=by
 rw[xJ,h]
 erw[yg,ci]
 rw[h2];rfl
def QA(s:Stp)(ss:List Stp):yN (s::ss)=yN ss ++ [bk s]:=by simp [yN]
theorem wS : ∀{ss:List Stp} {w w':()},yg rs w ss=AQ w'->yg rs w' (yN ss)=AQ w
 | [],w,w',h=>by cases h;rfl
 | s::ss,w,w',h=>by
  let#[w1,h1,h2]:=uf h;rw[QA];exact jL (wS h2) (kO h1)
theorem jE(a b:()):∀{ss:List Stp} {w w':()},yg rs w ss=AQ w'->yg rs (a ++ w ++ b) (mvL ss (a.length:Int))=AQ (a ++ w' ++ b)
 | [],w,w',h=>by cases h;rfl
 | s::ss,w,w',h=>by
  let#[w1,h1,h2]:=uf h;have e:mvL (s::ss) (a.length:Int)=(s.1,s.2.1+(a.length:Int),s.2.2)::mvL ss (a.length:Int):=rfl;rw[e]
  erw[yg]
  rw[qo a b h1];exact jE a b h2
def EOk(rs:List zH)(e:Ent):Prop:=yg rs e.1 e.2.2=AQ e.2.1
def zb(es:List Ent):List zH:=es.map λe=>(e.1,e.2.1)
theorem zas(hE:∀e ∈ es,EOk rs e){w w':()}(h:yn (zb es) w u=AQ w'):yg rs w (XS es u)=AQ w':=by
 have hb:0<=u.1/\u.1<(zb es).length:=bV λhb=>by rw[y8 hb]at h;cases h
 rw[yE hb]at h;have hl:(zb es).length=es.length:=by unfold zb;rw[aa]
 rw[hl]at hb
 have hg:es[u.1.toNat]? = AQ (es.getD u.1.toNat ([],[],[])):=by
  rw[ae,af ⋯];rfl
 have hp:(zb es).getD u.1.toNat ([],[])=((es.getD u.1.toNat ([],[],[])).1,(es.getD u.1.toNat ([],[],[])).2.1):=by
  unfold zb;rw[ae,aq,hg];rfl
 rw[hp]at h;have he:=hE _ (ac hg);unfold XS;generalize es.getD u.1.toNat ([],[],[])=e at *
 have key:∀(o n:()) (ss:List Stp),sdl (e.1,e.2.1) u.2.2=(o,n)->yg rs o ss=AQ n->yg rs w (mvL ss u.2.1)=AQ w':=λo n ss hs hw=>by
  rw[hs]at h;by_cases hst:zw w u.2.1 o=AS
  ·rw[w6 hst]at h;cases h;let#[e1,e2,h0,h1]:=yB hst;have:=jE (w.take u.2.1.toNat) (w.drop (u.2.1.toNat+o.length)) hw;rw[e1,e2,show ((u.2.1.toNat:Nat):Int)=u.2.1 by lia]at this;exact this
  ·rw[w9 hst]at h;cases h
 cases hf:u.2.2 with
 | true =>
  rw[w6 rfl];exact key e.1 e.2.1 e.2.2 (by rw[hf];rfl) he
 | false =>
  rw[w9 ∅];exact key e.2.1 e.1 (yN e.2.2) (by rw[hf];rfl) (wS he)
theorem j8(hE:∀e ∈ es,EOk rs e):∀{us:List Stp} {w w':()},yg (zb es) w us=AQ w'->yg rs w (byL es us)=AQ w'
 | [],w,w',h=>by cases h;rfl
 | u::us,w,w',h=>by
  let#[w1,h1,h2]:=uf h;have e:byL es (u::us)=XS es u ++ byL es us:=by simp [byL]
  rw[e,xJ,zas hE h1];exact j8 hE h2
def JJ(ok:qL rs){w w':()}(h:yn rs w s=AQ w'):w'.length<=w.length+100:=by
 have hb:0<=s.1/\s.1<rs.length:=bV λhb=>by rw[y8 hb]at h;cases h
 rw[yE hb]at h;have g:=XH ok s.1.toNat;generalize rs.getD s.1.toNat ([],[])=r at *;by_cases hs:zw w s.2.1 (sdl r s.2.2).1=AS
 ·rw[w6 hs]at h;cases h;have:=Vo (n:=(sdl r s.2.2).2) hs
  have h2:(sdl r s.2.2).2.length<=100:=by
   cases s.2.2
   ·exact g.1
   ·exact g.2
  lia
 ·rw[w9 hs]at h;cases h
def ky(D:sv)(H:Hp):Hp:=λb=>if b=D then AR else H b
def vk{D b:sv}(h:b≠D):ky D H b=H b:=by unfold ky;rw[w9 h]
def jT{D:sv}:ky D H D=AR:=by unfold ky;rw[w6 rfl]
def wP{D:sv}:Same (ky D H) H:=λb o e=>by
 by_cases hb:b=D
 ·rw[hb,jT]at e;cases e
 ·rw[vk hb]at e;exact e
def Qs{D:sv}(hD:H D=AR)(s:Same H H'):Same H (ky D H'):=λb o e=>by
 have hb:b≠D:=λz=>by rw[z,hD]at e;cases e
 rw[vk hb];exact s _ _ e
def wV{D:sv}(s:Same H H'):Same (ky D H) (ky D H'):=λb o e=>by
 by_cases hb:b=D
 ·rw[hb,jT]at e;cases e
 ·rw[vk hb]at e ⊢;exact s _ _ e
def xM{D:sv}:Same (ky D H) (ky D (upd H D o)):=λb o' e=>by
 by_cases hb:b=D
 ·rw[hb,jT]at e;cases e
 ·rw[vk hb]at e ⊢;rw[zt hb];exact e
def UE{D a:sv}(hD:H D=AQ (.lst ys))(h:SqT K H a xs):SqT K (ky D H) a xs:=by
 rcases h with (h | ⟨o,h⟩) | h
 ·exact .inl (.inl (by rw[vk (λe=>by rw[e,hD]at h;cases h)];exact h))
 ·exact .inl (.inr #[o,by rw[vk (λe=>by rw[e,hD]at h;cases h)];exact h])
 ·exact .inr h
theorem WK{D:sv}(hD:H D=AQ (.lst ys)):∀(ss:List Stp) (vs:List V),Iss K H (ss.map dSt) vs->Iss K (ky D H) (ss.map dSt) vs
 | [],vs,h=>by erw[aH,Iss]at h ⊢;exact h
 | s::ss,vs,h=>by
  erw[ao,Iss]at h ⊢
  let#[v,r,rfl,h1,h2]:=h;let#[p,rfl,h3]:=zbj h1;exact#[_,r,rfl,kG (UE hD h3),WK hD ss r h2]
def zfx(h1:SqT K H p [⇑e.1,⇑e.2.1,.ref s])(h2:Is K H (.lst (e.2.2.map dSt)) (.ref s)):Is K H (dE e) (.ref p):=by
 erw[dE,Is,Iss]
 erw[Is]at h2
 exact#[p,_,rfl,h1,_,_,rfl,rfl,_,_,rfl,rfl,_,_,rfl,h2,rfl]
def W3{es:List Ent}{j:Nat}(h:Iss K H (es.map dE) vs)(q:vs[j]? = AQ v):∃e p s,es[j]? = AQ e/\v=.ref p/\SqT K H p [⇑e.1,⇑e.2.1,.ref s]/\Is K H (.lst (e.2.2.map dSt)) (.ref s):=by let#[d,e,i]:=h.get q;rw[aq]at e;let#[r,hr,rfl]:=Bd.mp e;let#[p,s,e1,e2,e3]:=zd1 i;exact#[r,p,s,hr,e1,e2,e3]
def zcx(h:Is K H d v):Iss K H [d] [v]:=by
 erw[Iss]
 exact#[v,[],rfl,h,rfl]
def EnA(K:su)(H:Hp)(e:Ent)(v:V):Prop:=∃p s,v=.ref p/\SqT K H p [⇑e.1,⇑e.2.1,.ref s]/\LsA K H s (e.2.2.map dSt)
def EnsA(K:su)(H:Hp):List Ent->List V->Prop
 | [],vs=>vs=[]
 | e::es,vs=>∃v r,vs=v::r/\EnA K H e v/\EnsA K H es r
def EnsL(K:su)(H:Hp)(a:sv)(es:List Ent):Prop:=∃xs,SqL K H a xs/\EnsA K H es xs
def EnsM(K:su)(H:Hp)(a:sv)(es:List Ent):Prop:=∃xs,H a=AQ (.lst xs)/\EnsA K H es xs
def EnA.is(h:EnA K H e v):Is K H (dE e) v:=by let#[p,s,rfl,h1,h2]:=h;exact zfx h1 h2.is
def EnA.same{H H':Hp}{e:Ent}{v:V}(h:EnA K H e v)(q:Same H H'):EnA K H' e v:=by let#[p,s,e0,h1,h2]:=h;exact#[p,s,e0,zp q h1,h2.same q]
theorem EnsA.iss : ∀{es:List Ent} {vs:List V},EnsA K H es vs->Iss K H (es.map dE) vs
 | [],vs,h=>by erw[EnsA]at h;erw[aH,Iss];exact h
 | e::es,vs,h=>by
  erw[EnsA]at h
  let#[v,r,rfl,h1,h2]:=h
  erw[ao,Iss]
  exact#[v,r,rfl,h1.is,h2.iss]
def EnsA.len(h:EnsA K H es vs):vs.length=es.length:=by have:=h.iss.len;rw[aa]at this;exact this
theorem EnsA.same{H H':Hp}(q:Same H H'):∀{es:List Ent} {vs:List V},EnsA K H es vs->EnsA K H' es vs
 | [],vs,h=>by erw[EnsA]at h ⊢;exact h
 | e::es,vs,h=>by
  erw[EnsA]at h ⊢
  let#[v,r,e0,h1,h2]:=h;exact#[v,r,e0,h1.same q,h2.same q]
theorem EnsA.snoc(hv:EnA K H e v):∀{es:List Ent} {vs:List V},EnsA K H es vs->EnsA K H (es ++ [e]) (vs ++ [v])
 | [],vs,h=>by
  erw[EnsA]at h
  subst h
  erw[bg,EnsA]
  exact#[v,[],rfl,hv,rfl]
 | e'::es,vs,h=>by
  erw[EnsA]at h
  let#[x,r,rfl,hx,hr]:=h
  erw[bD,EnsA]
  exact#[x,r ++ [v],rfl,hx,hr.snoc hv]
theorem EnsA.get : ∀{es:List Ent} {vs:List V} {j:Nat} {v:V},EnsA K H es vs->vs[j]? = AQ v->∃e p s,es[j]? = AQ e/\v=.ref p/\SqT K H p [⇑e.1,⇑e.2.1,.ref s]/\LsA K H s (e.2.2.map dSt)
 | [],vs,j,v,h,q=>by
  erw[EnsA]at h
  subst h;simp at q
 | e::es,vs,0,v,h,q=>by
  erw[EnsA]at h
  let#[x,r,rfl,#[p,s,rfl,h1,h2],_]:=h;cases q;exact#[e,p,s,rfl,rfl,h1,h2]
 | e::es,vs,j+1,v,h,q=>by
  erw[EnsA]at h
  let#[x,r,rfl,_,hr]:=h;exact hr.get (j:=j) ↥q
def EnsL.is(h:EnsL K H a es):Is K H (.lst (es.map dE)) (.ref a):=by
 let#[xs,h1,h2]:=h
 erw[Is]
 exact#[a,xs,rfl,h1,h2.iss]
def EnsL.same{H H':Hp}{a:sv}{es:List Ent}(h:EnsL K H a es)(q:Same H H'):EnsL K H' a es:=by let#[xs,h1,h2]:=h;exact#[xs,q.seq h1,h2.same q]
def EnsM.l(h:EnsM K H a es):EnsL K H a es:=by let#[xs,h1,h2]:=h;exact#[xs,SqL.of h1,h2]
def EnsM.same{H H':Hp}{a:sv}{es:List Ent}(h:EnsM K H a es)(q:Same H H'):EnsM K H' a es:=by let#[xs,h1,h2]:=h;exact#[xs,q _ _ h1,h2.same q]
def EnA.new{D p s:sv}{H:Hp}{e:Ent}{ys:List V}(hD:H D=AQ (.lst ys))(hp:H p=AQ (.tup [⇑e.1,⇑e.2.1,.ref s]))(hs:LsA K H s (e.2.2.map dSt))(hsD:s≠D):EnA K (ky D H) e (.ref p):=by
 let#[zs,hz,hi]:=hs;have hpD:p≠D:=λz=>by rw[z,hD]at hp;cases hp
 exact#[p,s,rfl,SqT.of (by rw[vk hpD];exact hp),zs,by rw[vk hsD];exact hz,WK hD _ _ hi]
def xy(es:List Ent):(zb es).length=es.length:=by unfold zb;rw[aa]
def wy(K:su):Sp:=λvs H Q Z=>∃(a:sv) (es:List Ent),vs=[.ref a]/\Is K H (.lst (es.map dE)) (.ref a)/\es.length<=1000/\∀(D:sv) (H':Hp),H D=AR->Same H H'->LsA K H' D ((zb es).map dR)->Q (.ref D) H'
def wj(h1:Is K H (.lst (es.map dE)) (.ref a))(h2:es.length<=1000)(h:∀(D:sv) (H':Hp),H D=AR->Same H H'->LsA K H' D ((zb es).map dR)->Q (.ref D) H'):wy K [.ref a] H Q E:=#[a,es,rfl,h1,h2,h]
def XV:sQz 1 ["entries"] vC:=by nofun
def Xw(B:Bt mg)(F:("pairs_of"^^^vC)):(1&&&["entries"]) (wy K):=by
 exists F.ok XV
 ·let#[a,es,rfl,hA,hl,q]:=h;refine#[_,(ze (zl (yJ (own:=["entry"]) (caps:=[]) (ix:=[]) (tt:=xo) (te:=(Um (zK (tOp (ut K) (ya 0) (tC (.int 0))) (zK (tOp (ut K) (ya 0) (tC (.int 1))) xv)))) rfl (zM (sc:=zi vC) rfl (!0) (!0) (!0) rfl (!0) (!0) rfl) (zY (pv 0)) (λZ Z Z Z Z Z=>zq (i:=0) (show List.Nodup [_] by decide) rfl (.inl rfl)) (λZ Z Z Z Z Z=>yh) (λZ Z Z Z Z Z=>(zX (za (!-0) (za (!-0) zg))))))),?_];have s16:=zW
  rfl'
  erw[Is]at hA
  let#[_,xs,e,hX,hI]:=hA;cases e;have hxl:=hI.len;rw[aa]at hxl;have hpl:=xy es;refine#[#[xs,hX],λD hD=>CompL.by (xs:=xs) (λi AW H'=>Same H H'/\H' D=AQ (.lst AW)/\Iss K H' (((zb es).take i).map dR) AW) #[zf hD,zc,by erw[bu,aH,Iss]] (λi AW H' Z h=>h.1.seq hX) ?_ ?_]
  ·refine nm4 ?_;rintro i x AW H' hx ⟨hs,hH,hA⟩:_;have hi:=(AX.mp hx).1;let#[e,pe,se,hei,rfl,hqe,_]:=W3 hI hx;have hm:(zb es)[i]? = AQ (e.1,e.2.1):=by unfold zb;rw[aq,hei];rfl
   have hal:=hA.len;rw[aa,aC]at hal;right
   erw[xo]
   rfl'
   refine#[yx,_,zp hs hqe,_,rfl,_,zp hs hqe,_,rfl,⋯,λp hp=>#[zf hp _ _ hH,⋯,CNx.mk hi #[zu (hs.trans (zf hp)) hD,zc,?_]]];rw[zQ hm,am];exact qT hH hA hp zeG (y9 _) (by erw[z8,xq,and_self])
  ·refine nmB ?_;rintro AW H' ⟨hs,hH,hA⟩:_;rw[hxl,<- hpl,aI]at hA;right;exact q D H' hD hs #[AW,hH,hA]
def z6(k:Nat)(l:())(ns:List Int)(e:Ent):Ent:=if zU k l ns e.2.1 e.1=AS then e else (e.2.1,e.1,yN e.2.2)
structure EB(l:())(e:Ent):Prop where
 a:e.1.length<=60
 b:e.2.1.length<=60
 s:e.2.2.length<=600
 ma:∀c ∈ e.1,c ∈ l
 mb:∀c ∈ e.2.1,c ∈ l
def EB.rule(h:EB l e):EB l (z6 k l ns e):=by
 unfold z6;split
 ·exact h
 ·exact#[h.b,h.a,by rw[yA];exact h.s,h.mb,h.ma]
def vn(K:su)(CO CR CW:sv):Sp:=λvs H Q Z=>∃(o p s:sv) (k:Nat) (l:()) (ns:List Int) (e:Ent),vs=[.ref o,.ref p]/\OrdAt CO CR CW H o k l ns/\OG l ns k/\SqT K H p [⇑e.1,⇑e.2.1,.ref s]/\Is K H (.lst (e.2.2.map dSt)) (.ref s)/\EB l e /\
 (z6 k l ns e=e->∀H',Same H H'->Q (.ref p) H') /\
 (∀(p' s':sv) (H':Hp),Same H H'->H s'=AR->H' p'=AQ (.tup [⇑(z6 k l ns e).1,⇑(z6 k l ns e).2.1,.ref s'])->LsA K H' s' ((z6 k l ns e).2.2.map dSt)->Q (.ref p') H')
def kQ{CO CR CW o p s:sv}(h1:OrdAt CO CR CW H o k l ns)(h2:OG l ns k)(h3:SqT K H p [⇑e.1,⇑e.2.1,.ref s])(h4:Is K H (.lst (e.2.2.map dSt)) (.ref s))(h5:EB l e)(h6:z6 k l ns e=e->∀H',Same H H'->Q (.ref p) H')(h7:∀(p' s':sv) (H':Hp),Same H H'->H s'=AR->H' p'=AQ (.tup [⇑(z6 k l ns e).1,⇑(z6 k l ns e).2.1,.ref s'])->LsA K H' s' ((z6 k l ns e).2.2.map dSt)->Q (.ref p') H'):vn K CO CR CW [.ref o,.ref p] H Q E :=
 #[o,p,s,k,l,ns,e,rfl,h1,h2,h3,h4,h5,h6,h7]
def V6:sQz 2 ["order","entry"] jH:=by nofun
def VV{f CO CR CW:sv}(B:Bt mg)(DBk:DB P w K mg base CO CR CW)(F:("as_rule"^^^jH))(mr:(1<<<"back") ["steps"] [] (uW K)):(4&&&["order","entry"]) (vn K CO CR CW):=by
 exists F.ok V6
 ·let#[o,p,s,k,l,ns,e,rfl,ho,hG,hp,hs,hE,q1,q2]:=h
  refine#[_,(zG (zJ (yl (zdg DBk hr (pv 0) (za (!-1) (za (!-1) zg))) (λZ=>rfl)) (ze (zl (pv 1)))
    zr) (ze (zl (zX (za (!-1) (za (!-1) (za (cl0 mr hr .nil rfl (za (!-1) zg)) zg))))))),?_]
  have s16:=zW;ac_rfl;let#[C,dx,fs,hf,ho1,hn,_]:=ho.fam;have h1:fs.lookup ("before" : sF)=AR:=hn _ ∅ ∅;refine#[C,hf,dx,fs,ho1,h1,_,hp,_,rfl,_,hp,_,rfl,o,k,l,ns,e.2.1,e.1,rfl,ho,hG,by have:=hE.b;lia,by have:=hE.a;lia,hE.mb,hE.ma,λH1 s1=>#[_,rfl,yb (λh=>?_) λh=>?_]]
  ·exact q1 (by unfold z6;rw[w6 h]) H1 s1
  ·have er:z6 k l ns e=(e.2.1,e.1,yN e.2.2):=by unfold z6;rw[w9 h]
   rw[er]at q2;have hp1:=zp s1 hp;refine#[_,hp1,_,rfl,_,hp1,_,rfl,_,hp1,_,rfl,jb (Is.same s1 _ _ hs) (by have:=hE.s;lia) λD H2 hD s2 hL=>#[⋯,λt ht=>?_]];exact q2 t D _ (s1.trans (s2.trans (zf ht))) (s1.free hD) zc (hL.same (zf ht))
def X5{w:()}(hb:∀n ∈ ns,1<=n/\n<=1000000):0<=J0 l ns w:=by
 unfold J0
 have key:∀xs:List Int,(∀x ∈ xs,0<=x)->0<=xs.sum:=by
  intro xs
  induction xs with
  | nil=>intro _;simp
  | cons x xs ih =>
   intro h;rw[bv];have h1:=h x aB;have h2:=ih λy hy=>h y (ar _ hy);lia
 refine key _ λx hx=>?_;let#[p,hp,rfl]:=AY.mp hx;have h1:=(hb p.2 (dj (show (p.1,p.2) ∈ l.zip ns from hp)).2).1;exact Int.mul_nonneg ⋯ ⋯
def JF(hb:∀n ∈ ns,1<=n/\n<=1000000)(h:zU k l ns u v=AS):v≠[]:=by
 intro e;subst e
 have h0:zE k l ns []=0:=by
  unfold zE;split
  ·unfold J0
   have z:∀xs:List (Nat × Int),(xs.map λp=>(([]:()).count p.1:Int) * p.2).sum=0:=by
    intro xs
    induction xs with
    | nil=>rfl
    | cons x xs ih=>rw[ao,bv,ih];simp
   exact z _
  ·rfl
 have h1:0<=zE k l ns u:=by
  unfold zE;split
  ·exact X5 hb
  ·lia
 have h2:uo k l []=[]:=by
  unfold uo yD;split <;> rfl
 unfold zU at h;rw[h0,h2]at h;split at h
 ·cases hr:uo k l u with
  | nil=>rw[hr]at h;cases h
  | cons a r=>rw[hr]at h;cases h
 ·have:=u5 h;lia
def jf(hE:EB l e)(hne:e.1≠e.2.1):zU k l ns (z6 k l ns e).2.1 (z6 k l ns e).1=AS:=by
 unfold z6;by_cases h:zU k l ns e.2.1 e.1=AS
 ·rw[w6 h];exact h
 ·rw[w9 h];have:=jQ (k:=k) (ns:=ns) hE.ma hE.mb hne;show zU k l ns e.1 e.2.1=AS;rw[this];simpa using h
def qN(k:Nat)(l:())(ns:List Int)(es:List Ent):List Ent:=(es.filter λe=>!decide (e.1=e.2.1)).map (z6 k l ns)
def zcG(k:Nat)(l:())(ns:List Int)(es fs:List Ent):qN k l ns (es ++ fs)=qN k l ns es ++ qN k l ns fs:=by unfold qN;rw[cX,am]
def Wb(k:Nat)(l:())(ns:List Int)(es:List Ent):(qN k l ns es).length<=es.length:=by unfold qN;rw[aa];exact db _ _
def ku(k:Nat)(l:())(ns:List Int)(a b:Ent):Bool:=if a.1=b.1 then zU k l ns a.2.1 b.2.1 else zU k l ns a.1 b.1
structure Lined(k:Nat)(l:())(ns:List Int)(es zs:List Ent):Prop where
 perm:zs.Perm (qN k l ns es)
 srt:zs.Pairwise λa b=>ku k l ns b a=AT
 is:zs=L3.srt (ku k l ns) ([],[],[]) (qN k l ns es)
structure EndsAt(ps:List zH)(w:())(i:Nat):Prop where
 live:kD ps w i
 end_:zF (wAt ps w i) ps=AR
 most:i<=40
def Us(ps:List zH)(w:()):(∃i,EndsAt ps w i)\/(kD ps w 40/\zF (wAt ps w 40) ps≠AR):=by
 have key:∀n,n<=41->(∃i,EndsAt ps w i)\/kD ps w n:=by
  intro n
  induction n with
  | zero=>intro _;exact .inr λi h=>w4 h (bB i)
  | succ n ih =>
   intro hn;rcases ih ⋯ with h | h
   ·exact .inl h
   ·cases e:zF (wAt ps w n) ps with
    | none=>exact .inl #[n,h,e,⋯]
    | some u =>
     refine .inr λi hi=>?_;by_cases hin:i=n
     ·rw[hin,e];intro z;cases z
     ·exact h i ⋯
 rcases key 41 (al _)with h | h
 ·exact .inl h
 ·exact .inr #[λi hi=>h i ⋯,h 40 ∅]
def EndsAt.uniq{w:()}(h1:EndsAt ps w i)(h2:EndsAt ps w j):i=j:=uH h1.live h1.end_ h2.live h2.end_
def stS(us:List (Nat × Nat)):List Stp:=us.map λu=>((u.1:Int),(u.2:Int),AS)
def yO(bs:List Ent)(e:Ent)(i j:Nat):Ent:=(wAt (zb bs) e.1 i,wAt (zb bs) e.2.1 j,byL bs (yN (stS (sAt (zb bs) e.1 i))) ++ e.2.2 ++ byL bs (stS (sAt (zb bs) e.2.1 j)))
def qP(e:Ent):Prop:=240<e.2.2.length\/60<e.1.length\/60<e.2.1.length
inductive xn(k:Nat)(l:())(ns:List Int):List Ent->List Ent->Option (List Ent)->Prop where
 | nil (bs:List Ent):xn k l ns bs [] (AQ bs)
 | same {bs es:List Ent} {e:Ent} {i j:Nat} {r:Option (List Ent)} (h1:EndsAt (zb bs) e.1 i) (h2:EndsAt (zb bs) e.2.1 j) (h3:wAt (zb bs) e.1 i=wAt (zb bs) e.2.1 j) (h4:xn k l ns bs es r):xn k l ns bs (e::es) r
 | new {bs es:List Ent} {e:Ent} {i j:Nat} {r:Option (List Ent)} (h1:EndsAt (zb bs) e.1 i) (h2:EndsAt (zb bs) e.2.1 j) (h3:wAt (zb bs) e.1 i≠wAt (zb bs) e.2.1 j) (h4:¬ qP (yO bs e i j)) (h5:xn k l ns (bs ++ [z6 k l ns (yO bs e i j)]) es r):xn k l ns bs (e::es) r
 | far {bs es:List Ent} {e:Ent} {i j:Nat} (h1:EndsAt (zb bs) e.1 i) (h2:EndsAt (zb bs) e.2.1 j) (h3:wAt (zb bs) e.1 i≠wAt (zb bs) e.2.1 j) (h4:qP (yO bs e i j)):xn k l ns bs (e::es) AR
 | stuck {bs es:List Ent} {e:Ent} (h:(∀i,¬ EndsAt (zb bs) e.1 i)\/(∀j,¬ EndsAt (zb bs) e.2.1 j)):xn k l ns bs (e::es) AR
inductive uM(k:Nat)(l:())(ns:List Int):Nat->List Ent->Option (List Ent)->Prop where
 | out (es:List Ent):uM k l ns 0 es AR
 | bad {n:Nat} {es zs:List Ent} (h1:Lined k l ns es zs) (h2:xn k l ns [] zs AR):uM k l ns (n+1) es AR
 | done {n:Nat} {es zs bs:List Ent} (h1:Lined k l ns es zs) (h2:xn k l ns [] zs (AQ bs)) (h3:zb bs=zb zs):uM k l ns (n+1) es (AQ bs)
 | more {n:Nat} {es zs bs:List Ent} {r:Option (List Ent)} (h1:Lined k l ns es zs) (h2:xn k l ns [] zs (AQ bs)) (h3:zb bs≠zb zs) (h4:uM k l ns n bs r):uM k l ns (n+1) es r
def yd{w:()}(h:zF w ps=AQ u):∃p,ps[u.1]? = AQ p/\zw w (u.2:Int) p.1=AS:=by have hm:u ∈ xO w ps w.length:=List.mem_of_mem_head? (by unfold zF at h;rw[h];rfl);exact (vK (usesK_mem.mp hm).2).2
theorem qe{l w:()}(hw:∀c ∈ w,c ∈ l)(hp:∀p ∈ ps,∀c ∈ p.2,c ∈ l):∀j,∀c ∈ wAt ps w j,c ∈ l
 | 0=>hw
 | j+1=>by
  have ih:=qe hw hp j
  cases e:zF (wAt ps w j) ps with
  | none =>
   show ∀c ∈ Uo ps (wAt ps w j),c ∈ l;unfold Uo;rw[e];exact ih
  | some u =>
   let#[p,h1,h2]:=yd e;rw[xI e];unfold Ze yX;rw[yU h1];intro c hc;rcases Ba.mp hc with hc | hc
   ·rcases Ba.mp hc with hc | hc
    ·exact ih c (bz hc)
    ·exact hp p (ac h1) c hc
   ·exact ih c (cM hc)
structure zbZ(R:()->()->Prop):Prop where
 refl:∀u,R u u
 symm:∀{u v},R u v->R v u
 trans:∀{u v w},R u v->R v w->R u w
 ctx:∀{u v} (a b:()),R u v->R (a ++ u ++ b) (a ++ v ++ b)
def VX(R:()->()->Prop)(es:List Ent):Prop:=∀e ∈ es,R e.1 e.2.1
theorem zc5(hR:zbZ R)(hk:∀p ∈ ps,R p.1 p.2)(w:()):∀j,R w (wAt ps w j)
 | 0=>hR.refl w
 | j+1=>by
  have ih:=zc5 hR hk w j
  cases e:zF (wAt ps w j) ps with
  | none =>
   show R w (Uo ps (wAt ps w j));unfold Uo;rw[e];exact ih
  | some u =>
   let#[p,h1,h2]:=yd e;rw[xI e];refine hR.trans ih ?_;let#[e1,_]:=yB h2;unfold Ze yX;rw[yU h1];have:=hR.ctx ((wAt ps w j).take ((u.2:Int)).toNat) ((wAt ps w j).drop (((u.2:Int)).toNat+p.1.length)) (hk p (ac h1));rw[e1]at this;exact this
def j5(h:VX R bs):∀p ∈ zb bs,R p.1 p.2:=λp hp=>by
 unfold zb at hp;let#[e,he,rfl]:=AY.mp hp;exact h e he
def kX(hR:zbZ R):R (z6 k l ns e).1 (z6 k l ns e).2.1 ↔ R e.1 e.2.1:=by
 unfold z6;split
 ·exact Iff.rfl
 ·exact#[hR.symm,hR.symm]
def QN(hR:zbZ R){e:Ent}(h:VX R bs):R (wAt (zb bs) e.1 i) (wAt (zb bs) e.2.1 j) ↔ R e.1 e.2.1:=by have h1:=zc5 hR (j5 h) e.1 i;have h2:=zc5 hR (j5 h) e.2.1 j;exact#[λx=>hR.trans h1 (hR.trans x (hR.symm h2)),λx=>hR.trans (hR.symm h1) (hR.trans x h2)]
theorem zfs(hR:zbZ R)(h:xn k l ns bs es r):∀fs,r=AQ fs->(VX R fs ↔ VX R bs/\VX R es):=by
 induction h with
 | nil bs =>
  intro fs e;cases e;exact#[λh=>#[h,λe he=>(nomatch he)],λh=>h.1]
 | @same bs es e i j r h1 h2 h3 h4 ih =>
  intro fs er;rw[ih fs er];refine#[λ⟨a,b⟩=>#[a,λx hx=>?_],λ⟨a,b⟩=>#[a,λx hx=>b x (ar _ hx)]];rcases AZ.mp hx with rfl | hx
  ·refine (QN hR a (i:=i) (j:=j)).mp ?_;rw[h3];exact hR.refl _
  ·exact b x hx
 | @new bs es e i j r h1 h2 h3 h4 h5 ih =>
  intro fs er;rw[ih fs er];constructor
  ·rintro⟨a,b⟩;have a':VX R bs:=λx hx=>a x (bx _ hx);refine#[a',λx hx=>?_];rcases AZ.mp hx with rfl | hx
   ·have:=a _ (aF bs (Bb.mpr rfl));exact (QN hR a' (i:=i) (j:=j)).mp ((kX hR).mp this)
   ·exact b x hx
  ·rintro⟨a,b⟩;refine#[λx hx=>?_,λx hx=>b x (ar _ hx)];rcases Ba.mp hx with hx | hx
   ·exact a x hx
   ·rw[Bb.mp hx];exact (kX hR).mpr ((QN hR a (i:=i) (j:=j)).mpr (b e aB))
 | far=>intro fs e;cases e
 | stuck=>intro fs e;cases e
def Within(p w:()):Prop:=∃a b:(),w=a ++ p ++ b
def JK{w p:()}{q:Nat}(h:zw w (q:Int) p=AS):Within p w:=by let#[e,_]:=yB h;exact#[_,_,e.symm]
def UJ{w p:()}(h:Within p w):∃q:Nat,zw w (q:Int) p=AS:=by let#[a,b,rfl]:=h;refine#[a.length,?_];unfold zw;refine u6 #[⋯,by erw[aj];lia,?_];rw[aA,aQ,fO,List.take_left]
def Jq{w:()}(hN:NeL ps)(h:zF w ps=AR):∀p ∈ ps,¬ Within p.1 w:=λp hp hw=>by
 let#[q,hq]:=UJ hw;let#[j,hj]:=Bl.mp hp;have hlt:=jd (hN p hp) hq;have hs:stJ w ps q j=AS:=by rw[k8 hj];exact hq
 have:(j,q) ∈ xO w ps w.length:=usesK_mem.mpr #[hlt,hs];unfold zF at h;rw[List.head?_eq_none_iff]at h;rw[h]at this;cases this
structure RL(k:Nat)(l:())(ns:List Int)(bs:List Ent):Prop where
 e:∀e ∈ bs,EB l e
 lt:∀e ∈ bs,zU k l ns e.2.1 e.1=AS
def Ka{w:()}(G:OG l ns k)(hp:∀p ∈ ps,zU k l ns p.2 p.1=AS/\(∀c ∈ p.1,c ∈ l)/\∀c ∈ p.2,c ∈ l)(hw:∀c ∈ w,c ∈ l)(h:zF w ps=AQ u):zU k l ns (Ze w ps u) w=AS:=by let#[p,h1,h2]:=yd h;let#[e1,_]:=yB h2;let#[p1,p2,p3]:=hp p (ac h1);unfold Ze yX;rw[yU h1];have ha:∀c ∈ w.take ((u.2:Int)).toNat,c ∈ l:=λc hc=>hw c (bz hc);have hb:∀c ∈ w.drop (((u.2:Int)).toNat+p.1.length),c ∈ l:=λc hc=>hw c (cM hc);generalize w.take ((u.2:Int)).toNat=a at *;generalize w.drop (((u.2:Int)).toNat+p.1.length)=b at *;rw[<- e1];have ap:∀x:(),(∀c ∈ x,c ∈ l)->∀c ∈ a ++ x,c ∈ l:=λx hx c hc=>(Ba.mp hc).elim (ha c) (hx c);rw[(YK G hb (ap p.2 p3) (ap p.1 p2)).2,(YK G ha p3 p2).1];exact p1
theorem zaO{w:()}(G:OG l ns k)(hp:∀p ∈ ps,zU k l ns p.2 p.1=AS/\(∀c ∈ p.1,c ∈ l)/\∀c ∈ p.2,c ∈ l)(hw:∀c ∈ w,c ∈ l):∀j,wAt ps w j=w\/zU k l ns (wAt ps w j) w=AS
 | 0=>.inl rfl
 | j+1=>by
  have ih:=zaO G hp hw j;have hm:=qe hw (λp hp'=>(hp p hp').2.2) j
  cases e:zF (wAt ps w j) ps with
  | none =>
   show Uo ps (wAt ps w j)=w\/zU k l ns (Uo ps (wAt ps w j)) w=AS;unfold Uo;rw[e];exact ih
  | some u =>
   rw[xI e];have h:=Ka G hp hm e;rcases ih with h' | h'
   ·rw[h']at h ⊢;exact .inr h
   ·exact .inr (ji h h')
def RL.pairs(h:RL k l ns bs):∀p ∈ zb bs,zU k l ns p.2 p.1=AS/\(∀c ∈ p.1,c ∈ l)/\∀c ∈ p.2,c ∈ l:=λp hp=>by
 unfold zb at hp;let#[e,he,rfl]:=AY.mp hp;exact#[h.lt e he,(h.e e he).ma,(h.e e he).mb]
def RL.ne(h:RL k l ns bs)(G:OG l ns k):NeL (zb bs):=λp hp=>JF G.nb (h.pairs p hp).1
def RL.snoc(h:RL k l ns bs)(hd:EB l d)(hne:d.1≠d.2.1):RL k l ns (bs ++ [z6 k l ns d]):=by
 refine#[λe he=>?_,λe he=>?_]
 ·rcases Ba.mp he with he | he
  ·exact h.e e he
  ·rw[Bb.mp he];exact hd.rule
 ·rcases Ba.mp he with he | he
  ·exact h.lt e he
  ·rw[Bb.mp he];exact jf hd hne
def zbD(hB:RL k l ns bs)(hE:EB l e)(hF:¬ qP (yO bs e i j)):EB l (yO bs e i j):=by unfold qP at hF;exact#[⋯,⋯,⋯,qe hE.ma (λp hp=>(hB.pairs p hp).2.2) i,qe hE.mb (λp hp=>(hB.pairs p hp).2.2) j]
def V3(G:OG l ns k)(hB:RL k l ns bs)(hE:EB l e)(hlt:zU k l ns e.2.1 e.1=AS)(h1:EndsAt (zb bs) e.1 i)(h2:EndsAt (zb bs) e.2.1 j)(hp1:(z6 k l ns (yO bs e i j)).1=e.1)(hp2:(z6 k l ns (yO bs e i j)).2.1=e.2.1):zF e.1 (zb bs)=AR/\zF e.2.1 (zb bs)=AR:=by
 unfold z6 at hp1 hp2;by_cases h:zU k l ns (yO bs e i j).2.1 (yO bs e i j).1=AS
 ·rw[w6 h]at hp1 hp2;have a1:wAt (zb bs) e.1 i=e.1:=hp1;have a2:wAt (zb bs) e.2.1 j=e.2.1:=hp2;have b1:=h1.end_;have b2:=h2.end_;rw[a1]at b1;rw[a2]at b2;exact#[b1,b2]
 ·rw[w9 h]at hp1 hp2;have a1:wAt (zb bs) e.2.1 j=e.1:=hp1;rcases zaO G hB.pairs hE.mb j with h' | h'
  ·rw[a1]at h';rw[h',xG]at hlt;cases hlt
  ·rw[a1]at h';rw[XB h']at hlt;cases hlt
theorem kR(G:OG l ns k)(h:xn k l ns bs es r):∀fs,r=AQ fs->RL k l ns bs->RL k l ns es->∃gs,fs=bs ++ gs/\gs.length<=es.length/\RL k l ns fs /\
  (zb gs=zb es->∀i e,es[i]? = AQ e->zF e.1 (zb (bs ++ gs.take i))=AR/\zF e.2.1 (zb (bs ++ gs.take i))=AR):=by
 induction h with
 | nil bs =>
  intro fs er hb he;cases er;exact#[[],by simp,al _,hb,λZ i e h=>by simp at h]
 | @same bs es e i j r h1 h2 h3 h4 ih =>
  intro fs er hb he;let#[gs,g1,g2,g3,g4]:=ih fs er hb #[λx hx=>he.e x (ar _ hx),λx hx=>he.lt x (ar _ hx)];refine#[gs,g1,by rw[aG];lia,g3,λhp=>?_];have:=congrArg cG hp;unfold zb at this;rw[aa,aa,aG]at this;lia
 | @new bs es e i j r h1 h2 h3 h4 h5 ih =>
  intro fs er hb he;have hEe:=he.e e aB;have hd:=zbD hb hEe h4;let#[gs,g1,g2,g3,g4]:=ih fs er (hb.snoc hd h3) #[λx hx=>he.e x (ar _ hx),λx hx=>he.lt x (ar _ hx)];refine#[z6 k l ns (yO bs e i j)::gs,by rw[g1,aQ];rfl,by rw[aG,aG];lia,g3,λhp n x hx=>?_];unfold zb at hp;rw[ao,ao]at hp;injection hp with hp1 hp2;have hp1a:=(Prod.ext_iff.mp hp1).1;have hp1b:=(Prod.ext_iff.mp hp1).2
  cases n with
  | zero =>
   have e0:e=x:=by simpa using hx
   subst e0;rw[bu,aT];exact V3 G hb hEe (he.lt _ aB) h1 h2 hp1a hp1b
  | succ n =>
   have:=g4 hp2 n x ↥hx;rw[aQ]at this;rw[eD];exact this
 | far=>intro fs e;cases e
 | stuck=>intro fs e;cases e
def qr(G:OG l ns k){p w:()}(hw:∀c ∈ w,c ∈ l)(h:Within p w):p=w\/zU k l ns p w=AS:=by
 let#[a,b,rfl]:=h;by_cases e:a ++ p ++ b=p
 ·exact .inl e.symm
 ·refine .inr (Kb G (λc hc=>hw c ?_) (λc hc=>hw c ?_) (λc hc=>hw c ?_) e).1
  ·exact bx _ (bx _ hc)
  ·exact bx _ (aF _ hc)
  ·exact aF _ hc
structure ThinL(k:Nat)(l:())(ns:List Int)(zs:List Ent):Prop where
 rl:RL k l ns zs
 up:∀(i j:Nat) (a b:Ent),zs[i]? = AQ a->zs[j]? = AQ b->i<j->zU k l ns a.1 b.1=AS
 no1:∀(i j:Nat) (a b:Ent),zs[i]? = AQ a->zs[j]? = AQ b->i≠j->¬ Within b.1 a.1
 no2:∀(i j:Nat) (a b:Ent),zs[i]? = AQ a->zs[j]? = AQ b->¬ Within b.1 a.2.1
def zc2(G:OG l ns k)(hz:RL k l ns zs)(hs:zs.Pairwise λa b=>ku k l ns b a=AT)(h:xn k l ns [] zs (AQ bs))(hp:zb bs=zb zs):ThinL k l ns zs:=by
 let#[gs,g1,g2,g3,g4]:=kR G h bs rfl #[λe he=>(nomatch he),λe he=>(nomatch he)] hz;rw[bg]at g1;subst g1;have irr:=g4 hp
 erw[bg]at irr
 have early:∀(i j:Nat) (a b:Ent),zs[i]? = AQ a->zs[j]? = AQ b->j<i->¬ Within b.1 a.1/\¬ Within b.1 a.2.1:=λi j a b ha hb hj=>by
  have hm:(b.1,b.2.1) ∈ zb (bs.take i):=by
   have e1:zb (bs.take i)=(zb zs).take i:=by
    rw[<- hp];unfold zb;rw[fY]
   rw[e1];refine Bl.mpr #[j,?_];rw[cN hj];unfold zb;rw[aq,hb];rfl
  have hN:NeL (zb (bs.take i)):=λp hp'=>by
   refine (g3.ne G) p ?_;unfold zb at hp' ⊢;let#[x,hx,rfl]:=AY.mp hp';exact AY.mpr #[x,bz hx,rfl]
  let#[f1,f2]:=irr i a ha;exact#[Jq hN f1 _ hm,Jq hN f2 _ hm]
 have later:∀(i j:Nat) (a b:Ent),zs[i]? = AQ a->zs[j]? = AQ b->i<j->zU k l ns b.1 a.1=AT:=λi j a b ha hb hij=>by
  have hi:=(AX.mp ha);have hj:=(AX.mp hb);have:=List.pairwise_iff_getElem.mp hs i j hi.1 hj.1 hij;rw[hi.2,hj.2]at this;unfold ku at this;by_cases e:b.1=a.1
  ·rw[e,xG]
  ·rw[w9 e]at this;exact this
 have memz:∀{i:Nat} {a:Ent},zs[i]? = AQ a->EB l a/\zU k l ns a.2.1 a.1=AS:=λ{i a} ha=>#[hz.e _ (ac ha),hz.lt _ (ac ha)]
 have up:∀(i j:Nat) (a b:Ent),zs[i]? = AQ a->zs[j]? = AQ b->i<j->zU k l ns a.1 b.1=AS:=λi j a b ha hb hij=>by
  have hne:a.1≠b.1:=λe=>(early j i b a hb ha hij).1 #[[],[],by rw[e];simp];have t:=jQ (k:=k) (ns:=ns) (memz ha).1.ma (memz hb).1.ma hne;rw[later i j a b ha hb hij]at t;simpa using t
 refine#[hz,up,λi j a b ha hb hij=>?_,λi j a b ha hb hw=>?_]
 ·rcases Nat.lt_or_gt_of_ne hij with h1 | h1
  ·intro hw;rcases qr G (memz ha).1.ma hw with e | e
   ·have:=up i j a b ha hb h1;rw[e,xG]at this;cases this
   ·rw[later i j a b ha hb h1]at e;cases e
  ·exact (early i j a b ha hb h1).1
 ·have hle:zU k l ns b.1 a.1=AS:=by
   rcases qr G (memz ha).1.mb hw with e | e
   ·rw[e];exact (memz ha).2
   ·exact ji e (memz ha).2
  rcases dD i j with h1 | h1 | h1
  ·rw[later i j a b ha hb h1]at hle;cases hle
  ·subst h1;rw[ha]at hb;cases hb;rw[xG]at hle;cases hle
  ·exact (early i j a b ha hb h1).2 hw
theorem uG{w:()}:∀{i:Nat},kD ps w i->yg ps w (stS (sAt ps w i))=AQ (wAt ps w i)
 | 0,_=>rfl
 | i+1,h=>by
  have ih:=uG (i:=i) λj hj=>h j ⋯;have hne:=h i ⋯
  cases e:zF (wAt ps w i) ps with
  | none=>exact w4 e hne
  | some u =>
   rw[WI,xI e,e];unfold stS at ih ⊢;rw[am];refine jL ih ?_;let#[p,h1,h2]:=yd e;have hl:=(AX.mp h1).1;show yn ps (wAt ps w i) ((u.1:Int),(u.2:Int),AS)=_;rw[yE (by show (0:Int)<=(u.1:Int)/\(u.1:Int)<ps.length;lia)];have e2:ps.getD ((u.1:Int)).toNat ([],[])=p:=by rw[aA,ae,h1];rfl
   show (if zw (wAt ps w i) (u.2:Int) (sdl (ps.getD ((u.1:Int)).toNat ([],[])) AS).1=AS then _ else AR)=_;rw[e2,w6 (show zw (wAt ps w i) (u.2:Int) (sdl p AS).1=AS from h2)];unfold Ze;rw[yU h1];rfl
def QU(h:EOk rs e):EOk rs (z6 k l ns e):=by
 unfold z6;split
 ·exact h
 ·exact wS h
def zc8(hb:∀e ∈ bs,EOk rs e)(he:EOk rs e)(h1:EndsAt (zb bs) e.1 i)(h2:EndsAt (zb bs) e.2.1 j):EOk rs (yO bs e i j):=by have w1:=j8 hb (wS (uG h1.live));have w2:=j8 hb (uG h2.live);have he':yg rs e.1 e.2.2=AQ e.2.1:=he;show yg rs (wAt (zb bs) e.1 i) (byL bs (yN (stS (sAt (zb bs) e.1 i))) ++ e.2.2 ++ byL bs (stS (sAt (zb bs) e.2.1 j)))=AQ (wAt (zb bs) e.2.1 j);rw[xJ,xJ,w1,ci,he',ci];exact w2
theorem WB(h:xn k l ns bs es r):∀fs,r=AQ fs->(∀e ∈ bs,EOk rs e)->(∀e ∈ es,EOk rs e)->∀e ∈ fs,EOk rs e:=by
 induction h with
 | nil bs=>intro fs er hb _;cases er;exact hb
 | @same bs es e i j r h1 h2 h3 h4 ih=>intro fs er hb he;exact ih fs er hb λx hx=>he x (ar _ hx)
 | @new bs es e i j r h1 h2 h3 h4 h5 ih =>
  intro fs er hb he;refine ih fs er (λx hx=>?_) λx hx=>he x (ar _ hx);rcases Ba.mp hx with hx | hx
  ·exact hb x hx
  ·rw[Bb.mp hx];exact QU (zc8 hb (he e aB) h1 h2)
 | far=>intro fs e;cases e
 | stuck=>intro fs e;cases e
def W8(h:Lined k l ns es zs)(he:∀e ∈ es,EOk rs e):∀e ∈ zs,EOk rs e:=λe hz=>by
 have hm:=h.perm.mem_iff.mp hz;unfold qN at hm;let#[y,hy,rfl]:=AY.mp hm;exact QU (he y (Be.mp hy).1)
def Ve(h:Lined k l ns es zs)(he:∀e ∈ es,EB l e):RL k l ns zs:=by
 have key:∀e ∈ zs,∃y,EB l y/\y.1≠y.2.1/\e=z6 k l ns y:=λe hz=>by
  have hm:=h.perm.mem_iff.mp hz;unfold qN at hm;let#[y,hy,rfl]:=AY.mp hm;let#[h1,h2]:=Be.mp hy;exact#[y,he y h1,by simpa using h2,rfl]
 refine#[λe hz=>?_,λe hz=>?_]
 ·let#[y,h1,_,rfl]:=key e hz;exact h1.rule
 ·let#[y,h1,h2,rfl]:=key e hz;exact jf h1 h2
def zao(G:OG l ns k)(hz:RL k l ns zs)(h:xn k l ns [] zs (AQ bs)):RL k l ns bs:=by let#[gs,g1,g2,g3,g4]:=kR G h bs rfl #[λe he=>(nomatch he),λe he=>(nomatch he)] hz;exact g3
theorem Vq(G:OG l ns k)(h:uM k l ns n es r):∀fs,r=AQ fs->(∀e ∈ es,EB l e)->(∀e ∈ es,EOk rs e)->(∀e ∈ fs,EOk rs e)/\∃zs,ThinL k l ns zs/\zb fs=zb zs:=by
 induction h with
 | out=>intro fs e;cases e
 | bad=>intro fs e;cases e
 | @done n es zs bs h1 h2 h3 =>
  intro fs er he ho;cases er;have hz:=Ve h1 he;exact#[WB h2 bs rfl (λe h=>(nomatch h)) (W8 h1 ho),zs,zc2 G hz h1.srt h2 h3,h3]
 | @more n es zs bs r h1 h2 h3 h4 ih =>
  intro fs er he ho;have hz:=Ve h1 he;exact ih fs er (zao G hz h2).e (WB h2 bs rfl (λe h=>(nomatch h)) (W8 h1 ho))
def rankF:KeyFam (Int × List Int):=#[λr=>[.int r.1,.lst (r.2.map L3.D.int)],λa b=>if a.1=b.1 then ltI a.2 b.2 else decide (a.1<b.1),AS,(0,[])]
def KR(h:ltI x y=AS):ltI y x=AT:=by
 by_cases e:x=y
 ·subst e;rw[xt]at h;cases h
 ·have:=wY e;rw[h]at this;simpa using this.symm
theorem zcW(h1:ltI y x=AT)(h2:ltI z y=AT):ltI z x=AT:=by
 cases h:ltI z x with
 | false=>rfl
 | true =>
  by_cases e:y=x
  ·subst e;rw[h2]at h;cases h
  ·have h3:=wY e;rw[h1]at h3;have h4:ltI x y=AS:=by simpa using h3.symm
   rw[jI h h4]at h2;cases h2
def rankF_ok:rankF.Ok where
 w:=#[λa b h=>by
   erw[rankF]at h ⊢
   by_cases e:a.1=b.1
   ·rw[w6 e]at h;rw[w6 e.symm];exact KR h
   ·rw[w9 e]at h;rw[w9 (λz=>e z.symm)];have:=u5 h;exact u9 ⋯,
  λa b c h1 h2=>by
   erw[rankF]at h1 h2 ⊢
   by_cases e:b.1=a.1
   ·rw[w6 e]at h1;rw[e]at h2;by_cases f:c.1=a.1
    ·rw[w6 f]at h2 ⊢;exact zcW h1 h2
    ·rw[w9 f]at h2 ⊢;exact h2
   ·rw[w9 e]at h1;have h1':=of_decide_eq_false h1;by_cases f:c.1=b.1
    ·rw[w9 ⋯];exact u9 ⋯
    ·rw[w9 f]at h2;have h2':=of_decide_eq_false h2;rw[w9 ⋯]
     exact u9 ⋯]
 eq:=λa b=>by
  have:=Qo a.1 b.1 a.2 b.2
  erw[ltD]at this
  exact this
 ok:=λa b=>by erw[rankF,Zz,okD];exact#[trivial,ur _ _,trivial]
 dp:=λa=>by erw[rankF,dpD,vH,uN];decide
 sh:=λa=>#[_,_,rfl,.inl #[rfl,_,rfl]]
def uL(k:Nat)(l:())(ns:List Int)(w:()):Int × List Int:=(zE k l ns w,uo k l w)
theorem WA : ∀{ds:List L3.D} {vs:List V},Iss K H ds vs->Is K H d v->Iss K H (ds ++ [d]) (vs ++ [v])
 | [],vs,h,hv=>by
  erw[Iss]at h
  subst h
  erw[bg,Iss]
  exact#[v,[],rfl,hv,rfl]
 | e::ds,vs,h,hv=>by
  erw[Iss]at h
  let#[x,r,rfl,hx,hr]:=h
  erw[bD,Iss]
  exact#[x,r ++ [v],rfl,hx,WA hr hv]
def OrdAt.samT{T CO CR CW:sv}(h:OrdAt CO CR CW H o k l ns)(s:SamT T H H')(hT:H T=AQ (.tbl ps)):OrdAt CO CR CW H' o k l ns:=by
 obtain⟨dx,⟨h1,h2⟩ | ⟨h1,h2⟩⟩:=h
 ·exact#[dx,.inl #[h1,s.at hT h2 λZ z=>by cases z]]
 ·exact#[dx,.inr #[h1,s.at hT h2 λZ z=>by cases z]]
theorem EnsA.samT(s:SamT T H H')(hT:H T=AQ (.tbl ps)):∀{es:List Ent} {vs:List V},EnsA K H es vs->EnsA K H' es vs
 | [],vs,h=>by erw[EnsA]at h ⊢;exact h
 | e::es,vs,h=>by
  erw[EnsA]at h ⊢
  let#[v,r,e0,#[p,s',e1,h1,h2],h3]:=h;exact#[v,r,e0,#[p,s',e1,s.seqT hT h1,h2.samT s hT],EnsA.samT s hT h3]
def jG(h:a≠b):rankF.lt a b=!rankF.lt b a:=by
 erw[rankF]
 by_cases e:a.1=b.1
 ·rw[w6 e,w6 e.symm];exact wY λq=>h (Prod.ext e q)
 ·rw[w9 e,w9 λq=>e q.symm];by_cases c:a.1<b.1
  ·rw[u6 c,u9 ⋯];rfl
  ·rw[u9 c,u6 ⋯];rfl
def QC(a b:Int × List Int):eqD (.tup (rankF.dec a)) (.tup (rankF.dec b))=decide (a=b):=by
 let#[a1,a2]:=a;let#[b1,b2]:=b
 erw[rankF,eqD,uE,je]
 by_cases h:a1=b1
 ·by_cases h2:a2=b2
  ·simp [h,h2]
  ·simp [h,h2]
 ·simp [h]
def WN(a b:Int × List Int):ltD (.tup (rankF.dec a)) (.tup (rankF.dec b))=rankF.lt a b:=by
 erw[ltD]
 exact rankF_ok.eq a b
def qx(a:Int × List Int):rankF.lt a a=AT:=by
 erw[rankF]
 rw[w6 trivial];exact xt _
def pairF:KeyFam ((Int × List Int) × (Int × List Int)):=#[λr=>[.tup (rankF.dec r.1),.tup (rankF.dec r.2)],λa b=>if a.1=b.1 then rankF.lt a.2 b.2 else rankF.lt a.1 b.1,AT,((0,[]),(0,[]))]
def qM(a b:(Int × List Int) × (Int × List Int)):pairF.lt a b=if a.1=b.1 then rankF.lt a.2 b.2 else rankF.lt a.1 b.1:=rfl
def pairF_ok:pairF.Ok where
 w:=#[λa b h=>by
   rw[qM]at h ⊢;by_cases e:a.1=b.1
   ·rw[w6 e]at h;rw[w6 e.symm];exact rankF_ok.w.asym _ _ h
   ·rw[w9 e]at h;rw[w9 λq=>e q.symm];exact rankF_ok.w.asym _ _ h,
  λa b c h1 h2=>by
   rw[qM]at h1 h2 ⊢;by_cases e:b.1=a.1
   ·rw[w6 e]at h1;rw[e]at h2;by_cases f:c.1=a.1
    ·rw[w6 f]at h2 ⊢;exact rankF_ok.w.ntr _ _ _ h1 h2
    ·rw[w9 f]at h2 ⊢;exact h2
   ·rw[w9 e]at h1;by_cases g:c.1=b.1
    ·rw[g,w9 e];exact h1
    ·rw[w9 g]at h2;by_cases f:c.1=a.1
     ·rw[f]at h2;have:=jG (a:=b.1) (b:=a.1) e;rw[h1,h2]at this;cases this
     ·rw[w9 f]
      exact rankF_ok.w.ntr _ _ _ h1 h2]
 eq:=λa b=>by
  show wL [.tup (rankF.dec a.1),.tup (rankF.dec a.2)] [.tup (rankF.dec b.1),.tup (rankF.dec b.2)]=_;rw[qM,wL,QC,wL,QC,WN,WN,wL];by_cases e:a.1=b.1
  ·rw[w6 (u6 e),w6 e];by_cases f:a.2=b.2
   ·rw[w6 (u6 f),f,qx]
   ·rw[w9 ↥f]
  ·rw[w9 ↥e,w9 e]
 ok:=λa b=>by
  show Zz [.tup (rankF.dec a.1),.tup (rankF.dec a.2)] [.tup (rankF.dec b.1),.tup (rankF.dec b.2)]
  erw[Zz,okD]
  exact#[rankF_ok.ok _ _,rankF_ok.ok _ _,trivial]
 dp:=λa=>by erw[pairF,rankF,dpD,vH,uN];decide
 sh:=λa=>#[_,_,rfl,.inr #[rfl,_,rfl]]
def rkE(k:Nat)(l:())(ns:List Int)(e:Ent):(Int × List Int) × (Int × List Int):=(uL k l ns e.1,uL k l ns e.2.1)
def zbh(hu:∀c ∈ u,c ∈ l)(hv:∀c ∈ v,c ∈ l):uL k l ns u=uL k l ns v ↔ u=v :=
 #[λh=>Yb hu hv (Prod.ext_iff.mp h).2,λh=>by rw[h]]
def UP(ha:EB l a)(hb:EB l b):pairF.lt (rkE k l ns a) (rkE k l ns b)=ku k l ns a b:=by
 rw[qM];unfold ku;have h:(rkE k l ns a).1=(rkE k l ns b).1 ↔ a.1=b.1:=zbh ha.ma hb.ma;by_cases e:a.1=b.1
 ·rw[w6 (h.mpr e),w6 e];rfl
 ·rw[w9 λq=>e (h.mp q),w9 e];rfl
theorem QK : ∀{es:List Ent} {vs:List V},EnsA K H es vs->∀t ∈ es.zip vs,EnA K H t.1 t.2
 | [],_,_,t,ht=>by simp at ht
 | e::es,vs,h,t,ht=>by
  erw[EnsA]at h
  let#[v,r,rfl,h1,h2]:=h;rw[dq]at ht;rcases AZ.mp ht with rfl | ht
  ·exact h1
  ·exact QK h2 t ht
theorem zaX : ∀{ts:List (Ent × V)},(∀t ∈ ts,EnA K H t.1 t.2)->EnsA K H (ts.map (·.1)) (ts.map (·.2))
 | [],_=>by erw[aH,EnsA]
 | t::ts,h=>by
  erw[ao,EnsA]
  exact#[_,_,rfl,h t aB,zaX λu hu=>h u (ar _ hu)]
def XO(hI:EnsA K H es vs)(hE:∀e ∈ es,EB l e)(h1:ys=srt (λp q=>pairF.lt p.1 q.1) d ((es.map (rkE k l ns)).zip vs)) :
  ∃zs:List Ent,zs.Perm es/\zs.Pairwise (λa b=>ku k l ns b a=AT)/\zs=srt (ku k l ns) ([],[],[]) es/\EnsA K H zs (ys.map (·.2)):=by
 have hl:=hI.len
 have e0:(es.map (rkE k l ns)).zip vs=(es.zip vs).map λt=>(rkE k l ns t.1,t.2):=by
  rw[List.zip_map_left];rfl
 have W0:WkO λ(p q:((Int × List Int) × (Int × List Int)) × V)=>pairF.lt p.1 q.1:=#[λa b=>pairF_ok.w.asym _ _,λa b c=>pairF_ok.w.ntr _ _ _];have W1:WkO λ(p q:Ent × V)=>pairF.lt (rkE k l ns p.1) (rkE k l ns q.1):=#[λa b=>pairF_ok.w.asym _ _,λa b c=>pairF_ok.w.ntr _ _ _];have W2:WkO λ(p q:Ent)=>pairF.lt (rkE k l ns p) (rkE k l ns q):=#[λa b=>pairF_ok.w.asym _ _,λa b c=>pairF_ok.w.ntr _ _ _];rw[e0,zaK W0 (d':=(λt:Ent × V=>(rkE k l ns t.1,t.2)) (([],[],[]),.non)) (λZ Z Z Z=>rfl)]at h1
 replace h1:=h1.trans (UQ (lt:=λ(p q:((Int × List Int) × (Int × List Int)) × V)=>pairF.lt p.1 q.1) (λt:Ent × V=>(rkE k l ns t.1,t.2)) (([],[],[]),.non) (es.zip vs))
 let#[p,h2]:=Vp W1 (([],[],[]),.non) (es.zip vs)
 have e2:(srt (λ(p q:Ent × V)=>pairF.lt (rkE k l ns p.1) (rkE k l ns q.1)) (([],[],[]),.non) (es.zip vs)).map (·.1)=srt (ku k l ns) ([],[],[]) es:=by
  rw[<- zaK W2 (d:=([],[],[])) λa ha b hb=>UP (hE a ha) (hE b hb)];have:=UQ (lt:=λ(p q:Ent)=>pairF.lt (rkE k l ns p) (rkE k l ns q)) (λt:Ent × V=>t.1) (([],[],[]),.non) (es.zip vs);rw[e9 ⋯]at this;exact this.symm
 generalize srt (λ(p q:Ent × V)=>pairF.lt (rkE k l ns p.1) (rkE k l ns q.1)) (([],[],[]),.non) (es.zip vs)=ts at h1 h2 p e2;have hm:∀t ∈ ts,t.1 ∈ es:=λt ht=>(dj (show (t.1,t.2) ∈ es.zip vs from p.mem_iff.mp ht)).1;refine#[ts.map (·.1),?_,?_,e2,?_]
 ·have:=p.map (·.1);rw[e9 ⋯]at this;exact this
 ·rw[List.pairwise_map];refine h2.imp_of_mem λ{a b} ha hb h=>?_;rw[<- UP (hE _ (hm _ hb)) (hE _ (hm _ ha))];exact h
 ·rw[h1,ce];exact zaX λt ht=>QK hI t (p.mem_iff.mp ht)
def tbE(K:su)(CO CR CW:sv):TE:=Um (zK (zC (zeU CO CR CW) "rank" (λZ=>jN CO CR CW) [] E0 (ya 1) (zK (tOp (ut K) (ya 0) (tC (.int 0))) xv)) (zK (zC (zeU CO CR CW) "rank" (λZ=>jN CO CR CW) [] E0 (ya 1) (zK (tOp (ut K) (ya 0) (tC (.int 1))) xv)) xv))
def zex{CO CR CW o p s:sv}(hG:OG l ns k)(ho:OrdAt CO CR CW H o k l ns)(hE:EB l e)(hp:SqT K H p [⇑e.1,⇑e.2.1,.ref s])(q:∀(t:sv) (H':Hp),Same H H'->Is K H' (.tup (pairF.dec (rkE k l ns e))) (.ref t)->Q (.ref t) H'):tbE K CO CR CW [!!p,!!o] H Q:=by
 have s16:=zW;let#[C,dx,fs,hf,ho1,hn,_]:=ho.fam;have h1:fs.lookup ("rank" : sF)=AR:=hn _ ∅ ∅;unfold tbE;ac_rfl;refine#[C,hf,dx,fs,ho1,h1,_,hp,_,rfl,o,k,l,ns,e.1,rfl,ho,hG,by have:=hE.a;lia,hE.ma,λp1 q1 H1 s1 hp1 hq1=>#[C,hf,dx,fs,s1 _ _ ho1,h1,_,zp s1 hp,_,rfl,o,k,l,ns,e.2.1,rfl,ho.same s1,hG,by have:=hE.b;lia,hE.mb,λp2 q2 H2 s2 hp2 hq2=>#[⋯,λt ht=>?_]]];refine q t _ (s1.trans (s2.trans (zf (o:=.tup [.ref p1,.ref p2]) ht))) ?_;show Is K _ (.tup [.tup (rankF.dec (uL k l ns e.1)),.tup (rankF.dec (uL k l ns e.2.1))]) (.ref t);refine Is.tup ht ?_
 erw[Iss]
 exact#[_,_,rfl,Z4 (s2 _ _ hp1) (s2 _ _ hq1),_,_,rfl,Z4 hp2 hq2,rfl]
theorem za3{CO CR CW o:sv}{LA:Hp->Prop}(hG:OG l ns k)(hLA:∀H H',LA H->Same H H'->LA H'):∀(es:List Ent) (vs AW:List V) (rs:List ((Int × List Int) × (Int × List Int))) (H:Hp),LA H->OrdAt CO CR CW H o k l ns->(∀e ∈ es,EB l e)->EnsA K H es vs ->
  Iss K H (rs.map λa=>.tup (pairF.dec a)) AW->(∀acc' H',Same H H'->Iss K H' ((rs ++ es.map (rkE k l ns)).map λa=>.tup (pairF.dec a)) acc'->Qf acc' H')->qu (λx H Q=>LA H/\tbE K CO CR CW [AQ x,!!o] H Q) vs AW H Qf
 | [],vs,AW,rs,H,hL,ho,hw,hV,hI,h=>by
  erw[EnsA]at hV
  subst hV;exact h AW H (Same.refl _) ↥hI
 | e::es,vs,AW,rs,H,hL,ho,hw,hV,hI,h=>by
  have s16:=zW
  erw[EnsA]at hV
  let#[v,r,rfl,#[p,s,rfl,hp,_],hV]:=hV;refine#[hL,zex hG ho (hw e aB) hp λt H' s3 hIs=>?_];refine za3 hG hLA es r (AW ++ [.ref t]) (rs ++ [rkE k l ns e]) _ (hLA _ _ hL s3) (ho.same s3) (λx hx=>hw x (ar _ hx)) (hV.same s3) ?_ λacc' H' s' hI'=>h acc' H' (s3.trans s') ↥hI';rw[am];exact WA (Iss.same s3 _ _ hI) hIs
def zek:tH->AL
 | .Lambda _ _ _ p=>p
 | _=>default
def zhb:List sI->AL
 | _::.Return (AQ (.Call _ _ (k::_) _)) _::_=>zek k.value
 | _=>default
def lp:AL:=zhb (yj yK)
def lq:sF:="in_order.<locals>.<lambda>"
def Z1(K:su)(CO CR CW T:sv):Sp:=λvs H Q Z=>∃(o a:sv) (k:Nat) (l:()) (ns:List Int) (es:List Ent),vs=[.ref o,.ref a]/\OrdAt CO CR CW H o k l ns/\OG l ns k/\EnsL K H a es/\es.length<64/\(∀e ∈ es,EB l e)/\TabOk H T lp lq /\
 ∀(D:sv) (zs:List Ent) (H':Hp),SamT T H H'->TabOk H' T lp lq->H D=AR->Lined k l ns es zs->EnsM K H' D zs->Q (.ref D) H'
def UA{CO CR CW T o a:sv}(h1:OrdAt CO CR CW H o k l ns)(h2:OG l ns k)(h3:EnsL K H a es)(h4:es.length<64)(h5:∀e ∈ es,EB l e)(h6:TabOk H T lp lq)(h:∀(D:sv) (zs:List Ent) (H':Hp),SamT T H H'->TabOk H' T lp lq->H D=AR->Lined k l ns es zs->EnsM K H' D zs->Q (.ref D) H'):Z1 K CO CR CW T [.ref o,.ref a] H Q E:=#[o,a,k,l,ns,es,rfl,h1,h2,h3,h4,h5,h6,h]
abbrev Qk(mg:sF->Option sw):Prop:=mg "sorted" = AR
def oq:sQz 2 ["order","entries","unlike"] yK:=by nofun
def XU{f CO CR CW CC TB:sv}(B:Bt mg)(DRk:DR P w K mg base CO CR CW)(hsorted:Qk mg)(hCd:PySem.W.CodeHd base CC TB)(hBt:base.BuiltinsAt mg TB)(hgT:so≠TB)(F:("in_order"^^^yK))(HC:fd.code=.ref CC)(nM:(4<<<"as_rule") ["order","entry"] [] (vn K CO CR CW)):(6&&&["order","entries"]) (Z1 K CO CR CW TB):=by
 refine zbF F HC oq (λvs H Q E h=>?_) (λA outer s H vs Q E hr h=>?_)
 ·let#[o,a,k,l,ns,es,rfl,_]:=h;rfl
 ·let#[o,a,k,l,ns,es,rfl,ho,hG,hA,hz,hE,hTab,q]:=h
  refine#[_,(zh (XD (i:=2) oq.nd rfl (.inl rfl) (.inl rfl) (own:=["entry"]) (caps:=["order"]) (ix:=[0]) (tt:=(tBl (tOp rNe (tOp (ut K) (ya 0) (tC (.int 0))) (tOp (ut K) (ya 0) (tC (.int 1)))))) (te:=(uc (vn K CO CR CW) [] E0 (zK (ya 1) (zK (ya 0) xv)))) rfl (zM (sc:=zi yK) rfl (!0) (!0) (!0) rfl (!0) (!0) rfl) (zY (pv 1)) (λZ Z Z Z Z Z=>zq (i:=0) (show List.Nodup [_,_] by decide) rfl (.inl rfl)) (λZ Z Z Z Z Z=>(UC (zv um (!-0) (!-0) (zx _)))) (λZ Z Z Z Z Z=>(cl0 nM hr .nil rfl (za (pv 1) (za (pv 0) zg))))) (ze (zl (K2 (k:=2) (p:="entry") (y:="order") (iy:=0) (c:=s⁻¹+1) (tb:=tbE K CO CR CW) pairF_ok #[rfl,rfl,rfl,∅,rfl,rfl,∅,∅] (hr.mono ∅) rfl hsorted fg (za (pv 2) zg) rfl hCd hBt hgT rfl rfl (by intro _ _ _ _;exact rfl) rfl rfl rfl (λs H f cv hr'=>zX (za (zdg DRk hr' (pv 1) (za (!-0) zg)) (za (zdg DRk hr' (pv 1) (za (!-0) zg)) zg))))))),?_]
  have s16:=zW;let#[xs,hX,hI]:=id hA;have hxl:=hI.len
  have hEr:∀e ∈ qN k l ns es,EB l e:=λe he=>by
   unfold qN at he;let#[y,hy,rfl]:=AY.mp he;exact (hE y (Be.mp hy).1).rule
  have hrl:=Wb k l ns es;change Same H H'/\∃(D0:sv) (AW:List V),H D0=AR/\H' D0=AQ (.lst AW)/\EnsA K (ky D0 H') (qN k l ns es) AW/\σ=[!!o,!!a,!!D0]
  ·ac_rfl;refine#[#[xs,hX],λD hD=>CompL.by (xs:=xs) (λi AW H'=>Same H H'/\H' D=AQ (.lst AW)/\EnsA K (ky D H') (qN k l ns (es.take i)) AW) #[zf hD,zc,by erw[bu,qN,dm,aH,EnsA]] (λi AW H' Z h=>h.1.seq hX) ?_ ?_]
   ·refine nm4 ?_;rintro i x AW H' hx ⟨hs,hH,hA⟩:_;have hi:=(AX.mp hx).1;let#[e,pe,se,hei,rfl,hqe,hse]:=hI.get hx;have hEe:=hE e (ac hei);have hal:=hA.len;have hal2:=Wb k l ns (es.take i);rw[aC]at hal2;have hq1:=zp hs hqe
    have hraw:qN k l ns (es.take (i+1))=qN k l ns (es.take i) ++ if e.1=e.2.1 then []else [z6 k l ns e]:=by
     rw[zQ hei,zcG];congr 1;unfold qN;by_cases hne:e.1=e.2.1
     ·rw[w6 hne,fq (by simp [hne])];rfl
     ·rw[w9 hne,fo (by simp [hne])];rfl
    right;ac_rfl;refine#[yx,_,hq1,_,rfl,_,hq1,_,rfl,rfl,yb (λhne=>?_) λheq=>?_]
    ·have hne':¬ e.1=e.2.1:=λz=>hne (by rw[z]);rw[w9 hne']at hraw
     have fin:∀(v:V) (H2:Hp),Same H' H2->EnA K (ky D H2) (z6 k l ns e) v->H2 D=AQ (.lst AW)/\AW.length<sr/\CNx xs.length i (λi AW H'=>Same H H'/\H' D=AQ (.lst AW)/\EnsA K (ky D H') (qN k l ns (es.take i)) AW) (AW ++ [v]) (upd H2 D (.lst (AW ++ [v]))):=λv H2 s2 hv=>by
      refine#[s2 _ _ hH,⋯,CNx.mk hi #[zu (hs.trans s2) hD,zc,?_]];rw[hraw];exact (hA.same ((wV s2).trans xM)).snoc (hv.same xM)
     refine kQ (ho.same hs) hG hq1 (hse.same hs).is hEe (λer H2 s2=>fin _ _ s2 ?_) λp' s' H2 s2 hsn hp' hL=>fin _ _ s2 ?_
     ·rw[er];exact EnA.same #[pe,se,rfl,hqe,hse] (Qs hD (hs.trans s2))
     ·exact EnA.new (s2 _ _ hH) hp' hL (λz=>by rw[z,hH]at hsn;cases hsn)
    ·have heq':e.1=e.2.1:=by
      have:=Classical.not_not.mp heq;injection this with this;exact wJ this
     rw[w6 heq',aT]at hraw;exact CNx.mk hi #[hs,hH,by rw[hraw];exact hA]
   ·refine nmB ?_;rintro AW H' ⟨hs,hH,hA⟩:_;rw[hxl,aI]at hA;right;exact#[hs,D,hD,AW,hH,hA,rfl]
  rintro σ H1 ⟨s1,D0,AW,hD0,hH1,hI1,rfl⟩:_;have hal:=hI1.len;have hT1:=hTab.same s1;let#[ps1,hps1,_]:=id hT1;right;ac_rfl;unfold za9;refine#[hT1,λf H2 hf hLA hT2 sT=>?_];let#[ps2,hps2,_]:=id hT2;have hI2:=EnsA.samT sT hps1 (hI1.same wP);refine#[D0,AW,.ref o,rfl,SqL.of (sT.at hps1 hH1 λZ z=>by cases z),⋯,rfl,?_];refine za3 hG (λA A' h1 h2=>LamAt.same h1 h2) (qN k l ns es) AW [] [] H2 hLA ((ho.same s1).samT sT hps1) hEr hI2 (by erw[aH,Iss]) λacc' H3 s3 hI3=>#[(qN k l ns es).map (rkE k l ns),by simpa using hI3,λys p1 D hD=>?_];let#[zs,z1,z2,z4,z3]:=XO (hI2.same s3) hEr p1;have sD:=zf (o:=.lst (ys.map (·.2))) hD;refine q D zs _ ((SamT.of s1).trans (sT.trans (SamT.of (s3.trans sD)))) (hT2.same (s3.trans sD)) ?_ #[z1,z2,z4] #[_,zc,z3.same sD];exact ((SamT.of s1).trans (sT.trans (SamT.of s3))).free (s3 _ _ hps2) hD
structure TMo(mg:sF->Option sw):Prop where
 u:∃t,mg "MOST_USES_thinning" = AQ (.int 40 t)
 s:∃t,mg "MOST_STEPS_thinning" = AQ (.int 240 t)
 d:∃t,mg "MOST_SIDE_thinning" = AQ (.int 60 t)
 p:∃t,mg "MOST_PASSES" = AQ (.int 20 t)
structure BG(k:Nat)(l:())(ns:List Int)(bs:List Ent):Prop where
 n:bs.length<64
 e:∀e ∈ bs,EB l e
 lt:∀e ∈ bs,zU k l ns e.2.1 e.1=AS
def BG.ne(h:BG k l ns bs)(G:OG l ns k):NeL (zb bs):=λp hp=>by
 unfold zb at hp;let#[e,he,rfl]:=AY.mp hp;exact JF G.nb (h.lt e he)
def BG.le(h:BG k l ns bs):∀p ∈ zb bs,p.1.length<=60/\p.2.length<=60:=λp hp=>by
 unfold zb at hp;let#[e,he,rfl]:=AY.mp hp;exact#[(h.e e he).a,(h.e e he).b]
def BG.mem(h:BG k l ns bs):∀p ∈ zb bs,∀c ∈ p.2,c ∈ l:=λp hp=>by
 unfold zb at hp;let#[e,he,rfl]:=AY.mp hp;exact (h.e e he).mb
def qj{w:()}(hA:LsA K H a (ps.map dR))(hN:NeL ps)(hpl:ps.length<=100)(hP:∀p ∈ ps,p.1.length<=60/\p.2.length<=60)(hw:w.length<=60)(h1:∀(i:Nat) (p S:sv) (H':Hp),EndsAt ps w i->Same H H'->H' p=AQ (.tup [.ref S,⇑(wAt ps w i)])->LsA K H' S ((sAt ps w i).map dG)->H S=AR->Q (.ref p) H')(h2:(∀i,¬ EndsAt ps w i)->∀H',Same H H'->E (.ref CF) AR H'):xX K CF [.ref a,⇑w,.int 40] H Q E:=by
 have hP':∀p ∈ ps,p.1.length<=1000/\p.2.length<=1000:=λp hp=>by
  have:=hP p hp;lia
 have len:∀j,j<=40->(wAt ps w j).length<=10000:=λj hj=>by
  have:=jt (l:=w) (m:=60) hN (λp hp=>(hP p hp).2) j;lia
 rcases Us ps w with ⟨i,hi⟩ | ⟨hL,hf⟩
 ·have hm:=hi.most;exact#[a,w,ps,40,i,rfl,hA,hN,hpl,hP',#[hi.live,λj hj=>len j ⋯,⋯],.inl #[hi.end_,⋯,λp S H' s' hp hL hS=>h1 i p S H' hi s' hp hL hS]]
 ·refine#[a,w,ps,40,40,rfl,hA,hN,hpl,hP',#[hL,λj hj=>len j hj,∅],.inr #[hf,rfl,h2 λi hi=>?_]];have hm:=hi.most;by_cases e:i=40
  ·subst e;exact hf hi.end_
  ·exact hL i ⋯ hi.end_
def Qj(us:List (Nat × Nat)):us.map dG=(stS us).map dSt:=by unfold stS;rw[ce];rfl
def uT(us:List (Nat × Nat)):(stS us).length=us.length:=by unfold stS;rw[aa]
theorem zdL{w:()}(h:kD ps w i):∀u ∈ sAt ps w i,u.1<ps.length:=λu hu=>by
 unfold sAt at hu;let#[j,hj,rfl]:=AY.mp hu
 cases e:zF (wAt ps w j) ps with
 | none=>exact w4 e (h j (Bc.mp hj))
 | some v =>
  let#[p,h1,_]:=yd e;exact (AX.mp h1).1
def Vh{w:()}(h:kD ps w i):∀u ∈ stS (sAt ps w i),0<=u.1/\u.1<ps.length:=λu hu=>by
 unfold stS at hu;let#[v,hv,rfl]:=AY.mp hu;have:=zdL h v hv;show 0<=(v.1:Int)/\(v.1:Int)<ps.length;lia
def QF(h:∀u ∈ ss,0<=u.1/\u.1<n):∀u ∈ yN ss,0<=u.1/\u.1<n:=λu hu=>by
 unfold yN at hu;let#[v,hv,rfl]:=AY.mp hu;exact h v (Bf.mp hv)
def zeT(h:∀e ∈ es,e.2.2.length<=600)(u:Stp):(XS es u).length<=600:=by
 have hg:(es.getD u.1.toNat ([],[],[])).2.2.length<=600:=by
  rw[ae]
  cases e:es[u.1.toNat]? with
  | none=>exact ay _
  | some r=>exact h r (ac e)
 unfold XS;rw[YI];split
 ·exact hg
 ·rw[yA];exact hg
theorem zbB(h:∀e ∈ es,e.2.2.length<=600):∀us:List Stp,(byL es us).length<=us.length * 600
 | []=>by simp [byL]
 | u::us=>by
  have e:byL es (u::us)=XS es u ++ byL es us:=by simp [byL]
  have h1:=zeT h u;have h2:=zbB h us;rw[e,aj,aG,dQ];lia
def We(K:su)(CF:sv):Sp:=λvs H Q E=>∃(a p s:sv) (k:Nat) (l:()) (ns:List Int) (bs:List Ent) (e:Ent),vs=[.ref a,.ref p]/\OG l ns k/\Is K H (.lst (bs.map dE)) (.ref a)/\BG k l ns bs/\SqT K H p [⇑e.1,⇑e.2.1,.ref s]/\LsA K H s (e.2.2.map dSt)/\EB l e /\
 (∀i j H',EndsAt (zb bs) e.1 i->EndsAt (zb bs) e.2.1 j->wAt (zb bs) e.1 i=wAt (zb bs) e.2.1 j->Same H H'->Q .non H') /\
 (∀i j p' s' H',EndsAt (zb bs) e.1 i->EndsAt (zb bs) e.2.1 j->wAt (zb bs) e.1 i≠wAt (zb bs) e.2.1 j->Same H H'->H s'=AR->H' p'=AQ (.tup [⇑(yO bs e i j).1,⇑(yO bs e i j).2.1,.ref s'])->LsA K H' s' ((yO bs e i j).2.2.map dSt)->Q (.ref p') H') /\
 ((∀i,¬ EndsAt (zb bs) e.1 i)\/(∀j,¬ EndsAt (zb bs) e.2.1 j)->∀H',Same H H'->E (.ref CF) AR H')
def W7(h1:Is K H (.lst (es.map dE)) (.ref a))(h2:Is K H (.lst (us.map dSt)) (.ref t))(h3:us.length<=100)(h4:∀e ∈ es,e.2.2.length<=600)(h5:∀u ∈ us,0<=u.1/\u.1<es.length)(h:∀(D:sv) (H':Hp),H D=AR->Same H H'->LsA K H' D ((byL es us).map dSt)->Q (.ref D) H'):QS K [.ref a,.ref t] H Q E:=#[a,t,es,us,rfl,h1,h2,h3,h4,h5,h]
def gW:sQz 2 ["entries","entry","rules","one","other","steps"] xZ:=by nofun
def jk(B:Bt mg)(TM:TMo mg)(F:("brought_down"^^^xZ))(gJ:(1<<<"pairs_of") ["entries"] [] (wy K))(mY:(4>>>"gone") ["rules","word","most"] [] (xX K CF))(DD_gone:(4>>>"gone") ["rules","word","most"] [.int 4000 mZ] (xX K CF))(iB:(2<<<"by_pacts") ["entries","steps"] [] (QS K))(mr:(1<<<"back") ["steps"] [] (uW K)):(5|||["entries","entry"]) (We K CF):=by
 let#[t9,g9]:=TM.u
 exists Fun.okX F gW,0
 ·let#[a,p,s,k,l,ns,bs,e,rfl,hG,hA,hB,hp,hs,hE,q1,q2,q3]:=h
  refine#[_,(zh (zy 2 gW.nd (cl0 gJ hr .nil rfl (za (pv 0) zg))) (zh (zy 3 gW.nd (clP hx mY hr .nil rfl (za (pv 2) (za (!-1) (za (yI (v:=.int 40) rfl g9 #[t9,rfl]) zg))))) (zh (zy 4 gW.nd (clP hx mY hr .nil rfl (za (pv 2) (za (!-1) (za (yI (v:=.int 40) rfl g9 #[t9,rfl]) zg))))) (zh (zJ (zv xA (!-3) (!-4) (zx _)) (ze (zl ye))
    zr) (zh (zy 5 gW.nd (zD WY (zD WY (cl0 iB hr .nil rfl (za (pv 0) (za (cl0 mr hr .nil rfl (za (!-3) zg)) zg))) (!-1)) (cl0 iB hr .nil rfl (za (pv 0) (za (!-4) zg))))) (ze (zl (zX (za (!-3) (za (!-4) (za (pv 5) zg))))))))))),?_]
  have s16:=zW;have hbl:=hB.n;have hN:=hB.ne hG;have hpl:=xy bs;have hst:∀e ∈ bs,e.2.2.length<=600:=λe he=>(hB.e e he).s;have hst3:∀e ∈ bs,e.2.2.length<=600:=λe he=>by have:=hst e he;lia
  change Same H H'/\∃R:sv,LsA K H' R ((zb bs).map dR)/\σ=[!!a,!!p,!!R,AR,AR,AR]
  ·ac_rfl;exact wj hA ⋯ λD H' Z s' hL=>#[s',D,hL,rfl]
  rintro σ H1 ⟨s1,R,hR,rfl⟩:0;change Same H1 H'/\∃(i:Nat),EndsAt (zb bs) e.1 i/\∃p1:sv,(∃S1:sv,H' p1=AQ (.tup [.ref S1,⇑(wAt (zb bs) e.1 i)])/\LsA K H' S1 ((sAt (zb bs) e.1 i).map dG))/\σ=[!!a,!!p,!!R,!!p1,AR,AR]
  ·ac_rfl;refine#[_,zp s1 hp,_,rfl,qj hR hN ⋯ hB.le hE.a (λi p1 S1 H' hi s' hp1 hL Z=>#[s',i,hi,p1,#[S1,hp1,hL],rfl]) λhno H' s'=>q3 (.inl hno) H' (s1.trans s')]
  rintro σ H2 ⟨s2,i,hi,p1,⟨S1,hp1,hS1⟩,rfl⟩:_;have s12:=s1.trans s2;right;change Same H2 H'/\∃(j:Nat),EndsAt (zb bs) e.2.1 j/\∃p2:sv,(∃S2:sv,H' p2=AQ (.tup [.ref S2,⇑(wAt (zb bs) e.2.1 j)])/\LsA K H' S2 ((sAt (zb bs) e.2.1 j).map dG))/\σ=[!!a,!!p,!!R,!!p1,!!p2,AR]
  ·ac_rfl;refine#[_,zp s12 hp,_,rfl,qj (hR.same s2) hN ⋯ hB.le hE.b (λj p2 S2 H' hj s' hp2 hL Z=>#[s',j,hj,p2,#[S2,hp2,hL],rfl]) λhno H' s'=>q3 (.inr hno) H' (s12.trans s')]
  rintro σ H3 ⟨s3,j,hj,p2,⟨S2,hp2,hS2⟩,rfl⟩:_;have s13:=s12.trans s3;have hp1':=s3 _ _ hp1;have hS1':=hS1.same s3;right;change H'=H3/\wAt (zb bs) e.1 i≠wAt (zb bs) e.2.1 j/\σ=[!!a,!!p,!!R,!!p1,!!p2,AR]
  ·ac_rfl;refine#[_,SqT.of hp1',_,rfl,_,SqT.of hp2,_,rfl,rfl,yb (λh=>?_) λh=>?_]
   ·exact q1 i j H3 hi hj (wJ (by injection h)) s13
   ·exact λz=>h (by rw[z])
  rintro σ H4 ⟨rfl,hne,rfl⟩:_;have him:=hi.most;have hjm:=hj.most;have hl1:(stS (sAt (zb bs) e.1 i)).length=i:=by rw[uT,vX]
  have hl2:(stS (sAt (zb bs) e.2.1 j)).length=j:=by rw[uT,vX]
  rw[Qj]at hS1' hS2;have hA4:=Is.same s13 _ _ hA;have hb1:=zbB hst (yN (stS (sAt (zb bs) e.1 i)));have hb2:=zbB hst (stS (sAt (zb bs) e.2.1 j));rw[yA,hl1]at hb1;rw[hl2]at hb2;have hes:=hE.s;right;change Same H4 H'/\∃S:sv,H4 S=AR/\LsA K H' S ((yO bs e i j).2.2.map dSt)/\σ=[!!a,!!p,!!R,!!p1,!!p2,!!S]
  ·ac_rfl;refine#[_,SqT.of hp1',_,rfl,jb hS1'.is ⋯ λB1 G1 Z t1 hB1=>W7 (Is.same t1 _ _ hA4) hB1.is (by rw[yA];lia) hst3 (by rw[<- hpl];exact QF (Vh hi.live)) λC1 G2 hC1n t2 hC1=>?_];have t12:=t1.trans t2;let#[c1,hc1,ic1]:=id hC1;let#[es0,hs0,is0]:=hs.same (s13.trans t12);have lc1:=ic1.len;have ls0:=is0.len;rw[aa]at lc1 ls0;refine#[_,zp (s13.trans t12) hp,_,rfl,C1,rfl,s,rfl,c1,hc1,es0,hs0,⋯,λM hM=>?_];have t3:=zf (o:=.lst (c1 ++ es0)) hM;have t13:=t12.trans t3;refine#[_,SqT.of (t13 _ _ hp2),_,rfl,W7 (Is.same t13 _ _ hA4) (hS2.same t13).is ⋯ hst3 (by rw[<- hpl];exact Vh hj.live) λC2 G3 hC2n t4 hC2=>?_];let#[c2,hc2,ic2]:=id hC2;have lc2:=ic2.len;rw[aa]at lc2;refine#[C2,rfl,c1 ++ es0,t4 _ _ zc,c2,hc2,by rw[aj];lia,λS hS=>?_];have t5:=zf (o:=.lst (c1 ++ es0 ++ c2)) hS;refine#[t13.trans (t4.trans t5),S,(t13.trans t4).free hS,#[_,zc,?_],rfl];show Iss K _ ((byL bs (yN (stS (sAt (zb bs) e.1 i))) ++ e.2.2 ++ byL bs (stS (sAt (zb bs) e.2.1 j))).map dSt) _;rw[am,am];exact Iss.append (Iss.append (Iss.same (t3.trans (t4.trans t5)) _ _ ic1) (Iss.same (t3.trans (t4.trans t5)) _ _ is0)) (Iss.same t5 _ _ ic2)
  rintro σ H5 ⟨s5,S,hSn,hS,rfl⟩:0;ac_rfl;refine#[_,SqT.of (s5 _ _ hp1'),_,rfl,_,SqT.of (s5 _ _ hp2),_,rfl,⋯,λt ht=>?_];have st:=zf (o:=.tup [⇑(wAt (zb bs) e.1 i),⇑(wAt (zb bs) e.2.1 j),.ref S]) ht;exact q2 i j t S _ hi hj hne (s13.trans (s5.trans st)) (s13.free hSn) zc (hS.same st)
def jn(K:su)(CF:sv):Sp:=λvs H Q E=>∃(p s:sv) (e:Ent),vs=[.ref p]/\SqT K H p [⇑e.1,⇑e.2.1,.ref s]/\Is K H (.lst (e.2.2.map dSt)) (.ref s)/\e.1.length<=10000/\e.2.1.length<=10000/\(¬ qP e->Q .non H)/\(qP e->E (.ref CF) AR H)
def VI(h1:SqT K H p [⇑e.1,⇑e.2.1,.ref s])(h2:Is K H (.lst (e.2.2.map dSt)) (.ref s))(h3:e.1.length<=10000)(h4:e.2.1.length<=10000)(h5:¬ qP e->Q .non H)(h6:qP e->E (.ref CF) AR H):jn K CF [.ref p] H Q E:=#[p,s,e,rfl,h1,h2,h3,h4,h5,h6]
def qA:sQz 1 ["entry"] xz:=by nofun
def qB(B:Bt mg)(T:zby K mg CF)(TM:TMo mg)(F:("refuse_beyond"^^^xz)):(1|||["entry"]) (jn K CF):=by
 let#[#[t9,g9],#[t8,g8]]:=And.intro TM.s TM.d
 exists Fun.okX F qA,0
 ·let#[p,s,e,rfl,hp,hs,ha,hb,q1,q2]:=h
  refine#[_,(zh (zJ (zv Xo (zA B.len (!-0)) (yI (v:=.int 240) rfl g9 #[t9,rfl]) (zx _)) (ze (ym hx rfl T.xi.toXC T.ini rfl T.g (za z9 zg)))
    zr) (ze (zJ (zv Xo (yP (Q5 rfl) rfl B.max qW (za (zA B.len (!-0)) (za (zA B.len (!-0)) zg))) (yI (v:=.int 60) rfl g8 #[t8,rfl]) (zx _)) (ze (ym hx rfl T.xi.toXC T.ini rfl T.g (za z9 zg)))
    zr))),?_]
  have s16:=zW
  erw[Is]at hs
  let#[_,zs,e0,hZ,hI]:=hs;cases e0;have hzl:=hI.len;rw[aa]at hzl;change H'=H/\e.2.2.length<=240/\σ=[!!p]
  ·ac_rfl;refine#[_,hp,_,rfl,_,.inl #[_,hZ,rfl],yb (λh=>#[⋯,q2 (.inl ⋯)]) λh=>by lia]
  rintro σ H1 ⟨rfl,h1,rfl⟩:0;ac_rfl;refine#[_,hp,_,rfl,_,#[by rw[zI];lia,rfl],_,hp,_,rfl,_,#[by rw[zI];lia,rfl],?_];rw[zI,zI];refine yb (λh=>#[⋯,q2 ?_]) λh=>q1 ?_
  ·unfold qP;split at h <;> lia
  ·unfold qP;split at h <;> lia
def zad(hB:BG k l ns bs)(hE:EB l e)(hF:¬ qP (yO bs e i j)):EB l (yO bs e i j):=by unfold qP at hF;exact#[⋯,⋯,⋯,qe hE.ma hB.mem i,qe hE.mb hB.mem j]
def BG.snoc(h:BG k l ns bs)(hn:bs.length+1<64)(hd:EB l d)(hne:d.1≠d.2.1):BG k l ns (bs ++ [z6 k l ns d]):=by
 refine#[by rw[aj];exact hn,λe he=>?_,λe he=>?_]
 ·rcases Ba.mp he with he | he
  ·exact h.e e he
  ·rw[Bb.mp he];exact hd.rule
 ·rcases Ba.mp he with he | he
  ·exact h.lt e he
  ·rw[Bb.mp he];exact jf hd hne
def KW(h1:OG l ns k)(h2:Is K H (.lst (bs.map dE)) (.ref a))(h3:BG k l ns bs)(h4:SqT K H p [⇑e.1,⇑e.2.1,.ref s])(h5:LsA K H s (e.2.2.map dSt))(h6:EB l e)(q1:∀i j H',EndsAt (zb bs) e.1 i->EndsAt (zb bs) e.2.1 j->wAt (zb bs) e.1 i=wAt (zb bs) e.2.1 j->Same H H'->Q .non H')(q2:∀i j p' s' H',EndsAt (zb bs) e.1 i->EndsAt (zb bs) e.2.1 j->wAt (zb bs) e.1 i≠wAt (zb bs) e.2.1 j->Same H H'->H s'=AR->H' p'=AQ (.tup [⇑(yO bs e i j).1,⇑(yO bs e i j).2.1,.ref s'])->LsA K H' s' ((yO bs e i j).2.2.map dSt)->Q (.ref p') H')(q3:(∀i,¬ EndsAt (zb bs) e.1 i)\/(∀j,¬ EndsAt (zb bs) e.2.1 j)->∀H',Same H H'->E (.ref CF) AR H'):We K CF [.ref a,.ref p] H Q E:=#[a,p,s,k,l,ns,bs,e,rfl,h1,h2,h3,h4,h5,h6,q1,q2,q3]
def zac(hB:BG k l ns bs)(hG:OG l ns k)(hE:EB l e)(hi:i<=40)(hj:j<=40):(yO bs e i j).1.length<=10000/\(yO bs e i j).2.1.length<=10000:=by have h1:=jt (l:=e.1) (m:=60) (hB.ne hG) (λp hp=>(hB.le p hp).2) i;have h2:=jt (l:=e.2.1) (m:=60) (hB.ne hG) (λp hp=>(hB.le p hp).2) j;have h3:=hE.a;have h4:=hE.b;show (wAt (zb bs) e.1 i).length<=10000/\(wAt (zb bs) e.2.1 j).length<=10000;lia
def Zg(K:su)(CO CR CW CF:sv):Sp:=λvs H Q E=>∃(o a:sv) (k:Nat) (l:()) (ns:List Int) (zs:List Ent),vs=[.ref o,.ref a]/\OrdAt CO CR CW H o k l ns/\OG l ns k/\EnsL K H a zs/\zs.length<64/\(∀e ∈ zs,EB l e) /\
 (∀(bs:List Ent) (D:sv) (H':Hp),xn k l ns [] zs (AQ bs)->BG k l ns bs->Same H H'->H D=AR->EnsM K H' D bs->Q (.ref D) H')/\(xn k l ns [] zs AR->∀H',Same H H'->E (.ref CF) AR H')
def UR{CO CR CW CF o a:sv}(h1:OrdAt CO CR CW H o k l ns)(h2:OG l ns k)(h3:EnsL K H a zs)(h4:zs.length<64)(h5:∀e ∈ zs,EB l e)(q1:∀(bs:List Ent) (D:sv) (H':Hp),xn k l ns [] zs (AQ bs)->BG k l ns bs->Same H H'->H D=AR->EnsM K H' D bs->Q (.ref D) H')(q2:xn k l ns [] zs AR->∀H',Same H H'->E (.ref CF) AR H'):Zg K CO CR CW CF [.ref o,.ref a] H Q E:=#[o,a,k,l,ns,zs,rfl,h1,h2,h3,h4,h5,q1,q2]
def zfR(K:su)(H1 H':Hp)(bs:List Ent)(e:Ent)(v:V):Prop:=∃i j,EndsAt (zb bs) e.1 i/\EndsAt (zb bs) e.2.1 j/\((wAt (zb bs) e.1 i=wAt (zb bs) e.2.1 j/\v=.non) \/
 (wAt (zb bs) e.1 i≠wAt (zb bs) e.2.1 j/\∃p s:sv,v=.ref p/\H1 s=AR/\H' p=AQ (.tup [⇑(yO bs e i j).1,⇑(yO bs e i j).2.1,.ref s])/\LsA K H' s ((yO bs e i j).2.2.map dSt)))
def zgo(K:su)(H:Hp)(D:sv)(k:Nat)(l:())(ns:List Int)(zs:List Ent)(i:Nat)(H':Hp):Prop:=∃(bs:List Ent) (AW:List V),Same H H'/\H' D=AQ (.lst AW)/\EnsA K (ky D H') bs AW/\BG k l ns bs/\bs.length<=i/\∀r,xn k l ns bs (zs.drop i) r->xn k l ns [] zs r
def iL:sQz 2 ["order","entries","built","entry","lower"] wZ:=by nofun
def ZX{f CO CR CW CF:sv}(B:Bt mg)(F:("built_anew"^^^wZ))(ph:(5>>>"brought_down") ["entries","entry"] [] (We K CF))(oO:(1>>>"refuse_beyond") ["entry"] [] (jn K CF))(nM:(4<<<"as_rule") ["order","entry"] [] (vn K CO CR CW)):(6|||["order","entries"]) (Zg K CO CR CW CF):=by
 exists Fun.okX F iL,0
 ·let#[o,a,k,l,ns,zs,rfl,ho,hG,hA,hz,hE,q1,q2]:=h
  refine#[_,(zh (zy 2 iL.nd (xh zg)) (zh (zR PassesOwn.leaving rfl (zY (pv 1)) (zq (i:=3) iL.nd rfl (.inl rfl)) (zh (zy 4 iL.nd (clP hx ph hr .nil rfl (za (pv 2) (za (pv 3) zg)))) (ze (zJ (zv op_notN' (pv 4) ye (zx _)) (zh (yW (clP hx oO hr .nil rfl (za (pv 4) zg))) (ze (yW (wl aX bh bn yy (pv 2) (za (cl0 nM hr .nil rfl (za (pv 0) (za (pv 4) zg))) zg)))))
     zr)))) (ze (zl (pv 2))))),?_]
  have s16:=zW;let#[xs,hX,hI]:=id hA;have hxl:=hI.len;change Same H H'/\∃D:sv,H D=AR/\H' D=AQ (.lst [])/\σ=[!!o,!!a,!!D,AR,AR]
  ·ac_rfl;exact#[⋯,λp hp=>#[zf hp,p,hp,zc,rfl]]
  rintro σ H0 ⟨s0,D,hD,hD0,rfl⟩:0;change zgo K H D k l ns zs zs.length H'/\∃(v3 v4:Option V),σ=[!!o,!!a,!!D,v3,v4]
  ·ac_rfl;refine#[#[_,s0.seq hX],ForL.by (xs:=xs) (λi σ H'=>zgo K H D k l ns zs i H'/\∃(v3 v4:Option V),σ=[!!o,!!a,!!D,v3,v4]) #[#[[],[],s0,hD0,by erw[EnsA],#[∅,λe he=>(nomatch he),λe he=>(nomatch he)],al _,λr h=>h],AR,AR,rfl] (λi σ H' _ ⟨⟨_,_,h,_⟩,_⟩=>h.seq hX) ?_ ?_]
   ·refine nm4 ?_;rintro i x σ H1 hx ⟨⟨bs,AW,s1,hH1,hI1,hB,hbi,hr⟩,v3,v4,rfl⟩:_;have hix:=(AX.mp hx).1;let#[e,pe,se,hei,rfl,hqe,hse]:=hI.get hx;have hEe:=hE e (ac hei)
    have hdrop:zs.drop i=e::zs.drop (i+1):=by
     let#[h1,h2]:=AX.mp hei;rw[aY h1,h2]
    rw[hdrop]at hr;have hal:=hI1.len;have hbn:=hB.n
    have hIs:Is K H1 (.lst (bs.map dE)) (.ref D):=by
     erw[Is]
     exact#[D,AW,rfl,SqL.of hH1,(hI1.same wP).iss]
    right
    erw[yt,aM,aL]
    change Same H1 H'/\∃v:V,zfR K H1 H' bs e v/\σ=[!!o,!!a,!!D,!!pe,AQ (v)]
    ·ac_rfl;exact KW hG hIs hB (zp s1 hqe) (hse.same s1) hEe (λi' j' H' a1 a2 a3 s'=>#[s',i',j',a1,a2,.inl #[a3,rfl]]) (λi' j' p' s' H' a1 a2 a3 t' a4 a5 a6=>#[t',i',j',a1,a2,.inr #[a3,p',s',rfl,a4,a5,a6]]) λh H' s'=>q2 (hr _ (.stuck h)) H' (s1.trans s')
    rintro σ H2 ⟨s2,v,⟨i',j',hi',hj',hc⟩,rfl⟩:0;rcases hc with ⟨hw,rfl⟩ | ⟨hw,p',s',rfl,hsn,hp',hL'⟩
    ·ac_rfl;exact#[bs,AW,s1.trans s2,s2 _ _ hH1,hI1.same (wV s2),hB,⋯,λr h=>hr r (.same hi' hj' hw h)]
    ·ac_rfl
     try rw[w6 not_false]
     have hdl:=zac hB hG hEe hi'.most hj'.most;change H'=H2/\¬ qP (yO bs e i' j')/\σ=[!!o,!!a,!!D,!!pe,!!p']
     ·ac_rfl;exact VI (SqT.of hp') hL'.is hdl.1 hdl.2 (λh=>#[rfl,h]) λh=>q2 (hr _ (.far hi' hj' hw h)) H2 (s1.trans s2)
     rintro σ H3 ⟨rfl,hF,rfl⟩:_;have hEd:=zad hB hEe hF;have hH3:=s2 _ _ hH1
     have fin:∀(v:V) (H4:Hp),Same H3 H4->EnA K (ky D H4) (z6 k l ns (yO bs e i' j')) v->zgo K H D k l ns zs (i+1) (upd H4 D (.lst (AW ++ [v]))):=λv H4 s4 hv=>by
      refine#[bs ++ [z6 k l ns (yO bs e i' j')],AW ++ [v],zu (s1.trans (s2.trans s4)) hD,zc,?_,hB.snoc ⋯ hEd hw,by rw[aj];show bs.length+1<=i+1;lia,λr h=>hr r (.new hi' hj' hw hF h)];exact (hI1.same ((wV (s2.trans s4)).trans xM)).snoc (hv.same xM)
     right;ac_rfl;refine#[.inl #[_,SqL.of hH3],kQ (ho.same (s1.trans s2)) hG (SqT.of hp') hL'.is hEd (λer H4 s4=>#[AW,s4 _ _ hH3,⋯,fin _ _ s4 ?_]) λp2 t2 H4 s4 htn hp2 hL2=>#[AW,s4 _ _ hH3,⋯,fin _ _ s4 ?_]]
     ·rw[er];exact EnA.new (s4 _ _ hH3) (s4 _ _ hp') (hL'.same s4) (λz=>by rw[z,hH1]at hsn;cases hsn)
     ·exact EnA.new (s4 _ _ hH3) hp2 hL2 (λz=>by rw[z,hH3]at htn;cases htn)
   ·refine nmB ?_;rintro σ H' ⟨h,v3,v4,rfl⟩:_;rw[hxl]at h;right;exact#[h,_,_,rfl]
  rintro σ H2 ⟨⟨bs,AW,s2,hH2,hI2,hB,hbi,hr⟩,v3,v4,rfl⟩:_;rw[dM]at hr;right;ac_rfl;exact q1 bs D H2 (hr _ (.nil bs)) hB s2 hD #[AW,hH2,hI2.same wP]
theorem KC(rs ss:List zH):uE (rs.map dR) (ss.map dR)=decide (rs=ss):=by
 induction rs generalizing ss with
 | nil=>cases ss with
  | nil=>simp [uE]
  | cons s ss=>simp [uE]
 | cons r rs ih=>cases ss with
  | nil=>simp [uE]
  | cons s ss =>
   rw[ao,ao,uE,ih]
   have h:eqD (dR r) (dR s)=decide (r=s):=by
    let#[a,b]:=r;let#[c,d]:=s
    have e1:∀x y:(),eqD (dS x) (dS y)=decide (x=y):=λx y=>by
     have:eqD (dS x) (dS y)=decide (tx x=tx y):=by erw[dS,eqD];rfl
     rw[this];exact decide_eq_decide.mpr #[wJ,λh=>by rw[h]]
    erw[dR,eqD,uE,e1]
    by_cases h1:a=c <;> by_cases h2:b=d <;> simp [h1,h2]
   rw[h];by_cases h1:r=s <;> by_cases h2:rs=ss <;> simp [h1,h2]
def Lined.eb(h:Lined k l ns es zs)(hE:∀e ∈ es,EB l e):∀e ∈ zs,EB l e:=λe he=>by
 have hm:=h.perm.mem_iff.mp he;unfold qN at hm;let#[y,hy,rfl]:=AY.mp hm;exact (hE y (Be.mp hy).1).rule
def Lined.len(h:Lined k l ns es zs):zs.length<=es.length:=by rw[h.perm.length_eq];exact Wb k l ns es
def QE(K:su)(CO CR CW T CF:sv):Sp:=λvs H Q E=>∃(o a:sv) (k:Nat) (l:()) (ns:List Int) (es:List Ent),vs=[.ref o,.ref a]/\OrdAt CO CR CW H o k l ns/\OG l ns k/\EnsL K H a es/\es.length<64/\(∀e ∈ es,EB l e)/\TabOk H T lp lq /\
 (∀(bs:List Ent) (D:sv) (H':Hp),uM k l ns 20 es (AQ bs)->BG k l ns bs->SamT T H H'->TabOk H' T lp lq->EnsM K H' D bs->Q (.ref D) H')/\(uM k l ns 20 es AR->∀H',SamT T H H'->TabOk H' T lp lq->E (.ref CF) AR H')
def zgy(K:su)(T:sv)(H:Hp)(k:Nat)(l:())(ns:List Int)(es:List Ent)(n:Nat)(H':Hp)(b:sv):Prop:=∃fs:List Ent,SamT T H H'/\TabOk H' T lp lq/\(∀r,uM k l ns n fs r->uM k l ns 20 es r)/\EnsL K H' b fs/\fs.length<64/\∀e ∈ fs,EB l e
def mn:sQz 2 ["order","entries","turn","lined_up"] jV:=by nofun
def Ub{f CO CR CW TB CF:sv}(B:Bt mg)(T:zby K mg CF)(TM:TMo mg)(F:("thinned"^^^jV))(rn:(6<<<"in_order") ["order","entries"] [] (Z1 K CO CR CW TB))(pS:(6>>>"built_anew") ["order","entries"] [] (Zg K CO CR CW CF))(gJ:(1<<<"pairs_of") ["entries"] [] (wy K)):(7|||["order","entries"]) (QE K CO CR CW TB CF):=by
 let#[t9,g9]:=TM.p
 exists Fun.okX F mn,0
 ·let#[o,a,k,l,ns,es,rfl,ho,hG,hA,hz,hE,hTab,q1,q2]:=h
  refine#[_,(zh (zR PassesOwn.leaving rfl (zV rfl B.range (za (yI (v:=.int 20) rfl g9 #[t9,rfl]) zg)) (zq (i:=2) mn.nd rfl (.inl rfl)) (zh (zy 3 mn.nd (cl0 rn hr .nil rfl (za (pv 0) (za (pv 1) zg)))) (zh (zy 1 mn.nd (clP hx pS hr .nil rfl (za (pv 0) (za (pv 3) zg)))) (ze (zJ (zv (W9 (wE hr)) (cl0 gJ hr .nil rfl (za (pv 1) zg)) (cl0 gJ hr .nil rfl (za (pv 3) zg)) (zx _)) (ze (zl (pv 1)))
     zr))))) (ze (ym hx rfl T.xi.toXC T.ini rfl T.g (za z9 zg)))),?_]
  have s16:=zW;let#[ps0,hps0,_]:=id hTab;change ∃b:sv,zgy K TB H k l ns es 0 H' b
  ·ac_rfl;refine#[⋯,⋯,ForR.by (λi σ H'=>∃(b:sv) (v2 v3:Option V),zgy K TB H k l ns es (20 - i) H' b/\σ=[!!o,!!b,v2,v3]) #[a,AR,AR,#[es,SamT.of (Same.refl _),hTab,λr h=>h,hA,hz,hE],rfl] ?_ ?_]
   ·refine nm3 ?_;rintro i σ H1 hi ⟨b,v2,v3,⟨fs,s1,hT1,hr,hF,hfl,hFE⟩,rfl⟩:_;have ho1:=ho.samT s1 hps0;have hi20:i<20:=hi;obtain⟨n,hn⟩:∃n,20 - i=n+1:=#[20 - i - 1,⋯];rw[hn]at hr;right
    erw[yt,aM,aL]
    change SamT TB H1 H'/\TabOk H' TB lp lq/\∃(z:sv),(∃zs:List Ent,Lined k l ns fs zs/\EnsM K H' z zs)/\∃v2,σ=[!!o,!!b,v2,!!z]
    ·ac_rfl;exact UA ho1 hG hF hfl hFE hT1 λD zs H' s' hT' Z hLn hM=>#[s',hT',D,#[zs,hLn,hM],rfl]
    rintro σ H2 ⟨s2,hT2,z,⟨zs,hLn,hZ⟩,v2,rfl⟩:_;have s12:=s1.trans s2;have ho2:=ho.samT s12 hps0;have hzE:=hLn.eb hFE;have hzl:=hLn.len;right;change Same H2 H'/\∃(c:sv),(∃bs:List Ent,xn k l ns [] zs (AQ bs)/\BG k l ns bs/\EnsM K H' c bs)/\σ=[!!o,!!c,v2,!!z]
    ·ac_rfl;exact UR ho2 hG hZ.l ⋯ hzE (λbs D H' hb hB s' Z hM=>#[s',D,#[bs,hb,hB,hM],rfl]) λhb H' s'=>q2 (hr _ (.bad hLn hb)) H' (s12.trans (SamT.of s')) (hT2.same s')
    rintro σ H3 ⟨s3,c,⟨bs,hb,hB,hM⟩,rfl⟩:_;have hbn:=hB.n;right;ac_rfl;refine wj hM.l.is ⋯ λP1 H4 Z s4 hP1=>wj ((hZ.same s3).same s4).l.is ⋯ λP2 H5 Z s5 hP2=>ZM (.inl #[(hP1.same s5).is,hP2.is]) (bX (zaY _) ∅) ?_;rw[KC];have s45:=s4.trans s5;have s15:=s12.trans (SamT.of (s3.trans s45));have hT5:=hT2.same (s3.trans s45);refine#[_,rfl,yb (λh=>?_) λh=>?_]
    ·exact q1 bs c H5 (hr _ (.done hLn hb (u5 h))) hB s15 hT5 (hM.same s45)
    ·have e:20 - (i+1)=n:=⋯;rw[e];exact#[bs,s15,hT5,λr h'=>hr r (.more hLn hb (λz=>h (u6 z)) h'),(hM.same s45).l,hbn,hB.e]
   ·refine nmB ?_;rintro σ H' ⟨b,v2,v3,h,rfl⟩:0;exact#[b,h]
  rintro σ H2 ⟨b,fs,s2,hT2,hr,_⟩:0;ac_rfl;exact#[⋯,q2 (hr _ (.out fs)) H2 s2 hT2]
def jh(K:su):Sp:=λvs H Q Z=>∃(a:sv) (ns:List Int) (k:Int),vs=[.ref a,.int k]/\SqL K H a (ns.map V.int)/\(∀z ∈ ns,uV z)/\0<=k/\∀c:Int,uV c->Q (.int c) H
def vF{ns:List Int}(hS:SqL K H a (ns.map V.int))(hB:∀z ∈ ns,uV z)(hk:0<=k)(h:∀c:Int,uV c->Q (.int c) H):jh K [.ref a,.int k] H Q E:=#[a,ns,k,rfl,hS,hB,hk,h]
def zc7:sQz 2 ["_law_script","_law_k"] QW:=by nofun
def zbw(B:Bt mg)(F:("_law_cell"^^^QW)):(1&&&["_law_script","_law_k"]) (jh K):=by
 exists F.ok zc7
 ·let#[a,ns,k,rfl,hS,hB,hk,q]:=h
  refine#[_,(zG (zJ (zv Ui (pv 1) (zA B.len (pv 0)) (zx _)) (ze (zl (zk zaW (pv 0) (pv 1))))
    zr) (ze (zl zd))),?_]
  have s16:=zW
  rfl'
  refine#[_,.inl #[_,hS,rfl],yb (λc=>?_) (λc=>q 0 (by unfold uV;decide))];let#[v,h1,h2]:=vP hk c;rw[aq]at h2;let#[z,hz,rfl]:=Bd.mp h2;exact .inl #[_,hS,_,h1,q z (hB z (ac hz))]
def xK:Sp:=λvs H Q Z=>∃(c t:Int),vs=[.int c,.int t]/\uV c/\0<=t/\t<=100/\∀z:Int,0<=z->Q (.int z) H
def xC(hc:uV c)(h0:0<=t)(h1:t<=100)(q:∀z:Int,0<=z->Q (.int z) H):xK [.int c,.int t] H Q E:=#[c,t,rfl,hc,h0,h1,q]
def nh:sQz 2 ["_law_cell_here","_law_turn","_law_step","_law_number"] XZ:=by nofun
def Ko(B:Bt mg)(F:("_law_mixed"^^^XZ)):(1&&&["_law_cell_here","_law_turn"]) xK:=by
 exists F.ok nh
 ·let#[c,t,rfl,hc,h0,h1,q]:=h
  refine#[_,(zh (zJ (zv op_ge' (pv 0) (zD Jy zd zd) (zx _)) (zh (zR p8 rfl (zV rfl B.range (za (zD z7 zd (zD yT (pv 1) zd)) zg)) (zq (i:=2) nh.nd rfl (.inl rfl)) (ze (zy 0 nh.nd (zD yZ (pv 0) (zD Jy zd zd))))) (ze (zl (zD yT (pv 0) (zD Jy zd zd)))))
    zr) (zh (zy 3 nh.nd (zD z7 (zD qw (zD K1 (pv 0) (pv 0)) zd) (zD qw (zD qw (pv 0) zd) (zD z7 (pv 1) zd)))) (ze (zl (zD yZ (zD yT (zD qw (zD yT (zD z7 (pv 3) (zD qw (pv 1) zd)) zd) zd) zd) zd))))),?_]
  have s16:=zW;have c6:zgt 10 6:=#[∅,∅,∅];have c12:zgt 10 12:=#[∅,∅,∅];have p6:(0:Int)<10 ^ Int.toNat 6/\(10:Int) ^ Int.toNat 6<1073741824:=∅;change H'=H/\σ=[~~~!c,~~~!t,AR,AR]
  ·rfl'
   refine#[c12,yb (λZ=>?_) (λZ=>trivial)];change H'=H/\∃(z:Int) (v:Option V),σ=[~~~!z,~~~!t,v,AR]
   ·rfl'
    have e1:=bq t (b:=9) ∅;have e2:=bp t (b:=9) ∅;refine#[∅,⋯,⋯,ForR.by (λi σ H'=>H'=H/\∃(z:Int) (v:Option V),σ=[~~~!z,~~~!t,v,AR]) #[rfl,_,_,rfl] ?_ λσ H' h=>h];refine nm3 ?_;rintro i σ H' hi ⟨rfl,z,v,rfl⟩:0
    rfl'
    exact#[c6,p6.1,p6.2]
   rintro σ H1 ⟨rfl,z,v,rfl⟩:0
   rfl'
   exact#[c6,p6.1,q _ (bq _ (by have:=p6.1;lia))]
  rintro σ H1 ⟨rfl,rfl⟩:0;change H'=H1/\∃z:Int,σ=[~~~!c,~~~!t,AR,~~~!z]
  ·rfl'
   exact#[hc,hc,.inr #[∅,∅],.inr #[∅,∅],.inr #[⋯,⋯]]
  rintro σ H2 ⟨rfl,z,rfl⟩:0
  rfl'
  exact#[.inr #[∅,∅],∅,.inr #[∅,∅],∅,#[∅,∅],q _ (Int.ediv_nonneg (bq _ ∅) ∅)]
def uZ:Sp:=λvs H Q Z=>∃c m:Int,vs=[.int c,.int m]/\uV c/\0<=m/\m<=26/\∀l:(),(l.length:Int)=m->l.Nodup->small l->Q ⇑l H
def XQ(h:uV c)(h0:0<=m)(h1:m<=26)(q:∀l:(),(l.length:Int)=m->l.Nodup->small l->Q ⇑l H):uZ [.int c,.int m] H Q E:=#[c,m,rfl,h,h0,h1,q]
def zgC(c m:Int)(i:Nat)(σ:L2.St):Prop:=∃(left found:()) (number:Int) (v5 v6:Option V),found.length=i/\(found ++ left).Perm alpha/\σ=[~~~!c,~~~!m,~~~left,~~~!number,~~~found,v5,v6]
def gN:sQz 2 ["_law_cell_here","_law_many","_law_left","_law_number","_law_letters_here","_law_k","_law_at"] jr:=by nofun
def Ue(B:Bt mg)(F:("_law_letters"^^^jr))(gZ:(1<<<"_law_mixed") ["_law_cell_here","_law_turn"] [] xK):(2&&&["_law_cell_here","_law_many"]) uZ:=by
 exists F.ok gN
 ·let#[c,m,rfl,hc,h0,h1,q]:=h
  refine#[_,(zh (zy 2 gN.nd z9) (zh (zy 3 gN.nd (cl0 gZ hr .nil rfl (za (pv 0) (za zd zg)))) (zh (zy 4 gN.nd z9) (zh (zR p8 rfl (zV rfl B.range (za (pv 1) zg)) (zq (i:=5) gN.nd rfl (.inl rfl)) (zh (zy 6 gN.nd (zD yT (pv 3) (zA B.len (pv 2)))) (zh (zy 3 gN.nd (zD yZ (pv 3) (zA B.len (pv 2)))) (zh (zy 4 gN.nd (zD zS (pv 4) (zk YS (pv 2) (pv 6)))) (ze (zy 2 gN.nd (zD zS (zP yL (pv 2) yo (zO (pv 6))) (zP yL (pv 2) (zO (zD z7 (pv 6) zd)) yo)))))))) (ze (zl (pv 4))))))),?_]
  have s16:=zW;have ha:alpha.length=26:=rfl;change H'=H/\σ=[~~~!c,~~~!m,~~~alpha,AR,AR,AR,AR]
  ·rfl'
   exact Qm
  rintro σ H1 ⟨rfl,rfl⟩:0;change H'=H1/\∃z:Int,σ=[~~~!c,~~~!m,~~~alpha,~~~!z,AR,AR,AR]
  ·rfl'
   exact xC hc ∅ ∅ λz Z=>#[rfl,z,rfl]
  rintro σ H2 ⟨rfl,z,rfl⟩:0;change H'=H2/\σ=[~~~!c,~~~!m,~~~alpha,~~~!z,AQ ⇑[],AR,AR]
  ·rfl'
   rfl
  rintro σ H3 ⟨rfl,rfl⟩:0;change H'=H3/\zgC c m m.toNat σ
  ·rfl'
   refine#[⋯,⋯,ForR.by (λi σ H'=>H'=H3/\zgC c m i σ) #[rfl,alpha,[],z,AR,AR,rfl,.refl _,rfl] ?_ λσ H' h=>h];refine nm3 ?_;rintro i σ H' hi ⟨rfl,left,found,number,v5,v6,hf,hp,rfl⟩:_;have hpl:=hp.length_eq;rw[aj]at hpl;have hl:left.length+i=26:=⋯;have hm0:=bq number (b:=(left.length:Int)) ⋯;have hm1:=bp number (b:=(left.length:Int)) ⋯;right;generalize hz:number % (left.length:Int)=at_ at hm0 hm1;let#[v,e1,e2]:=vP hm0 hm1
   erw[yt,aM,aL]
   refine zj (λσ H''=>H''=H'/\∃v5,σ=[~~~!c,~~~!m,~~~left,~~~!number,~~~found,v5,~~~!at_]) ?_ ?_
   ·rfl'
    exact#[⋯,⋯,hz]
   rintro σ G1 ⟨rfl,v5',rfl⟩:0;refine zj (λσ H''=>H''=G1/\∃n v5,σ=[~~~!c,~~~!m,~~~left,~~~!n,~~~found,v5,~~~!at_]) ?_ ?_
   ·rfl'
    exact#[⋯,#[⋯,⋯]]
   rintro σ G2 ⟨rfl,n,v5',rfl⟩:0;refine zj (λσ H''=>H''=G2/\∃v5,σ=[~~~!c,~~~!m,~~~left,~~~!n,AQ ⇑(found ++ [v]),v5,~~~!at_]) ?_ ?_
   ·rfl'
    exact#[⋯,v,e1,⋯,rfl]
   rintro σ G3 ⟨rfl,v5',rfl⟩:_;have hc1:=vb left AR (AQ at_);have hc2:=vb left (AQ (at_+1)) AR;right
   rfl'
   refine#[⋯,⋯,⋯,_,_,_,_,_,by rw[aj,hf];rfl,?_,rfl];rw[uI _ hm0,xp _ ⋯,aQ];have e3:(at_+1).toNat=at_.toNat+1:=⋯;rw[e3];exact ((Jh e2).append_left found).trans hp
  rintro σ H4 ⟨rfl,left,found,number,v5,v6,hf,hp,rfl⟩:0
  rfl'
  have hnd:(found ++ left).Nodup:=hp.nodup_iff.mpr ∅;refine q found ⋯ (Bz.mp hnd).1 λc hc=>?_;have h:c ∈ alpha:=hp.mem_iff.mp (bx _ hc);exact (by decide:∀c ∈ alpha,97<=c/\c<=122) c h
def jl:Sp:=λvs H Q Z=>∃(ls:()) (c m:Int),vs=[.int c,⇑ls,.int m]/\0<=c/\1<=ls.length/\ls.length<=26/\0<=m/\m<=100/\∀l:(),(l.length:Int)<=m->(∀x ∈ l,x ∈ ls)->Q ⇑l H
def Ww(h0:0<=c)(h1:1<=ls.length)(h2:ls.length<=26)(h3:0<=m)(h4:m<=100)(h:∀l:(),(l.length:Int)<=m->(∀x ∈ l,x ∈ ls)->Q ⇑l H):jl [.int c,⇑ls,.int m] H Q E :=
 #[ls,c,m,rfl,h0,h1,h2,h3,h4,h]
def lv:sQz 3 ["_law_number","_law_letters_here","_law_most","_law_size","_law_word_here","_law_k"] Uy:=by nofun
def zb9(B:Bt mg)(F:("_law_word"^^^Uy)):(1&&&["_law_number","_law_letters_here","_law_most"]) jl:=by
 exists F.ok lv
 ·let#[ls,c,m,rfl,h0,h1,h2,h3,h4,q]:=h
  refine#[_,(zG (zy 3 lv.nd (zD yT (pv 0) (zD z7 (pv 2) zd))) (zG (zy 0 lv.nd (zD yZ (pv 0) (zD z7 (pv 2) zd))) (zG (zy 4 lv.nd z9) (zG (zR p8 rfl (zV rfl B.range (za (pv 3) zg)) (zq (i:=5) lv.nd rfl (.inl rfl)) (zG (zy 4 lv.nd (zD zS (pv 4) (zk YS (pv 1) (zD yT (pv 0) (zA B.len (pv 1)))))) (ze (zy 0 lv.nd (zD yZ (pv 0) (zA B.len (pv 1))))))) (ze (zl (pv 4))))))),?_]
  have s16:=zW
  rfl'
  have m0:=bq c (b:=m+1) ⋯;have m1:=bp c (b:=m+1) ⋯
  refine#[⋯,#[⋯,⋯],⋯,⋯,ForR.by (λi σ H'=>H'=H/\∃(found:()) (number:Int) (v5:Option V),σ=[~~~!number,~~~ls,~~~!m,AQ (.int (c % (m+1))),~~~found,v5]/\found.length=i/\∀x ∈ found,x ∈ ls)
   #[rfl,[],_,AR,rfl,rfl,λx h=>(nomatch h)] ?_ ?_]
  ·refine nm3 ?_;rintro i σ H' hi ⟨rfl,found,number,v5,rfl,hf,hm⟩:0
   rfl'
   have hm0:=bq number (b:=(ls.length:Int)) ⋯;have hm1:=bp number (b:=(ls.length:Int)) ⋯;let#[v,e1,e2]:=vP hm0 hm1
   repeat (refine And.intro (by first | lia | decide | exact#[⋯,⋯] | assumption) ?_)
   refine#[v,e1,?_]
   repeat (refine And.intro (by first | lia | decide | exact#[⋯,⋯] | assumption) ?_)
   refine#[by rw[aj,hf];rfl,λx hx=>?_];rcases Ba.mp hx with h | h
   ·exact hm x h
   ·rw[Bb.mp h];exact ac e2
  ·refine nmB ?_;rintro σ H' ⟨rfl,found,number,v5,rfl,hf,hm⟩:0
   rfl'
   exact q found ⋯ hm
structure zg9(K:su):Prop where
 ii:aV K (.type "int") (.type "int")=AQ AS
 ib:aV K (.type "int") (.type "bool")=AQ AT
def uk:Sp:=λvs H Q Z=>∃i:Int,vs=[.int i]/\Q (.bl AS) H
def jO(h:Q (.bl AS) H):uk [.int i] H Q E:=#[i,rfl,h]
def KN:sQz 1 ["_law_found"] XY:=by nofun
def J8(B:Bt mg)(T:zg9 K)(F:("_law_whole"^^^XY)):(1&&&["_law_found"]) uk:=by
 exists F.ok KN
 ·let#[i,rfl,q]:=h;refine#[_,(ze (zl (jy (yF rfl B.isi (pv 0) rfl B.int PySem.Pv.boot_int) (jM (zaC (yF rfl B.isi (pv 0) rfl B.bool PySem.Pv.boot_bool)))))),?_]
  rfl'
  exact#[_,.inl (.int _),AS,T.ii,zfT #[_,.inl (.int _),AT,T.ib,q]]
structure TLs(K:su):Prop where
 ll:aV K (.type "list") (.type "list")=AQ AS
 tt:aV K (.type "tuple") (.type "tuple")=AQ AS
 bb:aV K (.type "bool") (.type "bool")=AQ AS
def ZW(K:su):Sp:=λvs H Q Z=>∃(t:sv) (ss:List Stp),vs=[.ref t]/\Is K H (.lst (ss.map dSt)) (.ref t)/\Q (.bl AS) H
def pT:sQz 1 ["_law_found","_law_step"] XR:=by nofun
def zax(B:Bt mg)(T:TLs K)(F:("_law_steps"^^^XR))(oe:(1<<<"_law_whole") ["_law_found"] [] uk):(2&&&["_law_found"]) (ZW K):=by
 exists F.ok pT
 ·let#[t,ss,rfl,hT,q]:=h
  refine#[_,(zh (zJ (yf (yl (yF rfl B.isi (pv 0) rfl B.list PySem.Pv.boot_list) (λZ=>rfl))) (ze (zl yv))
    zr) (zh (zR p8 rfl (zY (pv 0)) (zq (i:=1) pT.nd rfl (.inl rfl)) (zh (zJ (PW.pt (wU (yf (yl (yF rfl B.isi (pv 1) rfl B.tuple PySem.Pv.boot_tuple) (λZ=>rfl))) (wU (zv um (zA B.len (pv 1)) zd (zx _)) (we (yf (yl (yF rfl B.isi (!-1) rfl B.bool PySem.Pv.boot_bool) (λZ=>rfl))))))) (ze (zl yv))
     zr) (ze (zJ (PW.pt (wU (yf (yl (cl0 oe hr .nil rfl (za (!-1) zg)) (λZ=>rfl))) (we (yf (yl (cl0 oe hr .nil rfl (za (!-1) zg)) (λZ=>rfl)))))) (ze (zl yv))
     zr)))) (ze (zl yv)))),?_]
  have s16:=zW
  erw[Is]at hT
  let#[_,ts,e,hTs,hJ]:=hT;cases e;change H'=H/\σ=[!!t,AR]
  ·rfl'
   exact#[_,.inr (.inr (.inl #[_,_,rfl,rfl,hTs])),AS,T.ll,Yf trivial]
  rintro σ H1 ⟨rfl,rfl⟩:0;change H'=H1/\∃v1,σ=[!!t,v1]
  ·rfl'
   refine#[#[_,hTs],ForL.by (xs:=ts) (λi σ H'=>H'=H1/\∃v1,σ=[!!t,v1]) #[rfl,_,rfl] (λi σ H' Z h=>by rw[h.1];exact hTs) ?_ λσ H' h=>h];refine nm4 ?_;rintro i x σ H' hx ⟨rfl,v1,rfl⟩:_;let#[u,pu,hui,rfl,hqu]:=vw hJ hx;right
   erw[yt,aM,aL]
   refine zj (λσ H''=>H''=H'/\σ=[!!t,!!pu]) ?_ ?_
   ·rfl'
    exact#[_,.inr (.inr (.inr #[_,_,rfl,rfl,hqu])),AS,T.tt,Yf #[_,.inr #[_,hqu,rfl],yb (λh=>w4 rfl h) λZ=>#[_,hqu,_,rfl,_,.inl (.bl _),AS,T.bb,Yf trivial]]]
   rintro σ G ⟨rfl,rfl⟩:0
   rfl'
   exact#[_,hqu,_,rfl,jO #[AS,rfl,Yf #[_,hqu,_,rfl,jO #[AS,rfl,Yf rfl]]]]
  rintro σ H2 ⟨rfl,v1,rfl⟩:0
  rfl'
  exact q
def uu(K:su):Sp:=λvs H Q Z=>∃(a t:sv) (rs:List zH) (w w':()) (s:Stp),vs=[.ref a,⇑w,.ref t]/\Is K H (.lst (rs.map dR)) (.ref a)/\qL rs/\w.length<=300000/\SqT K H t [.int s.1,.int s.2.1,.bl s.2.2]/\yn rs w s=AQ w'/\Q ⇑w' H
def j4{w w':()}(h1:Is K H (.lst (rs.map dR)) (.ref a))(h2:qL rs)(h3:w.length<=300000)(h4:SqT K H t [.int s.1,.int s.2.1,.bl s.2.2])(h5:yn rs w s=AQ w')(q:Q ⇑w' H):uu K [.ref a,⇑w,.ref t] H Q E:=#[a,t,rs,w,w',s,rfl,h1,h2,h3,h4,h5,q]
def nc:sQz 3 ["_law_pacts","_law_word_here","_law_step","_law_old","_law_new"] JC:=by nofun
def zcY(B:Bt mg)(F:("_law_used"^^^JC)):(1&&&["_law_pacts","_law_word_here","_law_step"]) (uu K):=by
 refine F.ok nc (λvs H Q E h=>?_) (λcdv A outer s H vs Q E hr h=>?_)
 ·let#[a,t,rs,w,w',s,rfl,_]:=h;rfl
 ·let#[a,t,rs,w,w',s,rfl,hR,ok,hw,ht,ha,q]:=h
  refine#[_,(zh (zy 3 nc.nd (zk t7 (zk ix_list (pv 0) (!-2)) zd)) (zh (zy 4 nc.nd (zk t7 (zk ix_list (pv 0) (!-2)) zd)) (zh (zJ (yf (yl (!-2) (λZ=>rfl))) (zG (zy 3 nc.nd (zk t7 (zk ix_list (pv 0) (!-2)) zd)) (ze (zy 4 nc.nd (zk t7 (zk ix_list (pv 0) (!-2)) zd))))
    zr) (ze (zl (zD zS (zD zS (zP yL (pv 1) yo (zO (!-2))) (pv 4)) (zP yL (pv 1) (zO (zD z7 (!-2) (zA B.len (pv 3)))) yo))))))),?_]
  have s16:=zW
  erw[Is]at hR
  let#[_,xs,e,hX,hI]:=hR;cases e;have hb:0<=s.1/\s.1<rs.length:=bV λhb=>by rw[y8 hb]at ha;cases ha
  let#[p,a1,_,hp]:=zec hI hb.1 hb.2;have gl:=XH ok s.1.toNat;rw[yE hb]at ha;generalize rs.getD s.1.toNat ([],[])=r at *;change H'=H/\σ=[!!a,~~~w,!!t,AQ ⇑r.1,AR]
  ·rfl'
   exact#[_,ht,_,rfl,_,rfl,_,hX,_,a1,_,rfl,_,hp,rfl]
  rintro σ H1 ⟨rfl,rfl⟩:0;change H'=H1/\σ=[!!a,~~~w,!!t,AQ ⇑r.1,AQ ⇑r.2]
  ·rfl'
   exact#[_,ht,_,rfl,_,rfl,_,hX,_,a1,_,rfl,_,hp,rfl]
  rintro σ H2 ⟨rfl,rfl⟩:0;change H'=H2/\σ=[!!a,~~~w,!!t,AQ ⇑(sdl r s.2.2).1,AQ ⇑(sdl r s.2.2).2]
  ·rfl'
   refine#[_,ht,_,rfl,_,rfl,yb (λh=>#[_,ht,_,rfl,_,rfl,_,hX,_,a1,_,rfl,_,hp,_,rfl,_,ht,_,rfl,_,rfl,_,hX,_,a1,_,rfl,_,hp,_,rfl,?_]) λh=>?_]
   ·rw[h];exact#[rfl,rfl]
   ·rw[Bool.not_eq_false]at h;rw[h];exact#[rfl,rfl]
  rintro σ H3 ⟨rfl,rfl⟩:_
  have hol:(sdl r s.2.2).1.length<=100:=by
   cases s.2.2
   ·exact gl.2
   ·exact gl.1
  have hnl:(sdl r s.2.2).2.length<=100:=by
   cases s.2.2
   ·exact gl.1
   ·exact gl.2
  right;generalize sdl r s.2.2=on at *;have hst:zw w s.2.1 on.1=AS:=bV λhst=>by rw[w9 hst]at ha;cases ha
  rw[w6 hst]at ha;let#[_,_,h0,h1]:=yB hst;have c1:=vb w AR (AQ s.2.1);have c2:=vb w (AQ (s.2.1 + ↑on.1.length)) AR
  rfl'
  refine#[_,ht,_,rfl,_,rfl,⋯,⋯,_,ht,_,rfl,⋯,_,rfl,⋯,?_,?_]
  ·rw[aj];lia
  ·rw[zcj h0];cases ha;exact q
def V0{w o:()}{n:Nat}(h:(n:Int)+o.length<=w.length):zw w (n:Int) o=decide (cut w (AQ (n:Int)) (AQ ((n:Int)+(o.length:Int)))=o):=by unfold zw;rw[Zk _ ⋯ ⋯ ⋯];have e:((n:Int)+(o.length:Int) - (n:Int)).toNat=o.length:=⋯;rw[e];exact decide_eq_decide.mpr #[λh=>h.2.2,λh'=>#[⋯,⋯,h']]
def qY(hp:H p=AQ (.lst ys))(h:SqT K H a xs):SqT K (upd H p (.lst zs)) a xs:=by
 rcases h with (h | ⟨o,h⟩) | h
 ·exact .inl (.inl (by rw[zt (λe=>by rw[e,hp]at h;cases h)];exact h))
 ·exact .inl (.inr #[o,by rw[zt (λe=>by rw[e,hp]at h;cases h)];exact h])
 ·exact .inr h
def Wl(K:su):Sp:=λvs H Q Z=>∃(a:sv) (rs:List zH) (w:()) (m:Int),vs=[.ref a,⇑w,.int m]/\Is K H (.lst (rs.map dR)) (.ref a)/\qL rs/\w.length<=900/\∀(D:sv) (H':Hp) (us:List Stp),H D=AR->Same H H'->LsA K H' D (us.map dSt)->us.length<=300000->(∀s ∈ us,Fit rs w m s)->Q (.ref D) H'
def zak{w:()}(h1:Is K H (.lst (rs.map dR)) (.ref a))(h2:qL rs)(h3:w.length<=900)(h:∀(D:sv) (H':Hp) (us:List Stp),H D=AR->Same H H'->LsA K H' D (us.map dSt)->us.length<=300000->(∀s ∈ us,Fit rs w m s)->Q (.ref D) H'):Wl K [.ref a,⇑w,.int m] H Q E:=#[a,rs,w,m,rfl,h1,h2,h3,h]
def iC:sQz 3 ["_law_pacts","_law_word_here","_law_most","_law_found","_law_number","_law_pact","_law_forth","_law_old","_law_place","_law_step"] Qq:=by nofun
def zbE(B:Bt mg)(F:("_law_uses"^^^Qq))(nN:(1<<<"_law_used") ["_law_pacts","_law_word_here","_law_step"] [] (uu K)):(2&&&["_law_pacts","_law_word_here","_law_most"]) (Wl K):=by
 exists F.ok iC
 ·let#[a,rs,w,m,rfl,hR,ok,hw,q]:=h
  refine#[_,(zh (zy 3 iC.nd (xh zg)) (zh (zR p8 rfl (xf rfl B.enum (za (pv 0) zg)) (vJ (n:=2) rfl (zZ (zq (i:=4) iC.nd rfl (.inl rfl)) (zZ (zq (i:=5) iC.nd rfl (.inl rfl)) xW))) (ze (zR p8 rfl (zeY (zX (za yv (za yv zg)))) (zq (i:=6) iC.nd rfl (.inl rfl)) (zh (zy 7 iC.nd (!-5)) (zh (zJ (yf (yl (pv 6) (λZ=>rfl))) (ze (zy 7 iC.nd (!-5)))
      zr) (ze (zR p8 rfl (zV rfl B.range (za (zD z7 (zD wc (zA B.len (pv 1)) (zA B.len (pv 7))) zd) zg)) (zq (i:=8) iC.nd rfl (.inl rfl)) (zh (zy 9 iC.nd (zX (za (pv 4) (za (pv 8) (za (pv 6) zg))))) (ze (zJ (PW.pt (W5 (zv xA (zP yL (pv 1) (zO (pv 8)) (zO (zD z7 (pv 8) (zA B.len (pv 7))))) (pv 7) (zx _)) (Z5 (zv zeP (zA B.len (cl0 nN hr .nil rfl (za (pv 0) (za (pv 1) (za (pv 9) zg))))) (pv 2) (zx _))))) (ze (yW (wl aX bh bn yy (pv 3) (za (pv 9) zg))))
       zr)))))))))) (ze (zl (pv 3))))),?_]
  have s16:=zW;have hR':=hR
  erw[Is]at hR'
  let#[_,xs,e,hX,hI]:=hR';cases e;have hxl:=hI.len;rw[aa]at hxl;have okl:=ok.1;change ∃D:sv,H D=AR/\Same H H'/\LsA K H' D []/\σ=[!!a,~~~w,~~~!m,!!D,AR,AR,AR,AR,AR,AR]
  ·rfl'
   exact#[⋯,λD hD=>#[D,hD,zf hD,LsA.nil,rfl]]
  rintro σ H1 ⟨D,hD,s1,hL1,rfl⟩:0;change ∃us:List Stp,Same H H'/\LsA K H' D (us.map dSt)/\us.length<=300000/\(∀s ∈ us,Fit rs w m s)/\∃v4 v5 v6 v7 v8 v9,σ=[!!a,~~~w,~~~!m,!!D,v4,v5,v6,v7,v8,v9]
  ·rfl'
   refine#[#[_,s1.seq hX],ForEL.by (xs:=xs) (λi σ H'=>∃us:List Stp,Same H H'/\LsA K H' D (us.map dSt)/\us.length<=i * 2002/\(∀s ∈ us,Fit rs w m s)/\∃v4 v5 v6 v7 v8 v9,σ=[!!a,~~~w,~~~!m,!!D,v4,v5,v6,v7,v8,v9]) #[[],s1,hL1,ay _,λs h=>(nomatch h),_,_,_,_,_,_,rfl] ?_ ?_ ?_]
   ·rintro i σ H' _ ⟨us,hs,_⟩;exact hs.seq hX
   ·refine nmE ?_;rintro i x σ H' p hx ⟨us,hs,hL,hl,hf,v4,v5,v6,v7,v8,v9,rfl⟩ hp:_;let#[r,pr,hri,rfl,hqr]:=hI.getR hx;have hi:=(AX.mp hri).1;have b:=ok.2 r (ac hri);have er:rs.getD i ([],[])=r:=by rw[ae,hri];rfl
    right
    rfl'
    refine#[_,SqT.of zc,rfl,_,_,rfl,_,_,rfl,rfl,?_];refine#[⋯,λp2 hp2=>?_];have hs3:Same H' (upd (upd H' p (.tup [.int (i:Nat),.ref pr])) p2 (.tup [.bl AS,.bl AT])):=(zf hp).trans (zf hp2);have hp3:(upd (upd H' p (.tup [.int (i:Nat),.ref pr])) p2 (.tup [.bl AS,.bl AT])) p2=AQ (.tup [.bl AS,.bl AT]):=zc;generalize upd (upd H' p (.tup [.int (i:Nat),.ref pr])) p2 (.tup [.bl AS,.bl AT])=H3 at *
    have hD3:p2≠D:=λe=>by
     let#[ys,hY,_]:=hL.same hs3;rw[e,hY]at hp3;cases hp3
    refine#[#[_,SqT.of hp3],ForT.by (xs:=[.bl AS,.bl AT]) (λj σ H4=>H4 p2=AQ (.tup [.bl AS,.bl AT])/\Same H H4/\∃us:List Stp,LsA K H4 D (us.map dSt)/\us.length<=i * 2002+j * 1001/\(∀s ∈ us,Fit rs w m s)/\∃v6 v7 v8 v9,σ=[!!a,~~~w,~~~!m,!!D,-~~~i,!!pr,v6,v7,v8,v9]) #[hp3,hs.trans hs3,us,hL.same hs3,⋯,hf,_,_,_,_,rfl] (λj σ H4 Z h=>SqT.of h.1) ?_ ?_]
    ·refine nm4 ?_;rintro j y σ H4 hy ⟨hp4,hs4,us,hL4,hl4,hf4,v6,v7,v8,v9,rfl⟩:_
     obtain⟨f,rfl⟩:∃f:Bool,y=.bl f:=by
      match j,hy with
      | 0,hy=>exact#[_,(Option.some.inj hy).symm]
      | 1,hy=>exact#[_,(Option.some.inj hy).symm]
      | j+2,hy=>simp at hy
     right
     rfl'
     change H'=H4/\σ=[!!a,~~~w,~~~!m,!!D,-~~~i,!!pr,AQ (.bl f),AQ ⇑r.1,v8,v9]
     ·rfl'
      exact#[_,zp hs4 hqr,rfl]
     rintro σ H5 ⟨rfl,rfl⟩:0;change H'=H5/\σ=[!!a,~~~w,~~~!m,!!D,-~~~i,!!pr,AQ (.bl f),AQ ⇑(sdl r f).1,v8,v9]
     ·rfl'
      refine yb (λh=>#[_,zp hs4 hqr,?_]) λh=>?_
      ·rw[h];rfl
      ·rw[Bool.not_eq_false]at h;rw[h];rfl
     rintro σ H6 ⟨rfl,rfl⟩:_
     have bo:(sdl r f).1.length<=100/\(sdl r f).2.length<=100:=by
      unfold sdl;split
      ·exact b
      ·exact#[b.2,b.1]
     have aft:∀n:Nat,(n:Int)+(sdl r f).1.length<=w.length->cut w (AQ (n:Int)) (AQ ((n:Int)+((sdl r f).1.length:Int)))=(sdl r f).1->∃w',yn rs w (((i:Nat):Int),((n:Nat):Int),f)=AQ w'/\w'.length<=1000:=λn hn hc=>by
      have hst:zw w (n:Int) (sdl r f).1=AS:=by
       rw[V0 hn];exact u6 hc
      refine#[yX w (n:Int) (sdl r f).1 (sdl r f).2,?_,?_]
      ·rw[yE (by show (0:Int)<=(i:Int)/\(i:Int)<rs.length;lia)];simp only;rw[show ((i:Nat):Int).toNat=i from rfl,er,w6 hst]
      ·have:=Vo (n:=(sdl r f).2) hst;lia
     right;generalize sdl r f=o at *
     rfl'
     refine#[⋯,⋯,⋯,⋯,ForR.by (λn σ H4=>H4 p2=AQ (.tup [.bl AS,.bl AT])/\Same H H4/\∃us:List Stp,LsA K H4 D (us.map dSt)/\us.length<=i * 2002+j * 1001+n/\(∀s ∈ us,Fit rs w m s)/\∃v8 v9,σ=[!!a,~~~w,~~~!m,!!D,-~~~i,!!pr,AQ (.bl f),AQ ⇑o.1,v8,v9]) #[hp4,hs4,us,hL4,hl4,hf4,_,_,rfl] ?_ ?_]
     ·refine nm3 ?_;rintro n σ H7 hn ⟨hp7,hs7,us,hL7,hl7,hf7,v8,v9,rfl⟩:0;dsimp only;rw[show (0:Int)+(n:Int)=(n:Int) by lia];let#[ys,hY,hJ]:=hL7;have hyl:=hJ.len;rw[aa]at hyl;have hj2:j<2:=(AX.mp hy).1
      erw[yt,aM,aL]
      refine zj (λσ H''=>∃t:sv,Same H7 H''/\H'' t=AQ (.tup [.int (i:Nat),.int (n:Nat),.bl f])/\σ=[!!a,~~~w,~~~!m,!!D,-~~~i,!!pr,AQ (.bl f),AQ ⇑o.1,-~~~n,!!t]) ?_ ?_
      ·rfl'
       exact#[⋯,λt ht=>#[zf ht,zc]]
      rintro σ H8 ⟨t,s8,ht8,rfl⟩:_;have hY8:=s8 _ _ hY;have hJ8:=Iss.same s8 _ _ hJ;right
      rfl'
      refine#[⋯,⋯,yb (λhc=>?_) λZ=>#[s8 _ _ hp7,hs7.trans s8,us,#[ys,hY8,hJ8],⋯,hf7]];let#[w',ha,hwl]:=aft n ⋯ hc;refine j4 (s:=(((i:Nat):Int),((n:Nat):Int),f)) (Is.same (hs7.trans s8) _ _ hR) ok ⋯ (SqT.of ht8) ha ?_
      rfl'
      refine#[⋯,yb (λhm=>#[.inl #[_,SqL.of hY8],ys,hY8,⋯,?_,zu (hs7.trans s8) hD,us ++ [(((i:Nat):Int),((n:Nat):Int),f)],?_,by rw[aj];erw[aG,bH];lia,λs hs'=>?_]) λZ=>#[s8 _ _ hp7,hs7.trans s8,us,#[ys,hY8,hJ8],⋯,hf7]]
      ·rw[zt hD3];exact s8 _ _ hp7
      ·rw[am];exact LsA.snoc hY8 hJ8 (wf _) (by erw[dSt,xq,z8,and_self]) (kG (SqT.of ht8))
      ·rcases Ba.mp hs' with h | h
       ·exact hf7 s h
       ·rw[Bb.mp h];exact#[w',ha,hm]
     ·refine nmB ?_;rintro σ H7 ⟨hp7,hs7,us,hL7,hl7,hf7,v8,v9,rfl⟩:0;exact#[hp7,hs7,us,hL7,⋯,hf7,_,_,_,_,rfl]
    ·refine nmB ?_;rintro σ H4 ⟨_,hs4,us,hL4,hl4,hf4,v6,v7,v8,v9,rfl⟩:0;exact#[hs4,us,hL4,by erw[aG,bH]at hl4;lia,hf4,_,_,_,_,_,_,rfl]
   ·refine nmB ?_;rintro σ H' ⟨us,hs,hL,hl,hf,v4,v5,v6,v7,v8,v9,rfl⟩:0;exact#[hs,us,hL,⋯,hf,_,_,_,_,_,_,rfl]
  rintro σ H2 ⟨us,s2,hL,hl,hf,v4,v5,v6,v7,v8,v9,rfl⟩:0
  rfl'
  exact q D H2 us hD s2 hL hl hf
def ZU(K:su):Sp:=λvs H Q Z=>∃(a c:sv) (rs:List zH) (w:()) (ns:List Int) (m:Int),vs=[.ref a,⇑w,.ref c,.int m]/\Is K H (.lst (rs.map dR)) (.ref a)/\qL rs/\w.length<=8/\m<=8/\SqL K H c (ns.map V.int)/\(∀z ∈ ns,uV z)/\ns.length<=63 /\
 ∀(D:sv) (H':Hp) (ss:List Stp) (w':()),H D=AR->Same H H'->LsA K H' D (ss.map dSt)->yg rs w ss=AQ w'->w'.length<=8->ss.length<=ns.length->(∀s ∈ ss,0<=s.1/\s.1<rs.length)->Q (.ref D) H'
def UH{w:()}{ns:List Int}(h1:Is K H (.lst (rs.map dR)) (.ref a))(h2:qL rs)(h3:w.length<=8)(h4:m<=8)(h5:SqL K H c (ns.map V.int))(h5':∀z ∈ ns,uV z)(h6:ns.length<=63)(h:∀(D:sv) (H':Hp) (ss:List Stp) (w':()),H D=AR->Same H H'->LsA K H' D (ss.map dSt)->yg rs w ss=AQ w'->w'.length<=8->ss.length<=ns.length->(∀s ∈ ss,0<=s.1/\s.1<rs.length)->Q (.ref D) H'):ZU K [.ref a,⇑w,.ref c,.int m] H Q E:=#[a,c,rs,w,ns,m,rfl,h1,h2,h3,h4,h5,h5',h6,h]
def Y9{w w':()}(h:yn rs w s=AQ w'):0<=s.1/\s.1<rs.length:=bV λhb=>by rw[y8 hb]at h;cases h
def lw:sQz 4 ["_law_pacts","_law_word_here","_law_cells","_law_most","_law_steps_here","_law_cell_here","_law_some","_law_step"] XF:=by nofun
def KZ(B:Bt mg)(F:("_law_chain"^^^XF))(sf:(2<<<"_law_uses") ["_law_pacts","_law_word_here","_law_most"] [] (Wl K))(nN:(1<<<"_law_used") ["_law_pacts","_law_word_here","_law_step"] [] (uu K))(gZ:(1<<<"_law_mixed") ["_law_cell_here","_law_turn"] [] xK):(3&&&["_law_pacts","_law_word_here","_law_cells","_law_most"]) (ZU K):=by
 exists F.ok lw
 ·let#[a,c,rs,w,ns,m,rfl,hR,ok,hw,hm,hS,hB,hn,q]:=h
  refine#[_,(zh (zy 4 lw.nd (xh zg)) (zh (zR p8 rfl (zY (pv 2)) (zq (i:=5) lw.nd rfl (.inl rfl)) (zh (zy 6 lw.nd (cl0 sf hr .nil rfl (za (pv 0) (za (pv 1) (za (pv 3) zg))))) (ze (zJ (zv Yw (zA B.len (pv 6)) zd (zx _)) (zh (zy 7 lw.nd (zk ix_list (pv 6) (zD yT (cl0 gZ hr .nil rfl (za (pv 5) (za zd zg))) (zA B.len (pv 6))))) (zh (yW (wl aX bh bn yy (pv 4) (za (pv 7) zg))) (ze (zy 1 lw.nd (cl0 nN hr .nil rfl (za (pv 0) (za (pv 1) (za (pv 7) zg))))))))
     zr)))) (ze (zl (pv 4))))),?_]
  have s16:=zW;change ∃D:sv,H D=AR/\Same H H'/\LsA K H' D []/\σ=[!!a,~~~w,!!c,~~~!m,!!D,AR,AR,AR]
  ·rfl'
   exact#[⋯,λD hD=>#[D,hD,zf hD,LsA.nil,rfl]]
  rintro σ H1 ⟨D,hD,s1,hL1,rfl⟩:0;change ∃(ss:List Stp) (w2:()),Same H H'/\LsA K H' D (ss.map dSt)/\yg rs w ss=AQ w2/\w2.length<=8/\ss.length<=ns.length/\(∀s ∈ ss,0<=s.1/\s.1<rs.length)/\∃v5 v6 v7,σ=[!!a,~~~w2,!!c,~~~!m,!!D,v5,v6,v7]
  ·rfl'
   refine#[#[_,s1.seq hS],ForL.by (xs:=ns.map V.int) (λi σ H'=>∃(ss:List Stp) (w2:()),Same H H'/\LsA K H' D (ss.map dSt)/\yg rs w ss=AQ w2/\w2.length<=8/\ss.length<=i/\(∀s ∈ ss,0<=s.1/\s.1<rs.length)/\∃v5 v6 v7,σ=[!!a,~~~w2,!!c,~~~!m,!!D,v5,v6,v7]) #[[],w,s1,hL1,rfl,hw,al _,λs h=>(nomatch h),_,_,_,rfl] (λi σ H' Z h=>by let#[ss,w2,hs,_]:=h;exact hs.seq hS) ?_ ?_]
   ·refine nm4 ?_;rintro i x σ H3 hx ⟨ss,w2,s3,hL3,hwk,hw2,hsl,hnum,v5,v6,v7,rfl⟩:_;have hi:=(AX.mp hx).1;rw[aa]at hi;rw[aq]at hx;let#[z,hz,rfl]:=Bd.mp hx;have hzB:=hB z (ac hz);right
    erw[yt,aM,aL]
    change ∃(U:sv) (us:List Stp),Same H3 H'/\LsA K H' U (us.map dSt)/\us.length<=300000/\(∀s ∈ us,Fit rs w2 m s)/\σ=[!!a,~~~w2,!!c,~~~!m,!!D,~~~!z,!!U,v7]
    ·rfl'
     exact zak (Is.same s3 _ _ hR) ok ⋯ λU H' us Z s' hU hul hf=>#[s',U,us,hU,hul,hf,rfl]
    rintro σ H4 ⟨U,us,s4,hU,hul,hf,rfl⟩:_;let#[ys,hY,hJ]:=hU;right
    rfl'
    refine#[_,.inl #[_,SqL.of hY,rfl],yb (λhpos=>?_) λZ=>?_]
    ·change ∃(st:Stp) (pst:sv) (w3:()),H'=H4/\SqT K H4 pst [.int st.1,.int st.2.1,.bl st.2.2]/\yn rs w2 st=AQ w3/\w3.length<=8/\σ=[!!a,~~~w2,!!c,~~~!m,!!D,~~~!z,!!U,!!pst]
     ·rfl'
      refine xC hzB ∅ ∅ λy hy=>#[_,.inl #[_,SqL.of hY,rfl],?_];have m0:=bq y (b:=(ys.length:Int)) ⋯;have m1:=bp y (b:=(ys.length:Int)) ⋯;let#[v,a1,b1]:=vP (xs:=ys) m0 m1;let#[st,pst,hst,rfl,hqs]:=vw hJ b1;let#[w3,haf,hw3]:=hf st (ac hst);exact#[_,rfl,⋯,_,SqL.of hY,_,a1,rfl,st,pst,hqs,w3,haf,⋯,rfl]
     rintro σ H5 ⟨st,pst,w3,rfl,hqs,haf,hw3,rfl⟩:_;let#[xs3,hX3,hI3]:=hL3.same s4;have hil:=hI3.len;rw[aa]at hil;right;change Same H H'/\LsA K H' D ((ss ++ [st]).map dSt)/\SqT K H' pst [.int st.1,.int st.2.1,.bl st.2.2]/\σ=[!!a,~~~w2,!!c,~~~!m,!!D,~~~!z,!!U,!!pst]
     ·rfl'
      refine#[.inl #[_,SqL.of hX3],xs3,hX3,⋯,zu (s3.trans s4) hD,?_,qY hX3 hqs];rw[am];exact LsA.snoc hX3 hI3 (wf _) (by erw[dSt,xq,z8,and_self]) (kG hqs)
     rintro σ H6 ⟨s6,hL6,hq6,rfl⟩:0
     rfl'
     refine j4 (Is.same s6 _ _ hR) ok ⋯ hq6 haf ?_;refine#[s6,ss ++ [st],hL6,w3,jL hwk haf,hw3,by rw[aj];exact eW hsl,λs hs=>?_,rfl];rcases Ba.mp hs with h | h
     ·exact hnum s h
     ·rw[Bb.mp h];exact Y9 haf
    ·exact#[s3.trans s4,ss,hL3.same s4,w2,hwk,hw2,⋯,hnum,rfl]
   ·refine nmB ?_;rintro σ H' ⟨ss,w2,hs,hL,hwk,hw2,hsl,hnum,v5,v6,v7,rfl⟩:_;rw[aa]at hsl;right;exact#[hs,ss,hL,w2,hwk,hw2,hsl,hnum,_,_,_,rfl]
  rintro σ H2 ⟨ss,w2,hs,hL,hwk,hw2,hsl,hnum,v5,v6,v7,rfl⟩:0
  rfl'
  exact q D H2 ss w2 hD hs hL hwk hw2 hsl hnum
def Y4(K:su):Sp:=λvs H Q Z=>∃(a t:sv) (rs:List zH) (w w':()) (ss:List Stp),vs=[.ref a,⇑w,.ref t]/\Is K H (.lst (rs.map dR)) (.ref a)/\qL rs/\w.length<=60/\Is K H (.lst (ss.map dSt)) (.ref t)/\ss.length<=2000/\yg rs w ss=AQ w'/\Q ⇑w' H
def XJ{w w':()}(h1:Is K H (.lst (rs.map dR)) (.ref a))(h2:qL rs)(h3:w.length<=60)(h4:Is K H (.lst (ss.map dSt)) (.ref t))(h5:ss.length<=2000)(h6:yg rs w ss=AQ w')(q:Q ⇑w' H):Y4 K [.ref a,⇑w,.ref t] H Q E:=#[a,t,rs,w,w',ss,rfl,h1,h2,h3,h4,h5,h6,q]
def Q7{w w':()}(h:yg rs w ss=AQ w')(hs:ss[i]? = AQ s)(h1:yg rs w (ss.take i)=AQ w1):∃w2,yn rs w1 s=AQ w2/\yg rs w (ss.take (i+1))=AQ w2:=by
 have e:ss=ss.take (i+1) ++ ss.drop (i+1):=(bW _ _).symm;rw[e,xJ]at h;let#[w2,h2,_]:=Bq.mp h;refine#[w2,?_,h2];rw[zQ hs,xJ,h1]at h2
 erw[yg,ci]at h2
 let#[w3,h3,h4]:=Bq.mp h2;cases h4;exact h3
def oP:sQz 3 ["_law_pacts","_law_word_here","_law_steps_here","_law_step","_law_old"] zcM:=by nofun
def zd6(B:Bt mg)(F:("_law_end"^^^zcM))(nN:(1<<<"_law_used") ["_law_pacts","_law_word_here","_law_step"] [] (uu K)):(2&&&["_law_pacts","_law_word_here","_law_steps_here"]) (Y4 K):=by
 refine F.ok oP (λvs H Q E h=>?_) (λcdv A outer s H vs Q E hr h=>?_)
 ·let#[a,t,rs,w,w',ss,rfl,_]:=h;rfl
 ·let#[a,t,rs,w,w',ss,rfl,hR,ok,hw,hT,hsl,hwk,q]:=h
  refine#[_,(zh (zR p8 rfl (zY (pv 2)) (zq (i:=3) oP.nd rfl (.inl rfl)) (zh (zJ (PW.pt (wU (zv Ui (!-3) zd (zx _)) (wU (zv op_ge' (!-3) (zA B.len (pv 0)) (zx _)) (we (zv Ui (!-3) zd (zx _)))))) (ze (zl ye))
     zr) (zh (zy 4 oP.nd (zk t7 (zk ix_list (pv 0) (!-3)) (zD wc zd (vh QJ rfl B.int PySem.Pv.boot_int (za (!-3) zg))))) (zh (zJ (PW.pt (wU (zv Xo (zD z7 (!-3) (zA B.len (pv 4))) (zA B.len (pv 1)) (zx _)) (we (zv um (zP yL (pv 1) (zO (!-3)) (zO (zD z7 (!-3) (zA B.len (pv 4))))) (pv 4) (zx _))))) (ze (zl ye))
     zr) (ze (zy 1 oP.nd (cl0 nN hr .nil rfl (za (pv 0) (za (pv 1) (za (pv 3) zg)))))))))) (ze (zl (pv 1)))),?_]
  have s16:=zW;have hR':=hR;have hT':=hT
  erw[Is]at hR' hT'
  let#[_,xs,e,hX,hI]:=hR';cases e;let#[_,ts,e,hTs,hJ]:=hT';cases e;have htl:=hJ.len;rw[aa]at htl;change H'=H/\∃v3 v4,σ=[!!a,~~~w',!!t,v3,v4]
  ·rfl'
   refine#[#[_,hTs],ForL.by (xs:=ts) (λi σ H'=>H'=H/\∃w1 v3 v4,yg rs w (ss.take i)=AQ w1/\w1.length<=60+i * 100/\σ=[!!a,~~~w1,!!t,v3,v4]) #[rfl,w,_,_,rfl,⋯,rfl] (λi σ H' Z h=>by rw[h.1];exact hTs) ?_ ?_]
   ·refine nm4 ?_;rintro i x σ H' hx ⟨rfl,w1,v3,v4,hw1,hl1,rfl⟩:_;let#[s,ps,hsi,rfl,hqs]:=vw hJ hx;have hil:=(AX.mp hsi).1;let#[w2,haf,hw2]:=Q7 hwk hsi hw1;have hl2:=JJ ok haf;have hb:=Y9 haf;let#[p,a1,_,hp]:=zec hI hb.1 hb.2;have gl:=XH ok s.1.toNat;have ha:=haf;rw[yE hb]at ha;right;generalize rs.getD s.1.toNat ([],[])=r at *;have hst:zw w1 s.2.1 (sdl r s.2.2).1=AS:=bV λhst=>by rw[w9 hst]at ha;cases ha
    let#[_,_,h0,h1]:=yB hst
    erw[yt,aM,aL]
    refine zj (λσ H''=>H''=H'/\σ=[!!a,~~~w1,!!t,!!ps,v4]) ?_ ?_
    ·rfl'
     exact#[_,hqs,_,rfl,_,rfl,yb (λh=>w4 hb.1 ⋯) λZ=>#[_,hqs,_,rfl,_,.inl #[_,hX,rfl],_,rfl,yb (λh=>w4 hb.2 (by have:=hI.len;rw[aa]at this;lia)) λZ=>#[_,hqs,_,rfl,_,rfl,yb (λh=>w4 h0 ⋯) λZ=>trivial]]]
    rintro σ G ⟨rfl,rfl⟩:0;refine zj (λσ H''=>H''=G/\σ=[!!a,~~~w1,!!t,!!ps,AQ ⇑(sdl r s.2.2).1]) ?_ ?_
    ·rfl'
     refine#[_,hqs,_,rfl,_,rfl,_,hX,_,a1,_,hqs,_,rfl,.inr #[_,rfl,_,rfl,_,hp,?_]];cases s.2.2 <;> rfl
    rintro σ G1 ⟨rfl,rfl⟩:0;refine zj (λσ H''=>H''=G1/\σ=[!!a,~~~w1,!!t,!!ps,AQ ⇑(sdl r s.2.2).1]) ?_ ?_
    ·rfl'
     have hol:(sdl r s.2.2).1.length<=100:=by
      cases s.2.2
      ·exact gl.2
      ·exact gl.1
     refine#[_,hqs,_,rfl,⋯,_,rfl,⋯,yb (λh=>w4 h1 ⋯) λZ=>#[_,hqs,_,rfl,_,rfl,_,hqs,_,rfl,⋯,_,rfl,⋯,yb (λh=>w4 ?_ h) λZ=>trivial]];have hst':=hst;unfold zw at hst';rw[decide_eq_true_eq]at hst';rw[Zk _ h0 ⋯ ⋯];have e:(s.2.1+((sdl r s.2.2).1.length:Int) - s.2.1).toNat=(sdl r s.2.2).1.length:=⋯;rw[e];exact hst'.2.2
    rintro σ G2 ⟨rfl,rfl⟩:0
    rfl'
    refine j4 hR ok ⋯ hqs haf #[rfl,w2,hw2,⋯,rfl]
   ·refine nmB ?_;rintro σ H' ⟨rfl,w1,v3,v4,hw1,hl1,rfl⟩:_;rw[htl,aI,hwk]at hw1;right;cases hw1;exact#[rfl,_,_,rfl]
  rintro σ H2 ⟨rfl,v3,v4,rfl⟩:0
  rfl'
  exact q
def zgv(hx:XE X E)(D:DMk X.prog X.w X.K X.mg X.base (CXx X.prog X.w) k C ps sp)(hr:Room j X.A)(hg:Gl X x)(hm:X.mg x=AQ (.ref C))(ha:PA X (e::es) t)(hdb:‹(x ==("__debug__" : sF))=AT›)(he:‹sq (e::es) X.env=(AT,eval e X.env)::sq es X.env›)(hpl:‹(sS pos (sq es X.env)).any (·.1)=AT›)(hj:‹k+1<=j›):PE X (.Call (.Name x p) (e::es) [] pos) (U7 C sp [] E t):=by let#[f,fd,M,F,hb]:=D.ex;exact Ut M F (hr.mono hj) hg hm hb .nil (Vk hx) ha hdb he hpl
abbrev zhg(mg:sF->Option sw):Prop:=mg "any" = AR
structure TNT(K:su)(mg:sF->Option sw)(C:sv):Prop where
 xi:XI K C
 g:mg "NotTurned" = AQ (.ref C)
 na:NoAttr K C "number"
def uS:sQz 2 ["self","number"] yc:=by nofun
def uX(T:TNT K mg C)(F:Fun K "__init__" "NotTurned.__init__" yc f fd):(1&&&["self","number"]) (uj C "number"):=by
 exists F.ok uS
 ·let#[x,v,rfl,hx,q]:=h;refine#[_,(ze (UM (pv 0) (pv 1) rfl)),?_]
  erw[zb1]
  rfl'
  exact#[C,hx,T.xi.toXC,T.na,q]
structure DNT(P:sH)(w:sM)(K:su)(mg:sF->Option sw)(base:sV)(C:sv):Prop extends TNT K mg C where
 ini:∃f fd,ah K (.ref C) "__init__" = AQ (AQ (.ref f))/\bc K (.ref f)=AS/\(1&&&["self","number"]) (uj C "number")/\Binds K fd ["self","number"] []
structure zd9(K:su)(mg:sF->Option sw)(CH:sv):Prop where
 cl:Cls K CH
 g:mg "System" = AQ (.ref CH)
 no:NoAttr K CH "order"
 nr:NoAttr K CH "rules"
def wT(k:Nat)(l:())(ns:List Int):List zH->Nat->Option Nat
 | [],_=>AR
 | r::rs,i=>if zU k l ns r.2 r.1=AS then wT k l ns rs (i+1)else AQ i
theorem Vs : ∀{ps:List zH} {j i:Nat} {r:zH},(∀(m:Nat) (p:zH),m<i->ps[m]? = AQ p->zU k l ns p.2 p.1=AS)->ps[i]? = AQ r->zU k l ns r.2 r.1=AT->wT k l ns ps j=AQ (j+i)
 | [],_,_,_,_,h,_=>by simp at h
 | p::ps,j,0,r,_,h,hl=>by
  cases h;rw[wT,hl,w9 aD];rfl
 | p::ps,j,i+1,r,hb,h,hl=>by
  rw[wT,w6 (hb 0 p (Nat.succ_pos _) rfl),Vs (i:=i) (λm q hm e=>hb (m+1) q ⋯ e) h hl];congr 1;lia
theorem qd : ∀{ps:List zH} {j:Nat},(∀(m:Nat) (p:zH),ps[m]? = AQ p->zU k l ns p.2 p.1=AS)->wT k l ns ps j=AR
 | [],_,_=>rfl
 | p::ps,j,hb=>by
  rw[wT,w6 (hb 0 p rfl)];exact qd λm q e=>hb (m+1) q e
def InL(l:())(ps:List zH):Prop:=∀p ∈ ps,p.1.length<=1000/\p.2.length<=1000/\(∀c ∈ p.1,c ∈ l)/\∀c ∈ p.2,c ∈ l
def qZ(K:su)(CO CR CW CT CH:sv):Sp:=λvs H Q E=>∃(x dx o a:sv) (k:Nat) (l:()) (ns:List Int) (ps:List zH) (xs:List V),vs=[.ref x,.ref o,.ref a]/\H x=AQ (.ins CH dx [])/\OrdAt CO CR CW H o k l ns/\OG l ns k/\H a=AQ (.lst xs)/\Iss K H (ps.map dR) xs/\InL l ps /\
 (∀i,wT k l ns ps 0=AQ i->∀H1,Same H H1->∀d H',zfy H1 d "number" (.int (i:Nat)) H'->E (.ref CT) (AQ d) H') /\
 (wT k l ns ps 0=AR->∀(q:sv) (H':Hp),(∀b o',b≠x->H b=AQ o'->H' b=AQ o')->H' x=AQ (.ins CH dx [("order",.ref o),("rules",.ref q)])->H' q=AQ (.lst xs)->H q=AR->Q .non H')
def lx:sQz 3 ["self","order","rules","number","rule"] wv:=by nofun
def kh{f CO CR CW CT CH:sv}(B:Bt mg)(T:DNT P w K mg base CT)(TS:zd9 K mg CH)(DBk:DB P w K mg base CO CR CW)(F:Fun K "__init__" "System.__init__" wv f fd):(5|||["self","order","rules"]) (qZ K CO CR CW CT CH):=by
 let#[fi,fdi,hi,hfn,Fi,Bi]:=T.ini
 exists Fun.okX F lx,0
 ·let#[x,dx,o,a,k,l,ns,ps,xs,rfl,hx0,ho,hG,hA,hI,hP,q1,q2]:=h
  refine#[_,(zh (zR PassesOwn.leaving rfl (xf rfl B.enum (za (pv 2) zg)) (vJ (n:=2) rfl (zZ (zq (i:=3) lx.nd rfl (.inl rfl)) (zZ (zq (i:=4) lx.nd rfl (.inl rfl)) xW))) (ze (zJ (yf (yl (zdg DBk hr (pv 1) (za (!-4) (za (!-4) zg))) (λZ=>rfl))) (ze (YB hx rfl T.xi.toXC hi hfn Fi (hr.mono ∅) Bi rfl T.g (za (pv 3) zg)))
     zr))) (zh (Xj (pv 0) (pv 1) rfl) (ze (Xj (pv 0) (vh xF rfl B.list PySem.Pv.boot_list (za (pv 2) zg)) rfl)))),?_]
  have s16:=zW;change Same H H'/\wT k l ns ps 0=AR/\∃v3 v4,σ=[!!x,!!o,!!a,v3,v4]
  ·ac_rfl;refine#[#[_,SqL.of hA],ForEL.by (xs:=xs) (λi σ H'=>Same H H'/\(∀(j:Nat) (p:zH),j<i->ps[j]? = AQ p->zU k l ns p.2 p.1=AS)/\∃v3 v4,σ=[!!x,!!o,!!a,v3,v4]) #[Same.refl _,λj p h=>w4 h (bB j),_,_,rfl] ?_ ?_ ?_]
   ·rintro i σ H' _ ⟨hs,_⟩;exact SqL.of (hs _ _ hA)
   ·refine nmE ?_;rintro i y σ H' p hy ⟨hs,hb,v3,v4,rfl⟩ hpn:_;let#[r,pr,hri,rfl,hqr]:=hI.getR hy;have hm:=hP r (ac hri);have s2:=hs.trans (zf (o:=.tup [.int (i:Nat),.ref pr]) hpn);have ho2:=ho.same s2;have hq2:=zp s2 hqr;let#[C,dy,fs,hf,hoC,hn,_]:=ho2.fam;have hn1:fs.lookup ("before" : sF)=AR:=hn _ ∅ ∅;right;ac_rfl;refine#[_,SqT.of zc,rfl,_,_,rfl,_,_,rfl,rfl,C,hf,dy,fs,hoC,hn1,_,rfl,_,hq2,_,rfl,_,rfl,_,hq2,_,rfl,o,k,l,ns,r.2,r.1,rfl,ho2,hG,hm.2.1,hm.1,hm.2.2.2,hm.2.2.1,λH3 s3=>?_];have s16:=zW;refine#[_,rfl,yb (λe=>#[⋯,Qn (q1 i (by have:=Vs (j:=0) hb hri e;simpa using this) H3 (s2.trans s3))]) λe=>#[s2.trans s3,λj p' hj hp'=>?_]];by_cases hj':j<i
    ·exact hb j p' hj' hp'
    ·have:j=i:=⋯;rw[this,hri]at hp';cases hp';simpa using e
   ·refine nmB ?_;rintro σ H' ⟨hs,hb,v3,v4,rfl⟩:_;have hxl:=hI.len;rw[aa]at hxl;right;exact#[hs,qd λm p e=>hb m p (by have:=(AX.mp e).1;lia) e,v3,v4,rfl]
  rintro σ H1 ⟨s1,hf,v3,v4,rfl⟩:0;change H'=upd H1 x (.ins CH dx [("order",.ref o)])/\σ=[!!x,!!o,!!a,v3,v4]
  ·ac_rfl;exact#[_,_,_,s1 _ _ hx0,TS.cl,TS.no,∅,rfl]
  rintro σ H2 ⟨rfl,rfl⟩:0;ac_rfl;have hax:a≠x:=λe=>by rw[e,hx0]at hA;cases hA
  refine#[xs,.inl (SqL.of (by rw[zt hax];exact s1 _ _ hA)),λq hq=>?_];have hqx:q≠x:=λe=>by rw[e,zc]at hq;cases hq
  rw[zt hqx]at hq
  have hqH:H q=AR:=by
   cases e:H q with
   | none=>rfl
   | some o'=>rw[s1 _ _ e]at hq;cases hq
  refine#[CH,dx,_,by rw[zt hqx.symm,zc],TS.cl,TS.nr,by show 1<1000;decide,q2 hf q _ (λb o' hb e=>?_) zc (by rw[zt hqx,zc]) hqH];rw[zt hb,zt (λz=>by rw[z,hqH]at e;cases e),zt hb];exact s1 _ _ e
def Kc(K:su)(CH:sv)(H:Hp)(y o q:sv)(ps:List zH):Prop:=∃dx xs,H y=AQ (.ins CH dx [("order",.ref o),("rules",.ref q)])/\H q=AQ (.lst xs)/\Iss K H (ps.map dR) xs
def xD(l m:())(k:Nat):Bool:=decide ((l.drop k).take m.length=m.take (l.length - k))
def lf(rs:List zH)(i:Nat):():=(rs.getD i ([],[])).1
def xE(h:rs[i]? = AQ r):lf rs i=r.1:=by unfold lf;rw[ae,h];rfl
def Yz(rs:List zH)(i j n:Nat):List N3:=((aJ n).filter λk=>(decide (i≠j) || decide (k≠0)) && xD (lf rs i) (lf rs j) k).map λk=>(i,j,k)
def ovI(rs:List zH)(i m:Nat):List N3:=(aJ m).flatMap λj=>Yz rs i j (lf rs i).length
def ovA(rs:List zH)(m:Nat):List N3:=(aJ m).flatMap λi=>ovI rs i rs.length
def wN(rs:List zH)(i j n:Nat):Yz rs i j (n+1)=Yz rs i j n ++ (if ((decide (i≠j) || decide (n≠0)) && xD (lf rs i) (lf rs j) n)=AS then [(i,j,n)]else []):=by
 unfold Yz;rw[cJ,cX,am];congr 1
 erw[fh,dm]
 split <;> rfl
def uw(rs:List zH)(i m:Nat):ovI rs i (m+1)=ovI rs i m ++ Yz rs i m (lf rs i).length:=by unfold ovI;rw[cJ,di];simp
def qX(rs:List zH)(m:Nat):ovA rs (m+1)=ovA rs m ++ ovI rs m rs.length:=by unfold ovA;rw[cJ,di];simp
def qO(rs:List zH)(i j n:Nat):(Yz rs i j n).length<=n:=by unfold Yz;rw[aa];have:=db (λk=>(decide (i≠j) || decide (k≠0)) && xD (lf rs i) (lf rs j) k) (aJ n);rw[bL]at this;exact this
theorem zet(h:qL rs)(i:Nat):(lf rs i).length<=100:=by
 cases e:rs[i]? with
 | none=>unfold lf;rw[ae,e];exact ay _
 | some r=>rw[xE e];exact (h.2 r (ac e)).1
theorem Xq(h:qL rs)(i m:Nat):(ovI rs i m).length<=m * 100:=by
 induction m with
 | zero=>exact ay _
 | succ m ih =>
  rw[uw,aj];have h1:=qO rs i m (lf rs i).length;have h2:=zet h i;lia
theorem JX(h:qL rs)(m:Nat):(ovA rs m).length<=m * 3000:=by
 induction m with
 | zero=>exact ay _
 | succ m ih =>
  rw[qX,aj];have h1:=Xq h m rs.length;have h2:=h.1;lia
def ZQ:Sp:=λvs H Q Z=>∃(l m:()) (k:Nat),vs=[⇑l,⇑m,.int (k:Nat)]/\l.length<=1000/\m.length<=1000/\k<=l.length/\Q (.bl (xD l m k)) H
def Y6(h1:l.length<=1000)(h2:m.length<=1000)(h3:k<=l.length)(h:Q (.bl (xD l m k)) H):ZQ [⇑l,⇑m,.int (k:Nat)] H Q E:=#[l,m,k,rfl,h1,h2,h3,h]
def Kk:sQz 3 ["one","other","place"] Xu:=by nofun
def K3(B:Bt mg)(F:("agree"^^^Xu)):(1&&&["one","other","place"]) ZQ:=by
 exists F.ok Kk
 ·let#[l,m,k,rfl,hl,hm,hk,q]:=h;refine#[_,(ze (zl (yi xA (zP yL (pv 0) (zO (pv 2)) (zO (zD z7 (pv 2) (zA B.len (pv 1))))) (zP yL (pv 1) yo (zO (zD wc (zA B.len (pv 0)) (pv 2)))) (zx _)))),?_];have s16:=zW
  rfl'
  refine#[⋯,⋯,⋯,⋯,?_];rw[UG _ ⋯ ⋯,uI _ ⋯];have e1:((k:Int)+(m.length:Int) - (k:Int)).toNat=m.length:=⋯;have e2:((l.length:Int) - (k:Int)).toNat=l.length - k:=⋯;rw[e1,e2];exact q
def vT(K:su):Sp:=λvs H Q Z=>∃(a:sv) (rs:List zH),vs=[.ref a]/\Is K H (.lst (rs.map dR)) (.ref a)/\qL rs/\∀D H',H D=AR->Same H H'->LsA K H' D ((ovA rs rs.length).map d3)->Q (.ref D) H'
def YD(h1:Is K H (.lst (rs.map dR)) (.ref a))(h2:qL rs)(h:∀D H',H D=AR->Same H H'->LsA K H' D ((ovA rs rs.length).map d3)->Q (.ref D) H'):vT K [.ref a] H Q E:=#[a,rs,rfl,h1,h2,h]
def gY:sQz 1 ["rules","found","i","one","j","other","place"] qi:=by nofun
def Xt(B:Bt mg)(F:("overlaps"^^^qi))(rO:(1<<<"agree") ["one","other","place"] [] ZQ):(2&&&["rules"]) (vT K):=by
 exists F.ok gY
 ·let#[a,rs,rfl,hR,ok,q]:=h
  refine#[_,(zG (zy 1 gY.nd (xh zg)) (zG (zR p8 rfl (xf rfl B.enum (za (pv 0) zg)) (vJ (n:=2) rfl (zZ (zq (i:=2) gY.nd rfl (.inl rfl)) (zZ (zq (i:=3) gY.nd rfl (.inl rfl)) xW))) (ze (zR p8 rfl (xf rfl B.enum (za (pv 0) zg)) (vJ (n:=2) rfl (zZ (zq (i:=4) gY.nd rfl (.inl rfl)) (zZ (zq (i:=5) gY.nd rfl (.inl rfl)) xW))) (ze (zR p8 rfl (Yi rfl B.range (za (wF (zv xA (pv 2) (pv 4) (zx _)) zd zd) (za (zA B.len (!-3)) zg))) (zq (i:=6) gY.nd rfl (.inl rfl)) (ze (zJ (yl (cl0 rO hr .nil rfl (za (!-3) (za (!-5) (za (pv 6) zg)))) (λZ=>rfl)) (ze (yW (wl aX bh bn yy (pv 1) (za (zX (za (pv 2) (za (pv 4) (za (pv 6) zg)))) zg))))
       zr))))))) (ze (zl (pv 1))))),?_]
  have s16:=zW
  rfl'
  erw[Is]at hR
  let#[_,xs,e,hX,hI]:=hR;cases e;refine#[⋯,λD hD=>#[#[_,(zf hD).seq hX],ForEL.by (xs:=xs) (λi σ H'=>∃v2 v3 v4 v5 v6,σ=[!!a,!!D,v2,v3,v4,v5,v6]/\Same H H'/\LsA K H' D ((ovA rs i).map d3)) #[AR,AR,AR,AR,AR,rfl,zf hD,LsA.nil] ?_ ?_ ?_]]
  ·refine nm3 ?_;rintro i σ H' hi ⟨v2,v3,v4,v5,v6,rfl,hs,_⟩:0;exact hs.seq hX
  ·refine nmE ?_;rintro i x σ H' p hx ⟨v2,v3,v4,v5,v6,rfl,hs,hL⟩ hp:_;let#[r,pr,hri,rfl,hqr]:=hI.getR hx;have er:=xE hri;have hr1:=(ok.2 r (ac hri)).1;right
   rfl'
   refine#[_,SqT.of zc,rfl,_,_,rfl,_,_,rfl,rfl,#[_,((hs.trans (zf hp)).seq hX)],ForEL.by (xs:=xs) (λj σ H''=>∃v4 v5 v6,σ=[!!a,!!D,-~~~i,!!pr,v4,v5,v6]/\Same H H''/\LsA K H'' D ((ovA rs i ++ ovI rs i j).map d3)) #[v4,v5,v6,rfl,hs.trans (zf hp),by rw[show ovI rs i 0=[]from rfl,aT];exact hL.same (zf hp)] ?_ ?_ ?_]
   ·refine nm3 ?_;rintro j σ H2 hj ⟨v4,v5,v6,rfl,hs2,_⟩:0;exact hs2.seq hX
   ·refine nmE ?_;rintro j y σ H2 p2 hy ⟨v4,v5,v6,rfl,hs2,hL2⟩ hp2:_;let#[r2,pr2,hri2,rfl,hqr2]:=hI.getR hy;have er2:=xE hri2;have hr2:=(ok.2 r2 (ac hri2)).1;have hs3:=hs2.trans (zf (o:=.tup [.int (j:Nat),.ref pr2]) hp2);have hq1:=zp hs3 hqr;have el:(tx r.1).length=r.1.length:=zI _;right
    rfl'
    refine#[_,SqT.of zc,rfl,_,_,rfl,_,_,rfl,rfl,rfl,yb (λh=>?_) λh=>?_]
    ·have hij:i=j:=by injection h with h;lia
     have z0:Yz rs i j (1+0)=[]:=by
      subst hij;rw[show 1+0=0+1 from rfl,wN];simp [Yz]
     have zn:Yz rs i j (1+((r.1.length:Int) - 1).toNat)=Yz rs i j r.1.length:=by
      by_cases h0:r.1.length=0
      ·rw[h0];exact z0
      ·rw[show 1+((r.1.length:Int) - 1).toNat=r.1.length by lia]
     refine#[_,hq1,_,rfl,_,#[⋯,rfl],∅,∅,⋯,⋯,ForR.by (λt σ H3=>∃v6,σ=[!!a,!!D,-~~~i,!!pr,-~~~j,!!pr2,v6]/\Same H H3/\LsA K H3 D ((ovA rs i ++ ovI rs i j ++ Yz rs i j (1+t)).map d3)) #[v6,rfl,hs3,(by rw[z0,aT];exact hL2.same (zf hp2))] ?_ ?_]
     ·refine nm3 ?_;rintro n σ H3 hn ⟨v6,rfl,hs4,hL4⟩:_;have hn':1+n<r.1.length:=⋯;have en:((1:Int)+(n:Int))=((1+n:Nat):Int):=⋯;right;dsimp only;rw[en];let#[ys,hY,hJ]:=hL4;have hlen:=hJ.len;have l1:=JX ok i;have l2:=Xq ok i j;have l3:=qO rs i j (1+n);have i1:=(AX.mp hri).1;have i2:=(AX.mp hri2).1;have i3:=ok.1
      erw[aa,aj]at hlen
      have es:=wN rs i j (1+n);have etest:(decide (i≠j) || decide (1+n≠0))=AS:=by rw[show decide (1+n≠0)=AS from u6 ⋯,dW]
      rw[etest,gb,er,er2]at es
      rfl'
      refine#[_,zp hs4 hqr,_,rfl,_,zp hs4 hqr2,_,rfl,Y6 ⋯ ⋯ ⋯ #[_,rfl,yb (λhb=>#[.inl #[_,SqL.of hY],⋯,λt ht=>#[_,zf ht _ _ hY,⋯,zu (hs4.trans (zf ht)) hD,?_]]) λhb=>#[hs4,ys,hY,?_]]]
      ·rw[hb,w6 rfl]at es;rw[show 1+(n+1)=1+n+1 by lia,es,<- aQ,am];exact LsA.pushT hY hJ ht ze2 (Vt _) (by erw[z8,xq,and_self])
      ·have hb':xD r.1 r2.1 (1+n)=AT:=by simpa using hb
       rw[hb',w9 aD,aT]at es;rw[show 1+(n+1)=1+n+1 by lia,es];exact hJ
     ·refine nmB ?_;rintro σ H3 ⟨v6,rfl,hs4,hL4⟩:0;refine#[#[_,_,_,rfl],hs4,?_];rw[uw,er,<- aQ];rw[el,zn]at hL4;exact hL4
    ·have hij:i≠j:=λz=>h (by rw[z]);refine#[_,hq1,_,rfl,_,#[⋯,rfl],∅,∅,⋯,⋯,ForR.by (λt σ H3=>∃v6,σ=[!!a,!!D,-~~~i,!!pr,-~~~j,!!pr2,v6]/\Same H H3/\LsA K H3 D ((ovA rs i ++ ovI rs i j ++ Yz rs i j (0+t)).map d3)) #[v6,rfl,hs3,(by rw[show Yz rs i j (0+0)=[]from rfl,aT];exact hL2.same (zf hp2))] ?_ ?_]
     ·refine nm3 ?_;rintro n σ H3 hn ⟨v6,rfl,hs4,hL4⟩:_;have hn':0+n<r.1.length:=⋯;have en:((0:Int)+(n:Int))=((0+n:Nat):Int):=⋯;right;dsimp only;rw[en];let#[ys,hY,hJ]:=hL4;have hlen:=hJ.len;have l1:=JX ok i;have l2:=Xq ok i j;have l3:=qO rs i j (0+n);have i1:=(AX.mp hri).1;have i2:=(AX.mp hri2).1;have i3:=ok.1
      erw[aa,aj]at hlen
      have es:=wN rs i j (0+n);have etest:(decide (i≠j) || decide (0+n≠0))=AS:=by rw[show decide (i≠j)=AS from u6 hij,Bool.true_or]
      rw[etest,gb,er,er2]at es
      rfl'
      refine#[_,zp hs4 hqr,_,rfl,_,zp hs4 hqr2,_,rfl,Y6 ⋯ ⋯ ⋯ #[_,rfl,yb (λhb=>#[.inl #[_,SqL.of hY],⋯,λt ht=>#[_,zf ht _ _ hY,⋯,zu (hs4.trans (zf ht)) hD,?_]]) λhb=>#[hs4,ys,hY,?_]]]
      ·rw[hb,w6 rfl]at es;rw[show 0+(n+1)=0+n+1 by lia,es,<- aQ,am];exact LsA.pushT hY hJ ht ze2 (Vt _) (by erw[z8,xq,and_self])
      ·have hb':xD r.1 r2.1 (0+n)=AT:=by simpa using hb
       rw[hb',w9 aD,aT]at es;rw[show 0+(n+1)=0+n+1 by lia,es];exact hJ
     ·refine nmB ?_;rintro σ H3 ⟨v6,rfl,hs4,hL4⟩:0;refine#[#[_,_,_,rfl],hs4,?_];rw[uw,er,<- aQ];rw[el,show 0+((r.1.length:Int) - 0).toNat=r.1.length by lia]at hL4;exact hL4
   ·refine nmB ?_;rintro σ H2 ⟨v4,v5,v6,rfl,hs2,hL2⟩:_;have e:=hI.len;rw[aa]at e;rw[e,<- qX]at hL2;right;exact#[#[_,_,_,_,_,rfl],hs2,hL2]
  ·refine nmB ?_;rintro σ H' ⟨v2,v3,v4,v5,v6,rfl,hs,hL⟩:_;have e:=hI.len;rw[aa]at e;rw[e]at hL;right
   rfl'
   exact q D H' hD hs hL
def yu(l m:())(k:Nat):():=l ++ m.drop (l.length - k)
def uh(l m:())(k:Nat)(hk:k<=l.length):(yu l m k).length=max l.length (k+m.length):=by unfold yu;rw[aj,aS];lia
def kP(l m:())(k:Nat):zw (yu l m k) 0 l=AS:=by unfold zw yu;refine u6 #[∅,by rw[aj];lia,?_];rw[show (0:Int).toNat=0 from rfl,dw,bw (al _),aI]
def j2(hk:k<=l.length)(h:xD l m k=AS):zw (yu l m k) (k:Nat) m=AS:=by
 unfold xD at h;rw[decide_eq_true_eq]at h;have hl:=uh l m k hk;unfold zw;refine u6 #[⋯,⋯,?_];rw[show ((k:Nat):Int).toNat=k from rfl];unfold yu;rw[cB hk];by_cases hm:m.length<=l.length - k
 ·rw[bw (by rw[aS];lia),h,aW hm]
 ·rw[aW (by rw[aS];lia)]at h;rw[h,bW,aI]
def Kd(h:t ∈ Yz rs i j n):t.1=i/\t.2.1=j/\t.2.2<n/\xD (lf rs i) (lf rs j) t.2.2=AS:=by unfold Yz at h;let#[k,hk,rfl]:=AY.mp h;rw[List.mem_filter,fM,ba]at hk;exact#[rfl,rfl,hk.1,hk.2.2]
def jC(h:t ∈ ovA rs rs.length):t.1<rs.length/\t.2.1<rs.length/\t.2.2<(lf rs t.1).length/\xD (lf rs t.1) (lf rs t.2.1) t.2.2=AS:=by unfold ovA ovI at h;let#[i,hi,h]:=Bm.mp h;let#[j,hj,h]:=Bm.mp h;let#[e1,e2,e3,e4]:=Kd h;rw[e1,e2];exact#[Bc.mp hi,Bc.mp hj,e3,e4]
def Zp(K:su):Sp:=λvs H Q Z=>∃(a t:sv) (rs:List zH) (i j k:Nat) (r r2:zH),vs=[.ref a,.ref t]/\Is K H (.lst (rs.map dR)) (.ref a)/\SqT K H t [.int (i:Nat),.int (j:Nat),.int (k:Nat)]/\qL rs/\rs[i]? = AQ r/\rs[j]? = AQ r2/\k<=r.1.length/\xD r.1 r2.1 k=AS /\
 ∀p H',H p=AR->Same H H'->H' p=AQ (.tup [⇑(yu r.1 r2.1 k),⇑(yX (yu r.1 r2.1 k) 0 r.1 r.2),⇑(yX (yu r.1 r2.1 k) (k:Nat) r2.1 r2.2)])->Q (.ref p) H'
def WD(h1:Is K H (.lst (rs.map dR)) (.ref a))(h2:SqT K H t [.int (i:Nat),.int (j:Nat),.int (k:Nat)])(h3:qL rs)(h4:rs[i]? = AQ r)(h5:rs[j]? = AQ r2)(h6:k<=r.1.length)(h7:xD r.1 r2.1 k=AS)(h:∀p H',H p=AR->Same H H'->H' p=AQ (.tup [⇑(yu r.1 r2.1 k),⇑(yX (yu r.1 r2.1 k) 0 r.1 r.2),⇑(yX (yu r.1 r2.1 k) (k:Nat) r2.1 r2.2)])->Q (.ref p) H'):Zp K [.ref a,.ref t] H Q E:=#[a,t,rs,i,j,k,r,r2,rfl,h1,h2,h3,h4,h5,h6,h7,h]
def JL(h1:l.length<=10000)(h2:o.length<=10000)(h3:n.length<=10000)(hs:zw l k o=AS)(q:Q ⇑(yX l k o n) H):Wv CU [⇑l,.int k,⇑o,⇑n] H Q E:=#[l,o,n,k,rfl,h1,h2,h3,λZ=>q,λh=>by rw[hs]at h;cases h]
def ng:sQz 2 ["rules","overlap","one","other","place","word"] JM:=by nofun
def zcV(B:Bt mg)(F:("peak"^^^JM))(pQ:(3>>>"put") ["word","place","old","new"] [] (Wv CU)):(4&&&["rules","overlap"]) (Zp K):=by
 exists F.ok ng
 ·let#[a,t,rs,i,j,k,r,r2,rfl,hR,ht,ok,hr1,hr2,hk,hag,q]:=h
  refine#[_,(zh (zy 2 ng.nd (zk ix_list (pv 0) (!-1))) (zh (zy 3 ng.nd (zk ix_list (pv 0) (!-1))) (zh (zy 4 ng.nd (!-1)) (zh (zy 5 ng.nd (zD zS (!-2) (zP zaJ (!-3) (zO (zD wc (zA B.len (!-2)) (pv 4))) yo))) (ze (zl (zX (za (pv 5) (za (clP xe0 pQ hr .nil rfl (za (pv 5) (za zd (za (!-2) (za (!-2) zg))))) (za (clP xe0 pQ hr .nil rfl (za (pv 5) (za (pv 4) (za (!-3) (za (!-3) zg))))) zg)))))))))),?_]
  have s16:=zW
  erw[Is]at hR
  let#[_,xs,e,hX,hI]:=hR;cases e;let#[p1,a1,q1]:=zfV hI hr1;let#[p2,a2,q2]:=zfV hI hr2;have b1:=ok.2 r (ac hr1);have b2:=ok.2 r2 (ac hr2);change H'=H/\σ=[!!a,!!t,!!p1,AR,AR,AR]
  ·rfl'
   exact#[_,ht,_,rfl,_,rfl,_,hX,a1]
  rintro σ H1 ⟨rfl,rfl⟩:0;change H'=H1/\σ=[!!a,!!t,!!p1,!!p2,AR,AR]
  ·rfl'
   exact#[_,ht,_,rfl,_,rfl,_,hX,a2]
  rintro σ H2 ⟨rfl,rfl⟩:0;change H'=H2/\σ=[!!a,!!t,!!p1,!!p2,-~~~k,AR]
  ·rfl'
   exact#[_,ht,rfl]
  rintro σ H3 ⟨rfl,rfl⟩:0;change H'=H3/\σ=[!!a,!!t,!!p1,!!p2,-~~~k,AQ ⇑(yu r.1 r2.1 k)]
  ·rfl'
   refine#[_,q1,_,rfl,_,q2,_,rfl,_,q1,_,rfl,_,#[by rw[zI];lia,rfl],#[by rw[zI];lia,_,rfl,_,rfl,?_,rfl,?_]]
   ·erw[zI,jv]
    have:=vb r2.1 (AQ ((r.1.length:Int) - (k:Int))) AR;lia
   ·rw[zI,jv,yR,xp _ ⋯,show ((r.1.length:Int) - (k:Int)).toNat=r.1.length - k by lia];rfl
  rintro σ H4 ⟨rfl,rfl⟩:_;have hw:=uh r.1 r2.1 k hk;right
  rfl'
  exact#[_,q1,_,rfl,_,q1,_,rfl,JL ⋯ ⋯ ⋯ (kP _ _ _) #[_,q2,_,rfl,_,q2,_,rfl,JL ⋯ ⋯ ⋯ (j2 hk hag) #[⋯,λp hp=>q p _ hp (zf hp) zc]]]
def FmOk(ps:List zH)(most:Int)(m:sF->Option V):Prop:=∀k v,m k=AQ v->∃(w:()) (J:Nat),k=tx w/\v=⇑(wAt ps w J)/\kD ps w J/\zF (wAt ps w J) ps=AR/\(J:Int)<=most
def FmOk.get(h:FmOk ps most m){w:()}(e:m (tx w)=AQ v)(hl:kD ps w J)(hf:zF (wAt ps w J) ps=AR):v=⇑(wAt ps w J):=by let#[w',J',e1,e2,e3,e4,_]:=h _ _ e;have e5:=wJ e1;subst e5;rw[e2,uH e3 e4 hl hf]
def FmOk.put(h:FmOk ps most m){w:()}(hl:kD ps w J)(hf:zF (wAt ps w J) ps=AR)(hJ:(J:Int)<=most):FmOk ps most (λx=>if x=tx w then AQ ⇑(wAt ps w J)else m x):=λk v e=>by
 by_cases hk:k=tx w
 ·erw[hk,if_true]at e
  cases e;exact#[w,J,hk,rfl,hl,hf,hJ]
 ·erw[hk,if_false]at e
  exact h k v e
def X2(P:sH)(w:sM)(K:su)(CF:sv):Sp:=λvs H Q E=>∃(a F:sv) (l:()) (ps:List zH) (m:Int) (J n:Nat) (mp:sF->Option V),vs=[.ref a,⇑l,.int m,.ref F]/\LsA K H a (ps.map dR)/\NeL ps/\ps.length<=100/\(∀p ∈ ps,p.1.length<=1000/\p.2.length<=1000)/\Rd ps l J/\H F=AQ (ka P w F mp n)/\FmOk ps m mp/\n<=10000 /\
 ((zF (wAt ps l J) ps=AR/\(J:Int)<=m/\∀(mp':sF->Option V) (n':Nat) (H':Hp),SamT F H H'->H' F=AQ (ka P w F mp' n')->FmOk ps m mp'->n'<=n+1->Q ⇑(wAt ps l J) H') \/
  (zF (wAt ps l J) ps≠AR/\(J:Int)=m/\∀H',Same H H'->E (.ref CF) AR H'))
def VJ:sQz 4 ["rules","word","most","forms"] jK:=by nofun
def Uh(B:Bt mg)(F:("form_of"^^^jK))(mY:(4>>>"gone") ["rules","word","most"] [] (xX K CF))(DD_gone:(4>>>"gone") ["rules","word","most"] [.int 4000 mZ] (xX K CF)):(5|||["rules","word","most","forms"]) (X2 P w K CF):=by
 exists Fun.okX F VJ,0
 ·let#[a,F0,l,ps,m,J,n,mp,rfl,hA,hN,hpl,hP,hR,hF,hM,hn,hq]:=h
  refine#[_,(zh (zJ (zv J9 (pv 1) (pv 3) (by with_unfolding_all rfl)) (ze (JV (zk t7 (clP hx mY hr .nil rfl (za (pv 0) (za (pv 1) (za (pv 2) zg)))) zd) (QR (pv 3) (pv 1) zaj (by intro _;rfl))))
    zr) (ze (zl (zk zbW (pv 3) (pv 1))))),?_]
  have s16:=zW;change SamT F0 H H'/\zF (wAt ps l J) ps=AR/\(J:Int)<=m/\(∃(mp':sF->Option V) (n':Nat),H' F0=AQ (ka P w F0 mp' n')/\FmOk ps m mp'/\n'<=n+1/\mp' (tx l)=AQ ⇑(wAt ps l J))/\σ=[!!a,~~~l,~~~!m,!!F0]
  ·rfl'
   refine#[F0,mp,n,tx l,rfl,rfl,hF,_,rfl,yb (λhnone=>#[a,l,ps,m,J,rfl,hA,hN,hpl,hP,hR,?_]) λhsome=>?_]
   ·rcases hq with ⟨hf,hJ,_⟩ | h
    ·refine .inl #[hf,hJ,λp S H' s' hp Z Z=>#[p,rfl,_,SqT.of hp,_,rfl,?_]]
     erw[zfa]
     rfl'
     exact#[F0,mp,n,tx l,rfl,rfl,s' _ _ hF,⋯,λb o hb e=>by rw[zt hb];exact s' _ _ e,hf,hJ,_,_,zc,hM.put hR.live hf hJ,al _,w6 rfl]
    ·exact .inr h
   ·cases hv:mp (tx l)with
    | none=>rw[hv]at hsome;exact w4 rfl hsome
    | some v =>
     let#[w',J',e1,e2,e3,e4,e5]:=hM _ _ hv;have e6:=wJ e1;subst e6;rcases hq with ⟨hf,hJ,_⟩ | ⟨hf,hJ,_⟩
     ·exact#[λb o Z e=>e,hf,hJ,mp,n,hF,hM,⋯,by rw[hM.get hv hR.live hf]at hv;exact hv]
     ·exfalso;rcases dX J' J with h | h
      ·exact hR.live J' h e4
      ·have:J'=J:=⋯;subst this;exact hf e4
  rintro σ H1 ⟨s1,hf,hJ,⟨mp',n',h1,h2,h3,h4⟩,rfl⟩:0
  rfl'
  refine#[F0,mp',n',tx l,_,rfl,rfl,h1,h4,?_];rcases hq with ⟨_,_,q⟩ | ⟨h,_⟩
  ·exact q mp' n' H1 s1 h1 h2 h3
  ·exact w4 hf h
def pkA(ps:List zH)(t:N3):():=yX (yu (lf ps t.1) (lf ps t.2.1) t.2.2) 0 (lf ps t.1) (ps.getD t.1 ([],[])).2
def pkB(ps:List zH)(t:N3):():=yX (yu (lf ps t.1) (lf ps t.2.1) t.2.2) (t.2.2:Nat) (lf ps t.2.1) (ps.getD t.2.1 ([],[])).2
inductive zdc(ps:List zH)(m:Int)(l:()):Option Nat->Prop where
 | yes {J:Nat} (h:Rd ps l J) (h1:zF (wAt ps l J) ps=AR) (h2:(J:Int)<=m):zdc ps m l (AQ J)
 | no {J:Nat} (h:Rd ps l J) (h1:zF (wAt ps l J) ps≠AR) (h2:(J:Int)=m):zdc ps m l AR
def Yc(P:sH)(w:sM)(K:su)(CF:sv):Sp:=λvs H Q E=>∃(a t F:sv) (ps:List zH) (tr:N3) (m:Int) (n:Nat) (mp:sF->Option V) (g1 g2:Option Nat),vs=[.ref a,.ref t,.int m,.ref F]/\LsA K H a (ps.map dR)/\NeL ps/\qL ps/\SqT K H t [.int (tr.1:Nat),.int (tr.2.1:Nat),.int (tr.2.2:Nat)]/\tr ∈ ovA ps ps.length/\H F=AQ (ka P w F mp n)/\FmOk ps m mp/\n<=9000/\zdc ps m (pkA ps tr) g1/\zdc ps m (pkB ps tr) g2 /\
 (∀(J1 J2:Nat) (mp':sF->Option V) (n':Nat) (H':Hp),g1=AQ J1->g2=AQ J2->SamT F H H'->H' F=AQ (ka P w F mp' n')->FmOk ps m mp'->n'<=n+2->Q (.bl (decide (wAt ps (pkA ps tr) J1=wAt ps (pkB ps tr) J2))) H') /\
 ((g1=AR\/g2=AR)->∀H',SamT F H H'->E (.ref CF) AR H')
theorem Vw(hA:LsA K H a (ps.map dR))(hN:NeL ps)(hok:qL ps)(hF:H F=AQ (ka P w F mp n))(hM:FmOk ps m mp)(hn:n<=10000)(hg:zdc ps m l g)(h1:∀(J:Nat) (mp':sF->Option V) (n':Nat) (H':Hp),g=AQ J->SamT F H H'->H' F=AQ (ka P w F mp' n')->FmOk ps m mp'->n'<=n+1->Q ⇑(wAt ps l J) H')(h2:g=AR->∀H',Same H H'->E (.ref CF) AR H'):X2 P w K CF [.ref a,⇑l,.int m,.ref F] H Q E:=by
 have hP:∀p ∈ ps,p.1.length<=1000/\p.2.length<=1000:=λp hp=>by have:=hok.2 p hp;lia
 have hl:ps.length<=100:=by have:=hok.1;lia
 cases hg with
 | yes h e1 e2=>exact#[a,F,l,ps,m,_,n,mp,rfl,hA,hN,hl,hP,h,hF,hM,hn,.inl #[e1,e2,λmp' n' H' a1 a2 a3 a4=>h1 _ mp' n' H' rfl a1 a2 a3 a4]]
 | no h e1 e2=>exact#[a,F,l,ps,m,_,n,mp,rfl,hA,hN,hl,hP,h,hF,hM,hn,.inr #[e1,e2,h2 rfl]]
def j6(s:SamT F H H')(hF:H F=AQ (ka P w F mp n))(h:SqT K H t xs):SqT K H' t xs:=by
 rcases h with (h | ⟨o,h⟩) | h
 ·exact .inl (.inl (s _ _ (λz=>by rw[z,hF]at h;cases h) h))
 ·exact .inl (.inr #[o,s _ _ (λz=>by rw[z,hF]at h;cases h) h])
 ·exact .inr h
def Vz{ps:List zH}(s:SamT F H H')(hF:H F=AQ (ka P w F mp n))(h:LsA K H a (ps.map dR)):LsA K H' a (ps.map dR):=by
 let#[xs,h1,h2]:=h;refine#[xs,s _ _ (λz=>by rw[z,hF]at h1;cases h1) h1,?_]
 have key:∀(qs:List zH) (vs:List V),Iss K H (qs.map dR) vs->Iss K H' (qs.map dR) vs:=by
  intro qs
  induction qs with
  | nil=>intro vs h;erw[aH,Iss]at h ⊢;exact h
  | cons q qs ih =>
   intro vs h
   erw[ao,Iss]at h ⊢
   let#[v,r,e,h3,h4]:=h;let#[p,rfl,h5]:=zea h3;exact#[_,r,e,Uj (j6 s hF h5),ih r h4]
 exact key ps xs h2
def mN:sQz 4 ["rules","overlap","most","forms","sides","one","other"] ZA:=by nofun
def UF(B:Bt mg)(F:("is_met"^^^ZA))(pV:(4<<<"peak") ["rules","overlap"] [] (Zp K))(pE:(5>>>"form_of") ["rules","word","most","forms"] [] (X2 P w K CF)):(6|||["rules","overlap","most","forms"]) (Yc P w K CF):=by
 exists Fun.okX F mN,0
 ·let#[a,t,F0,ps,tr,m,n,mp,g1,g2,rfl,hA,hN,hok,ht,htr,hF,hM,hn,hg1,hg2,q1,q2]:=h
  refine#[_,(zh (zy 4 mN.nd (cl0 pV hr .nil rfl (za (pv 0) (za (pv 1) zg)))) (zh (zy 5 mN.nd (clP hx pE hr .nil rfl (za (pv 0) (za (!-4) (za (pv 2) (za (pv 3) zg)))))) (zh (zy 6 mN.nd (clP hx pE hr .nil rfl (za (pv 0) (za (!-4) (za (pv 2) (za (pv 3) zg)))))) (ze (zl (yi xA (pv 5) (pv 6) (zx _))))))),?_]
  have s16:=zW;let#[i1,i2,i3,i4]:=jC htr;obtain⟨r,hr⟩:∃r,ps[tr.1]? = AQ r:=#[_,af i1];obtain⟨r2,hr2⟩:∃r,ps[tr.2.1]? = AQ r:=#[_,af i2];have l1:=xE hr;have l2:=xE hr2;have d1:ps.getD tr.1 ([],[])=r:=by rw[ae,hr];rfl
  have d2:ps.getD tr.2.1 ([],[])=r2:=by rw[ae,hr2];rfl
  have eA:pkA ps tr=yX (yu r.1 r2.1 tr.2.2) 0 r.1 r.2:=by unfold pkA;rw[l1,l2,d1]
  have eB:pkB ps tr=yX (yu r.1 r2.1 tr.2.2) (tr.2.2:Nat) r2.1 r2.2:=by unfold pkB;rw[l1,l2,d2]
  rw[l1]at i3;rw[l1,l2]at i4;change Same H H'/\∃p:sv,(∃x,H' p=AQ (.tup [x,⇑(pkA ps tr),⇑(pkB ps tr)]))/\σ=[!!a,!!t,~~~!m,!!F0,!!p,AR,AR]
  ·rfl'
   exact WD hA.is ht hok hr hr2 ⋯ i4 λp H' Z s' hp=>#[s',p,#[_,by rw[eA,eB];exact hp],rfl]
  rintro σ H1 ⟨s1,p,⟨x,hp⟩,rfl⟩:_;have hF1:=s1 _ _ hF;right;change SamT F0 H1 H'/\∃(J1:Nat),g1=AQ J1/\(∃mp' n',H' F0=AQ (ka P w F0 mp' n')/\FmOk ps m mp'/\n'<=n+1)/\σ=[!!a,!!t,~~~!m,!!F0,!!p,AQ ⇑(wAt ps (pkA ps tr) J1),AR]
  ·rfl'
   refine#[_,SqT.of hp,_,rfl,Vw (hA.same s1) hN hok hF1 hM ⋯ hg1 (λJ mp' n' H' e a1 a2 a3 a4=>?_) λe H' s'=>q2 (.inl e) H' (SamT.of (s1.trans s'))];exact#[a1,J,e,#[mp',n',a2,a3,a4],rfl]
  rintro σ H2 ⟨s2,J1,e1,⟨mp1,n1,hF2,hM2,hn2⟩,rfl⟩:_;have s12:SamT F0 H H2:=(SamT.of s1).trans s2;have hpF:p≠F0:=λz=>by rw[z,hF1]at hp;cases hp
  right;change SamT F0 H2 H'/\∃(J2:Nat),g2=AQ J2/\(∃mp' n',H' F0=AQ (ka P w F0 mp' n')/\FmOk ps m mp'/\n'<=n+2)/\σ=[!!a,!!t,~~~!m,!!F0,!!p,AQ ⇑(wAt ps (pkA ps tr) J1),AQ ⇑(wAt ps (pkB ps tr) J2)]
  ·rfl'
   exact#[_,SqT.of (s2 _ _ hpF hp),_,rfl,Vw (Vz s2 hF1 (hA.same s1)) hN hok hF2 hM2 ⋯ hg2 (λJ mp' n' H' e a1 a2 a3 a4=>#[a1,J,e,#[mp',n',a2,a3,⋯],rfl]) λe H' s'=>q2 (.inr e) H' (s12.trans (SamT.of s'))]
  rintro σ H3 ⟨s3,J2,e2,⟨mp2,n2,hF3,hM3,hn3⟩,rfl⟩:0
  rfl'
  exact q1 J1 J2 mp2 n2 H3 e1 e2 (s12.trans s3) hF3 hM3 hn3
def Zx(K:su)(CH:sv):Sp:=λvs H Q Z=>∃(y o q:sv) (ps:List zH),vs=[.ref y]/\Kc K CH H y o q ps/\∀(r:sv) (H':Hp),Same H H'->LsA K H' r (ps.map dR)->H r=AR->Q (.ref r) H'
def vI:sQz 1 ["self"] yG:=by nofun
def vG(B:Bt mg)(TS:zd9 K mg CH)(F:Fun K "rules_told" "System.rules_told" yG f fd):(1&&&["self"]) (Zx K CH):=by
 exists F.ok vI
 ·let#[y,o,q,ps,rfl,hy,k]:=h;refine#[_,(ze (zl (vh xF rfl B.list PySem.Pv.boot_list (za (jg (pv 0) rfl) zg)))),?_];have s16:=zW
  rfl'
  let#[dx,xs,h1,h2,h3]:=hy;exact#[_,_,_,h1,TS.cl,TS.nr,_,rfl,_,rfl,_,.inl (SqL.of h2),λr hr'=>k r _ (zf hr') #[xs,zc,Iss.same (zf hr') _ _ h3] hr']
def goJ(ps:List zH)(m:Nat)(v:()):Option Nat:=(aJ (m+1)).find? λj=>(zF (wAt ps v j) ps).isNone
def Vc(e:goJ ps m v=AQ i):i<=m/\kD ps v i/\zF (wAt ps v i) ps=AR:=by
 unfold goJ at e;have h1:=dZ e;have h2:zF (wAt ps v i) ps=AR:=Br.mp h1;have hm:=Bc.mp (eV e);refine#[⋯,λn hn hno=>?_,h2];let#[_,as,bs,e2,h3]:=List.find?_eq_some_iff_append.mp e
 have hlen:as.length=i:=by
  have:=congrArg (λl=>l[as.length]?) e2
  erw[bF (al _),d4,cP]at this
  let#[h7,h8]:=AX.mp this;rw[eJ]at h8;exact h8
 have h9:(aJ (m+1))[n]? = as[n]?:=by rw[e2,bU ⋯]
 have h10:n<(aJ (m+1)).length:=by rw[bL];lia
 rw[af h10,eJ]at h9;have:=h3 n (ac h9.symm);rw[hno]at this;cases this
def Va(e:goJ ps m v=AR):∀j,j<=m->zF (wAt ps v j) ps≠AR:=λj hj hno=>by
 unfold goJ at e;have:=Bw.mp e j (Bc.mpr ⋯);rw[hno]at this;exact this rfl
theorem QZ(hl:∀j,j<=m->(wAt ps v j).length<=10000)(hm:m<=10000):zdc ps (m:Int) v (goJ ps m v):=by
 cases e:goJ ps m v with
 | some i =>
  let#[h1,h2,h3]:=Vc e;exact .yes #[h2,λj hj=>hl j ⋯,⋯] h3 ⋯
 | none =>
  have h:=Va e;exact .no (J:=m) #[λi hi=>h i ⋯,λj hj=>hl j hj,hm] (h m (al _)) rfl
def zfg(ps:List zH)(m:Nat)(v:()):():=wAt ps v ((goJ ps m v).getD 0)
def X8(ps:List zH)(m:Nat)(t:N3):Bool:=decide (zfg ps m (pkA ps t)=zfg ps m (pkB ps t))
def OkG(ps:List zH)(m:Nat)(t:N3):Prop:=(goJ ps m (pkA ps t)).isSome=AS/\(goJ ps m (pkB ps t)).isSome=AS
def zgY(ps:List zH)(m:Nat):Prop:=m<=10000/\∀t ∈ ovA ps ps.length,(∀j,j<=m->(wAt ps (pkA ps t) j).length<=10000)/\∀j,j<=m->(wAt ps (pkB ps t) j).length<=10000
def zcu(e1:goJ ps m (pkA ps t)=AQ J1)(e2:goJ ps m (pkB ps t)=AQ J2):decide (wAt ps (pkA ps t) J1=wAt ps (pkB ps t) J2)=X8 ps m t:=by unfold X8 zfg;rw[e1,e2];rfl
def zeH(h:goJ ps m (pkA ps t)=AR\/goJ ps m (pkB ps t)=AR):¬ OkG ps m t:=λho=>by
 let#[h1,h2]:=ho;rcases h with h | h
 ·rw[h]at h1;cases h1
 ·rw[h]at h2;cases h2
def FmOk.nil : FmOk ps m λZ=>AR:=λk v e=>by cases e
theorem YR(s:SamT F H H')(hF:H F=AQ (ka P w F mp n)):∀{ts:List N3} {vs:List V},Iss K H (ts.map d3) vs->Iss K H' (ts.map d3) vs
 | [],vs,h=>by erw[aH,Iss]at h ⊢;exact h
 | t::ts,vs,h=>by
  erw[ao,Iss]at h ⊢
  let#[v,r,e,h3,h4]:=h;refine#[v,r,e,?_,YR s hF h4]
  erw[d3,Is]at h3 ⊢
  let#[a,xs,e1,e2,e3]:=h3;refine#[a,xs,e1,j6 s hF e2,?_]
  erw[Iss,Is]at e3 ⊢
  exact e3
def unG(ps:List zH)(m:Nat):List N3:=(ovA ps ps.length).filter λt=>!X8 ps m t
def uJ(K:su)(CH CF:sv):Sp:=λvs H Q E=>∃(y o q:sv) (ps:List zH) (m:Nat),vs=[.ref y,.int (m:Nat)]/\Kc K CH H y o q ps/\NeL ps/\qL ps/\(ovA ps ps.length).length<=4000/\zgY ps m /\
 ((∀t ∈ ovA ps ps.length,OkG ps m t)->∀D H',Same H H'->H D=AR->LsA K H' D ((unG ps m).map d3)->Q (.ref D) H')/\(∀t ∈ ovA ps ps.length,¬ OkG ps m t->∀H',Same H H'->E (.ref CF) AR H')
def ou:sQz 2 ["system","most","rules","forms"] xT:=by nofun
def zab(B:Bt mg)(TS:zd9 K mg CH)(F:FunD K "unmet" "unmet" xT dV f fd)(rp:(2<<<"overlaps") ["rules"] [] (vT K))(rH:(6>>>"is_met") ["rules","overlap","most","forms"] [] (Yc P w K CF))(M_system_rules_told:DM P w K mg base CX0 1 CH "rules_told" ["self"] (Zx K CH)):(7|||["system","most"]) (uJ K CH CF):=by
 exists FunD.okX F ou,0
 ·let#[y,o,q,ps,m,rfl,hy,hN,hok,hlen,hE,k1,k2]:=h
  refine#[_,(zh (xH (i:=2) ou.nd rfl (Or.inr rfl) (me0 M_system_rules_told TS.cl hr (pv 0))) (zh (xH (i:=3) ou.nd rfl (Or.inr rfl) zcn) (ze (zl (Yg (EX:=E) (own:=["overlap"]) (caps:=["rules","most","forms"]) (ix:=[2,1,3]) (tt:=(zdi (tBl (uc (Yc P w K CF) [] E (zK (ya 1) (zK (ya 0) (zK (ya 2) (zK (ya 3) xv)))))))) (te:=(ya 0)) rfl (zM (sc:=zi xT) rfl (!0) (!0) (!0) rfl (!0) (!0) rfl) #[rfl,rfl] hx (zY (cl0 rp hr .nil rfl (za (pv 2) zg))) (λZ Z Z Z Z Z=>zq (i:=0) (show List.Nodup [_,_,_,_] by decide) rfl (.inl rfl)) (λZ Z Z Z Z Z Z hx'=>(UC (yf (yl (clP hx' rH hr .nil rfl (za (pv 1) (za (pv 0) (za (pv 2) (za (pv 3) zg))))) (λZ=>rfl))))) (λZ Z Z Z Z Z Z Z=>(pv 0))))))),?_]
  have s16:=zW;let#[dx,xs0,h1,h2,h3]:=id hy;change Same H H'/\∃r:sv,LsA K H' r (ps.map dR)/\σ=[!!y,-~~~m,!!r,AR]
  ·rfl'
   exact#[_,_,h1,rfl,y,o,q,ps,rfl,hy,λr H1 s1 hA hr'=>#[s1,r,hA,rfl]]
  rintro σ H1 ⟨s1,r,hA,rfl⟩:0;change Same H H'/\LsA K H' r (ps.map dR)/\∃F:sv,H F=AR/\H' F=AQ (ka P w F (λZ=>AR) 0)/\σ=[!!y,-~~~m,!!r,!!F]
  ·rfl'
   erw[ze5]
   intro F hF;have s2:=zf (o:=ka P w F (λZ=>AR) 0) hF
   rfl'
   exact#[s1.trans s2,hA.same s2,F,s1.free hF,zc,rfl]
  rintro σ H2 ⟨s2,hA2,F,hF0,hF,rfl⟩:0
  rfl'
  refine YD hA2.is hok λO H3 hO s3 hL=>#[O,rfl,?_,λD hD=>?_]
  ·let#[xs,hX,_]:=hL;exact#[_,SqL.of hX]
  let#[xs,hX,hI]:=hL;have hxl:=hI.len;rw[aa]at hxl;have hF3:=s3 _ _ hF;have s03:=s2.trans s3;have hDF:D≠F:=λz=>by rw[z,hF3]at hD;cases hD
  have hOF:O≠F:=λz=>by rw[z,hF3]at hX;cases hX
  have back:∀{G:Hp},SamT F H3 G->Same H G:=λ{G} sT b o' e=>sT b o' (λz=>by rw[z,hF0]at e;cases e) (s03 b o' e);refine CompL.by (xs:=xs) (λi AW H'=>SamT F H3 H'/\H' D=AQ (.lst AW)/\(∃(mp:sF->Option V) (n:Nat),H' F=AQ (ka P w F mp n)/\FmOk ps (m:Nat) mp/\n<=2 * i)/\Iss K H3 ((((ovA ps ps.length).take i).filter λt=>!X8 ps m t).map d3) AW/\∀t ∈ (ovA ps ps.length).take i,OkG ps m t) #[SamT.of (zf hD),zc,#[_,0,by rw[zt (λz=>hDF z.symm)];exact hF3,FmOk.nil,⋯],by erw[bu,dm,aH,Iss],λt ht=>by simp at ht] (λi AW H' Z h=>SqL.of (h.1 _ _ hOF hX)) ?_ ?_
  ·refine nm4 ?_;rintro i x AW H' hx ⟨sT,hH,⟨mp,n,hFm,hM,hn⟩,hI',hle⟩:_;have hil:=(AX.mp hx).1;let#[t,p,ht,rfl,hp]:=hI.get3 hx;have htm:=ac ht;have hE':=hE.2 t htm
   have hal:AW.length<=i:=by
    have:=hI'.len;rw[aa]at this;have h5:=db (λt=>!X8 ps m t) ((ovA ps ps.length).take i);rw[aC]at h5;lia
   right
   erw[zdi,tBl]
   rfl'
   refine#[yx,r,p,F,ps,t,(m:Nat),n,mp,_,_,rfl,Vz sT hF3 (hA2.same s3),hN,hok,j6 sT hF3 hp,htm,hFm,hM,⋯,QZ hE'.1 hE.1,QZ hE'.2 hE.1,λJ1 J2 mp' n' H5 e1 e2 s5 hF5 hM5 hn5=>?_,λh H5 s5=>k2 t htm (zeH h) H5 (back (sT.trans s5))]
   have hle':∀t' ∈ (ovA ps ps.length).take (i+1),OkG ps m t':=λt' ht'=>by
    rw[zQ ht]at ht';rcases Ba.mp ht' with h | h
    ·exact hle t' h
    ·rw[Bb.mp h];exact#[by rw[e1];rfl,by rw[e2];rfl]
   rw[zcu e1 e2]
   have hcase:∀b,X8 ps m t=b->(!b)=AS->Iss K H3 ((((ovA ps ps.length).take (i+1)).filter λt=>!X8 ps m t).map d3) (AW ++ [.ref p]):=λb hb hb'=>by
    rw[zQ ht,cX,am];refine Iss.append hI' ?_;rw[fh,hb,w6 hb']
    erw[dm,ao,aH,Iss]
    refine#[_,[],rfl,?_,rfl]
    erw[d3,Is,Iss]
    exact#[p,_,rfl,hp,_,_,rfl,rfl,_,_,rfl,rfl,_,_,rfl,rfl,rfl]
   refine#[_,rfl,?_]
   cases hb:X8 ps m t with
   | false =>
    rw[w6 rfl];refine#[s5 _ _ hDF hH,⋯,CNx.mk hil #[λb o' hbF e=>?_,zc,#[mp',n',by rw[zt (λz=>hDF z.symm)];exact hF5,hM5,⋯],hcase _ hb rfl,hle']];rw[zt (λz=>by rw[z,hD]at e;cases e)];exact s5 b o' hbF (sT b o' hbF e)
   | true =>
    rw[w9 ∅];refine CNx.mk hil #[sT.trans s5,s5 _ _ hDF hH,#[mp',n',hF5,hM5,⋯],?_,hle'];rw[zQ ht,cX,fh,hb]
    erw[fZ,be,if_false,dm,aT]
    exact hI'
  ·refine nmB ?_;rintro AW H' ⟨sT,hH,_,hI',hle⟩:_;rw[hxl,aI]at hI' hle;right;exact k1 hle D H' (back sT) (s03.free hD) #[AW,hH,YR sT hF3 hI']
theorem zbT(h:SqT K H p [a,b])(k:R ((σ.set i (AQ a)).set j (AQ b)) H):zdh K 2 (YG (yt i) (YG (yt j) zdf)) (.ref p) σ H R:=by
 erw[zdh,YG,yt,zdf]
 first
 | exact⟨_,_,rfl,h,rfl,_,_,rfl,_,_,rfl,rfl,k⟩
 | exact⟨_,_,rfl,.inr h,rfl,_,_,rfl,_,_,rfl,rfl,k⟩
theorem EnsA.app(hf:EnsA K H fs us):∀{es:List Ent} {vs:List V},EnsA K H es vs->EnsA K H (es ++ fs) (vs ++ us)
 | [],vs,h=>by
  erw[EnsA]at h
  subst h;exact hf
 | e::es,vs,h=>by
  erw[EnsA]at h
  let#[x,r,rfl,hx,hr]:=h
  erw[bD,EnsA]
  exact#[x,r ++ us,rfl,hx,hf.app hr]
abbrev MkS(P:sH)(w:sM)(K:su)(mg:sF->Option sw)(base:sV)(CO CR CW CT CH:sv):Prop:=DMk P w K mg base (CXx P w) 5 CH ["self","order","rules"] (qZ K CO CR CW CT CH)
def zcB{Q:sv->Hp->Prop}{CO CR CW CT CH o a:sv}(ho:OrdAt CO CR CW H o k l ns)(hG:OG l ns k)(hA:LsA K H a (ps.map dR))(hin:InL l ps)(hf:wT k l ns ps 0=AR)(q:∀(y qa:sv) (H':Hp),Same H H'->Kc K CH H' y o qa ps->Q y H'):∀x dx,H x=AR->H dx=AR->dx≠x->qZ K CO CR CW CT CH [.ref x,.ref o,.ref a] (upd (upd H dx (.own x)) x (.ins CH dx [])) (λv H'=>v=.non/\Q x H') E0:=by
 intro x dx hx hdx hne;let#[xs,hX,hI]:=hA;have sd:=zf (o:=.own x) hdx
 have k1:Same H (upd (upd H dx (.own x)) x (.ins CH dx [])):=λb' o' e=>by
  rw[zt (zN e hx)];exact sd _ _ e
 refine#[x,dx,o,a,k,l,ns,ps,xs,rfl,zc,ho.same k1,hG,k1 _ _ hX,Iss.same k1 _ _ hI,hin,(λi e=>by rw[hf]at e;cases e),λZ q1 H'' kp hx' hq' hqn=>#[rfl,?_]];have k3:Same H H'':=λb' o' e=>kp b' o' (λz=>by rw[z,hx]at e;cases e) (k1 _ _ e);exact q x q1 H'' k3 #[dx,xs,hx',hq',Iss.same k3 _ _ hI]
def BG.inL(h:BG k l ns bs):InL l (zb bs):=λp hp=>by
 let#[e,he,rfl]:=AY.mp hp;have b:=h.e e he;exact#[aP b.a ∅,aP b.b ∅,b.ma,b.mb]
def BG.fault(h:BG k l ns bs):wT k l ns (zb bs) 0=AR:=qd λm p e=>by
 let#[e',he,rfl]:=AY.mp (ac e);exact h.lt e' he
def WM(K:su)(CO CR CW CH:sv):Sp:=λvs H Q Z=>∃(o a:sv) (k:Nat) (l:()) (ns:List Int) (bs:List Ent),vs=[.ref o,.ref a]/\OrdAt CO CR CW H o k l ns/\OG l ns k/\EnsL K H a bs/\BG k l ns bs/\∀(y qa:sv) (H':Hp),Same H H'->Kc K CH H' y o qa (zb bs)->Q (.ref y) H'
def Yp:sQz 2 ["order","entries"] vY:=by nofun
def Yl{f CO CR CW CT CH:sv}(B:Bt mg)(TS:zd9 K mg CH)(MS:MkS P w K mg base CO CR CW CT CH)(F:("system_by"^^^vY))(gJ:(1<<<"pairs_of") ["entries"] [] (wy K)):(7&&&["order","entries"]) (WM K CO CR CW CH):=by
 exists F.ok Yp
 ·let#[o,a,k,l,ns,bs,rfl,ho,hG,hA,hB,q]:=h;refine#[_,(ze (zl (zgv xe0 MS hr rfl TS.g (za (pv 0) (za (cl0 gJ hr .nil rfl (za (pv 1) zg)) zg))))),?_];have s16:=zW;ac_rfl;refine wj hA.is (by have:=hB.n;lia) λD H' Z s' hL=>?_;exact zcB (ho.same s') hG hL hB.inL hB.fault λy qa H'' s'' hy=>q y qa H'' (s'.trans s'') hy
def fE(i:Nat)(p:zH):Ent:=(p.1,p.2,[((i:Int),(0:Int),AS)])
def fEs(rs:List zH):Nat->List Ent
 | 0=>[]
 | n+1=>fEs rs n ++ ((rs[n]?).map (fE n)).toList
def K8(h:rs[n]? = AQ p):fEs rs (n+1)=fEs rs n ++ [fE n p]:=by show fEs rs n ++ ((rs[n]?).map (fE n)).toList=_;rw[h];rfl
theorem Je(rs:List zH):∀n,(fEs rs n).length<=n
 | 0=>al _
 | n+1=>by
  have:=Je rs n;show (fEs rs n ++ ((rs[n]?).map (fE n)).toList).length<=_;rw[aj]
  cases rs[n]? with
  | none=>simp;lia
  | some p=>simp;lia
theorem jW : ∀{n:Nat} {e:Ent},e ∈ fEs rs n->∃i p,i<n/\rs[i]? = AQ p/\e=fE i p
 | 0,e,h=>(nomatch h)
 | n+1,e,h=>by
  have h':e ∈ fEs rs n ++ ((rs[n]?).map (fE n)).toList:=h;rcases Ba.mp h' with h | h
  ·let#[i,p,hi,hp,he]:=jW h;exact#[i,p,⋯,hp,he]
  ·cases hn:rs[n]? with
   | none=>rw[hn]at h;simp at h
   | some p =>
    rw[hn]at h;exact#[n,p,⋯,hn,by simpa using h]
def Vl(K:su):Sp:=λvs H Q Z=>∃(a:sv) (rs:List zH),vs=[.ref a]/\LsA K H a (rs.map dR)/\rs.length<=20/\∀(D:sv) (H':Hp),Same H H'->H D=AR->EnsM K H' D (fEs rs rs.length)->Q (.ref D) H'
def qG:sQz 1 ["pacts"] yQ:=by nofun
def qE(B:Bt mg)(F:("first_entries"^^^yQ)):(1&&&["pacts"]) (Vl K):=by
 exists F.ok qG
 ·let#[a,rs,rfl,hA,hrl,q]:=h;refine#[_,(ze (zl (yJ (g:=zdh K 2 (YG (yt 0) (YG (yt 1) zdf))) (own:=["number","pact"]) (caps:=[]) (ix:=[]) (tt:=xo) (te:=(Um (zK (tOp (ut K) (ya 1) (tC (.int 0))) (zK (tOp (ut K) (ya 1) (tC (.int 1))) (zK (zdU (zK (Um (zK (ya 0) (zK (tC (.int 0)) (zK (tC (.bl AS)) xv)))) xv)) xv))))) rfl (zM (sc:=zi yQ) rfl (!0) (!0) (!0) rfl (!0) (!0) rfl) (xf rfl B.enum (za (pv 0) zg)) (λZ Z Z Z Z Z=>vJ (n:=2) rfl (zZ (zq (i:=0) (show List.Nodup [_,_] by decide) rfl (.inl rfl)) (zZ (zq (i:=1) (show List.Nodup [_,_] by decide) rfl (.inl rfl)) xW))) (λZ Z Z Z Z Z=>yh) (λZ Z Z Z Z Z=>(zX (za (!-1) (za (!-1) (za (xh (za (zX (za (pv 0) (za zd (za yv zg)))) zg)) zg)))))))),?_];have s16:=zW;let#[xs,hX,hI]:=id hA;have hxl:=hI.len;rw[aa]at hxl;ac_rfl;rw[zd8];ac_rfl;refine#[#[_,SqL.of hX],λD hD=>CompEL.by (xs:=xs) (λi AW H'=>Same H H'/\H' D=AQ (.lst AW)/\AW.length<=i/\EnsA K (ky D H') (fEs rs i) AW) #[zf hD,zc,al _,rfl] (λi AW H' Z h=>SqL.of (h.1 _ _ hX)) ?_ ?_]
  ·refine nmE ?_;rintro i x AW H' p hx ⟨hs,hH,hal,hEn⟩ hp:_;have hil:=(AX.mp hx).1;let#[r,pr,hri,rfl,hqr]:=hI.getR hx;have u1:=zf (o:=HO.tup [.int (i:Nat),.ref pr]) hp;have hq:=zp (hs.trans u1) hqr;right;dsimp only;refine zbT (SqT.of zc) ?_
   erw[xo]
   rfl'
   refine#[zdG,_,hq,_,rfl,_,hq,_,rfl,⋯,λp1 hp1=>#[⋯,λp2 hp2=>#[⋯,λp3 hp3=>?_]]];have u2:=zf (o:=HO.tup [.int (i:Nat),.int 0,.bl AS]) hp1;have u3:=zf (o:=HO.lst [.ref p1]) hp2;have u4:=zf (o:=HO.tup [⇑r.1,⇑r.2,.ref p2]) hp3;have u:=u1.trans (u2.trans (u3.trans u4));have hD4:=u _ _ hH;have hp2D:p2≠D:=λz=>by rw[z,u2 _ _ (u1 _ _ hH)]at hp2;cases hp2
   refine#[hD4,⋯,CNx.mk hil #[zu (hs.trans u) hD,zc,by rw[aj];erw[aG,bH];lia,?_]];rw[K8 hri];refine (hEn.same ((wV u).trans xM)).snoc (EnA.same ?_ xM);refine EnA.new (e:=fE i r) hD4 zc #[_,u4 _ _ zc,?_] hp2D;show Iss K _ [dSt ((i:Int),(0:Int),AS)] _;exact zcx (kG (SqT.of (u4 _ _ (u3 _ _ zc))))
  ·refine nmB ?_;rintro AW H' ⟨hs,hH,hal,hEn⟩:_;rw[hxl]at hEn;right;exact q D H' hs hD #[AW,hH,hEn.same wP]
def jw(es:List Ent):Bool:=decide (12<es.length) || es.any λe=>decide (10<max e.1.length e.2.1.length)
structure TMc(mg:sF->Option sw):Prop where
 u:∃t,mg "MOST_USES_completing" = AQ (.int 40 t)
 e:∃t,mg "MOST_ENTRIES" = AQ (.int 12 t)
 d:∃t,mg "MOST_SIDE_completing" = AQ (.int 10 t)
 p:∃t,mg "MOST_PEAKS" = AQ (.int 8 t)
def Yt(K:su):Sp:=λvs H Q Z=>∃(a:sv) (es:List Ent),vs=[.ref a]/\EnsL K H a es/\es.length<64/\(∀e ∈ es,e.1.length<=10000/\e.2.1.length<=10000)/\∀H',Same H H'->Q (.bl (jw es)) H'
def Xi:sQz 1 ["entries"] wB:=by nofun
def YN(B:Bt mg)(hany:zhg mg)(TM:TMc mg)(F:("is_beyond"^^^wB)):(1&&&["entries"]) (Yt K):=by
 let#[#[t9,g9],#[t8,g8]]:=And.intro TM.e TM.d
 exists F.ok Xi
 ·let#[a,es,rfl,hA,hl,hE,q]:=h
  refine#[_,(zh (zJ (zv Yw (zA B.len (pv 0)) (yI (v:=.int 12) rfl g9 #[t9,rfl]) (zx _)) (ze (zl yv))
    zr) (ze (zl (yP (zf4 rfl) rfl hany PyProof.Rows.boot_any (za (yJ (own:=["entry"]) (caps:=[]) (ix:=[]) (tt:=xo) (te:=(tOp ze8 (tCB zap (zK (tCB (Wy K) (zK (tOp (ut K) (ya 0) (tC (.int 0))) xv)) (zK (tCB (Wy K) (zK (tOp (ut K) (ya 0) (tC (.int 1))) xv)) xv))) (tC (.int 10)))) rfl (zM (sc:=zi wB) rfl (!0) (!0) (!0) rfl (!0) (!0) rfl) (zY (pv 0)) (λZ Z Z Z Z Z=>zq (i:=0) (show List.Nodup [_] by decide) rfl (.inl rfl)) (λZ Z Z Z Z Z=>yh) (λZ Z Z Z Z Z=>(yi Yw (yP (Q5 rfl) rfl B.max qW (za (zA B.len (!-0)) (za (zA B.len (!-0)) zg))) (yI (v:=.int 10) rfl g8 #[t8,rfl]) (zx _)))) zg))))),?_]
  have s16:=zW;let#[xs,hX,hEn]:=id hA;have hxl:=hEn.len;change H'=H/\¬ 12<es.length/\σ=[!!a]
  ·ac_rfl;refine#[_,.inl #[_,hX,rfl],yb (λh=>?_) λh=>by lia]
   have e:jw es=AS:=by
    unfold jw;rw[u6 ⋯,Bool.true_or]
   rw[<- e];exact q H (Same.refl _)
  rintro σ H1 ⟨rfl,h12,rfl⟩:0;ac_rfl;refine#[#[_,hX],λD hD=>CompL.by (xs:=xs) (λi AW H'=>Same H1 H'/\H' D=AQ (.lst AW)/\AW=((es.take i).map λe=>decide (10<max e.1.length e.2.1.length)).map V.bl) #[zf hD,zc,rfl] (λi AW H' Z h=>h.1.seq hX) ?_ ?_]
  ·refine nm4 ?_;rintro i x AW H' hx ⟨hs,hH,rfl⟩:_;have hil:=(AX.mp hx).1;let#[e,p,s,he,rfl,hp,_]:=hEn.get hx;have hq:=zp hs hp;have hb:=hE e (ac he);right
   erw[xo]
   rfl'
   refine#[yx,_,hq,_,rfl,_,#[by rw[zI];lia,rfl],_,hq,_,rfl,_,#[by rw[zI];lia,rfl],hH,by rw[aa,aa,aC];lia,CNx.mk hil #[zu hs hD,zc,?_]];rw[zQ he,am,am,zI,zI];congr 1;show [V.bl _]=[V.bl _];congr 2;refine decide_eq_decide.mpr ?_;split <;> lia
  ·refine nmB ?_;rintro AW H' ⟨hs,hH,rfl⟩:_;rw[hxl,aI]at hH;right;refine#[D,_,rfl,SqL.of hH,?_]
   have e:(es.map λe=>decide (10<max e.1.length e.2.1.length)).any id=jw es:=by
    unfold jw;rw[u9 h12,Bool.false_or,List.any_map];rfl
   rw[e];exact q H' hs
def Wd(h:jw es=AT):es.length<=12/\∀e ∈ es,e.1.length<=10/\e.2.1.length<=10:=by unfold jw at h;rw[Bool.or_eq_false_iff]at h;refine#[by have:=of_decide_eq_false h.1;lia,λe he=>?_];have:=List.any_eq_false.mp h.2 e he;have h2:¬ 10<max e.1.length e.2.1.length:=λz=>this (u6 z);lia
def zaI(K:su)(CO CR CW T:sv):Sp:=λvs H Q Z=>∃(o a:sv) (k:Nat) (l:()) (ns:List Int) (es:List Ent),vs=[.ref o,.ref a]/\OrdAt CO CR CW H o k l ns/\OG l ns k/\EnsL K H a es/\es.length<64/\(∀e ∈ es,EB l e)/\TabOk H T lp lq /\
 (∀(bs:List Ent) (D:sv) (H':Hp),uM k l ns 20 es (AQ bs)->BG k l ns bs->jw bs=AT->SamT T H H'->TabOk H' T lp lq->EnsM K H' D bs->Q (.ref D) H')/\((uM k l ns 20 es AR\/∃bs,uM k l ns 20 es (AQ bs)/\jw bs=AS)->∀H',SamT T H H'->TabOk H' T lp lq->Q .non H')
structure zfz(K:su)(CF:sv):Prop where
 s:dh K (.ref CF) (.ref CF)=AQ AS
def mm:sQz 2 ["order","entries","slim"] xl:=by nofun
def uU{f CO CR CW TB CF:sv}(B:Bt mg)(TFx:zby K mg CF)(TSb:zfz K CF)(F:("thinned_within"^^^xl))(rE:(7>>>"thinned") ["order","entries"] [] (QE K CO CR CW TB CF))(rg:(1<<<"is_beyond") ["entries"] [] (Yt K)):(8&&&["order","entries"]) (zaI K CO CR CW TB):=by
 exists F.ok mm
 ·let#[o,a,k,l,ns,es,rfl,ho,hG,hA,hz,hE,hTab,q1,q2]:=h
  refine#[_,(zh (zaa (i:=2) (th:=(zaH (tC .non))) mm.nd rfl (.inl rfl) (.inl rfl) #[rfl,rfl] (clX rE hr .nil rfl (za (pv 0) (za (pv 1) zg))) rfl TFx.g TFx.xi.ok (λe=>(ze (zl ye)))) (ze (zl (wF (yl (cl0 rg hr .nil rfl (za (pv 2) zg)) (λZ=>rfl)) ye (pv 2))))),?_]
  have s16:=zW;change SamT TB H H'/\TabOk H' TB lp lq/\∃(bs:List Ent) (D:sv),uM k l ns 20 es (AQ bs)/\BG k l ns bs/\EnsM K H' D bs/\σ=[!!o,!!a,!!D]
  ·erw[za7]
   ac_rfl;exact#[o,a,k,l,ns,es,rfl,ho,hG,hA,hz,hE,hTab,λbs D H' h1 h2 h3 h4 h5=>#[h3,h4,bs,h1,h2,D,h5,rfl],λh H' h3 h4=>#[CF,rfl,TSb.s,λx hx=>q2 (.inl h) _ (h3.trans (SamT.of (zf hx))) (h4.same (zf hx))]]
  rintro σ H1 ⟨s1,hT1,bs,D,hTh,hB,hM,rfl⟩:0;ac_rfl;exact#[D,bs,rfl,hM.l,hB.n,λe he=>#[aP (hB.e e he).a ∅,aP (hB.e e he).b ∅],λH' s'=>#[_,rfl,yb (λh=>q2 (.inr #[bs,hTh,h]) H' (s1.trans (SamT.of s')) (hT1.same s')) λh=>q1 bs D H' hTh hB ↥h (s1.trans (SamT.of s')) (hT1.same s') (hM.same s')]]
def qV(w:())(k:Int)(o n:()):(yX w k o n).length<=w.length+n.length:=by unfold yX;rw[aj,aj,aC,aS,Nat.add_right_comm];exact Nat.add_le_add_right (zgS _ _ _) _
def BG.ok(h:BG k l ns bs)(hl:bs.length<=30):qL (zb bs):=by refine#[by unfold zb;rw[aa];exact hl,λr hr=>?_];let#[e,he,rfl]:=AY.mp hr;exact#[aP (h.e e he).a ∅,aP (h.e e he).b ∅]
def zez(hok:∀r ∈ ps,r.1.length<=60/\r.2.length<=60)(ht:t ∈ ovA ps ps.length):(pkA ps t).length<=180/\(pkB ps t).length<=180:=by
 let#[i1,i2,i3,i4]:=jC ht;obtain⟨r,hr⟩:∃r,ps[t.1]? = AQ r:=#[_,af i1];obtain⟨r2,hr2⟩:∃r,ps[t.2.1]? = AQ r:=#[_,af i2];have l1:=xE hr;have l2:=xE hr2;have d1:ps.getD t.1 ([],[])=r:=by rw[ae,hr];rfl
 have d2:ps.getD t.2.1 ([],[])=r2:=by rw[ae,hr2];rfl
 rw[l1]at i3;have b1:=hok r (ac hr);have b2:=hok r2 (ac hr2);have hp:=uh r.1 r2.1 t.2.2 ⋯;have p1:=qV (yu r.1 r2.1 t.2.2) 0 r.1 r.2;have p2:=qV (yu r.1 r2.1 t.2.2) (t.2.2:Nat) r2.1 r2.2;unfold pkA pkB;rw[l1,l2,d1,d2];lia
def zdD(hN:NeL ps)(hok:∀r ∈ ps,r.1.length<=60/\r.2.length<=60):zgY ps 40:=by
 refine#[∅,λt ht=>?_];let#[h1,h2]:=zez hok ht
 have key:∀(v:()),v.length<=180->∀j,j<=40->(wAt ps v j).length<=10000:=λv hv j hj=>by
  have:=jt (l:=v) hN (λp hp=>(hok p hp).2) j;have h3:j * 60<=40 * 60:=fJ hj (al _);lia
 exact#[key _ h1,key _ h2]
def za4(K:su)(CO CR CW:sv):Sp:=λvs H Q Z=>∃(o a:sv) (k:Nat) (l:()) (ns:List Int) (bs:List Ent),vs=[.ref o,.ref a]/\OrdAt CO CR CW H o k l ns/\OG l ns k/\EnsL K H a bs/\BG k l ns bs/\bs.length<=30/\(ovA (zb bs) (zb bs).length).length<=4000 /\
 ((∀t ∈ ovA (zb bs) (zb bs).length,OkG (zb bs) 40 t)->∀D H',Same H H'->LsA K H' D ((unG (zb bs) 40).map d3)->Q (.ref D) H')/\(∀t ∈ ovA (zb bs) (zb bs).length,¬ OkG (zb bs) 40 t->∀H',Same H H'->Q .non H')
def jp:sQz 2 ["order","entries"] xP:=by nofun
def jF{f CO CR CW CF CH:sv}(B:Bt mg)(TFx:zby K mg CF)(TSb:zfz K CF)(TM:TMc mg)(F:("unmet_within"^^^xP))(rP:(7>>>"unmet") ["system","most"] [] (uJ K CH CF))(DD_unmet:(7>>>"unmet") ["system","most"] [.int 4000 ow] (uJ K CH CF))(rh:(7<<<"system_by") ["order","entries"] [] (WM K CO CR CW CH)):(9&&&["order","entries"]) (za4 K CO CR CW):=by
 let#[t9,g9]:=TM.u
 exists F.ok jp
 ·let#[o,a,k,l,ns,bs,rfl,ho,hG,hA,hB,hbl,hol,q1,q2]:=h;refine#[_,(ze (Vu (th:=(zaH (tC .non))) #[rfl,rfl] (clX rP hr .nil rfl (za (cl0 rh hr .nil rfl (za (pv 0) (za (pv 1) zg))) (za (yI (v:=.int 40) rfl g9 #[t9,rfl]) zg))) rfl TFx.g TFx.xi.ok (λe=>(ze (zl ye))))),?_];have s16:=zW;have s16:=zW
  erw[Jc]
  ac_rfl
  have hsd:∀r ∈ zb bs,r.1.length<=60/\r.2.length<=60:=λr hr=>by
   let#[e,he,rfl]:=AY.mp hr;exact#[(hB.e e he).a,(hB.e e he).b]
  exact#[o,a,k,l,ns,bs,rfl,ho,hG,hA,hB,λy qa H' s' hy=>#[y,o,qa,zb bs,40,rfl,hy,hB.ne hG,hB.ok hbl,hol,zdD (hB.ne hG) hsd,λh D H'' s'' Z hL=>q1 h D H'' (s'.trans s'') hL,λt ht h H'' s''=>#[CF,rfl,TSb.s,λx hx=>q2 t ht h _ (s'.trans (s''.trans (zf hx)))]]]
def kn(es:List Ent)(t:N3):Ent:=(pkA (zb es) t,pkB (zb es) t,byL es [((t.1:Int),(0:Int),AT),((t.2.1:Int),(t.2.2:Int),AS)])
def ZB(K:su):Sp:=λvs H Q Z=>∃(a t:sv) (es:List Ent) (tr:N3),vs=[.ref a,.ref t]/\EnsL K H a es/\SqT K H t [.int (tr.1:Nat),.int (tr.2.1:Nat),.int (tr.2.2:Nat)]/\tr ∈ ovA (zb es) (zb es).length/\qL (zb es)/\(∀e ∈ es,e.2.2.length<=600)/\∀(p s:sv) (H':Hp),Same H H'->H' p=AQ (.tup [⇑(kn es tr).1,⇑(kn es tr).2.1,.ref s])->LsA K H' s ((kn es tr).2.2.map dSt)->H s=AR->Q (.ref p) H'
def mW:sQz 2 ["entries","overlap","sides","steps"] qb:=by nofun
def Wm(B:Bt mg)(F:("entry_of"^^^qb))(pV:(4<<<"peak") ["rules","overlap"] [] (Zp K))(iB:(2<<<"by_pacts") ["entries","steps"] [] (QS K))(gJ:(1<<<"pairs_of") ["entries"] [] (wy K)):(5&&&["entries","overlap"]) (ZB K):=by
 exists F.ok mW
 ·let#[a,t,es,tr,rfl,hA,ht,htr,hok,hst,q]:=h
  refine#[_,(zh (zy 2 mW.nd (cl0 pV hr .nil rfl (za (cl0 gJ hr .nil rfl (za (pv 0) zg)) (za (pv 1) zg)))) (zh (zy 3 mW.nd (cl0 iB hr .nil rfl (za (pv 0) (za (xh (za (zX (za (!-1) (za zd (za yv zg)))) (za (zX (za (!-1) (za (!-1) (za yv zg)))) zg))) zg)))) (ze (zl (zX (za (!-2) (za (!-2) (za (pv 3) zg)))))))),?_]
  have s16:=zW;have hlp:(zb es).length=es.length:=by unfold zb;rw[aa]
  let#[i1,i2,i3,i4]:=jC htr;obtain⟨r,hr1⟩:∃r,(zb es)[tr.1]? = AQ r:=#[_,af i1];obtain⟨r2,hr2⟩:∃r,(zb es)[tr.2.1]? = AQ r:=#[_,af i2];have l1:=xE hr1;have l2:=xE hr2;have d1:(zb es).getD tr.1 ([],[])=r:=by rw[ae,hr1];rfl
  have d2:(zb es).getD tr.2.1 ([],[])=r2:=by rw[ae,hr2];rfl
  have eA:pkA (zb es) tr=yX (yu r.1 r2.1 tr.2.2) 0 r.1 r.2:=by unfold pkA;rw[l1,l2,d1]
  have eB:pkB (zb es) tr=yX (yu r.1 r2.1 tr.2.2) (tr.2.2:Nat) r2.1 r2.2:=by unfold pkB;rw[l1,l2,d2]
  rw[l1]at i3;rw[l1,l2]at i4;change Same H H'/\∃p:sv,(∃x,H' p=AQ (.tup [x,⇑(pkA (zb es) tr),⇑(pkB (zb es) tr)]))/\σ=[!!a,!!t,!!p,AR]
  ·rfl'
   refine wj hA.is (by have:=hok.1;lia) λD H1 Z s1 hL=>?_;exact WD hL.is (zp s1 ht) hok hr1 hr2 ⋯ i4 λp H' Z s' hp=>#[s1.trans s',p,#[_,by rw[eA,eB];exact hp],rfl]
  rintro σ H1 ⟨s1,p,⟨x,hp⟩,rfl⟩:0;change Same H1 H'/\∃S:sv,H S=AR/\LsA K H' S ((kn es tr).2.2.map dSt)/\σ=[!!a,!!t,!!p,!!S]
  ·have ht1:=zp s1 ht
   rfl'
   refine#[_,ht1,_,rfl,⋯,λp1 hp1=>?_];have u1:=zf (o:=HO.tup [.int (tr.1:Nat),.int 0,.bl AT]) hp1;refine#[_,zp u1 ht1,_,rfl,_,zp u1 ht1,_,rfl,⋯,λp2 hp2=>#[⋯,λp3 hp3=>?_]];have u2:=zf (o:=HO.tup [.int (tr.2.1:Nat),.int (tr.2.2:Nat),.bl AS]) hp2;have u3:=zf (o:=HO.lst [.ref p1,.ref p2]) hp3;have u:=u1.trans (u2.trans u3);refine W7 (us:=[((tr.1:Int),(0:Int),AT),((tr.2.1:Int),(tr.2.2:Int),AS)]) (hA.same (s1.trans u)).is (LsA.is #[_,zc,?_]) (by simp) hst (λv hv=>?_) λD H' hDn s' hL=>#[u.trans s',D,(s1.trans u).free hDn,hL,rfl]
   ·erw[ao,aH,Iss]
    exact#[_,_,rfl,kG (SqT.of (u3 _ _ (u2 _ _ zc))),_,_,rfl,kG (SqT.of (u3 _ _ zc)),rfl]
   ·erw[List.mem_cons,List.not_mem_nil,or_false]at hv
    rcases hv with rfl | rfl
    ·exact#[by simp,by show (tr.1:Int)<_;lia]
    ·exact#[by simp,by show (tr.2.1:Int)<_;lia]
  rintro σ H2 ⟨s2,S,hSn,hS,rfl⟩:0
  rfl'
  exact#[_,SqT.of (s2 _ _ hp),_,rfl,_,SqT.of (s2 _ _ hp),_,rfl,⋯,λp' hp'=>q p' S _ (s1.trans (s2.trans (zf hp'))) zc (hS.same (zf hp')) hSn]
def Ke(h:¬ qP e):¬ qP (z6 k l ns e):=by
 unfold z6;split
 ·exact h
 ·unfold qP at h ⊢;rw[yA];show ¬ (240<e.2.2.length\/60<e.2.1.length\/60<e.1.length);lia
theorem V5(h:xn k l ns bs es r):(∀e ∈ bs,¬ qP e)->∀fs,r=AQ fs->∀e ∈ fs,¬ qP e:=by
 induction h with
 | nil bs=>exact λh fs e=>by cases e;exact h
 | same _ _ _ _ ih=>exact ih
 | new _ _ _ h4 _ ih =>
  intro h;refine ih λe he=>?_;rcases Ba.mp he with he | he
  ·exact h e he
  ·rw[Bb.mp he];exact Ke h4
 | far _ _ _ _=>exact λZ fs e=>by cases e
 | stuck _=>exact λZ fs e=>by cases e
theorem jY(h:uM k l ns n es r):∀fs,r=AQ fs->∀e ∈ fs,¬ qP e:=by
 induction h with
 | out es=>exact λfs e=>by cases e
 | bad _ _=>exact λfs e=>by cases e
 | done _ h2 _=>exact λfs e=>by cases e;exact V5 h2 (λe he=>(nomatch he)) _ rfl
 | more _ _ _ _ ih=>exact ih
def U1(h:∀e ∈ es,e.2.2.length<=M)(u:Stp):(XS es u).length<=M:=by
 have hg:(es.getD u.1.toNat ([],[],[])).2.2.length<=M:=by
  rw[ae]
  cases e:es[u.1.toNat]? with
  | none=>exact ay _
  | some x=>exact h x (ac e)
 unfold XS;rw[YI];split
 ·exact hg
 ·rw[yA];exact hg
inductive Cpl(k:Nat)(l:())(ns:List Int):Nat->List Ent->List Ent->Bool->List Ent->Prop where
 | out (kept fresh:List Ent):Cpl k l ns 0 kept fresh AT kept
 | slim {n:Nat} {kept fresh:List Ent} (h:uM k l ns 20 fresh AR\/∃bs,uM k l ns 20 fresh (AQ bs)/\jw bs=AS):Cpl k l ns (n+1) kept fresh AT kept
 | far {n:Nat} {kept fresh bs:List Ent} {t:N3} (h:uM k l ns 20 fresh (AQ bs)) (hb:jw bs=AT) (ht:t ∈ ovA (zb bs) (zb bs).length) (ho:¬ OkG (zb bs) 40 t):Cpl k l ns (n+1) kept fresh AT bs
 | whole {n:Nat} {kept fresh bs:List Ent} (h:uM k l ns 20 fresh (AQ bs)) (hb:jw bs=AT) (ho:∀t ∈ ovA (zb bs) (zb bs).length,OkG (zb bs) 40 t) (hu:unG (zb bs) 40=[]):Cpl k l ns (n+1) kept fresh AS bs
 | more {n:Nat} {kept fresh bs es:List Ent} {w:Bool} (h:uM k l ns 20 fresh (AQ bs)) (hb:jw bs=AT) (ho:∀t ∈ ovA (zb bs) (zb bs).length,OkG (zb bs) 40 t) (hu:unG (zb bs) 40≠[]) (r:Cpl k l ns n bs (bs ++ ((unG (zb bs) 40).take 8).map (kn bs)) w es):Cpl k l ns (n+1) kept fresh w es
def zdE(hl:ps.length<=12)(h:∀r ∈ ps,r.1.length<=10):(ovA ps ps.length).length<=4000:=by
 have lfl:∀i,(lf ps i).length<=10:=λi=>by
  cases e:ps[i]? with
  | none=>unfold lf;rw[ae,e];exact ay _
  | some r=>rw[xE e];exact h r (ac e)
 have oI:∀i m,(ovI ps i m).length<=m * 10:=λi m=>by
  induction m with
  | zero=>exact ay _
  | succ m ih =>
   rw[uw,aj];have h1:=qO ps i m (lf ps i).length;have h2:=lfl i;lia
 have oA:∀m,(ovA ps m).length<=m * 120:=λm=>by
  induction m with
  | zero=>exact ay _
  | succ m ih =>
   rw[qX,aj];have h1:=oI m ps.length;lia
 have:=oA ps.length;lia
def zdu{l:()}(hin:∀r ∈ ps,(∀c ∈ r.1,c ∈ l)/\∀c ∈ r.2,c ∈ l)(h10:∀r ∈ ps,r.1.length<=10/\r.2.length<=10)(ht:t ∈ ovA ps ps.length):((pkA ps t).length<=40/\∀c ∈ pkA ps t,c ∈ l)/\(pkB ps t).length<=40/\∀c ∈ pkB ps t,c ∈ l:=by
 let#[i1,i2,i3,i4]:=jC ht;obtain⟨r,hr⟩:∃r,ps[t.1]? = AQ r:=#[_,af i1];obtain⟨r2,hr2⟩:∃r,ps[t.2.1]? = AQ r:=#[_,af i2];have l1:=xE hr;have l2:=xE hr2;have d1:ps.getD t.1 ([],[])=r:=by rw[ae,hr];rfl
 have d2:ps.getD t.2.1 ([],[])=r2:=by rw[ae,hr2];rfl
 rw[l1]at i3;have b1:=h10 r (ac hr);have b2:=h10 r2 (ac hr2);have n1:=hin r (ac hr);have n2:=hin r2 (ac hr2);have hp:=uh r.1 r2.1 t.2.2 ⋯;have p1:=qV (yu r.1 r2.1 t.2.2) 0 r.1 r.2;have p2:=qV (yu r.1 r2.1 t.2.2) (t.2.2:Nat) r2.1 r2.2
 have hw:∀c ∈ yu r.1 r2.1 t.2.2,c ∈ l:=λc hc=>by
  unfold yu at hc;rcases Ba.mp hc with h | h
  ·exact n1.1 c h
  ·exact n2.1 c (cM h)
 have put:∀(k:Int) (o n:()),(∀c ∈ n,c ∈ l)->∀c ∈ yX (yu r.1 r2.1 t.2.2) k o n,c ∈ l:=λk o n hn c hc=>by
  unfold yX at hc;rcases Ba.mp hc with hc | hc
  ·rcases Ba.mp hc with hc | hc
   ·exact hw c (bz hc)
   ·exact hn c hc
  ·exact hw c (cM hc)
 unfold pkA pkB;rw[l1,l2,d1,d2];exact#[#[⋯,put _ _ _ n1.2],⋯,put _ _ _ n2.2]
def Jz(hB:BG k l ns bs)(hb:jw bs=AT)(hs:∀e ∈ bs,e.2.2.length<=240)(ht:t ∈ ovA (zb bs) (zb bs).length):EB l (kn bs t):=by
 let#[b1,b2]:=Wd hb
 let#[h1,h2]:=zdu (l:=l) (ps:=zb bs) (λr hr=>by
  let#[e,he,rfl]:=AY.mp hr
  exact#[(hB.e e he).ma,(hB.e e he).mb]) (λr hr=>by
  let#[e,he,rfl]:=AY.mp hr
  exact b2 e he) ht
 refine#[aP h1.1 ∅,aP h2.1 ∅,?_,h1.2,h2.2];show (byL bs [((t.1:Int),(0:Int),AT),((t.2.1:Int),(t.2.2:Int),AS)]).length<=600;unfold byL;rw[eQ,eQ,List.flatMap_nil,aT,aj];have o1:=U1 hs ((t.1:Int),(0:Int),AT);have o2:=U1 hs ((t.2.1:Int),(t.2.2:Int),AS);lia
def EnsM.samT(h:EnsM K H a es)(s:SamT T H H')(hT:H T=AQ (.tbl ps)):EnsM K H' a es:=by let#[xs,h1,h2]:=h;exact#[xs,s.at hT h1 (λZ z=>by cases z),EnsA.samT s hT h2]
def zgb(K:su)(T:sv)(H:Hp)(k:Nat)(l:())(ns:List Int)(rs:List zH)(m n:Nat)(H':Hp)(Dk Df:sv):Prop:=∃kept fresh:List Ent,SamT T H H'/\TabOk H' T lp lq/\EnsM K H' Dk kept/\EnsL K H' Df fresh/\fresh.length<64/\(∀e ∈ fresh,EB l e)/\BG k l ns kept/\∀w es,Cpl k l ns n kept fresh w es->Cpl k l ns m [] (fEs rs rs.length) w es
def zbg(K:su)(CO CR CW T:sv):Sp:=λvs H Q Z=>∃(o a:sv) (k:Nat) (l:()) (ns:List Int) (rs:List zH) (m:Nat),vs=[.ref o,.ref a,.int (m:Nat)]/\OrdAt CO CR CW H o k l ns/\OG l ns k/\LsA K H a (rs.map dR)/\rs.length<=20/\InL l rs/\(∀r ∈ rs,r.1.length<=60/\r.2.length<=60)/\m<=1000/\TabOk H T lp lq/\∀(w:Bool) (es:List Ent) (p D:sv) (H':Hp),Cpl k l ns (m+1) [] (fEs rs rs.length) w es->BG k l ns es->SamT T H H'->TabOk H' T lp lq->H' p=AQ (.tup [.bl w,.ref D])->EnsM K H' D es->Q (.ref p) H'
def gK:sQz 3 ["order","pacts","rounds","kept","fresh","turn","slim","lacking"] wA:=by nofun
def Xa{f CO CR CW TB:sv}(B:Bt mg)(TM:TMc mg)(F:("completed"^^^wA))(oQ:(1<<<"first_entries") ["pacts"] [] (Vl K))(oy:(8<<<"thinned_within") ["order","entries"] [] (zaI K CO CR CW TB))(pi:(9<<<"unmet_within") ["order","entries"] [] (za4 K CO CR CW))(rq:(5<<<"entry_of") ["entries","overlap"] [] (ZB K)):(10&&&["order","pacts","rounds"]) (zbg K CO CR CW TB):=by
 let#[t9,g9]:=TM.p
 exists F.ok gK
 ·let#[o,a,k,l,ns,rs,m,rfl,ho,hG,hA,hrl,hin,h60,hm,hTab,q]:=h
  refine#[_,(zh (xH (i:=3) gK.nd rfl (Or.inr rfl) (xh zg)) (zh (zy 4 gK.nd (cl0 oQ hr .nil rfl (za (pv 1) zg))) (zh (zR p8 rfl (zV rfl B.range (za (zD z7 (pv 2) zd) zg)) (zq (i:=5) gK.nd rfl (.inl rfl)) (zh (zy 6 gK.nd (cl0 oy hr .nil rfl (za (pv 0) (za (pv 4) zg)))) (zh (zJ (zv op_isN' (pv 6) ye (zx _)) (ze (zl (zX (za yv (za (pv 3) zg)))))
     zr) (zh (xH (i:=3) gK.nd rfl (Or.inr rfl) (pv 6)) (zh (zy 7 gK.nd (cl0 pi hr .nil rfl (za (pv 0) (za (pv 3) zg)))) (zh (zJ (zv op_isN' (pv 7) ye (zx _)) (ze (zl (zX (za yv (za (pv 3) zg)))))
     zr) (zh (zJ (zv xA (zA B.len (pv 7)) zd (zx _)) (ze (zl (zX (za yv (za (pv 3) zg)))))
     zr) (ze (zy 4 gK.nd (zD jm (pv 3) (yJ (own:=["overlap"]) (caps:=["kept"]) (ix:=[3]) (tt:=xo) (te:=(uc (ZB K) [] E0 (zK (ya 1) (zK (ya 0) xv)))) rfl (zM (sc:=zi wA) rfl (!0) (!0) (!0) rfl (!0) (!0) rfl) (zY (zP jZ (pv 7) yo (zO (yI (v:=.int 8) rfl g9 #[t9,rfl])))) (λZ Z Z Z Z Z=>zq (i:=0) (show List.Nodup [_,_] by decide) rfl (.inl rfl)) (λZ Z Z Z Z Z=>yh) (λZ Z Z Z Z Z=>(cl0 rq hr .nil rfl (za (pv 1) (za (pv 0) zg))))))))))))))) (ze (zl (zX (za yv (za (pv 3) zg)))))))),?_]
  have s16:=zW;have hTt:=hTab;let#[tp,htp,_]:=hTt;change Same H H'/\∃Dk:sv,H' Dk=AQ (.lst [])/\σ=[!!o,!!a,-~~~m,!!Dk,AR,AR,AR,AR]
  ·ac_rfl;exact#[⋯,λp hp=>#[zf hp,zc]]
  rintro σ H1 ⟨s1,Dk0,hDk0,rfl⟩:_
  have hE0:∀e ∈ fEs rs rs.length,EB l e:=λe he=>by
   let#[i,p,hi,hp,rfl]:=jW he;have h1:=h60 p (ac hp);have h2:=hin p (ac hp);exact#[h1.1,h1.2,by show ([((i:Int),(0:Int),AS)]:List Stp).length<=600;simp,h2.2.2.1,h2.2.2.2]
  right;change ∃Df:sv,zgb K TB H k l ns rs (m+1) (m+1) H' Dk0 Df/\σ=[!!o,!!a,-~~~m,!!Dk0,!!Df,AR,AR,AR]
  ·ac_rfl;exact#[a,rs,rfl,hA.same s1,hrl,λDf H' s' Z hM=>#[Df,#[[],fEs rs rs.length,SamT.of (s1.trans s'),hTab.same (s1.trans s'),#[[],s' _ _ hDk0,rfl],hM.l,by have:=Je rs rs.length;lia,hE0,#[by simp,λe he=>(nomatch he),λe he=>(nomatch he)],λw es h=>h],rfl]]
  rintro σ H2 ⟨Df0,hC0,rfl⟩:0;change ∃(Dk Df:sv) (v5 v6 v7:Option V),zgb K TB H k l ns rs (m+1) 0 H' Dk Df/\σ=[!!o,!!a,-~~~m,!!Dk,!!Df,v5,v6,v7]
  ·ac_rfl;refine#[⋯,⋯,ForR.by (λi σ H'=>∃(Dk Df:sv) (v5 v6 v7:Option V),zgb K TB H k l ns rs (m+1) (m+1 - i) H' Dk Df/\σ=[!!o,!!a,-~~~m,!!Dk,!!Df,v5,v6,v7]) #[Dk0,Df0,AR,AR,AR,hC0,rfl] ?_ ?_]
   ·refine nm3 ?_;rintro i σ H' hi ⟨Dk,Df,v5,v6,v7,⟨kept,fresh,sT,hT,hK,hF,hfl,hfE,hB,hcp⟩,rfl⟩:_;have hi':i<m+1:=⋯;have en:m+1 - i=(m+1 - (i+1))+1:=⋯;rw[en]at hcp;have hTt:=hT;let#[tq,htq,_]:=hTt;have ho':=ho.samT sT htp;right
    erw[yt,aM,aL]
    refine zj (λσ' G=>SamT TB H' G/\TabOk G TB lp lq/\(((uM k l ns 20 fresh AR\/∃bs,uM k l ns 20 fresh (AQ bs)/\jw bs=AS)/\σ'=[!!o,!!a,-~~~m,!!Dk,!!Df,AQ (.int (0+(i:Int))),AQ (.non),v7])\/∃(bs:List Ent) (D:sv),uM k l ns 20 fresh (AQ bs)/\BG k l ns bs/\jw bs=AT/\EnsM K G D bs/\σ'=[!!o,!!a,-~~~m,!!Dk,!!Df,AQ (.int (0+(i:Int))),!!D,v7])) ?_ ?_
    ·ac_rfl;exact#[o,Df,k,l,ns,fresh,rfl,ho',hG,hF,hfl,hfE,hT,λbs D G h1 h2 h3 h4 h5 h6=>#[h4,h5,.inr #[bs,h1,h2,h3,D,h6,rfl]],λh G h4 h5=>#[h4,h5,.inl #[h,rfl]]]
    rintro σ' G1 ⟨g1,hT1,hcase⟩:_;have hK1:=hK.samT g1 htq;right;refine zj (λσ' G=>Same G1 G/\∃(bs:List Ent) (D:sv),uM k l ns 20 fresh (AQ bs)/\BG k l ns bs/\jw bs=AT/\EnsM K G D bs/\σ'=[!!o,!!a,-~~~m,!!Dk,!!Df,AQ (.int (0+(i:Int))),!!D,v7]) ?_ ?_
    ·rcases hcase with ⟨hno,rfl⟩ | ⟨bs,D,h1,h2,h3,h4,rfl⟩
     ·ac_rfl;exact#[⋯,λp hp=>q AT kept p Dk _ (hcp _ _ (.slim hno)) hB (sT.trans (g1.trans (SamT.of (zf hp)))) (hT1.same (zf hp)) zc (hK1.same (zf hp))]
     ·ac_rfl;exact#[Same.refl _,bs,h1,h2,h3,h4]
    rintro σ' G2 ⟨s2,bs,D,hTh,hBb,hbey,hD,rfl⟩:_;clear hcase;right;refine zj (λσ' G=>G=G2/\σ'=[!!o,!!a,-~~~m,!!D,!!Df,AQ (.int (0+(i:Int))),!!D,v7]) ?_ ?_
    ·ac_rfl
    rintro σ' G3 ⟨rfl,rfl⟩:_;have sT3:SamT TB H G3:=sT.trans (g1.trans (SamT.of s2));have hT3:=hT1.same s2;have ho3:=ho.samT sT3 htp;let#[b12,b10]:=Wd hbey;have hpl:(zb bs).length=bs.length:=by unfold zb;rw[aa]
    have hol:=zdE (ps:=zb bs) ⋯ λr hr=>by
     let#[e,he,rfl]:=AY.mp hr;exact (b10 e he).1
    have hnear:∀e ∈ bs,e.2.2.length<=240:=λe he=>by
     have:=jY hTh bs rfl e he;unfold qP at this;lia
    right;refine zj (λσ' G=>Same G3 G/\(((∃t ∈ ovA (zb bs) (zb bs).length,¬ OkG (zb bs) 40 t)/\σ'=[!!o,!!a,-~~~m,!!D,!!Df,AQ (.int (0+(i:Int))),!!D,AQ (.non)])\/∃L:sv,(∀t ∈ ovA (zb bs) (zb bs).length,OkG (zb bs) 40 t)/\LsA K G L ((unG (zb bs) 40).map d3)/\σ'=[!!o,!!a,-~~~m,!!D,!!Df,AQ (.int (0+(i:Int))),!!D,!!L])) ?_ ?_
    ·ac_rfl;exact#[o,D,k,l,ns,bs,rfl,ho3,hG,hD.l,hBb,⋯,hol,λh L G s' hL=>#[s',.inr #[h,L,hL,rfl]],λt ht h G s'=>#[s',.inl #[#[t,ht,h],rfl]]]
    rintro σ' G4 ⟨s4,hcase⟩:0;refine zj (λσ' G=>Same G3 G/\∃L:sv,(∀t ∈ ovA (zb bs) (zb bs).length,OkG (zb bs) 40 t)/\LsA K G L ((unG (zb bs) 40).map d3)/\σ'=[!!o,!!a,-~~~m,!!D,!!Df,AQ (.int (0+(i:Int))),!!D,!!L]) ?_ ?_
    ·rcases hcase with ⟨⟨t,ht,hno⟩,rfl⟩ | ⟨L,h1,h2,rfl⟩
     ·ac_rfl;exact#[⋯,λp hp=>q AT bs p D _ (hcp _ _ (.far hTh hbey ht hno)) hBb (sT3.trans (SamT.of (s4.trans (zf hp)))) (hT3.same (s4.trans (zf hp))) zc (hD.same (s4.trans (zf hp)))]
     ·ac_rfl;exact#[s4,h1,h2]
    rintro σ' G5 ⟨s5,L,hok,hL,rfl⟩:_;clear hcase;right;refine zj (λσ' G=>G=G5/\unG (zb bs) 40≠[]/\σ'=[!!o,!!a,-~~~m,!!D,!!Df,AQ (.int (0+(i:Int))),!!D,!!L]) ?_ ?_
    ·ac_rfl;let#[xs,hX,hI]:=id hL;have hxl:=hI.len;rw[aa]at hxl;refine#[_,.inl #[_,SqL.of hX,rfl],yb (λh=>#[⋯,λp hp=>q AS bs p D _ (hcp _ _ (.whole hTh hbey hok (Bn.mp ⋯))) hBb (sT3.trans (SamT.of (s5.trans (zf hp)))) (hT3.same (s5.trans (zf hp))) zc (hD.same (s5.trans (zf hp)))]) λh z=>h ?_];rw[z]at hxl;show ((xs.length:Nat):Int)=0;rw[hxl];rfl
    rintro σ' G6 ⟨rfl,hne,rfl⟩:0;ac_rfl;let#[xs,hX,hI]:=id hL;have hxl:=hI.len;rw[aa]at hxl;have hct:Ul xs AR (AQ 8)=xs.take 8:=uI xs (k:=8) ∅;refine#[_,SqL.of hX,λp hp=>?_];rw[hct];have u1:=zf (o:=HO.lst (xs.take 8)) hp;have hS7:(upd G6 p (.lst (xs.take 8))) p=AQ (.lst (xs.take 8)):=zc;have hX7:=Iss.same u1 _ _ hI;have hD7:=hD.same (s5.trans u1);refine#[#[_,SqL.of hS7],λE1 hE1=>?_];generalize upd G6 p (.lst (xs.take 8))=G7 at *;refine CompL.by (xs:=xs.take 8) (λj AW H'=>Same G7 H'/\H' E1=AQ (.lst AW)/\AW.length<=j/\EnsA K (ky E1 H') (((unG (zb bs) 40).take j).map (kn bs)) AW) #[zf hE1,zc,al _,rfl] (λj AW H' Z h=>SqL.of (h.1 _ _ hS7)) ?_ ?_
    ·refine nm4 ?_;rintro j x AW H' hx ⟨hs,hH,hal,hEn⟩:_;have hjl:=(AX.mp hx).1;have hj8:j<8:=by rw[aC]at hjl;lia
     rw[cN hj8]at hx;let#[t,pt,ht,rfl,hpt]:=hX7.get3 hx;have htm:=(Be.mp (ac ht)).1;right
     erw[xo]
     rfl'
     refine#[yx,D,pt,bs,t,rfl,(hD7.same hs).l,zp hs hpt,htm,hBb.ok ⋯,λe he=>(hBb.e e he).s,λp' s' H5 h1 h2 h3 h4=>?_];have hH5:=h1 _ _ hH;have hsE:s'≠E1:=λz=>by rw[z,hH]at h4;cases h4
     refine#[hH5,⋯,CNx.mk hjl #[zu (hs.trans h1) hE1,zc,by rw[aj];erw[aG,bH];lia,?_]];rw[zQ ht,am];exact (hEn.same ((wV h1).trans xM)).snoc ((EnA.new (e:=kn bs t) hH5 h2 h3 hsE).same xM)
    ·refine nmB ?_;rintro AW H' ⟨hs,hH,hal,hEn⟩:_
     have hEn':EnsA K H' (((unG (zb bs) 40).take 8).map (kn bs)) AW:=by
      have h1:=hEn.same wP;rw[aC,hxl]at h1
      have e:(unG (zb bs) 40).take (min 8 (unG (zb bs) 40).length)=(unG (zb bs) 40).take 8:=by
       rw[<- fN,aI]
      rw[e]at h1;exact h1
     have hal8:AW.length<=8:=by rw[aC]at hal;lia
     let#[xk,hxk,hek]:=hD7.same hs;have hkl:=hek.len;right;refine#[E1,rfl,xk,hxk,AW,hH,⋯,λp2 hp2=>#[D,p2,#[bs,_,sT3.trans (SamT.of (s5.trans (u1.trans (hs.trans (zf hp2))))),hT3.same (s5.trans (u1.trans (hs.trans (zf hp2)))),#[xk,zf hp2 _ _ hxk,hek.same (zf hp2)],#[xk ++ AW,SqL.of zc,(hEn'.same (zf hp2)).app (hek.same (zf hp2))],?_,λe he=>?_,hBb,λw es h=>hcp w es (.more hTh hbey hok hne h)],rfl,rfl]]
     ·rw[aj,aa,aC];lia
     ·rcases Ba.mp he with he | he
      ·exact hBb.e e he
      ·let#[t,ht,rfl]:=AY.mp he;exact Jz hBb hbey hnear (Be.mp (bz ht)).1
   ·refine nmB ?_;rintro σ H' ⟨Dk,Df,v5,v6,v7,hC,rfl⟩:_;rw[show ((m:Int)+1).toNat=m+1 by lia,d4]at hC;right;exact#[Dk,Df,hC,_,_,_,rfl]
  rintro σ H3 ⟨Dk,Df,v5,v6,v7,⟨kept,fresh,sT,hT,hK,hF,hfl,hfE,hB,hcp⟩,rfl⟩:0;ac_rfl;exact#[⋯,λp hp=>q AT kept p Dk _ (hcp _ _ (.out kept fresh)) hB (sT.trans (SamT.of (zf hp))) (hT.same (zf hp)) zc (hK.same (zf hp))]
def ThinL.pairs(h:ThinL k l ns zs)(hp:zb bs=zb zs)(hE:∀e ∈ bs,EB l e):ThinL k l ns bs:=by
 have key:∀(i:Nat) (a:Ent),bs[i]? = AQ a->∃z,zs[i]? = AQ z/\z.1=a.1/\z.2.1=a.2.1:=λi a ha=>by
  have h1:(zb bs)[i]? = AQ (a.1,a.2.1):=by unfold zb;rw[aq,ha];rfl
  rw[hp]at h1;unfold zb at h1;rw[aq]at h1;let#[z,hz,e]:=Bd.mp h1;exact#[z,hz,(Prod.ext_iff.mp e).1,(Prod.ext_iff.mp e).2]
 refine#[#[hE,λe he=>?_],λi j a b ha hb hij=>?_,λi j a b ha hb hij=>?_,λi j a b ha hb=>?_]
 ·let#[i,hi]:=Bl.mp he;let#[z,hz,e1,e2]:=key i e hi;rw[<- e1,<- e2];exact h.rl.lt z (ac hz)
 all_goals
  let#[x,hx,e1,e2]:=key i a ha;let#[y,hy,f1,f2]:=key j b hb;rw[<- f1]
 ·rw[<- e1];exact h.up i j x y hx hy hij
 ·rw[<- e1];exact h.no1 i j x y hx hy hij
 ·rw[<- e2];exact h.no2 i j x y hx hy
def ZO{w:()}{i:Nat}(hr:ps[i]? = AQ r)(h:zw w q (sdl r f).1=AS):yn ps w ((i:Int),q,f)=AQ (yX w q (sdl r f).1 (sdl r f).2):=by
 have hi:=(AX.mp hr).1
 have e:ps.getD ((i:Int),q,f).1.toNat ([],[])=r:=by
  show ps.getD ((i:Int)).toNat ([],[])=r;rw[aA,ae,hr];rfl
 rw[yE (show 0<=((i:Int),q,f).1/\((i:Int),q,f).1<ps.length by constructor <;> simp <;> lia),e,w6 h]
def Km(h:e ∈ fEs rs n):EOk rs e:=by
 let#[i,p,hi,hp,rfl]:=jW h;show yg rs p.1 [((i:Int),(0:Int),AS)]=AQ p.2
 have hs:zw p.1 0 (sdl p AS).1=AS:=by
  show zw p.1 0 p.1=AS;refine u6 #[⋯,⋯,?_];show (p.1.drop 0).take p.1.length=p.1;rw[dw,aI]
 erw[yg,ZO hp hs,ci]
 show AQ (yX p.1 0 p.1 p.2)=AQ p.2;congr 1;unfold yX;show p.1.take 0 ++ p.2 ++ p.1.drop (0+p.1.length)=p.2;rw[bu,bg,bf ⋯,aT]
def zbQ(hb:∀e ∈ bs,EOk rs e)(ht:t ∈ ovA (zb bs) (zb bs).length):EOk rs (kn bs t):=by
 let#[i1,i2,i3,i4]:=jC ht;obtain⟨r,hr⟩:∃r,(zb bs)[t.1]? = AQ r:=#[_,af i1];obtain⟨r2,hr2⟩:∃r,(zb bs)[t.2.1]? = AQ r:=#[_,af i2];have l1:=xE hr;have l2:=xE hr2;have d1:(zb bs).getD t.1 ([],[])=r:=by rw[ae,hr];rfl
 have d2:(zb bs).getD t.2.1 ([],[])=r2:=by rw[ae,hr2];rfl
 rw[l1]at i3;rw[l1,l2]at i4;have eA:pkA (zb bs) t=yX (yu r.1 r2.1 t.2.2) 0 r.1 r.2:=by unfold pkA;rw[l1,l2,d1]
 have eB:pkB (zb bs) t=yX (yu r.1 r2.1 t.2.2) (t.2.2:Nat) r2.1 r2.2:=by unfold pkB;rw[l1,l2,d2]
 refine j8 hb ?_;show yg (zb bs) (pkA (zb bs) t) [((t.1:Int),(0:Int),AT),((t.2.1:Int),(t.2.2:Int),AS)]=AQ (pkB (zb bs) t);let#[b1,b2]:=WQ r.2 (kP r.1 r2.1 t.2.2);rw[eA,eB];have h1:=ZO (f:=AT) (q:=0) hr (w:=yX (yu r.1 r2.1 t.2.2) 0 r.1 r.2) b1;have h2:=ZO (f:=AS) (q:=(t.2.2:Int)) hr2 (w:=yu r.1 r2.1 t.2.2) (j2 ⋯ i4)
 have h1':yn (zb bs) (yX (yu r.1 r2.1 t.2.2) 0 r.1 r.2) ((t.1:Int),(0:Int),AT)=AQ (yu r.1 r2.1 t.2.2):=by
  rw[h1];congr 1
 have h2':yn (zb bs) (yu r.1 r2.1 t.2.2) ((t.2.1:Int),(t.2.2:Int),AS)=AQ (yX (yu r.1 r2.1 t.2.2) (t.2.2:Nat) r2.1 r2.2):=h2
 erw[yg,h1',h2',ci]
def Qy(h:uM k l ns 20 es (AQ bs))(hb:jw bs=AT)(hz:ThinL k l ns zs)(hp:zb bs=zb zs):BG k l ns bs:=by
 let#[b1,_]:=Wd hb
 have key:∀e ∈ bs,∃z ∈ zs,z.1=e.1/\z.2.1=e.2.1:=λe he=>by
  have:(e.1,e.2.1) ∈ zb zs:=by rw[<- hp];exact AY.mpr #[e,he,rfl]
  let#[z,hz,e2]:=AY.mp this;injection e2 with h1 h2;exact#[z,hz,h1,h2]
 refine#[⋯,λe he=>?_,λe he=>?_]
 ·let#[z,hzm,h1,h2]:=key e he;have hE:=hz.rl.e z hzm;have hn:=jY h bs rfl e he;unfold qP at hn;exact#[⋯,⋯,⋯,by rw[<- h1];exact hE.ma,by rw[<- h2];exact hE.mb]
 ·let#[z,hzm,h1,h2]:=key e he;rw[<- h1,<- h2];exact hz.rl.lt z hzm
def Gd(rs:List zH)(k:Nat)(l:())(ns:List Int)(es:List Ent):Prop:=(∀e ∈ es,EOk rs e)/\(es=[]\/(ThinL k l ns es/\jw es=AT/\BG k l ns es))
def XM(G:OG l ns k)(h:uM k l ns 20 es (AQ bs))(hb:jw bs=AT)(he:∀e ∈ es,EB l e)(ho:∀e ∈ es,EOk rs e):Gd rs k l ns bs:=by let#[h1,zs,hz,hp]:=Vq (rs:=rs) G h bs rfl he ho;have hB:=Qy h hb hz hp;exact#[h1,.inr #[hz.pairs hp hB.e,hb,hB]]
theorem zdY(G:OG l ns k){kept fresh es:List Ent}{w:Bool}(h:Cpl k l ns n kept fresh w es):(∀e ∈ fresh,EB l e)->(∀e ∈ fresh,EOk rs e)->Gd rs k l ns kept->Gd rs k l ns es:=by
 induction h with
 | out kept fresh=>exact λZ Z h=>h
 | slim _=>exact λZ Z h=>h
 | far h hb _ _=>exact λhe ho Z=>XM G h hb he ho
 | whole h hb _ _=>exact λhe ho Z=>XM G h hb he ho
 | @more n kept fresh bs es w h hb ho' hu r ih =>
  intro he ho _;have hg:=XM (rs:=rs) G h hb he ho
  have hB:BG k l ns bs:=by
   let#[h1,zs,hz,hp]:=Vq (rs:=rs) G h bs rfl he ho;exact Qy h hb hz hp
  have hnear:∀e ∈ bs,e.2.2.length<=240:=λe hm=>by
   have:=jY h bs rfl e hm;unfold qP at this;lia
  refine ih (λe hm=>?_) (λe hm=>?_) hg
  ·rcases Ba.mp hm with hm | hm
   ·exact hB.e e hm
   ·let#[t,ht,rfl]:=AY.mp hm;exact Jz hB hb hnear (Be.mp (bz ht)).1
  ·rcases Ba.mp hm with hm | hm
   ·exact hg.1 e hm
   ·let#[t,ht,rfl]:=AY.mp hm;exact zbQ hg.1 (Be.mp (bz ht)).1
def zau{w o:()}{q:Nat}(h:zw w (q:Int) o=AS):w.take q ++ o ++ w.drop (q+o.length)=w:=by
 unfold zw at h;let#[_,_,e]:=u5 h;rw[aA]at e
 calc w.take q ++ o ++ w.drop (q+o.length)=w.take q ++ ((w.drop q).take o.length ++ (w.drop q).drop o.length):=by rw[e,eG,aQ]
  _=w.take q ++ w.drop q:=by rw[bW]
  _=w:=bW q w
def Rw(ps:List zH)(u v:()):Prop:=∃p,p ∈ ps/\∃a b,u=a ++ p.1 ++ b/\v=a ++ p.2 ++ b
inductive Rws(ps:List zH):()->()->Prop where
 | nil {u:()}:Rws ps u u
 | cons {u v w:()} (h:Rw ps u v) (h2:Rws ps v w):Rws ps u w
def Rw.ctx(h:Rw ps u v)(c d:()):Rw ps (c ++ u ++ d) (c ++ v ++ d):=by let#[p,hp,a,b,rfl,rfl]:=h;exact#[p,hp,c ++ a,b ++ d,by erw[aQ],by erw[aQ]]
theorem Rws.ctx(h:Rws ps u v)(c d:()):Rws ps (c ++ u ++ d) (c ++ v ++ d):=by
 induction h with
 | nil=>exact .nil
 | cons s _ ih=>exact .cons (s.ctx c d) ih
def JG{w:()}{p:zH}{q:Nat}(h:zw w (q:Int) p.1=AS):w=w.take q ++ p.1 ++ w.drop (q+p.1.length)/\yX w (q:Int) p.1 p.2=w.take q ++ p.2 ++ w.drop (q+p.1.length):=by refine#[(zau h).symm,?_];unfold yX;rw[aA]
end
section
variable{k:Nat}{l:()}{ws:List Int}{ps:List zH}
end in def mu(k:Nat)(l:())(ws:List Int)(Ws:List (()))(v:()):Nat:=Ws.countP λy=>zU k l ws y v
end
def zcm(hR:zbZ R)(hp:∀p ∈ rs,R p.1 p.2)(h:yn rs u s=AQ v):R u v:=by
 by_cases hb:0<=s.1/\s.1<rs.length
 ·rw[yE hb]at h
  have hm:rs.getD s.1.toNat ([],[]) ∈ rs:=by
   rw[ae,af ⋯];exact dN _
  generalize rs.getD s.1.toNat ([],[])=r at *;by_cases hs:zw u s.2.1 (sdl r s.2.2).1=AS
  ·rw[w6 hs]at h;have h0:0<=s.2.1:=(u5 hs).1;obtain⟨q,hq⟩:∃q:Nat,s.2.1=(q:Int):=#[s.2.1.toNat,⋯];rw[hq]at h hs;let#[e1,e2]:=JG (p:=sdl r s.2.2) hs;rw[e2]at h;cases h
   conv=>arg 1;rw[e1]
   refine hR.ctx _ _ ?_;unfold sdl;split
   ·exact hp r hm
   ·exact hR.symm (hp r hm)
  ·rw[w9 hs]at h;cases h
 ·rw[y8 hb]at h;cases h
theorem zaR(hR:zbZ R)(hp:∀p ∈ rs,R p.1 p.2):∀{ss:List Stp} {u v:()},yg rs u ss=AQ v->R u v
 | [],u,v,h=>by cases h;exact hR.refl _
 | s::ss,u,v,h=>by
  let#[w1,h1,h2]:=uf h;exact hR.trans (zcm hR hp h1) (zaR hR hp h2)
section
variable{k:Nat}{l:()}{ws:List Int}{ps:List zH}
end
section
variable{k:Nat}{l:()}{ws:List Int}{es fs:List Ent}
end
mutual section
def WS(K:su):List V->Hp->VK->Prop:=λxs H Q=>∃p ys,xs=[.ref p]/\(SqL K H p ys\/SqT K H p ys)/\∀l,H l=AR->Q (.ref l) (upd H l (.lst ys))
structure TabAt(H:Hp)(t:sv)(rs:List sv)(tab:List (List Int)):Prop where
 top:H t=AQ (.lst (rs.map V.ref))
 len:rs.length=tab.length
 row:∀(i:Nat) (r:sv) (x:List Int),rs[i]? = AQ r->tab[i]? = AQ x->H r=AQ (.lst (x.map V.int))
def TabAt.same{H H':Hp}{t:sv}{rs:List sv}{tab:List (List Int)}(h:TabAt H t rs tab)(e:Same H H'):TabAt H' t rs tab:=#[e _ _ h.top,h.len,λi r x h1 h2=>e _ _ (h.row i r x h1 h2)]
abbrev zeZ(x:List Int):L3.D:=.lst (x.map L3.D.int)
theorem Qi : ∀{rs:List sv} {tab:List (List Int)},rs.length=tab.length->(∀(i:Nat) (r:sv) (x:List Int),rs[i]? = AQ r->tab[i]? = AQ x->H r=AQ (.lst (x.map V.int)))->Iss K H (tab.map zeZ) (rs.map V.ref)
 | [],[],_,_=>by erw[aH,Iss]
 | r::rs,x::tab,hl,h=>by
  erw[ao,Iss]
  refine#[_,_,rfl,?_,Qi ↥hl λi r' x' h1 h2=>h (i+1) r' x' h1 h2]
  erw[zeZ,Is]
  exact#[r,_,rfl,SqL.of (h 0 r x rfl rfl),Iss.ints x]
def TabAt.is(h:TabAt H t rs tab):Is K H (.lst (tab.map zeZ)) (.ref t):=by
 erw[Is]
 exact#[t,_,rfl,SqL.of h.top,Qi h.len h.row]
def zcd(tab:List (List Int)):vH (tab.map zeZ)<=1:=Xy λd h=>by
 let#[r,_,rfl]:=AY.mp h
 erw[zeZ,dpD,uN]
 lia
structure xB(l:())(tab:List (List Int)):Prop where
 lo:1<=tab.length
 hi:tab.length<=8
 wd:∀x ∈ tab,x.length=l.length
 rm:∀x ∈ tab,∀n ∈ x,0<=n/\n<(tab.length:Int)
def TabAt.get(h:TabAt H t rs tab)(h0:0<=i)(h1:i<(tab.length:Int)):∃r x,atI (rs.map V.ref) i=AQ (.ref r)/\tab[i.toNat]? = AQ x/\H r=AQ (.lst (x.map V.int)):=by have hl:=h.len;let#[v,e1,e2]:=vP (xs:=rs.map V.ref) h0 (by rw[aa];lia);rw[aq]at e2;let#[r,hr,rfl]:=Bd.mp e2;have hx:tab[i.toNat]? = AQ (tab[i.toNat]'⋯):=af ⋯;exact#[r,_,e1,hx,h.row _ _ _ hr hx]
def Uk{D:sv}(hg:g=yt 0)(h:TabAt H t rs tab)(hb:tab.length<=1000)(hD:H D=AR)(q:∀(rs':List sv) (H':Hp),Same H H'->TabAt H' D rs' tab->(∀r ∈ D::rs',H r=AR)->D ∉ rs'->Q (.ref D) H') :
  CompL K t g xo (tCB (WS K) (zK (ya 0) xv)) 1 [] σ H Q D:=by
 have s16:=zW;have hl:=h.len;subst hg;refine CompL.by (xs:=rs.map V.ref) (λi AW H'=>∃rs':List sv,AW=rs'.map V.ref/\rs'.length=i/\Same H H'/\H' D=AQ (.lst AW)/\(∀r ∈ rs',H r=AR/\r≠D)/\∀(j:Nat) (r:sv) (x:List Int),rs'[j]? = AQ r->tab[j]? = AQ x->H' r=AQ (.lst (x.map V.int))) #[[],rfl,rfl,zf hD,zc,λr h=>(nomatch h),λj r x h=>by simp at h] (λi AW H' Z h'=>by let#[_,_,_,hs,_]:=h';exact SqL.of (hs _ _ h.top)) ?_ ?_
 ·refine nm4 ?_;rintro i v AW H' hv ⟨rs',rfl,hi,hs,hH,hf,hr⟩:_;rw[aq]at hv;let#[r,hr0,rfl]:=Bd.mp hv;have hil:=(AX.mp hr0).1;have hx:tab[i]? = AQ (tab[i]'⋯):=af ⋯;right;generalize tab[i]'⋯=x at hx;have hrow:=hs _ _ (h.row i r x hr0 hx)
  erw[xo]
  rfl'
  erw[WS]
  rfl'
  refine#[yx,_,.inl (SqL.of hrow),λp hp=>#[zf hp _ _ hH,by rw[aa];lia,CNx.mk (by rw[aa];lia) #[rs' ++ [p],by rw[am];rfl,by rw[aj,hi];rfl,zu (hs.trans (zf hp)) hD,zc,?_,?_]]]
  ·intro r' hr';rcases Ba.mp hr' with h' | h'
   ·exact hf r' h'
   ·rw[Bb.mp h'];refine#[?_,λe=>by rw[e]at hp;rw[hp]at hH;cases hH]
    cases e:H p with
    | none=>rfl
    | some o=>have:=hs _ _ e;rw[hp]at this;cases this
  ·intro j r' x' h1 h2;by_cases hj:j<i
   ·rw[bU ⋯]at h1;have hm:=hf r' (ac h1);rw[zt hm.2];exact zf hp _ _ (hr j r' x' h1 h2)
   ·rw[bF ⋯]at h1
    have hj0:j=i:=by
     have:=(AX.mp h1).1;simp at this;lia
    subst hj0;rw[hi,d4]at h1;cases h1;rw[hx]at h2;cases h2;rw[zt (λe=>by rw[e]at hp;rw[hp]at hH;cases hH)];exact zc
 ·refine nmB ?_;rintro AW H' ⟨rs',rfl,hi,hs,hH,hf,hr⟩:_;rw[aa]at hi;right
  exact q rs' H' hs #[hH,⋯,hr] (λr hr'=>by
   rcases AZ.mp hr' with rfl | h'
   ·exact hD
   ·exact (hf r h').1) λh'=>(hf D h').2 rfl
def Jn{D:sv}(hg:g=yt 0)(h:TabAt H t rs tab)(hb:tab.length<=1000)(hD:H D=AR)(q:∀(rs':List sv) (H':Hp),Same H H'->TabAt H' D rs' tab->(∀r ∈ D::rs',H r=AR)->Q (.ref D) H') :
  CompL K t g xo (tCB (WS K) (zK (ya 0) xv)) 1 [] σ H Q D :=
 Uk hg h hb hD λrs' H' s' t' f' Z=>q rs' H' s' t' f'
structure zdI(K:su)(mg:sF->Option sw)(C:sv):Prop where
 xi:XI K C
 ini:ah K (.ref C) "__init__" = AQ (AQ (.builtin "ValueError.__init__"))
 g:mg "NoWorld" = AQ (.ref C)
 most:∃t,mg "MOST_ROOMS" = AQ (.int 8 t)
def jD:Sp:=λvs H Q Z=>∃(l:()) (a:sv) (rs:List sv) (tab:List (List Int)),vs=[⇑l,.ref a]/\l.length<=6/\TabAt H a rs tab/\xB l tab/\∀(t:sv) (rs':List sv) (H':Hp),Same H H'->TabAt H' t rs' tab->(∀r ∈ t::rs',H r=AR)->Q (.ref t) H'
def mX:sQz 2 ["letters","table","row","room"] vq:=by nofun
def Xz(B:Bt mg)(TNw:zdI K mg CQ)(F:("table_of"^^^vq)):(1|||["letters","table"]) jD:=by
 let#[t6,g6]:=TNw.most
 exists Fun.okX F mX,0
 ·let#[l,a,rs,tab,rfl,hl6,hT,hG,q]:=h
  refine#[_,(zh (zJ (yf (qQ wH wH zd (zA B.len (pv 1)) (yI (v:=.int 8) rfl g6 #[t6,rfl]))) (ze (ym hx rfl TNw.xi.toXC TNw.ini rfl TNw.g (za z9 zg)))
    zr) (zh (zR PassesOwn.leaving rfl (zY (pv 1)) (zq (i:=2) mX.nd rfl (.inl rfl)) (zG (zJ (zv um (zA B.len (pv 2)) (zA B.len (pv 0)) (zx _)) (ze (ym hx rfl TNw.xi.toXC TNw.ini rfl TNw.g (za z9 zg)))
     zr) (ze (zR PassesOwn.leaving rfl (zY (pv 2)) (zq (i:=3) mX.nd rfl (.inl rfl)) (ze (zJ (yf (qQ wH Qv zd (pv 3) (zA B.len (pv 1)))) (ze (ym hx rfl TNw.xi.toXC TNw.ini rfl TNw.g (za z9 zg)))
      zr)))))) (ze (zl (yJ (own:=["row"]) (caps:=[]) (ix:=[]) (tt:=xo) (te:=(tCB (WS K) (zK (ya 0) xv))) rfl (zM (sc:=zi vq) rfl (!0) (!0) (!0) rfl (!0) (!0) rfl) (zY (pv 1)) (λZ Z Z Z Z Z=>zq (i:=0) (show List.Nodup [_] by decide) rfl (.inl rfl)) (λZ Z Z Z Z Z=>yh) (λZ Z Z Z Z Z=>(vh xF rfl B.list PySem.Pv.boot_list (za (pv 0) zg)))))))),?_]
  have s16:=zW;have hlen:=hT.len;have hlo:=hG.lo;have hhi:=hG.hi;change H'=H/\σ=[~~~l,!!a,AR,AR]
  ·ac_rfl;exact#[_,.inl #[_,SqL.of hT.top,rfl],yb (λZ=>yb (λh=>w4 (by rw[aa];lia) h) λZ=>trivial) λh=>w4 (by rw[aa];lia) h]
  rintro σ H1 ⟨rfl,rfl⟩:0;change H'=H1/\∃v2 v3,σ=[~~~l,!!a,v2,v3]
  ·ac_rfl;refine#[#[_,SqL.of hT.top],ForL.by (xs:=rs.map V.ref) (λi σ H'=>H'=H1/\∃v2 v3,σ=[~~~l,!!a,v2,v3]) #[rfl,AR,AR,rfl] (λi σ H' Z h=>by rw[h.1];exact SqL.of hT.top) ?_ λσ H' h=>h];refine nm4 ?_;rintro i y σ H' hy ⟨rfl,v2,v3,rfl⟩:_;rw[aq]at hy;let#[r,hr,rfl]:=Bd.mp hy;have hil:=(AX.mp hr).1;have hx:tab[i]? = AQ (tab[i]'⋯):=af ⋯;right;generalize tab[i]'⋯=x at hx;have hrow:=hT.row i r x hr hx;have hmx:=ac hx;have hw:=hG.wd x hmx;ac_rfl;refine#[_,.inl #[_,SqL.of hrow,rfl],⋯,yb (λh=>w4 (by rw[aa];lia) h) λZ=>#[#[_,SqL.of hrow],ForL.by (xs:=x.map V.int) (λi σ H''=>H''=H'/\∃v2 v3,σ=[~~~l,!!a,v2,v3]) #[rfl,_,_,rfl] (λi σ H'' Z h=>by rw[h.1];exact SqL.of hrow) ?_ λσ H' h=>h]];refine nm4 ?_;rintro j y σ H'' hy ⟨rfl,v2,v3,rfl⟩:_;rw[aq]at hy;let#[n,hn,rfl]:=Bd.mp hy;let#[n1,n2]:=hG.rm x hmx n (ac hn);right;ac_rfl;exact yb (λZ=>#[_,.inl #[_,SqL.of hT.top,rfl],yb (λh=>w4 (by rw[aa];lia) h) λZ=>trivial]) λh=>w4 n1 h
  rintro σ H2 ⟨rfl,v2,v3,rfl⟩:0;ac_rfl;exact#[#[_,SqL.of hT.top],λD hD=>Jn rfl hT ⋯ hD λrs' H' s' t' f'=>q D rs' H' s' t' f']
structure zbe(K:su)(mg:sF->Option sw)(CV:sv):Prop where
 cl:Cls K CV
 g:mg "World" = AQ (.ref CV)
 nl:NoAttr K CV "letters"
 nt:NoAttr K CV "table"
def WorAt(CV:sv)(H:Hp)(o:sv)(l:())(t:sv)(rs:List sv)(tab:List (List Int)):Prop:=∃dx,H o=AQ (.ins CV dx [("letters",⇑l),("table",.ref t)])/\TabAt H t rs tab
def WorAt.same{CV:sv}{H H':Hp}{o t:sv}{l:()}{rs:List sv}{tab:List (List Int)}(h:WorAt CV H o l t rs tab)(e:Same H H'):WorAt CV H' o l t rs tab:=by let#[dx,h1,h2]:=h;exact#[dx,e _ _ h1,h2.same e]
def TabAt.updI(hp:H p=AQ (.ins C dx fs))(h:TabAt H t rs tab):TabAt (upd H p (.ins C dx gs)) t rs tab:=by
 refine#[?_,h.len,λi r x h1 h2=>?_]
 ·rw[zt (λe=>by have:=h.top;rw[e,hp]at this;cases this)];exact h.top
 ·have h3:=h.row i r x h1 h2;rw[zt (λe=>by rw[e,hp]at h3;cases h3)];exact h3
def uq(CV:sv):Sp:=λvs H Q Z=>∃(x dx a:sv) (l:()) (rs:List sv) (tab:List (List Int)),vs=[.ref x,⇑l,.ref a]/\kg l=AS/\TabAt H a rs tab/\xB l tab/\H x=AQ (.ins CV dx []) /\
 ∀(t:sv) (rs':List sv) (H':Hp),(∀b o,b≠x->H b=AQ o->H' b=AQ o)->(∀r ∈ t::rs',H r=AR)->WorAt CV H' x l t rs' tab->Q .non H'
def Zc:sQz 3 ["self","letters","table"] vo:=by nofun
def Zl(B:Bt mg)(CLw:zbe K mg CV)(F:Fun K "__init__" "World.__init__" vo f fd)(mq:(2>>>"letters_of") ["text"] [] (wD C))(rA:(1>>>"table_of") ["letters","table"] [] jD):(4|||["self","letters","table"]) (uq CV):=by
 exists Fun.okX F Zc,0
 ·let#[x,dx,a,l,rs,tab,rfl,hg,hT,hG,hX,q]:=h
  refine#[_,(zh (Xj (pv 0) (clP hx mq hr .nil rfl (za (pv 1) zg)) rfl) (ze (Xj (pv 0) (clP hx rA hr .nil rfl (za (pv 1) (za (pv 2) zg))) rfl))),?_]
  have s16:=zW;have hg':=u5 hg;change H'=upd H x (.ins CV dx [("letters",⇑l)])/\σ=[!!x,~~~l,!!a]
  ·ac_rfl;exact#[l,rfl,⋯,λZ=>#[_,_,_,hX,CLw.cl,CLw.nl,∅,rfl],λe=>by rw[hg]at e;cases e]
  rintro σ H1 ⟨rfl,rfl⟩:0;ac_rfl;refine#[l,a,rs,tab,rfl,⋯,hT.updI hX,hG,λt rs' H' s' t' f'=>?_];have hX2:=s' _ _ (zc (H:=H) (a:=x) (o:=.ins CV dx [("letters",⇑l)]))
  have fr:∀r ∈ t::rs',H r=AR/\r≠x:=λr hr'=>by
   have h1:=f' r hr';have h2:r≠x:=λe=>by rw[e,zc]at h1;cases h1
   rw[zt h2]at h1;exact#[h1,h2]
  exact#[_,_,_,hX2,CLw.cl,CLw.nt,by show 1<1000;decide,q t rs' _ (λb o hb e=>by rw[zt hb];exact s' _ _ (by rw[zt hb];exact e)) (λr hr'=>(fr r hr').1) #[dx,zc,t'.updI hX2]]
theorem Qe{R:sv->Hp->Prop}(hg:kg l=AS)(hT:TabAt H a rs tab)(hG:xB l tab)(q:∀(x t:sv) (rs':List sv) (H':Hp),Same H H'->H x=AR->(∀r ∈ t::rs',H r=AR)->WorAt CV H' x l t rs' tab->R x H') :
  ∀x dx,H x=AR->H dx=AR->dx≠x->uq CV [.ref x,⇑l,.ref a] (upd (upd H dx (.own x)) x (.ins CV dx [])) (λv H2=>v=.non/\R x H2) E:=by
 intro x dx hx hdx hne;have sd:=zf (o:=.own x) hdx;have hx1:(upd H dx (.own x)) x=AR:=by rw[zt hne.symm];exact hx
 have sx:=sd.trans (zf (o:=.ins CV dx []) hx1);refine#[x,dx,a,l,rs,tab,rfl,hg,hT.same sx,hG,zc,λt rs' H' k f hc=>#[rfl,q x t rs' H' (λb o e=>k b o (zN e hx) (sx b o e)) hx (λr hr=>?_) hc]]
 cases e:H r with
 | none=>rfl
 | some o=>have:=sx _ _ e;rw[f r hr]at this;cases this
def qU(CV:sv):Sp:=λvs H Q Z=>∃(o t:sv) (l:()) (rs:List sv) (tab:List (List Int)),vs=[.ref o]/\WorAt CV H o l t rs tab/\Q (.int (tab.length:Nat)) H
def kq:sQz 1 ["self"] wC:=by nofun
def ko(B:Bt mg)(CLw:zbe K mg CV)(F:Fun K "rooms" "World.rooms" wC f fd):(1&&&["self"]) (qU CV):=by
 exists F.ok kq
 ·let#[o,t,l,rs,tab,rfl,hW,q]:=h;refine#[_,(ze (zl (zA B.len (jg (pv 0) rfl)))),?_];have s16:=zW
  rfl'
  let#[dx,ho,hT]:=hW;exact#[_,_,_,ho,CLw.cl,CLw.nt,_,rfl,_,.inl #[_,SqL.of hT.top,rfl],by rw[aa,hT.len];exact q]
def UI(h:WorAt CV H o l t rs tab)(q:Q (.int (tab.length:Nat)) H):qU CV [.ref o] H Q E:=#[o,t,l,rs,tab,rfl,h,q]
def Xn(l:())(tab:List (List Int))(r:Int)(c:Nat):Int:=(tab.getD r.toNat []).getD (l.idxOf c) 0
def ue(l:())(tab:List (List Int))(r:Int)(w:()):Int:=w.foldl (Xn l tab) r
def KM(hG:xB l tab)(h0:0<=r)(h1:r<(tab.length:Int))(hc:c ∈ l):0<=Xn l tab r c/\Xn l tab r c<(tab.length:Int):=by have hx:tab[r.toNat]? = AQ (tab[r.toNat]'⋯):=af ⋯;generalize tab[r.toNat]'⋯=x at hx;have hm:=ac hx;have hi:=bO hc;rw[<- hG.wd x hm]at hi;have hn:x[l.idxOf c]? = AQ x[l.idxOf c]:=af hi;unfold Xn;rw[ae (l:=tab),hx,fj,ae,hn,fj];exact hG.rm x hm _ (ac hn)
theorem Zn(hG:xB l tab):∀{w:()} {r:Int},0<=r->r<(tab.length:Int)->(∀c ∈ w,c ∈ l)->0<=ue l tab r w/\ue l tab r w<(tab.length:Int)
 | [],r,h0,h1,_=>#[h0,h1]
 | c::w,r,h0,h1,hw=>by
  let#[a,b]:=KM hG h0 h1 (hw c (by simp));exact Zn hG (w:=w) a b λx hx=>hw x (by simp [hx])
def Y1{w:()}(h:w[i]? = AQ c):ue l tab r (w.take (i+1))=Xn l tab (ue l tab r (w.take i)) c:=by unfold ue;rw[zQ h,List.foldl_append];rfl
def zbr(hG:xB l tab){x:List Int}(hx:tab[r.toNat]? = AQ x){c:Nat}(hc:c ∈ l):atI (x.map V.int) ((l.idxOf c:Nat):Int)=AQ (.int (Xn l tab r c)):=by have hm:=ac hx;have hi:=bO hc;rw[<- hG.wd x hm]at hi;have hn:x[l.idxOf c]? = AQ x[l.idxOf c]:=af hi;refine vf ?_;unfold Xn;rw[aq,hn,ae (l:=tab),hx,fj,ae,hn];rfl
def j3(CV:sv):Sp:=λvs H Q Z=>∃(o t:sv) (l:()) (rs:List sv) (tab:List (List Int)) (r:Int) (w:()),vs=[.ref o,.int r,⇑w]/\WorAt CV H o l t rs tab/\xB l tab/\0<=r/\r<(tab.length:Int)/\(∀c ∈ w,c ∈ l)/\Q (.int (ue l tab r w)) H
def mv:sQz 3 ["self","room","word","letter"] vV:=by nofun
def Xg(B:Bt mg)(CLw:zbe K mg CV)(F:Fun K "led" "World.led" vV f fd):(1&&&["self","room","word"]) (j3 CV):=by
 exists F.ok mv
 ·let#[o,t,l,rs,tab,r,w,rfl,hW,hG,h0,h1,hw,q]:=h
  refine#[_,(zG (zR p8 rfl (YO (pv 2)) (zq (i:=3) mv.nd rfl (.inl rfl)) (ze (zy 1 mv.nd (zk ix_list (zk ix_list (jg (pv 0) rfl) (pv 1)) (wl bJ fB fF JN (jg (pv 0) rfl) (za (pv 3) zg)))))) (ze (zl (pv 1)))),?_]
  have s16:=zW
  rfl'
  let#[dx,ho,hT]:=hW;refine ForS.by (λi σ H'=>H'=H/\∃v3,σ=[!!o,AQ (.int (ue l tab r (w.take i))),~~~w,v3]) #[rfl,AR,rfl] ?_ ?_
  ·refine nm4 ?_;rintro i c σ H' hc ⟨rfl,v3,rfl⟩:_;have hcl:=hw c (ac hc);let#[a,b]:=Zn hG (w:=w.take i) h0 h1 λx hx=>hw x (bz hx);let#[r',x,e1,e2,e3]:=hT.get a b;right;ac_rfl;exact#[_,_,_,ho,CLw.cl,CLw.nt,_,rfl,_,rfl,_,SqL.of hT.top,_,e1,_,_,_,ho,CLw.cl,CLw.nl,_,rfl,trivial,_,rfl,_,WP hcl,_,rfl,_,SqL.of e3,by rw[Y1 hc];exact zbr hG e2 hcl]
  ·refine nmB ?_;rintro σ H' ⟨rfl,v3,rfl⟩:0
   rfl'
   rw[aI];exact q
def qJ{w:()}(h:WorAt CV H o l t rs tab)(hG:xB l tab)(h0:0<=r)(h1:r<(tab.length:Int))(hw:∀c ∈ w,c ∈ l)(q:Q (.int (ue l tab r w)) H):j3 CV [.ref o,.int r,⇑w] H Q E:=#[o,t,l,rs,tab,r,w,rfl,h,hG,h0,h1,hw,q]
def wX(l:())(tab:List (List Int))(u v:()):Option Nat:=(aJ tab.length).find? λr=>decide (ue l tab (r:Int) u≠ue l tab (r:Int) v)
def vO:Option Nat->V
 | none=>.non
 | some r=>.int (r:Nat)
def Xk{r:Nat}(h1:r<tab.length)(h2:ue l tab (r:Int) u≠ue l tab (r:Int) v)(h3:∀j:Nat,j<r->ue l tab (j:Int) u=ue l tab (j:Int) v):wX l tab u v=AQ r:=by unfold wX;rw[List.find?_eq_some_iff_getElem];refine#[by simpa using h2,r,by simpa using h1,by simp,λj hj=>?_];simpa using h3 j hj
def Y7(h:∀j:Nat,j<tab.length->ue l tab (j:Int) u=ue l tab (j:Int) v):wX l tab u v=AR:=by unfold wX;rw[du];intro j hj;simpa using h j ↥hj
def vA(CV:sv):Sp:=λvs H Q Z=>∃(o t:sv) (l:()) (rs:List sv) (tab:List (List Int)) (u v:()),vs=[.ref o,⇑u,⇑v]/\WorAt CV H o l t rs tab/\xB l tab/\(∀c ∈ u,c ∈ l)/\(∀c ∈ v,c ∈ l)/\Q (vO (wX l tab u v)) H
def XG(h:WorAt CV H o l t rs tab)(hG:xB l tab)(hu:∀c ∈ u,c ∈ l)(hv:∀c ∈ v,c ∈ l)(q:Q (vO (wX l tab u v)) H):vA CV [.ref o,⇑u,⇑v] H Q E:=#[o,t,l,rs,tab,u,v,rfl,h,hG,hu,hv,q]
def mP:sQz 3 ["self","one","other","room"] xV:=by nofun
def jo(B:Bt mg)(CL:zbe K mg CV)(F:Fun K "parted" "World.parted" xV f fd)(M_world_rooms:DM P w K mg base CX0 1 CV "rooms" ["self"] (qU CV))(M_world_led:DM P w K mg base CX0 1 CV "led" ["self","room","word"] (j3 CV)):(2&&&["self","one","other"]) (vA CV):=by
 exists F.ok mP
 ·let#[o,t,l,rs,tab,u,v,rfl,hW,hG,hu,hv,q]:=h
  refine#[_,(zG (zR p8 rfl (zV rfl B.range (za (me0 M_world_rooms CL.cl hr (pv 0)) zg)) (zq (i:=3) mP.nd rfl (.inl rfl)) (ze (zJ (zv um (me1 M_world_led CL.cl hr (pv 0) (za (pv 3) (za (pv 1) zg))) (me1 M_world_led CL.cl hr (pv 0) (za (pv 3) (za (pv 2) zg))) (zx _)) (ze (zl (pv 3)))
     zr))) (ze (zl ye))),?_]
  have s16:=zW
  rfl'
  let#[dx,ho,hT]:=id hW;have hhi:=hG.hi;refine#[_,_,ho,rfl,UI hW ?_];refine#[_,rfl,⋯,⋯,ForR.by (λi σ H'=>H'=H/\(∀j:Nat,j<i->ue l tab (j:Int) u=ue l tab (j:Int) v)/\∃v3,σ=[!!o,~~~u,~~~v,v3]) #[rfl,λj h=>w4 h (bB j),AR,rfl] ?_ ?_]
  ·refine nm3 ?_;rintro i σ H' hi ⟨rfl,hb,v3,rfl⟩:_;have hi':i<tab.length:=⋯;have e0:(0:Int)+(i:Int)=(i:Int):=⋯;right;ac_rfl;refine#[_,_,ho,rfl,qJ hW hG ⋯ ⋯ hu #[_,_,ho,rfl,qJ hW hG ⋯ ⋯ hv ?_]];rw[e0];ac_rfl;refine yb (λh=>?_) λh j hj=>?_
   ·rw[Xk hi' h hb]at q;exact q
   ·by_cases hj':j<i
    ·exact hb j hj'
    ·have:j=i:=⋯;rw[this];exact Decidable.not_not.mp h
  ·refine nmB ?_;rintro σ H' ⟨rfl,hb,v3,rfl⟩:0;ac_rfl;rw[Y7 λj hj=>hb j ⋯]at q;exact q
def wI(l:())(tab:List (List Int)):List zH->Nat->Option (Nat × Nat)
 | [],_=>AR
 | p::ps,i=>match wX l tab p.1 p.2 with
  | some r=>AQ (i,r)
  | none=>wI l tab ps (i+1)
theorem kF : ∀{ps:List zH} {i k:Nat} {p:zH},ps[i]? = AQ p->(∀(j:Nat) (q:zH),j<i->ps[j]? = AQ q->wX l tab q.1 q.2=AR)->∀r,wX l tab p.1 p.2=AQ r->wI l tab ps k=AQ (k+i,r)
 | q::ps,0,k,p,h,_,r,hr=>by
  cases h
  erw[wI,hr,Nat.add_zero]
 | q::ps,i+1,k,p,h,hb,r,hr=>by
  have h0:=hb 0 q ⋯ rfl
  erw[wI,h0]
  rw[kF (ps:=ps) (i:=i) (k:=k+1) h (λj q' hj e=>hb (j+1) q' ⋯ e) r hr];congr 2;lia
theorem kK : ∀{ps:List zH} {k:Nat},(∀(j:Nat) (q:zH),ps[j]? = AQ q->wX l tab q.1 q.2=AR)->wI l tab ps k=AR
 | [],_,_=>rfl
 | q::ps,k,hb=>by
  erw[wI,hb 0 q rfl]
  exact kK λj q' e=>hb (j+1) q' e
def qc(K:su)(CV:sv):Sp:=λvs H Q Z=>∃(o t a:sv) (l:()) (rs:List sv) (tab:List (List Int)) (ps:List zH),vs=[.ref o,.ref a]/\LsA K H a (ps.map dR)/\WorAt CV H o l t rs tab/\xB l tab/\(∀p ∈ ps,(∀c ∈ p.1,c ∈ l)/\∀c ∈ p.2,c ∈ l) /\
 (wI l tab ps 0=AR->∀H',Same H H'->Q .non H')/\∀i r,wI l tab ps 0=AQ (i,r)->∀p H',Same H H'->H' p=AQ (.tup [.int (i:Nat),.int (r:Nat)])->Q (.ref p) H'
def io:sQz 2 ["self","pacts","number","pact","room"] xY:=by nofun
def j1(B:Bt mg)(CL:zbe K mg CV)(F:Fun K "broken" "World.broken" xY f fd)(M_world_parted:DM P w K mg base CX0 2 CV "parted" ["self","one","other"] (vA CV)):(3&&&["self","pacts"]) (qc K CV):=by
 exists F.ok io
 ·let#[o,t,a,l,rs,tab,ps,rfl,hA,hW,hG,hp,q1,q2]:=h
  refine#[_,(zG (zR p8 rfl (xf rfl B.enum (za (pv 1) zg)) (vJ (n:=2) rfl (zZ (zq (i:=2) io.nd rfl (.inl rfl)) (zZ (zq (i:=3) io.nd rfl (.inl rfl)) xW))) (zG (zy 4 io.nd (me1 M_world_parted CL.cl hr (pv 0) (za (!-3) (za (!-3) zg)))) (ze (zJ (zv op_notN' (pv 4) ye (zx _)) (ze (zl (zX (za (pv 2) (za (pv 4) zg)))))
     zr)))) (ze (zl ye))),?_]
  have s16:=zW
  rfl'
  let#[xs,hX,hI]:=id hA;have hXL:=hI.len;rw[aa]at hXL;refine#[#[_,SqL.of hX],ForEL.by (xs:=xs) (λi σ H'=>Same H H'/\(∀(j:Nat) (p:zH),j<i->ps[j]? = AQ p->wX l tab p.1 p.2=AR)/\∃v2 v3 v4,σ=[!!o,!!a,v2,v3,v4]) #[Same.refl _,λj p h=>w4 h (bB j),_,_,_,rfl] ?_ ?_ ?_]
  ·rintro i σ H' _ ⟨hs,_⟩;exact SqL.of (hs _ _ hX)
  ·refine nmE ?_;rintro i x σ H' p hx ⟨hs,hb,v2,v3,v4,rfl⟩ hpn:_;let#[r,pr,hri,rfl,hqr]:=hI.getR hx;have hm:=hp r (ac hri);have s2:=hs.trans (zf (o:=.tup [.int (i:Nat),.ref pr]) hpn);have hW2:=hW.same s2;let#[dx,ho,_]:=id hW2;have hq2:=zp s2 hqr;right;ac_rfl;refine#[_,SqT.of zc,rfl,_,_,rfl,_,_,rfl,rfl,_,_,ho,rfl,_,rfl,_,hq2,_,rfl,_,rfl,_,hq2,_,rfl,XG hW2 hG hm.1 hm.2 ?_]
   cases e:wX l tab r.1 r.2 with
   | none =>
    erw[vO]
    ac_rfl;refine#[s2,λj p' hj hp'=>?_];by_cases hj':j<i
    ·exact hb j p' hj' hp'
    ·have:j=i:=⋯;rw[this,hri]at hp';cases hp';exact e
   | some z =>
    erw[vO]
    ac_rfl;have hbr:=kF (k:=0) hri hb z e;rw[dY]at hbr;exact#[⋯,λp3 hp3=>q2 i z hbr p3 _ (s2.trans (zf hp3)) zc]
  ·refine nmB ?_;rintro σ H' ⟨hs,hb,v2,v3,v4,rfl⟩:0;ac_rfl;exact q1 (kK λj p' e=>hb j p' (by have:=(AX.mp e).1;lia) e) H' hs
structure Kx(K:su)(mg:sF->Option sw)(CM:sv):Prop where
 xi:XI K CM
 ini:ah K (.ref CM) "__init__" = AQ (AQ (.builtin "ValueError.__init__"))
 g:mg "TooMany" = AQ (.ref CM)
 most:∃t,mg "MOST_TABLES" = AQ (.int 1000 t)
def zfN(h1:n<=8)(h2:k<=6):n * k<=48:=fJ h1 h2
def qK:Sp:=λvs H Q Z=>∃(l:()) (n:Nat),vs=[⇑l,.int (n:Nat)]/\l.length<=6/\n<=8/\Q (.int ((n ^ (n * l.length):Nat):Int)) H
def YH(h1:l.length<=6)(h2:n<=8)(q:Q (.int ((n ^ (n * l.length):Nat):Int)) H):qK [⇑l,.int (n:Nat)] H Q E:=#[l,n,rfl,h1,h2,q]
def Ku(n i:Nat):((n ^ i:Nat):Int) * (n:Int)=((n ^ (i+1):Nat):Int):=by rw[Nat.pow_succ,d5]
def iD:sQz 2 ["letters","rooms","count","cell"] wG:=by nofun
def kj(B:Bt mg)(F:("table_count"^^^wG)):(1&&&["letters","rooms"]) qK:=by
 exists F.ok iD
 ·let#[l,n,rfl,h1,h2,q]:=h
  refine#[_,(zG (zy 2 iD.nd zd) (zG (zR p8 rfl (zV rfl B.range (za (zD Wi (pv 1) (zA B.len (pv 0))) zg)) (zq (i:=3) iD.nd rfl (.inl rfl)) (ze (zy 2 iD.nd (zD Wi (pv 2) (pv 1))))) (ze (zl (pv 2))))),?_]
  have s16:=zW
  rfl'
  have hm:=zfN h2 h1;have em:((n:Int) * (l.length:Int))=((n * l.length:Nat):Int):=by rw[d5]
  refine#[⋯,.inl #[⋯,⋯],?_];rw[em];refine#[⋯,⋯,ForR.by (λi σ H'=>H'=H/\∃v3,σ=[~~~l,-~~~n,AQ (.int ((n ^ i:Nat):Int)),v3]) #[rfl,_,rfl] ?_ ?_]
  ·refine nm3 ?_;rintro i σ H' hi ⟨rfl,v3,rfl⟩:0
   rfl'
   exact#[.inr #[⋯,⋯],Ku n i]
  ·refine nmB ?_;rintro σ H' ⟨rfl,v3,rfl⟩:0
   rfl'
   rw[aA];exact q
def uC:Sp:=λvs H Q Z=>∃(l:()) (n:Nat),vs=[⇑l,.int (n:Nat)]/\l.length<=6/\n<=8/\Q (.bl (decide (n ^ (n * l.length)<=1000))) H
def kJ(h1:l.length<=6)(h2:n<=8)(q:Q (.bl (decide (n ^ (n * l.length)<=1000))) H):uC [⇑l,.int (n:Nat)] H Q E:=#[l,n,rfl,h1,h2,q]
def Ky(a:Nat):decide ((a:Int)<=1000)=decide (a<=1000):=by
 by_cases h:a<=1000
 ·rw[u6 h,u6 ⋯]
 ·rw[u9 h,u9 ⋯]
def qC:sQz 2 ["letters","rooms"] xx:=by nofun
def qD(B:Bt mg)(TM:Kx K mg CM)(F:("tables_within"^^^xx))(lN:(1<<<"table_count") ["letters","rooms"] [] qK):(2&&&["letters","rooms"]) uC:=by
 let#[t9,g9]:=TM.most
 exists F.ok qC
 ·let#[l,n,rfl,h1,h2,q]:=h;refine#[_,(ze (zl (yi wH (cl0 lN hr .nil rfl (za (pv 0) (za (pv 1) zg))) (yI (v:=.int 1000) rfl g9 #[t9,rfl]) (zx _)))),?_];have s16:=zW
  rfl'
  refine YH h1 h2 ?_
  rfl'
  rw[Ky];exact q
def jR(n N i:Nat):Int:=((N / n ^ i % n:Nat):Int)
def J5(n k N r:Nat):List Int:=(aJ k).map λj=>jR n N (n * k - 1 - (r * k+j))
def wb(n k N:Nat):List (List Int):=(aJ n).map λr=>J5 n k N r
def zcS(h:1<=n):0<=jR n N i/\jR n N i<(n:Int):=by have:=Nat.mod_lt (N / n ^ i) (show 0<n by lia);unfold jR;lia
def uP(n k N:Nat):(wb n k N).length=n:=by simp [wb]
def qS(N:Nat)(h1:1<=n)(h8:n<=8):xB l (wb n l.length N):=by
 refine#[by rw[uP];exact h1,by rw[uP];exact h8,λx hx=>?_,λx hx z hz=>?_]
 ·let#[r,_,rfl]:=AY.mp hx;simp [J5]
 ·let#[r,_,rfl]:=AY.mp hx;let#[j,_,rfl]:=AY.mp hz;rw[uP];exact zcS h1
def Wa(hr:r<n):((((aJ (n * k)).map (jR n N)).reverse).drop (r * k)).take k=J5 n k N r:=by
 have hb:r * k+k<=n * k:=by
  have:=d6 k (show r+1<=n by lia);rw[Nat.add_mul,gq]at this;exact this
 apply List.ext_getElem?;intro j;by_cases hj:j<k
 ·rw[cN hj,List.getElem?_drop,bE (by simp;lia),aq,eh (by simp;lia),J5,aq,eh hj];simp
 ·rw[cq (by simp [aC];lia),cq (by simp [J5];lia)]
def Qt(n N i:Nat):N / n ^ i / n=N / n ^ (i+1):=by rw[Nat.div_div_eq_div_mul,Nat.pow_succ]
def vW:Sp:=λvs H Q Z=>∃(l:()) (n N:Nat),vs=[⇑l,.int (n:Nat),.int (N:Nat)]/\1<=l.length/\l.length<=6/\1<=n/\n<=8/\∀(t:sv) (rs:List sv) (H':Hp),Same H H'->TabAt H' t rs (wb n l.length N)->(∀r ∈ t::rs,H r=AR)->Q (.ref t) H'
def Ym(h1:1<=l.length)(h2:l.length<=6)(h3:1<=n)(h4:n<=8)(q:∀(t:sv) (rs:List sv) (H':Hp),Same H H'->TabAt H' t rs (wb n l.length N)->(∀r ∈ t::rs,H r=AR)->Q (.ref t) H'):vW [⇑l,.int (n:Nat),.int (N:Nat)] H Q E:=#[l,n,N,rfl,h1,h2,h3,h4,q]
def zbK(h1:1<=n)(h2:1<=k):(p0 0 ((n * k:Nat):Int) (k:Int)).toNat=n:=by
 have hp:0<n * k:=Nat.mul_pos h1 h2;unfold p0;rw[w6 ⋯,w6 ⋯];have e:(((n * k:Nat):Int) - 0 - 1)=((n * k - 1:Nat):Int):=⋯
 have e2:(n * k - 1) / k=n - 1:=by
  obtain⟨m,rfl⟩:∃m,n=m+1:=#[n - 1,⋯];rw[Nat.add_mul,gq,show m * k+k - 1=(k - 1)+m * k by lia,Nat.add_mul_div_right _ _ ⋯,Nat.div_eq_of_lt ⋯];lia
 rw[e,<- Int.natCast_ediv,e2];lia
def Ja{D:sv}(hg:g=yt 0)(hte:te=tSl (zeF K) (ya 1) (YV (ya 0)) (YV (tOp Yq (ya 0) (tCB (Wy K) (zK (ya 2) xv)))))(hi:vR σ 1 ix=[AR,!!c,~~~l])(hc:H c=AQ (.lst ((((aJ (n * l.length)).map (jR n N)).reverse).map V.int)))(h1:1<=l.length)(h2:l.length<=6)(h3:1<=n)(h4:n<=8)(hD:H D=AR)(q:∀(rs:List sv) (H':Hp),Same H H'->TabAt H' D rs (wb n l.length N)->(∀r ∈ D::rs,H r=AR)->Q (.ref D) H'):CompK 0 (l.length:Nat) n g xo te 1 ix σ H Q D:=by
 have s16:=zW;have hmm:=zfN h4 h2;subst hg hte;refine CompK.by (λi AW H'=>∃rs:List sv,AW=rs.map V.ref/\rs.length=i/\Same H H'/\H' D=AQ (.lst AW)/\(∀r ∈ rs,H r=AR/\r≠D)/\∀(j:Nat) (r:sv),rs[j]? = AQ r->H' r=AQ (.lst ((J5 n l.length N j).map V.int))) #[[],rfl,rfl,zf hD,zc,λr h=>(nomatch h),λj r h=>by simp at h] ?_ ?_
 ·refine nm3 ?_;rintro i AW H' hin ⟨rs,rfl,hrl,hs,hH,hf,hr⟩:_;have hc':=hs _ _ hc;have ei:(0:Int)+(i:Int) * (l.length:Int)=((i * l.length:Nat):Int):=by rw[Int.zero_add,d5]
  right;dsimp only;rw[ei];have hil:i * l.length<=48:=aP (d6 _ (by lia:i<=n)) hmm
  erw[xo,yt,hi]
  rfl'
  refine#[yx,⋯,_,SqL.of hc',λp hp=>?_];rw[Y8 _ ⋯ ⋯];have e1:(((i * l.length:Nat):Int)).toNat=i * l.length:=aA _;have e2:(((i * l.length:Nat):Int)+(l.length:Int) - ((i * l.length:Nat):Int)).toNat=l.length:=⋯;rw[e1,e2,Wa hin];have hpD:p≠D:=λe=>by rw[e]at hp;rw[hp]at hH;cases hH
  refine#[zf hp _ _ hH,by rw[aa];lia,CNx.mk hin #[rs ++ [p],by rw[am];rfl,by rw[aj,hrl];rfl,zu (hs.trans (zf hp)) hD,zc,λr' hr'=>?_,λj r' h1=>?_]]
  ·rcases Ba.mp hr' with h' | h'
   ·exact hf r' h'
   ·rw[Bb.mp h'];refine#[?_,hpD]
    cases e:H p with
    | none=>rfl
    | some o=>have:=hs _ _ e;rw[hp]at this;cases this
  ·by_cases hj:j<i
   ·rw[bU ⋯]at h1;rw[zt (hf r' (ac h1)).2];exact zf hp _ _ (hr j r' h1)
   ·rw[bF ⋯]at h1
    have hj0:j=i:=by
     have:=(AX.mp h1).1;simp at this;lia
    subst hj0;rw[hrl,d4]at h1;cases h1;rw[zt hpD];exact zc
 ·refine nmB ?_;rintro AW H' ⟨rs,rfl,hrl,hs,hH,hf,hr⟩:0
  refine q rs H' hs #[hH,by rw[uP,hrl],λi r x h1 h2=>?_] λr hr'=>by
   rcases AZ.mp hr' with rfl | h'
   ·exact hD
   ·exact (hf r h').1
  rw[hr i r h1];unfold wb at h2;rw[aq]at h2;let#[z,hz,rfl]:=Bd.mp h2;have:=(AX.mp hz).2;simp at this;rw[this]
def lM:sQz 3 ["letters","rooms","number","cells","cell"] vx:=by nofun
def Wo(B:Bt mg)(F:("table_at"^^^vx)):(1&&&["letters","rooms","number"]) vW:=by
 exists F.ok lM
 ·let#[l,n,N,rfl,h1,h2,h3,h4,q]:=h
  refine#[_,(zh (xH (i:=3) lM.nd rfl (Or.inr rfl) (xh zg)) (zh (zR p8 rfl (zV rfl B.range (za (zD Wi (pv 1) (zA B.len (pv 0))) zg)) (zq (i:=4) lM.nd rfl (.inl rfl)) (zG (yW (wl aX bh bn yy (pv 3) (za (zD yT (pv 2) (pv 1)) zg))) (ze (zy 2 lM.nd (zD yZ (pv 2) (pv 1)))))) (zh (yW (zdo aX PySem.F.slot_list_reverse PySem.F.type_list_reverse Uc (pv 3))) (ze (zl (yJ (own:=["start"]) (caps:=["cells","letters"]) (ix:=[3,0]) (tt:=xo) (te:=(tSl (zeF K) (ya 1) (YV (ya 0)) (YV (tOp Yq (ya 0) (tCB (Wy K) (zK (ya 2) xv)))))) rfl (zM (sc:=zi vx) rfl (!0) (!0) (!0) rfl (!0) (!0) rfl) (U4 rfl B.range (za zd (za (zA B.len (pv 3)) (za (zA B.len (pv 0)) zg)))) (λZ Z Z Z Z Z=>zq (i:=0) (show List.Nodup [_,_,_] by decide) rfl (.inl rfl)) (λZ Z Z Z Z Z=>yh) (λZ Z Z Z Z Z=>(zP zaJ (pv 1) (zO (pv 0)) (zO (zD jm (pv 0) (zA B.len (pv 2)))))))))))),?_]
  have s16:=zW;have hm:=zfN h4 h2;have em:((n:Int) * (l.length:Int))=((n * l.length:Nat):Int):=by rw[d5]
  change ∃c,H c=AR/\Same H H'/\H' c=AQ (.lst [])/\σ=[~~~l,-~~~n,-~~~N,!!c,AR]
  ·rfl'
   exact#[⋯,λc hc=>#[c,hc,zf hc,zc,rfl]]
  rintro σ H1 ⟨c,hcn,s1,hc,rfl⟩:0;change ∃v2 v4,Same H H'/\H' c=AQ (.lst (((aJ (n * l.length)).map (jR n N)).map V.int))/\σ=[~~~l,-~~~n,v2,!!c,v4]
  ·rfl'
   refine#[⋯,.inl #[⋯,⋯],?_];rw[em];refine#[⋯,⋯,ForR.by (λi σ H'=>∃v4,Same H H'/\H' c=AQ (.lst (((aJ i).map (jR n N)).map V.int))/\σ=[~~~l,-~~~n,AQ (.int ((N / n ^ i:Nat):Int)),!!c,v4]) #[_,s1,hc,by rw[Nat.pow_zero,Nat.div_one]] ?_ ?_]
   ·refine nm3 ?_;rintro i σ H' hi ⟨v4,hs,hc',rfl⟩:_;rw[aA]at hi;right
    rfl'
    refine#[.inl #[_,SqL.of hc'],⋯,_,hc',by erw[aa,bL];lia,#[⋯,⋯],?_];refine#[zu hs hcn,?_,?_]
    ·rw[zc,cJ,am,am,<- Int.natCast_emod];rfl
    ·rw[<- Int.natCast_ediv,Qt]
   ·refine nmB ?_;rintro σ H' ⟨v4,hs,hc',rfl⟩:_;rw[aA]at hc';right;exact#[hs,hc',_,_,rfl]
  rintro σ H2 ⟨v2,v4,s2,hc2,rfl⟩:0;change Same H H'/\H' c=AQ (.lst ((((aJ (n * l.length)).map (jR n N)).reverse).map V.int))/\σ=[~~~l,-~~~n,v2,!!c,v4]
  ·rfl'
   erw[WE]
   rfl'
   refine#[.inl #[_,SqL.of hc2],_,hc2,zu s2 hcn,?_];rw[zc,e8]
  rintro σ H3 ⟨s3,hc3,rfl⟩:0
  erw[zaH,zey]
  rfl'
  refine#[_,.inl #[_,SqL.of hc3,rfl],⋯,∅,∅,⋯,by erw[aa,bK,bL];lia,⋯,⋯,λD hD=>?_]
  have en:(p0 0 (((List.map V.int ((List.map (jR n N) (aJ (n * l.length))).reverse)).length:Nat):Int) (l.length:Nat)).toNat=n:=by
   rw[aa,bK,aa,bL];exact zbK h3 h1
  rw[en]
  exact Ja rfl rfl rfl hc3 h1 h2 h3 h4 hD λrs H' s' hT hf=>q D rs H' (s3.trans s') hT λr hr'=>by
   cases e:H r with
   | none=>rfl
   | some o=>have:=s3 _ _ e;rw[hf r hr']at this;cases this
def yY(l:())(tab:List (List Int))(ps:List zH)(u v:()):Bool:=decide (ue l tab 0 u≠ue l tab 0 v) && (wI l tab ps 0).isNone
abbrev zdl(l:())(u:()):Prop:=∀c ∈ u,c ∈ l
abbrev InP(l:())(ps:List zH):Prop:=∀p ∈ ps,(∀c ∈ p.1,c ∈ l)/\∀c ∈ p.2,c ∈ l
def Z6(K:su)(CV:sv):Sp:=λvs H Q Z=>∃(o t a:sv) (l:()) (rs:List sv) (tab:List (List Int)) (ps:List zH) (u v:()),vs=[.ref o,.ref a,⇑u,⇑v]/\LsA K H a (ps.map dR)/\WorAt CV H o l t rs tab/\xB l tab/\InP l ps/\zdl l u/\zdl l v/\∀H',Same H H'->Q (.bl (yY l tab ps u v)) H'
def UV(h1:LsA K H a (ps.map dR))(h2:WorAt CV H o l t rs tab)(h3:xB l tab)(h4:InP l ps)(h5:zdl l u)(h6:zdl l v)(q:∀H',Same H H'->Q (.bl (yY l tab ps u v)) H'):Z6 K CV [.ref o,.ref a,⇑u,⇑v] H Q E:=#[o,t,a,l,rs,tab,ps,u,v,rfl,h1,h2,h3,h4,h5,h6,q]
def kA:sQz 4 ["world","pacts","one","other"] wu:=by nofun
def kd(B:Bt mg)(CL:zbe K mg CV)(F:("tells_apart"^^^wu))(M_world_led:DM P w K mg base CX0 1 CV "led" ["self","room","word"] (j3 CV))(M_world_broken:DM P w K mg base CX0 3 CV "broken" ["self","pacts"] (qc K CV)):(4&&&["world","pacts","one","other"]) (Z6 K CV):=by
 exists F.ok kA
 ·let#[o,t,a,l,rs,tab,ps,u,v,rfl,hA,hW,hG,hp,hu,hv,q]:=h
  refine#[_,(zG (zJ (zv xA (me1 M_world_led CL.cl hr (pv 0) (za zd (za (pv 2) zg))) (me1 M_world_led CL.cl hr (pv 0) (za zd (za (pv 3) zg))) (zx _)) (ze (zl yv))
    zr) (ze (zl (yi op_isN' (me1 M_world_broken CL.cl hr (pv 0) (za (pv 1) zg)) ye (zx _))))),?_]
  have s16:=zW
  rfl'
  let#[dx,ho,hT]:=id hW;have hlo:=hG.lo;refine#[_,_,ho,rfl,qJ hW hG ⋯ ⋯ hu #[_,_,ho,rfl,qJ hW hG ⋯ ⋯ hv ?_]]
  rfl'
  refine yb (λh=>?_) λh=>?_
  ·have e:yY l tab ps u v=AT:=by
    unfold yY;rw[u9 (λg=>g h)];rfl
   rw[e]at q;exact q _ (Same.refl _)
  ·have e:yY l tab ps u v=(wI l tab ps 0).isNone:=by
    unfold yY;rw[u6 h,gb]
   rw[e]at q;refine#[_,_,ho,rfl,o,t,a,l,rs,tab,ps,rfl,hA,hW,hG,hp,λhb H' s'=>?_,λi r hb p H' s' hp'=>?_]
   ·rw[hb]at q;exact q H' s'
   ·rw[hb]at q;exact q H' s'
def Ear(l:())(ps:List zH)(u v:())(n N:Nat):Prop:=∀n' N':Nat,1<=n'->N'<n' ^ (n' * l.length)->(n'<n\/n'=n/\N'<N)->yY l (wb n' l.length N') ps u v=AT
def KH : Ear l ps u v 1 0:=λn' N' h1 Z h=>by lia
def zal(h:Ear l ps u v n N)(hf:yY l (wb n l.length N) ps u v=AT):Ear l ps u v n (N+1):=λn' N' h1 h2 h3=>by
 rcases h3 with h3 | ⟨rfl,h3⟩
 ·exact h n' N' h1 h2 (.inl h3)
 ·by_cases e:N'=N
  ·rw[e];exact hf
  ·exact h n' N' h1 h2 (.inr #[rfl,⋯])
def zb3(h:Ear l ps u v n (n ^ (n * l.length))):Ear l ps u v (n+1) 0:=λn' N' h1 h2 h3=>by
 rcases dX n' n with h4 | h4
 ·exact h n' N' h1 h2 (.inl h4)
 ·have e:n'=n:=⋯;subst e;exact h n' N' h1 h2 (.inr #[rfl,h2])
def zah(h1:1<=n)(h:n<=m):n ^ (n * k)<=m ^ (m * k):=aP (Nat.pow_le_pow_left h _) (Nat.pow_le_pow_right ⋯ (d6 k h))
def Vb(K:su)(CM:sv):Sp:=λvs H Q E=>∃(a:sv) (l:()) (ps:List zH) (u v:()) (m:Nat),vs=[⇑l,.ref a,⇑u,⇑v,.int (m:Nat)]/\kg l=AS/\LsA K H a (ps.map dR)/\InP l ps/\zdl l u/\zdl l v/\m<=8/\(1000<m ^ (m * l.length)->E (.ref CM) AR H) /\
 (m ^ (m * l.length)<=1000->Ear l ps u v (m+1) 0->∀H',Same H H'->Q .non H') /\
 (m ^ (m * l.length)<=1000->∀n N:Nat,1<=n->n<=m->N<n ^ (n * l.length)->yY l (wb n l.length N) ps u v=AS->Ear l ps u v n N->∀(t:sv) (rs:List sv) (H':Hp),Same H H'->TabAt H' t rs (wb n l.length N)->(∀r ∈ t::rs,H r=AR)->Q (.ref t) H')
def iE:sQz 5 ["letters","pacts","one","other","most","rooms","number","table"] wz:=by nofun
def ke(B:Bt mg)(TM:Kx K mg CM)(CL:zbe K mg CV)(F:("world_apart"^^^wz))(iT:(2<<<"tables_within") ["letters","rooms"] [] uC)(lN:(1<<<"table_count") ["letters","rooms"] [] qK)(rB:(1<<<"table_at") ["letters","rooms","number"] [] vW)(pF:(4<<<"tells_apart") ["world","pacts","one","other"] [] (Z6 K CV))(M_world_init:DMk P w K mg base (CXx P w) 4 CV ["self","letters","table"] (uq CV)):(6|||["letters","pacts","one","other","most"]) (Vb K CM):=by
 exists Fun.okX F iE,0
 ·let#[a,l,ps,u,v,m,rfl,hg,hA,hp,hu,hv,m8,q1,q2,q3]:=h
  refine#[_,(zh (zJ (yf (yl (cl0 iT hr .nil rfl (za (pv 0) (za (pv 4) zg))) (λZ=>rfl))) (ze (ym hx rfl TM.xi.toXC TM.ini rfl TM.g (za z9 zg)))
    zr) (zh (zR PassesOwn.leaving rfl (Yi rfl B.range (za zd (za (zD jm (pv 4) zd) zg))) (zq (i:=5) iE.nd rfl (.inl rfl)) (ze (zR PassesOwn.leaving rfl (zV rfl B.range (za (cl0 lN hr .nil rfl (za (pv 0) (za (pv 5) zg))) zg)) (zq (i:=6) iE.nd rfl (.inl rfl)) (zh (zy 7 iE.nd (cl0 rB hr .nil rfl (za (pv 0) (za (pv 5) (za (pv 6) zg))))) (ze (zJ (yl (cl0 pF hr .nil rfl (za (zgv hx M_world_init hr rfl CL.g (za (pv 0) (za (pv 7) zg))) (za (pv 1) (za (pv 2) (za (pv 3) zg))))) (λZ=>rfl)) (ze (zl (pv 7)))
      zr)))))) (ze (zl ye)))),?_]
  have s16:=zW;let#[l1,l6,_,_]:=u5 hg;change H'=H/\m ^ (m * l.length)<=1000/\σ=[~~~l,!!a,~~~u,~~~v,-~~~m,AR,AR,AR]
  ·rfl'
   refine kJ ⋯ m8 #[_,rfl,?_];by_cases hw:m ^ (m * l.length)<=1000
   ·rw[u6 hw]
    rfl'
    exact hw
   ·rw[u9 hw]
    rfl'
    exact#[⋯,q1 ⋯]
  rintro σ H1 ⟨rfl,hw,rfl⟩:0;change Same H1 H'/\Ear l ps u v (m+1) 0/\∃v5 v6 v7,σ=[~~~l,!!a,~~~u,~~~v,-~~~m,v5,v6,v7]
  ·rfl'
   refine#[⋯,⋯,⋯,⋯,ForR.by (λi σ H'=>Same H1 H'/\Ear l ps u v (i+1) 0/\∃v5 v6 v7,σ=[~~~l,!!a,~~~u,~~~v,-~~~m,v5,v6,v7]) #[Same.refl _,KH,_,_,_,rfl] ?_ ?_]
   ·refine nm3 ?_;rintro i σ H' hi ⟨hs,hE,v5,v6,v7,rfl⟩:_;have him:i+1<=m:=⋯;have e0:(1:Int)+(i:Int)=((i+1:Nat):Int):=⋯;have hpw:=zah (k:=l.length) ⋯ him;right;dsimp only;rw[e0]
    rfl'
    refine YH ⋯ ⋯ ?_;refine#[_,rfl,⋯,⋯,ForR.by (λj σ H'=>Same H1 H'/\Ear l ps u v (i+1) j/\∃v6 v7,σ=[~~~l,!!a,~~~u,~~~v,-~~~m,AQ (.int ((i+1:Nat):Int)),v6,v7]) #[hs,hE,_,_,rfl] ?_ ?_]
    ·refine nm3 ?_;rintro j σ H'' hj ⟨hs2,hE2,v6,v7,rfl⟩:_;rw[aA]at hj;have e1:(0:Int)+(j:Int)=(j:Int):=⋯;right;dsimp only;rw[e1]
     erw[yt,aM,aL]
     refine zj (λσ G=>∃(t:sv) (rs:List sv),Same H1 G/\TabAt G t rs (wb (i+1) l.length j)/\(∀r ∈ t::rs,H1 r=AR)/\σ=[~~~l,!!a,~~~u,~~~v,-~~~m,AQ (.int ((i+1:Nat):Int)),AQ (.int (j:Int)),!!t]) ?_ ?_
     ·rfl'
      exact Ym l1 ⋯ ⋯ ⋯ λt rs G sG hT hf=>#[hs2.trans sG,t,rs,hT,(λr hr=>by
       cases e:H1 r with
       | none=>rfl
       | some o=>have:=hs2 _ _ e;rw[hf r hr]at this;cases this),rfl]
     rintro σ G ⟨t,rs,sG,hT,hf,rfl⟩:_;have hG:=qS (l:=l) j (show 1<=i+1 by lia) ⋯;right
     rfl'
     refine Qe hg hT hG λx t' rs' H' s' Z Z hW=>UV ((hA.same sG).same s') hW hG hp hu hv λH'' s''=>#[_,rfl,?_];have sA:=sG.trans (s'.trans s'')
     cases hfit:yY l (wb (i+1) l.length j) ps u v with
     | true =>
      rfl'
      exact q3 hw (i+1) j ⋯ him hj hfit hE2 t rs H'' sA (hT.same (s'.trans s'')) hf
     | false =>
      rfl'
      exact#[sA,zal hE2 hfit]
    ·refine nmB ?_;rintro σ H'' ⟨hs2,hE2,v6,v7,rfl⟩:_;rw[aA]at hE2;right;exact#[hs2,zb3 hE2,_,_,_,rfl]
   ·refine nmB ?_;rintro σ H' ⟨hs,hE,v5,v6,v7,rfl⟩:0;exact#[hs,by rw[show (((m:Nat):Int)+1 - 1).toNat=m by lia]at hE;exact hE,_,_,_,rfl]
  rintro σ H2 ⟨s2,hE,v5,v6,v7,rfl⟩:0
  rfl'
  exact q2 hw hE H2 s2
structure TMj(mg:sF->Option sw):Prop where
 u:∃t,mg "MOST_USES_judging" = AQ (.int 40 t)
 s:∃t,mg "MOST_STEPS_judging" = AQ (.int 2000 t)
def zdn(K:su):Sp:=λvs H Q Z=>∃(a:sv) (k:Nat) (l:()) (ns:List Int) (bs:List Ent) (w:()),vs=[.ref a,⇑w]/\OG l ns k/\EnsL K H a bs/\BG k l ns bs/\w.length<=60 /\
 (∀(i:Nat) (p S:sv) (H':Hp),EndsAt (zb bs) w i->Same H H'->H' p=AQ (.tup [.ref S,⇑(wAt (zb bs) w i)])->LsA K H' S ((stS (sAt (zb bs) w i)).map dSt)->Q (.ref p) H')/\((∀i,¬ EndsAt (zb bs) w i)->∀H',Same H H'->Q .non H')
def kB:sQz 2 ["entries","word"] ww:=by nofun
def kz(B:Bt mg)(TFx:zby K mg CF)(TSb:zfz K CF)(TM:TMj mg)(F:("gone_within"^^^ww))(mY:(4>>>"gone") ["rules","word","most"] [] (xX K CF))(DD_gone:(4>>>"gone") ["rules","word","most"] [.int 4000 mZ] (xX K CF))(gJ:(1<<<"pairs_of") ["entries"] [] (wy K)):(5&&&["entries","word"]) (zdn K):=by
 let#[t9,g9]:=TM.u
 exists F.ok kB
 ·let#[a,k,l,ns,bs,w,rfl,hG,hA,hB,hw,q1,q2]:=h;refine#[_,(ze (Vu (th:=(zaH (tC .non))) #[rfl,rfl] (clX mY hr .nil rfl (za (cl0 gJ hr .nil rfl (za (pv 0) zg)) (za (pv 1) (za (yI (v:=.int 40) rfl g9 #[t9,rfl]) zg)))) rfl TFx.g TFx.xi.ok (λe=>(ze (zl ye))))),?_];have s16:=zW;have hpl:=xy bs;have hbl:=hB.n
  erw[Jc]
  ac_rfl;exact wj hA.is ⋯ λD H1 Z s1 hL=>qj hL (hB.ne hG) ⋯ hB.le hw (λi p S H' hi s' hp hS Z=>q1 i p S H' hi (s1.trans s') hp (by rw[Qj]at hS;exact hS)) λhno H' s'=>#[CF,rfl,TSb.s,λx hx=>q2 hno _ ((s1.trans s').trans (zf hx))]
def GwV(K:su)(ps:List zH)(w:())(H:Hp)(v:V):Prop:=(v=.non/\∀i,¬ EndsAt ps w i)\/∃(i:Nat) (p S:sv),v=.ref p/\EndsAt ps w i/\H p=AQ (.tup [.ref S,⇑(wAt ps w i)])/\LsA K H S ((stS (sAt ps w i)).map dSt)
def GwV.same{ps:List zH}{w:()}{H H':Hp}{v:V}(h:GwV K ps w H v)(s:Same H H'):GwV K ps w H' v:=by
 rcases h with h | ⟨i,p,S,h1,h2,h3,h4⟩
 ·exact .inl h
 ·exact .inr #[i,p,S,h1,h2,s _ _ h3,h4.same s]
abbrev jU(bs:List Ent)(u v:())(i j:Nat):List Stp:=byL bs (stS (sAt (zb bs) u i) ++ yN (stS (sAt (zb bs) v j)))
def NoR(bs:List Ent)(b:Bool)(u v:()):Prop:=(∀i,¬ EndsAt (zb bs) u i)\/(∀j,¬ EndsAt (zb bs) v j)\/∃i j,EndsAt (zb bs) u i/\EndsAt (zb bs) v j/\((wAt (zb bs) u i≠wAt (zb bs) v j/\b=AT)\/(wAt (zb bs) u i=wAt (zb bs) v j/\2000<(jU bs u v i j).length))
def zaP(K:su):Sp:=λvs H Q Z=>∃(a:sv) (k:Nat) (l:()) (ns:List Int) (bs:List Ent) (b:Bool) (u v:()),vs=[.bl b,.ref a,⇑u,⇑v]/\OG l ns k/\EnsL K H a bs/\BG k l ns bs/\u.length<=60/\v.length<=60/\(NoR bs b u v->∀H',Same H H'->Q .non H') /\
 (∀(i j:Nat) (p:sv) (H':Hp),b=AS->EndsAt (zb bs) u i->EndsAt (zb bs) v j->wAt (zb bs) u i≠wAt (zb bs) v j->Same H H'->H' p=AQ (.tup [.str "forms",.ref a,⇑(wAt (zb bs) u i),⇑(wAt (zb bs) v j)])->Q (.ref p) H') /\
 ∀(i j:Nat) (p S:sv) (H':Hp),EndsAt (zb bs) u i->EndsAt (zb bs) v j->wAt (zb bs) u i=wAt (zb bs) v j->Same H H'->H' p=AQ (.tup [.str "alike",.ref S])->LsA K H' S ((jU bs u v i j).map dSt)->(jU bs u v i j).length<=2000->Q (.ref p) H'
def gX:sQz 4 ["whole","kept","one","other","ahead","behind","steps"] y6:=by nofun
def uA(B:Bt mg)(TM:TMj mg)(F:("judged_by_roads"^^^y6))(nF:(5<<<"gone_within") ["entries","word"] [] (zdn K))(iB:(2<<<"by_pacts") ["entries","steps"] [] (QS K))(mr:(1<<<"back") ["steps"] [] (uW K)):(6&&&["whole","kept","one","other"]) (zaP K):=by
 let#[t9,g9]:=TM.s
 exists F.ok gX
 ·let#[a,k,l,ns,bs,b,u,v,rfl,hG,hA,hB,hu,hv,q1,q3,q2]:=h
  refine#[_,(zh (zy 4 gX.nd (cl0 nF hr .nil rfl (za (pv 1) (za (pv 2) zg)))) (zh (zy 5 gX.nd (cl0 nF hr .nil rfl (za (pv 1) (za (pv 3) zg)))) (zh (zJ (PW.pt (wU (zv op_isN' (pv 4) ye (zx _)) (we (zv op_isN' (pv 5) ye (zx _))))) (ze (zl ye))
    zr) (zh (zJ (zv um (!-4) (!-5) (zx _)) (ze (zl (wF (yl (pv 0) (λZ=>rfl)) (zX (za z9 (za (pv 1) (za (!-4) (za (!-5) zg))))) ye)))
    zr) (zh (zy 6 gX.nd (cl0 iB hr .nil rfl (za (pv 1) (za (zD WY (!-4) (cl0 mr hr .nil rfl (za (!-5) zg))) zg)))) (ze (zl (wF (zv wH (zA B.len (pv 6)) (yI (v:=.int 2000) rfl g9 #[t9,rfl]) (zx _)) (zX (za z9 (za (pv 6) zg))) ye)))))))),?_]
  have s16:=zW;have hbl:=hB.n;have hpl:=xy bs;have hst:∀e ∈ bs,e.2.2.length<=600:=λe he=>(hB.e e he).s;change Same H H'/\∃v4,GwV K (zb bs) u H' v4/\σ=[AQ (.bl b),!!a,~~~u,~~~v,AQ (v4),AR,AR]
  ·rfl'
   exact#[a,k,l,ns,bs,u,rfl,hG,hA,hB,hu,λi p S H' h1 s' h2 h3=>#[s',.inr #[i,p,S,rfl,h1,h2,h3]],λhno H' s'=>#[s',.inl #[rfl,hno]]]
  rintro σ H1 ⟨s1,v4,hv4,rfl⟩:0;change Same H1 H'/\∃v5,GwV K (zb bs) v H' v5/\σ=[AQ (.bl b),!!a,~~~u,~~~v,AQ (v4),AQ (v5),AR]
  ·rfl'
   exact#[a,k,l,ns,bs,v,rfl,hG,hA.same s1,hB,hv,λi p S H' h1 s' h2 h3=>#[s',.inr #[i,p,S,rfl,h1,h2,h3]],λhno H' s'=>#[s',.inl #[rfl,hno]]]
  rintro σ H2 ⟨s2,v5,hv5,rfl⟩:_;have s12:=s1.trans s2;have hv4':=hv4.same s2;right;change H'=H2/\v4≠.non/\v5≠.non/\σ=[AQ (.bl b),!!a,~~~u,~~~v,AQ (v4),AQ (v5),AR]
  ·rfl'
   refine yb (λh=>?_) λh=>yb (λh'=>?_) λh'=>#[h,h']
   ·rcases hv4' with ⟨_,hno⟩ | ⟨i,p,S,e,_⟩
    ·exact q1 (.inl hno) _ s12
    ·rw[e]at h;cases h
   ·rcases hv5 with ⟨_,hno⟩ | ⟨i,p,S,e,_⟩
    ·exact q1 (.inr (.inl hno)) _ s12
    ·rw[e]at h';cases h'
  rintro σ H3 ⟨rfl,n4,n5,rfl⟩:_;let#[i,p1,S1,rfl,hi,hp1,hS1]:=hv4'.resolve_left λz=>n4 z.1;let#[j,p2,S2,rfl,hj,hp2,hS2]:=hv5.resolve_left λz=>n5 z.1;right;change H'=H3/\wAt (zb bs) u i=wAt (zb bs) v j/\σ=[AQ (.bl b),!!a,~~~u,~~~v,!!p1,!!p2,AR]
  ·rfl'
   refine#[_,SqT.of hp1,_,rfl,_,SqT.of hp2,_,rfl,rfl,yb (λh=>yb (λhb'=>#[_,SqT.of hp1,_,rfl,_,SqT.of hp2,_,rfl,⋯,λp hp=>q3 i j p _ hb' hi hj (λz=>h (by rw[z])) (s12.trans (zf hp)) zc]) λhb'=>q1 (.inr (.inr #[i,j,hi,hj,.inl #[λz=>h (by rw[z]),by simpa using hb']])) _ s12) λh=>?_];have:=Classical.not_not.mp h;injection this with this;exact wJ this
  rintro σ H4 ⟨rfl,he,rfl⟩:_;have him:=hi.most;have hjm:=hj.most;have hl1:(stS (sAt (zb bs) u i)).length=i:=by rw[uT,vX]
  have hl2:(stS (sAt (zb bs) v j)).length=j:=by rw[uT,vX]
  right;change Same H4 H'/\∃S:sv,LsA K H' S ((jU bs u v i j).map dSt)/\σ=[AQ (.bl b),!!a,~~~u,~~~v,!!p1,!!p2,!!S]
  ·rfl'
   refine#[_,SqT.of hp1,_,rfl,_,SqT.of hp2,_,rfl,jb hS2.is ⋯ λB1 G1 Z t1 hB1=>?_];let#[c1,hc1,ic1]:=hS1.same t1;let#[c2,hc2,ic2]:=id hB1;have n1:=ic1.len;have n2:=ic2.len;rw[aa]at n1 n2;rw[yA]at n2;refine#[S1,rfl,B1,rfl,c1,hc1,c2,hc2,⋯,λp hp=>?_];have sp:=zf (o:=.lst (c1 ++ c2)) hp;refine W7 (Is.same (s12.trans (t1.trans sp)) _ _ hA.is) (LsA.is #[_,zc,by rw[am];exact Iss.append (Iss.same sp _ _ ic1) (Iss.same sp _ _ ic2)]) (by rw[aj,yA];lia) hst (λx hx=>?_) λD H' Z s' hL=>#[t1.trans (sp.trans s'),D,hL,rfl];rw[<- hpl];rcases Ba.mp hx with h | h
   ·exact Vh hi.live x h
   ·exact QF (Vh hj.live) x h
  rintro σ H5 ⟨s5,S,hS,rfl⟩:_;let#[xs,hX,hI]:=id hS;have hxl:=hI.len;rw[aa]at hxl;right
  rfl'
  exact#[_,.inl #[_,SqL.of hX,rfl],yb (λhn=>#[⋯,λp hp=>q2 i j p S _ hi hj he ((s12.trans s5).trans (zf hp)) zc (hS.same (zf hp)) ⋯]) λhn=>q1 (.inr (.inr #[i,j,hi,hj,.inr #[he,⋯]])) _ (s12.trans s5)]
def Q4(hE:∀e ∈ bs,EOk rs e)(hi:EndsAt (zb bs) u i)(hj:EndsAt (zb bs) v j)(he:wAt (zb bs) u i=wAt (zb bs) v j):yg rs u (jU bs u v i j)=AQ v:=by refine j8 hE ?_;rw[xJ,uG hi.live,he];exact wS (uG hj.live)
def zdO(h:∀p ∈ rs,p.1.length<=60/\p.2.length<=60/\(∀c ∈ p.1,c ∈ l)/\∀c ∈ p.2,c ∈ l):∀e ∈ fEs rs rs.length,EB l e:=λe he=>by
 let#[i,p,hi,hp,rfl]:=jW he;let#[g1,g2,g3,g4]:=h p (ac hp);exact#[g1,g2,by show ([((i:Int),(0:Int),AS)]:List Stp).length<=600;simp,g3,g4]
def za2(K:su):Sp:=λvs H Q Z=>∃(a:sv) (l:()) (ps:List zH) (u v:()) (m:Nat),vs=[⇑l,.ref a,⇑u,⇑v,.int (m:Nat)]/\kg l=AS/\LsA K H a (ps.map dR)/\InP l ps/\(∀c ∈ u,c ∈ l)/\(∀c ∈ v,c ∈ l)/\m<=8/\m ^ (m * l.length)<=1000/\(Ear l ps u v (m+1) 0->∀(p:sv) (H':Hp),Same H H'->H' p=AQ (.tup [.str "open"])->Q (.ref p) H') /\
 ∀(n N:Nat) (p t:sv) (rs:List sv) (H':Hp),1<=n->n<=m->N<n ^ (n * l.length)->yY l (wb n l.length N) ps u v=AS->Ear l ps u v n N->Same H H'->H' p=AQ (.tup [.str "world",.ref t])->TabAt H' t rs (wb n l.length N)->Q (.ref p) H'
def JwV(l:())(ps:List zH)(u v:())(m:Nat)(H:Hp)(x:V):Prop:=(x=.non/\Ear l ps u v (m+1) 0)\/∃(n N:Nat) (t:sv) (rs:List sv),x=.ref t/\1<=n/\n<=m/\N<n ^ (n * l.length)/\yY l (wb n l.length N) ps u v=AS/\Ear l ps u v n N/\TabAt H t rs (wb n l.length N)
def lu:sQz 5 ["letters","pacts","one","other","most","table"] yS:=by nofun
def ud(B:Bt mg)(F:("judged_by_worlds"^^^yS))(pG:(6>>>"world_apart") ["letters","pacts","one","other","most"] [] (Vb K CM)):(7&&&["letters","pacts","one","other","most"]) (za2 K):=by
 exists F.ok lu
 ·let#[a,l,ps,u,v,m,rfl,hg,hA,hp,hu,hv,m8,hm,q1,q2]:=h
  refine#[_,(zh (zy 5 lu.nd (clP xe0 pG hr .nil rfl (za (pv 0) (za (pv 1) (za (pv 2) (za (pv 3) (za (pv 4) zg))))))) (ze (zl (wF (zv op_isN' (pv 5) ye (zx _)) (zX (za z9 zg)) (zX (za z9 (za (pv 5) zg))))))),?_]
  have s16:=zW;change Same H H'/\∃x,JwV l ps u v m H' x/\σ=[~~~l,!!a,~~~u,~~~v,-~~~m,AQ (x)]
  ·rfl'
   exact#[a,l,ps,u,v,m,rfl,hg,hA,hp,hu,hv,m8,λh=>by lia,λZ h H' s'=>#[s',.inl #[rfl,h]],λZ n N h1 h2 h3 h4 h5 t rs H' s' h6 Z=>#[s',.inr #[n,N,t,rs,rfl,h1,h2,h3,h4,h5,h6]]]
  rintro σ H1 ⟨s1,x,hx,rfl⟩:0;rcases hx with ⟨rfl,hE⟩ | ⟨n,N,t,rs,rfl,h1,h2,h3,h4,h5,h6⟩
  ·rfl'
   exact#[⋯,λp hp=>q1 hE p _ (s1.trans (zf hp)) zc]
  ·rfl'
   exact#[⋯,λp hp=>q2 n N p t rs _ h1 h2 h3 h4 h5 (s1.trans (zf hp)) zc (h6.same (zf hp))]
inductive JOut(K:su)(H:Hp)(k:Nat)(l:())(ns:List Int)(rs:List zH)(u v:())(r m:Nat)(p:sv):Prop where
 | alike (w:Bool) (es:List Ent) (i j:Nat) (S:sv) (hc:Cpl k l ns (r+1) [] (fEs rs rs.length) w es) (hb:BG k l ns es) (hi:EndsAt (zb es) u i) (hj:EndsAt (zb es) v j) (he:wAt (zb es) u i=wAt (zb es) v j) (hl:(jU es u v i j).length<=2000) (hp:H p=AQ (.tup [.str "alike",.ref S])) (hS:LsA K H S ((jU es u v i j).map dSt))
 | forms (es:List Ent) (i j:Nat) (D:sv) (hc:Cpl k l ns (r+1) [] (fEs rs rs.length) AS es) (hb:BG k l ns es) (hi:EndsAt (zb es) u i) (hj:EndsAt (zb es) v j) (hn:wAt (zb es) u i≠wAt (zb es) v j) (hp:H p=AQ (.tup [.str "forms",.ref D,⇑(wAt (zb es) u i),⇑(wAt (zb es) v j)])) (hD:EnsM K H D es)
 | world (w:Bool) (es:List Ent) (n N:Nat) (t:sv) (ts:List sv) (hc:Cpl k l ns (r+1) [] (fEs rs rs.length) w es) (hb:BG k l ns es) (hno:NoR es w u v) (h1:1<=n) (h2:n<=m) (h3:N<n ^ (n * l.length)) (h4:yY l (wb n l.length N) rs u v=AS) (h5:Ear l rs u v n N) (hp:H p=AQ (.tup [.str "world",.ref t])) (ht:TabAt H t ts (wb n l.length N))
 | open_ (w:Bool) (es:List Ent) (hc:Cpl k l ns (r+1) [] (fEs rs rs.length) w es) (hb:BG k l ns es) (hno:NoR es w u v) (h5:Ear l rs u v (m+1) 0) (hp:H p=AQ (.tup [.str "open"]))
def zeQ(K:su)(CO CR CW TB:sv):Sp:=λvs H Q Z=>∃(o a:sv) (k:Nat) (l:()) (ns:List Int) (rs:List zH) (u v:()) (r m:Nat),vs=[.ref o,.ref a,⇑u,⇑v,.int (r:Nat),.int (m:Nat)]/\OrdAt CO CR CW H o k l ns/\OG l ns k/\LsA K H a (rs.map dR)/\rs.length<=20/\(∀p ∈ rs,p.1.length<=60/\p.2.length<=60/\(∀c ∈ p.1,c ∈ l)/\∀c ∈ p.2,c ∈ l)/\u.length<=60/\v.length<=60/\(∀c ∈ u,c ∈ l)/\(∀c ∈ v,c ∈ l)/\r<=1000/\m<=8/\m ^ (m * l.length)<=1000/\TabOk H TB lp lq /\
 ∀(p:sv) (H':Hp),SamT TB H H'->TabOk H' TB lp lq->JOut K H' k l ns rs u v r m p->Q (.ref p) H'
def JrV(K:su)(H:Hp)(es:List Ent)(w:Bool)(u v:())(D:sv)(x:V):Prop:=(x=.non/\NoR es w u v)\/∃p:sv,x=.ref p/\((∃i j,w=AS/\EndsAt (zb es) u i/\EndsAt (zb es) v j/\wAt (zb es) u i≠wAt (zb es) v j/\H p=AQ (.tup [.str "forms",.ref D,⇑(wAt (zb es) u i),⇑(wAt (zb es) v j)]))\/∃i j S,EndsAt (zb es) u i/\EndsAt (zb es) v j/\wAt (zb es) u i=wAt (zb es) v j/\(jU es u v i j).length<=2000/\H p=AQ (.tup [.str "alike",.ref S])/\LsA K H S ((jU es u v i j).map dSt))
def nO:sQz 6 ["order","pacts","one","other","rounds","most","outcome","answer"] ZD:=by nofun
def Qa{f CO CR CW TB CM:sv}(B:Bt mg)(TO:TOrd K mg CO CR CW)(TM:Kx K mg CM)(F:("judged"^^^ZD))(rj:(10<<<"completed") ["order","pacts","rounds"] [] (zbg K CO CR CW TB))(oj:(6<<<"judged_by_roads") ["whole","kept","one","other"] [] (zaP K))(iT:(2<<<"tables_within") ["letters","rooms"] [] uC)(nP:(7<<<"judged_by_worlds") ["letters","pacts","one","other","most"] [] (za2 K)):(11|||["order","pacts","one","other","rounds","most"]) (zeQ K CO CR CW TB):=by
 exists Fun.okX F nO,0
 ·let#[o,a,k,l,ns,rs,u,v,r,m,rfl,ho,hG,hA,hrl,hrs,hul,hvl,hu,hv,hr',hm8,hm,hTab,q]:=h
  refine#[_,(zh (zJ (yf (yl (cl0 iT hr .nil rfl (za (jg (pv 0) rfl) (za (pv 5) zg))) (λZ=>rfl))) (ze (ym hx rfl TM.xi.toXC TM.ini rfl TM.g (za z9 zg)))
    zr) (zh (zy 6 nO.nd (cl0 rj hr .nil rfl (za (pv 0) (za (pv 1) (za (pv 4) zg))))) (zh (zy 7 nO.nd (cl0 oj hr .nil rfl (za (!-6) (za (!-6) (za (pv 2) (za (pv 3) zg)))))) (zh (zJ (zv op_isN' (pv 7) ye (zx _)) (ze (zl (cl0 nP hr .nil rfl (za (jg (pv 0) rfl) (za (pv 1) (za (pv 2) (za (pv 3) (za (pv 5) zg))))))))
    zr) (ze (zl (pv 7))))))),?_]
  have s16:=zW;let#[l1,l6,lsm,lnd]:=u5 hG.g;let#[C,dy,fs,hf,ho1,_,hlk]:=ho.fam
  have hC:Cls K C/\NoAttr K C "letters":=by
   rcases hf with rfl | rfl | rfl
   ·exact#[TO.cO,TO.lO]
   ·exact#[TO.cR,TO.lR]
   ·exact#[TO.cW,TO.lW]
  change H'=H/\σ=[!!o,!!a,~~~u,~~~v,-~~~r,-~~~m,AR,AR]
  ·rfl'
   refine#[_,_,_,ho1,hC.1,hC.2,_,hlk,kJ l6 hm8 ?_];rw[u6 hm];exact#[AS,rfl,Yf rfl]
  rintro σ H1 ⟨rfl,rfl⟩:0;change SamT TB H1 H'/\TabOk H' TB lp lq/\∃(w:Bool) (es:List Ent) (p D:sv),Cpl k l ns (r+1) [] (fEs rs rs.length) w es/\BG k l ns es/\H' p=AQ (.tup [.bl w,.ref D])/\EnsM K H' D es/\σ=[!!o,!!a,~~~u,~~~v,-~~~r,-~~~m,!!p,AR]
  ·rfl'
   exact#[o,a,k,l,ns,rs,r,rfl,ho,hG,hA,hrl,λp hp=>#[by have:=hrs p hp;lia,by have:=hrs p hp;lia,(hrs p hp).2.2],λp hp=>#[(hrs p hp).1,(hrs p hp).2.1],hr',hTab,λw es p D H' h1 h2 h3 h3' h4 h5=>#[h3,h3',w,es,h1,h2,p,D,h4,h5,rfl]]
  rintro σ H2 ⟨s2,hT2,w,es,p,D,hCp,hB,hp,hD,rfl⟩:_;let#[tbl,htb,_]:=id hTab;right;change Same H2 H'/\∃v7,JrV K H' es w u v D v7/\σ=[!!o,!!a,~~~u,~~~v,-~~~r,-~~~m,!!p,AQ (v7)]
  ·rfl'
   exact#[_,SqT.of hp,_,rfl,_,SqT.of hp,_,rfl,D,k,l,ns,es,w,u,v,rfl,hG,hD.l,hB,hul,hvl,λhno H' s'=>#[s',.inl #[rfl,hno]],λi j p H' hw hi hj hn s' h1=>#[s',.inr #[p,rfl,.inl #[i,j,hw,hi,hj,hn,h1]]],λi j p S H' hi hj hij s' h1 h2 h3=>#[s',.inr #[p,rfl,.inr #[i,j,S,hi,hj,hij,h3,h1,h2]]]]
  rintro σ H3 ⟨s3,v7,hv7,rfl⟩:_;have sT:=s2.trans (SamT.of s3);have hT3:=hT2.same s3;have hA3:=hA.samT sT htb;right;rcases hv7 with ⟨rfl,hno⟩ | ⟨p',rfl,hv7⟩
  ·refine qz (λZ Z=>False) ?_ λZ Z h=>h.elim
   rfl'
   exact#[_,_,_,sT.at htb ho1 (λZ z=>by cases z),hC.1,hC.2,_,hlk,a,l,rs,u,v,m,rfl,hG.g,hA3,λp hp=>(hrs p hp).2.2,hu,hv,hm8,hm,λhE p H' s' h=>q p H' (sT.trans (SamT.of s')) (hT3.same s') (.open_ w es hCp hB hno hE h),λn N p t ts H' h1 h2 h3 h4 h5 s' h6 h7=>q p H' (sT.trans (SamT.of s')) (hT3.same s') (.world w es n N t ts hCp hB hno h1 h2 h3 h4 h5 h6 h7)]
  ·change H'=H3/\σ=[!!o,!!a,~~~u,~~~v,-~~~r,-~~~m,!!p,!!p']
   ·rfl'
   rintro σ H4 ⟨rfl,rfl⟩:0
   rfl'
   refine q p' _ sT hT3 ?_;rcases hv7 with ⟨i,j,rfl,hi,hj,hn,h1⟩ | ⟨i,j,S,hi,hj,he,hl,h1,h2⟩
   ·exact .forms es i j D hCp hB hi hj hn h1 (hD.same s3)
   ·exact .alike w es i j S hCp hB hi hj he hl h1 h2
structure KXs(K:su):Prop where
 ss:aV K (.type "str") (.type "str")=AQ AS
def Qx(K:su):Sp:=λvs H Q Z=>∃(a:sv) (es:List Ent),vs=[.ref a]/\Is K H (.lst (es.map dE)) (.ref a)/\Q (.bl AS) H
def oR:sQz 1 ["_law_found","_law_entry"] jJ:=by nofun
def VL(B:Bt mg)(T:TLs K)(TX:KXs K)(F:("_law_entries"^^^jJ))(pj:(2<<<"_law_steps") ["_law_found"] [] (ZW K)):(3&&&["_law_found"]) (Qx K):=by
 exists F.ok oR
 ·let#[a,es,rfl,hA,q]:=h
  refine#[_,(zh (zJ (yf (yl (yF rfl B.isi (pv 0) rfl B.list PySem.Pv.boot_list) (λZ=>rfl))) (ze (zl yv))
    zr) (zh (zR p8 rfl (zY (pv 0)) (zq (i:=1) oR.nd rfl (.inl rfl)) (zh (zJ (PW.pt (wU (yf (yl (yF rfl B.isi (pv 1) rfl B.tuple PySem.Pv.boot_tuple) (λZ=>rfl))) (wU (zv um (zA B.len (pv 1)) zd (zx _)) (we (yf (yl (cl0 pj hr .nil rfl (za (!-1) zg)) (λZ=>rfl))))))) (ze (zl yv))
     zr) (ze (zJ (PW.pt (wU (yf (yl (yF rfl B.isi (!-1) rfl B.str PySem.Pv.boot_str) (λZ=>rfl))) (we (yf (yl (yF rfl B.isi (!-1) rfl B.str PySem.Pv.boot_str) (λZ=>rfl)))))) (ze (zl yv))
     zr)))) (ze (zl yv)))),?_]
  have s16:=zW
  erw[Is]at hA
  let#[_,xs,e,hX,hI]:=hA;cases e;change H'=H/\σ=[!!a,AR]
  ·rfl'
   exact#[_,.inr (.inr (.inl #[_,_,rfl,rfl,hX])),AS,T.ll,Yf trivial]
  rintro σ H1 ⟨rfl,rfl⟩:0;change H'=H1/\∃v1,σ=[!!a,v1]
  ·rfl'
   refine#[#[_,hX],ForL.by (xs:=xs) (λi σ H'=>H'=H1/\∃v1,σ=[!!a,v1]) #[rfl,_,rfl] (λi σ H' Z h=>by rw[h.1];exact hX) ?_ λσ H' h=>h];refine nm4 ?_;rintro i x σ H' hx ⟨rfl,v1,rfl⟩:_;let#[e,pe,se,hei,rfl,hqe,hse]:=W3 hI hx;right
   erw[yt,aM,aL]
   refine zj (λσ H''=>H''=H'/\σ=[!!a,!!pe]) ?_ ?_
   ·rfl'
    exact#[_,.inr (.inr (.inr #[_,_,rfl,rfl,hqe])),AS,T.tt,Yf #[_,.inr #[_,hqe,rfl],yb (λh=>w4 rfl h) λZ=>#[_,hqe,_,rfl,se,e.2.2,rfl,hse,AS,rfl,Yf rfl]]]
   rintro σ G ⟨rfl,rfl⟩:0
   rfl'
   exact#[_,hqe,_,rfl,_,.inl (.str _),AS,TX.ss,Yf #[_,hqe,_,rfl,_,.inl (.str _),AS,TX.ss,Yf trivial]]
  rintro σ H2 ⟨rfl,v1,rfl⟩:0
  rfl'
  exact q
def Ur(K:su):Sp:=λvs H Q Z=>∃(t:sv) (rs:List sv) (tab:List (List Int)) (l:()),vs=[.ref t,.int (l.length:Nat)]/\TabAt H t rs tab/\xB l tab/\l.length<=6/\∀H',Same H H'->Q (.bl AS) H'
def zca(h1:TabAt H t rs tab)(h2:xB l tab)(h3:l.length<=6)(q:∀H',Same H H'->Q (.bl AS) H'):Ur K [.ref t,.int (l.length:Nat)] H Q E:=#[t,rs,tab,l,rfl,h1,h2,h3,q]
def ot:sQz 2 ["_law_table","_law_many","_law_row"] vB:=by nofun
def XW(B:Bt mg)(T:TLs K)(F:("_law_table_ok"^^^vB))(oe:(1<<<"_law_whole") ["_law_found"] [] uk):(2&&&["_law_table","_law_many"]) (Ur K):=by
 exists F.ok ot
 ·let#[t,rs,tab,l,rfl,hT,hG,l6,q]:=h
  refine#[_,(zh (zJ (PW.pt (wU (yf (yl (yF rfl B.isi (pv 0) rfl B.list PySem.Pv.boot_list) (λZ=>rfl))) (we (zv Ui (zA B.len (pv 0)) zd (zx _))))) (ze (zl yv))
    zr) (zh (zR p8 rfl (zY (pv 0)) (zq (i:=2) ot.nd rfl (.inl rfl)) (zh (zJ (PW.pt (wU (yf (yl (yF rfl B.isi (pv 2) rfl B.list PySem.Pv.boot_list) (λZ=>rfl))) (we (zv um (zA B.len (pv 2)) (pv 1) (zx _))))) (ze (zl yv))
     zr) (ze (zJ (yf (yl (yP (zeN rfl) rfl B.all fP (za (yJ (own:=["_law_room"]) (caps:=["_law_table"]) (ix:=[0]) (tt:=xo) (te:=(Jb (uc uk [] E0 (zK (ya 0) xv)) (k7 zfi zfc (tC (.int 0)) (ya 0) (tCB (Wy K) (zK (ya 1) xv))))) rfl (zM (sc:=zi vB) rfl (!0) (!0) (!0) rfl (!0) (!0) rfl) (zY (pv 2)) (λZ Z Z Z Z Z=>zq (i:=0) (show List.Nodup [_,_] by decide) rfl (.inl rfl)) (λZ Z Z Z Z Z=>yh) (λZ Z Z Z Z Z=>(jy (cl0 oe hr .nil rfl (za (pv 0) zg)) (jM (Vn wH Qv zd (pv 0) (zA B.len (pv 1))))))) zg)) (λZ=>rfl))) (ze (zl yv))
     zr)))) (ze (zl yv)))),?_]
  have s16:=zW;have hlo:=hG.lo;have hhi:=hG.hi;have hln:=hT.len;change H'=H/\σ=[!!t,AQ (.int (l.length:Nat)),AR]
  ·rfl'
   exact#[_,.inr (.inr (.inl #[_,_,rfl,rfl,SqL.of hT.top])),AS,T.ll,Yf #[_,.inl #[_,SqL.of hT.top,rfl],yb (λh=>by rw[aa]at h;lia) λZ=>trivial]]
  rintro σ H1 ⟨rfl,rfl⟩:0;change Same H1 H'/\∃v2,σ=[!!t,AQ (.int (l.length:Nat)),v2]
  ·rfl'
   refine#[#[_,SqL.of hT.top],ForL.by (xs:=rs.map V.ref) (λi σ H'=>Same H1 H'/\∃v2,σ=[!!t,AQ (.int (l.length:Nat)),v2]) #[Same.refl _,_,rfl] (λi σ H' Z h=>SqL.of (h.1 _ _ hT.top)) ?_ λσ H' h=>h];refine nm4 ?_;rintro i x σ H' hx ⟨hs,v2,rfl⟩:_;rw[aq]at hx;let#[r,hr,rfl]:=Bd.mp hx;have hil:=(AX.mp hr).1;have hy:tab[i]? = AQ (tab[i]'⋯):=af ⋯;right;generalize tab[i]'⋯=y at hy;have hym:=ac hy;have hR:=hs _ _ (hT.row i r y hr hy)
   erw[yt,aM,aL]
   refine zj (λσ G=>G=H'/\σ=[!!t,AQ (.int (l.length:Nat)),!!r]) ?_ ?_
   ·rfl'
    exact#[_,.inr (.inr (.inl #[_,_,rfl,rfl,SqL.of hR])),AS,T.ll,Yf #[_,.inl #[_,SqL.of hR,rfl],yb (λh=>w4 (by rw[aa,hG.wd y hym]) h) λZ=>trivial]]
   rintro σ H2 ⟨rfl,rfl⟩:0
   rfl'
   refine#[#[_,SqL.of hR],λD hD=>CompL.by (xs:=y.map V.int) (λi AW G=>Same H2 G/\G D=AQ (.lst AW)/\AW=aR i (V.bl AS)) #[zf hD,zc,rfl] (λi AW G Z h=>SqL.of (h.1 _ _ hR)) ?_ ?_]
   ·refine nm4 ?_;rintro n x AW G hx ⟨hs2,hH,rfl⟩:_;rw[aq]at hx;let#[z,hz,rfl]:=Bd.mp hx;have hzl:=(AX.mp hz).1;have hzb:=hG.rm y hym z (ac hz);have hyl:=hG.wd y hym;right
    erw[xo]
    rfl'
    have ht2:=hs2 _ _ (hs _ _ hT.top);refine#[yx,jO #[AS,rfl,zfT (yb (λZ=>#[_,.inl #[_,SqL.of ht2,rfl],hH,by rw[bM];lia,CNx.mk (by rw[aa];exact hzl) #[zu hs2 hD,zc,?_]]) λh=>w4 hzb.1 h)]];rw[aa,u6 ⋯,d7]
   ·refine nmB ?_;rintro AW G ⟨hs2,hH,rfl⟩:0;refine#[D,aR y.length AS,rfl,?_,?_]
    ·rw[List.map_replicate,aa]at *;exact SqL.of hH
    ·have e:(aR y.length AS).all id=AS:=by simp
     rw[e];exact#[AS,rfl,Yf (hs.trans hs2)]
  rintro σ H2 ⟨s2,v2,rfl⟩:0
  rfl'
  exact q _ s2
structure TAn(K:su):Prop where
 tt:aV K (.type "tuple") (.type "tuple")=AQ AS
 ss:aV K (.type "str") (.type "str")=AQ AS
inductive zgV(K:su)(H:Hp)(l:())(p:sv):Prop where
 | open_ (h:H p=AQ (.tup [.str "open"]))
 | alike (S:sv) (ss:List Stp) (h:H p=AQ (.tup [.str "alike",.ref S])) (hS:LsA K H S (ss.map dSt))
 | forms (D:sv) (es:List Ent) (f g:()) (h:H p=AQ (.tup [.str "forms",.ref D,⇑f,⇑g])) (hD:EnsM K H D es)
 | world (t:sv) (ts:List sv) (tab:List (List Int)) (h:H p=AQ (.tup [.str "world",.ref t])) (ht:TabAt H t ts tab) (hG:xB l tab)
theorem JOut.ans(h:JOut K H k l ns rs u v r m p)(hm:m<=8):zgV K H l p:=by
 cases h with
 | alike w es i j S hc hb hi hj he hl hp hS=>exact .alike S _ hp hS
 | forms es i j D hc hb hi hj hn hp hD=>exact .forms D es _ _ hp hD
 | world w es n N t ts hc hb hno h1 h2 h3 h4 h5 hp ht=>exact .world t ts _ hp ht (qS N h1 ⋯)
 | open_ w es hc hb hno h5 hp=>exact .open_ hp
def JQ(K:su):Sp:=λvs H Q Z=>∃(p:sv) (l:()),vs=[.ref p,.int (l.length:Nat)]/\l.length<=6/\zgV K H l p/\∀H',Same H H'->Q (.bl AS) H'
def UB:sQz 2 ["_law_found","_law_many"] ZS:=by nofun
def Jr(B:Bt mg)(T:TAn K)(F:("_law_answer"^^^ZS))(pj:(2<<<"_law_steps") ["_law_found"] [] (ZW K))(rD:(2<<<"_law_table_ok") ["_law_table","_law_many"] [] (Ur K))(rF:(3<<<"_law_entries") ["_law_found"] [] (Qx K)):(4&&&["_law_found","_law_many"]) (JQ K):=by
 exists F.ok UB
 ·let#[p,l,rfl,l6,hA,q]:=h
  refine#[_,(zh (zJ (PW.pt (wU (yf (yl (yF rfl B.isi (pv 0) rfl B.tuple PySem.Pv.boot_tuple) (λZ=>rfl))) (wU (zv Qv (zA B.len (pv 0)) zd (zx _)) (we (yf (yl (yF rfl B.isi (!-0) rfl B.str PySem.Pv.boot_str) (λZ=>rfl))))))) (ze (zl yv))
    zr) (zh (zJ (zv xA (!-0) z9 (zx _)) (ze (zl (jy (yi xA (zA B.len (pv 0)) zd (zx _)) (jM (cl0 pj hr .nil rfl (za (!-0) zg))))))
    zr) (zh (zJ (zv xA (!-0) z9 (zx _)) (zh (zJ (PW.pt (wU (zv um (zA B.len (pv 0)) zd (zx _)) (we (yf (yl (cl0 rF hr .nil rfl (za (!-0) zg)) (λZ=>rfl)))))) (ze (zl yv))
     zr) (ze (zl (jy (yF rfl B.isi (!-0) rfl B.str PySem.Pv.boot_str) (jM (yF rfl B.isi (!-0) rfl B.str PySem.Pv.boot_str))))))
    zr) (zh (zJ (zv xA (!-0) z9 (zx _)) (ze (zl (jy (yi xA (zA B.len (pv 0)) zd (zx _)) (jM (cl0 rD hr .nil rfl (za (!-0) (za (pv 1) zg)))))))
    zr) (ze (zl (yi (W9 (wE hr)) (pv 0) (zX (za z9 zg)) (zx _)))))))),?_]
  have s16:=zW;change H'=H/\σ=[!!p,AQ (.int (l.length:Nat))]
  ·rfl'
   have key:∀(a:sF) (xs:List V),H p=AQ (.tup (.str a::xs))->∃x,TyX K H (.ref p) x/\∃x_1,aV K x (.type "tuple")=AQ x_1/\if x_1=AT then Q (.bl AT) H else ∃x,((∃xs,SqL K H p xs/\x=xs.length)\/∃xs,SqT K H p xs/\x=xs.length)/\if (x:Int)<1 then Q (.bl AT) H else ∃xs,SqT K H p xs/\∃v,atI xs 0=AQ v/\∃x,TyX K H v x/\∃x_2,aV K x (.type "str")=AQ x_2/\if x_2=AT then Q (.bl AT) H else True:=λa xs h =>
    #[_,.inr (.inr (.inr #[_,_,rfl,rfl,SqT.of h])),AS,T.tt,Yf #[_,.inr #[_,SqT.of h,rfl],yb (λz=>by rw[aG]at z;lia) λZ=>#[_,SqT.of h,.str a,vf (j:=0) rfl,_,.inl (.str _),AS,T.ss,Yf trivial]]]
   cases hA with
   | open_ h=>exact key _ _ h
   | alike S ss h hS=>exact key _ _ h
   | forms D es f g h hD=>exact key _ _ h
   | world t ts tab h ht hG=>exact key _ _ h
  rintro σ H1 ⟨rfl,rfl⟩:_;have skip:∀{a b:sF} {xs:List V} {A:Prop} {B:Prop},H1 p=AQ (.tup (.str a::xs))->a≠b->B->∃xs,SqT K H1 p xs/\∃v,atI xs 0=AQ v/\J3 v (.str b)=AS/\if v=.str b then A else B:=λ{a b xs A B} h hne hB=>#[_,SqT.of h,.str a,vf (j:=0) rfl,rfl,yb (λz=>w4 (V.str.inj z) hne) λZ=>hB];right
  cases hA with
  | alike S ss h hS =>
   refine qz (λZ Z=>False) ?_ λZ Z h=>h.elim
   rfl'
   exact#[_,SqT.of h,_,rfl,rfl,yb (λZ=>#[_,.inr #[_,SqT.of h,rfl],yb (λZ=>#[_,SqT.of h,_,rfl,S,ss,rfl,hS.is,q _ (Same.refl _)]) λz=>w4 rfl z]) λz=>w4 rfl z]
  | forms D es f g h hD =>
   change H'=H1/\σ=[!!p,AQ (.int (l.length:Nat))]
   ·rfl'
    exact skip h ∅ trivial
   rintro σ H2 ⟨rfl,rfl⟩:0;refine qz (λZ Z=>False) ?_ λZ Z h=>h.elim
   rfl'
   refine#[_,SqT.of h,_,rfl,rfl,yb (λZ=>?_) λz=>w4 rfl z];change H'=H2/\σ=[!!p,AQ (.int (l.length:Nat))]
   ·rfl'
    exact#[_,.inr #[_,SqT.of h,rfl],yb (λz=>w4 rfl z) λZ=>#[_,SqT.of h,_,rfl,D,es,rfl,hD.l.is,AS,rfl,Yf rfl]]
   rintro σ H3 ⟨rfl,rfl⟩:0
   rfl'
   exact#[_,SqT.of h,_,rfl,_,.inl (.str _),AS,T.ss,zfT #[_,SqT.of h,_,rfl,_,.inl (.str _),AS,T.ss,q _ (Same.refl _)]]
  | world t ts tab h ht hG =>
   change H'=H1/\σ=[!!p,AQ (.int (l.length:Nat))]
   ·rfl'
    exact skip h ∅ trivial
   rintro σ H2 ⟨rfl,rfl⟩:0;change H'=H2/\σ=[!!p,AQ (.int (l.length:Nat))]
   ·rfl'
    exact skip h ∅ trivial
   rintro σ H3 ⟨rfl,rfl⟩:0;refine qz (λZ Z=>False) ?_ λZ Z h=>h.elim
   rfl'
   exact#[_,SqT.of h,_,rfl,rfl,yb (λZ=>#[_,.inr #[_,SqT.of h,rfl],yb (λZ=>#[_,SqT.of h,_,rfl,zca ht hG l6 q]) λz=>w4 rfl z]) λz=>w4 rfl z]
  | open_ h =>
   change H'=H1/\σ=[!!p,AQ (.int (l.length:Nat))]
   ·rfl'
    exact skip h ∅ trivial
   rintro σ H2 ⟨rfl,rfl⟩:0;change H'=H2/\σ=[!!p,AQ (.int (l.length:Nat))]
   ·rfl'
    exact skip h ∅ trivial
   rintro σ H3 ⟨rfl,rfl⟩:0;change H'=H3/\σ=[!!p,AQ (.int (l.length:Nat))]
   ·rfl'
    exact skip h ∅ trivial
   rintro σ H4 ⟨rfl,rfl⟩:0
   rfl'
   refine#[⋯,λp1 hp1=>ZM (l:=[.str "open"]) (m:=[.str "open"]) (.inr #[?_,?_]) ∅ ?_]
   ·erw[Is,Iss]
    exact#[_,_,rfl,SqT.of (zf hp1 _ _ h),_,_,rfl,rfl,rfl]
   ·erw[Is,Iss]
    exact#[_,_,rfl,SqT.of zc,_,_,rfl,rfl,rfl]
   ·rw[xg];exact q _ (zf hp1)
theorem none_of{w:()}(h:∀p ∈ ps,¬ Within p.1 w):zF w ps=AR:=by
 cases e:zF w ps with
 | none=>rfl
 | some u =>
  let#[p,h1,h2]:=yd e;exact w4 (JK h2) (h p (ac h1))
def Yy{w:()}(h:zF w ps=AR):EndsAt ps w 0:=#[λi hi=>w4 hi (bB i),h,ay _]
def YC(bs:List Ent)(e:Ent):yO bs e 0 0=e:=by show (e.1,e.2.1,[] ++ e.2.2 ++ [])=e;rw[bg,aT]
def V9{p w:()}(h:Within p w):p.length<=w.length/\(p.length=w.length->p=w):=by
 let#[a,b,rfl]:=h
 erw[aj]
 refine#[⋯,λe=>?_];have ha:a=[]:=Bn.mp ⋯;have hb:b=[]:=Bn.mp ⋯;rw[ha,hb,bg,aT]
structure TLe(k:Nat)(l:())(ns:List Int)(s:Nat)(e:Ent):Prop where
 a:e.1.length=s
 b:e.2.1.length<s
 lt:zU k l ns e.2.1 e.1=AS
 far:¬ qP e
theorem Ks(h:xn k l ns bs es r):(∀e ∈ bs ++ es,TLe k l ns s e)->(bs ++ es).Pairwise (λa b=>a.1≠b.1)->r=AQ (bs ++ es):=by
 have key:∀{bs es:List Ent} {e:Ent},(∀x ∈ bs ++ e::es,TLe k l ns s x)->(bs ++ e::es).Pairwise (λa b=>a.1≠b.1)->EndsAt (zb bs) e.1 0/\EndsAt (zb bs) e.2.1 0/\TLe k l ns s e:=λ{bs es e} h1 h2=>by
  have he:=h1 e (by simp);refine#[Yy (none_of λp hp hw=>?_),Yy (none_of λp hp hw=>?_),he]
  all_goals
   let#[x,hx,rfl]:=AY.mp hp;have hx':=h1 x (bx _ hx);have hl:=V9 hw;have:=hx'.a;have:=he.a;have:=he.b
  ·exact (Bp.mp h2).2.2 x hx e aB (hl.2 (by show x.1.length=_;lia))
  ·have:=hl.1
   replace this:x.1.length<=_:=this
   lia
 induction h with
 | nil bs=>intro _ _;rw[aT]
 | @same bs es e i j r h1 h2 h3 h4 ih =>
  intro g1 g2;let#[a1,a2,he]:=key g1 g2;rw[h1.uniq a1,h2.uniq a2]at h3;have h3':e.1.length=e.2.1.length:=congrArg cG h3;have:=he.a;have:=he.b;lia
 | @new bs es e i j r h1 h2 h3 h4 h5 ih =>
  intro g1 g2;let#[a1,a2,he]:=key g1 g2
  have e0:z6 k l ns (yO bs e i j)=e:=by
   rw[h1.uniq a1,h2.uniq a2,YC];unfold z6;rw[w6 he.lt]
  rw[e0,aQ]at ih;exact ih g1 g2
 | @far bs es e i j h1 h2 h3 h4 =>
  intro g1 g2;let#[a1,a2,he]:=key g1 g2;rw[h1.uniq a1,h2.uniq a2,YC]at h4;exact w4 h4 he.far
 | @stuck bs es e h =>
  intro g1 g2;let#[a1,a2,he]:=key g1 g2;rcases h with h | h
  ·exact w4 a1 (h 0)
  ·exact w4 a2 (h 0)
theorem zda(h:uM k l ns (n+1) es r)(hz:∀zs,Lined k l ns es zs->(∀e ∈ zs,TLe k l ns s e)/\zs.Pairwise λa b=>a.1≠b.1):∃zs,Lined k l ns es zs/\r=AQ zs:=by
 have key:∀{zs r},Lined k l ns es zs->xn k l ns [] zs r->r=AQ zs:=λ{zs r} h1 h2=>by
  have:=Ks h2 (by rw[bg];exact (hz zs h1).1) (by rw[bg];exact (hz zs h1).2);rw[bg]at this;exact this
 cases h with
 | bad h1 h2=>cases key h1 h2
 | done h1 h2 h3=>exact#[_,h1,key h1 h2]
 | more h1 h2 h3 h4 =>
  cases key h1 h2;exact w4 rfl h3
def lgR(p:zH):zH:=if p.1.length<p.2.length then (p.2,p.1)else p
theorem YE(rs:List zH):∀n,n<=rs.length->zb (fEs rs n)=rs.take n
 | 0,_=>by simp [fEs,zb]
 | n+1,h=>by
  have ih:=YE rs n ⋯;have e:rs[n]? = AQ (rs[n]'⋯):=af ⋯;rw[zQ e,<- ih]
  erw[fEs,zb,am]
  congr 1;rw[e];rfl
structure TLr(l:())(s:Nat)(p:zH):Prop where
 a:p.1.length=s
 b:p.2.length<s
 ma:∀c ∈ p.1,c ∈ l
 mb:∀c ∈ p.2,c ∈ l
def Ki(hk:k≠2)(hs:∀p ∈ rs,TLr l s p)(h60:s<=60)(hA:(rs'.map lgR).Perm rs)(hn:(rs.map Prod.fst).Nodup)(hz:Lined k l ns (fEs rs' rs'.length) zs):((∀e ∈ zs,TLe k l ns s e)/\zs.Pairwise λa b=>a.1≠b.1)/\(zb zs).Perm rs/\∀e ∈ zs,e.2.2.length=1:=by
 have less:∀{u v:()},u.length<v.length->zU k l ns u v=AS/\zU k l ns v u=AT:=λ{u v} h=>by
  unfold zU zE;rw[w9 hk,w9 hk,w9 ⋯,w9 ⋯];exact#[u6 ⋯,u9 ⋯]
 have mem:∀p ∈ rs',TLr l s (lgR p):=λp hp=>hs _ (hA.mem_iff.mp (AY.mpr #[p,hp,rfl]))
 have ne:∀p ∈ rs',p.1.length≠p.2.length:=λp hp e=>by
  have h:=mem p hp;unfold lgR at h;rw[w9 ⋯]at h;have:=h.a;have:=h.b;lia
 have rul:∀e:Ent,e.1.length≠e.2.1.length->((z6 k l ns e).1,(z6 k l ns e).2.1)=lgR (e.1,e.2.1)/\zU k l ns (z6 k l ns e).2.1 (z6 k l ns e).1=AS/\(z6 k l ns e).2.2.length=e.2.2.length:=λe h=>by
  unfold z6 lgR;by_cases g:e.1.length<e.2.1.length
  ·rw[w9 (by rw[(less g).2];decide),w6 g];exact#[rfl,(less g).1,yA _]
  ·have g':=(less (show e.2.1.length<e.1.length by lia)).1;rw[w6 g',w9 g];exact#[rfl,g',rfl]
 have ents:∀e ∈ fEs rs' rs'.length,e.1.length≠e.2.1.length/\e.2.2.length=1/\TLr l s (lgR (e.1,e.2.1)):=λe he=>by
  let#[i,p,hi,hp,rfl]:=jW he;have hm:=ac hp;exact#[ne p hm,rfl,mem p hm]
 have raw:qN k l ns (fEs rs' rs'.length)=(fEs rs' rs'.length).map (z6 k l ns):=by
  unfold qN
  rw[List.filter_eq_self.mpr λe he=>by
   have:=(ents e he).1
   erw[dC,decide_eq_false_iff_not]
   exact λh=>this (by rw[h])]
 have hp0:=hz.perm;rw[raw]at hp0
 have pz:(zb zs).Perm rs:=by
  refine ((hp0.map λe:Ent=>(e.1,e.2.1)).trans ?_).trans hA
  have e1:((fEs rs' rs'.length).map (z6 k l ns)).map (λe:Ent=>(e.1,e.2.1))=(zb (fEs rs' rs'.length)).map lgR:=by
   unfold zb;rw[ce,ce];exact bT λe he=>(rul e (ents e he).1).1
  rw[e1,YE _ _ (al _),aI]
 have zm:∀e ∈ zs,∃y ∈ fEs rs' rs'.length,e=z6 k l ns y:=λe he=>by
  let#[y,hy,rfl]:=AY.mp (hp0.mem_iff.mp he);exact#[y,hy,rfl]
 have z1:∀e ∈ zs,e.2.2.length=1:=λe he=>by
  let#[y,hy,rfl]:=zm e he;rw[(rul y (ents y hy).1).2.2];exact (ents y hy).2.1
 refine#[#[λe he=>?_,?_],pz,z1]
 ·have hr:TLr l s (e.1,e.2.1):=hs _ (pz.mem_iff.mp (AY.mpr #[e,he,rfl]));have h1:=z1 e he;let#[y,hy,rfl]:=zm e he;have ha:=hr.a;have hb:=hr.b;refine#[ha,hb,(rul y (ents y hy).1).2.1,λh=>?_];unfold qP at h;simp only at ha hb;lia
 ·have hn':(zs.map λe:Ent=>e.1).Nodup:=by
   have:(zb zs).map Prod.fst=zs.map λe:Ent=>e.1:=by unfold zb;rw[ce];rfl
   rw[<- this];exact ((pz.map Prod.fst).nodup_iff).mpr hn
  exact Bs.mp hn'
theorem vD(hs:∀p ∈ ps,p.2.length<p.1.length){w:()}:∀{i:Nat},kD ps w i->(wAt ps w i).length+i<=w.length
 | 0,_=>al _
 | i+1,h=>by
  have ih:=vD hs (i:=i) λj hj=>h j ⋯
  cases e:zF (wAt ps w i) ps with
  | none=>exact w4 e (h i ⋯)
  | some u =>
   let#[p,h1,h2]:=yd e;let#[e1,_]:=yB h2;rw[xI e];unfold Ze yX;rw[yU h1];have e2:=congrArg cG e1;have:=hs p (ac h1)
   erw[aj]at e2 ⊢
   lia
def vz(hs:∀p ∈ ps,p.2.length<p.1.length){w:()}(hw:w.length<=40):∃i,EndsAt ps w i/\i<=w.length:=by
 rcases Us ps w with ⟨i,h⟩ | ⟨h1,h2⟩
 ·have:=vD hs h.live;exact#[i,h,⋯]
 ·have:=vD hs (w:=w) (i:=41) λi hi=>by
   by_cases e:i=40
   ·rw[e];exact h2
   ·exact h1 i ⋯
  lia
theorem qI{w:()}(h:EndsAt ps w i):goJ ps 40 w=AQ i:=by
 cases e:goJ ps 40 w with
 | none=>exact w4 h.end_ (Va e i h.most)
 | some j =>
  let#[_,h2,h3]:=Vc e;rw[uH h2 h3 h.live h.end_]
def AtF(v:())(ps:List zH)(i:Nat)(x y:Int):Prop:=∃r,FirstN v ps 0 v.length i r/\((r=AR/\x=(v.length:Int)+1)\/∃j n:Nat,r=AQ (j,n)/\j<i/\n<v.length/\x=(n:Int)/\y=(j:Int))
def st_of{q:Nat}:zw v (q:Int) o=AS ↔ q+o.length<=v.length/\(v.drop q).take o.length=o:=by unfold zw;rw[decide_eq_true_eq,aA];exact#[λh=>#[⋯,h.2.2],λh=>#[⋯,⋯,h.2]]
end
set_option tactic.hygienic true in
mutual section
def AtF.next(h:AtF v ps i x y)(hr:ps[i]? = AQ r)(hne:r.1≠[])(hz:zfU v r.1 z):(z<0->AtF v ps (i+1) x y)/\(0<=z->if z<x\/(z=x/\(i:Int)<y)then AtF v ps (i+1) z (i:Int)else AtF v ps (i+1) x y):=by
 let#[r0,hF,hx]:=h
 have lift:FirstN v ps 0 v.length (i+1) r0->AtF v ps (i+1) x y:=λhF'=>by
  refine#[r0,hF',?_];rcases hx with hx | ⟨j,n,h1,h2,h3⟩
  ·exact .inl hx
  ·exact .inr #[j,n,h1,⋯,h3]
 have hpos:0<r.1.length:=Bj.mpr hne;rcases hz with ⟨rfl,hz⟩ | ⟨q,rfl,h1,h2⟩
 ·refine#[λZ=>lift (hF.keep hr λq Z Z=>?_),λh=>by lia];rw[eR];exact λh=>hz q (st_of.mp h)
 ·refine#[λh=>by lia,λZ=>?_]
  have fst:∀q':Nat,0<=q'->q'<q->zw v (q':Int) r.1=AT:=λq' Z hq=>by
   rw[eR];exact λh=>h2 q' hq (st_of.mp h)
  split
  ·rename_i hlt
   have hqx:(q:Int)<x:=by
    rcases hlt with h | ⟨h,hy⟩
    ·exact h
    ·rcases hx with ⟨_,rfl⟩ | ⟨j,n,_,hj,_,_,rfl⟩
     ·lia
     ·lia
   refine#[AQ (i,q),hF.take hr (ay _) ?_ (st_of.mpr h1) fst,.inr #[i,q,rfl,⋯,⋯,rfl,rfl]];rcases hx with ⟨rfl,rfl⟩ | ⟨j,n,rfl,_,_,rfl,_⟩
   ·show q<v.length;lia
   ·show q<n;lia
  ·rename_i hlt;refine lift (hF.keep hr λq' Z hq=>fst q' (ay _) ?_);rcases hx with ⟨rfl,rfl⟩ | ⟨j,n,rfl,_,_,rfl,_⟩
   ·exact w4 (.inl ⋯) hlt
   ·have:q'<n:=hq;have:¬ (q:Int)<(n:Int):=λh=>hlt (.inl h);lia
structure ShP(ps:List zH):Prop where
 ne:NeL ps
 sh:∀p ∈ ps,p.2.length<p.1.length
 s:∀p ∈ ps,p.1.length<=60
 n:ps.length<=1000
def ve(K:su):Sp:=λvs H Q Z=>∃(a:sv) (ps:List zH) (w:()),vs=[.ref a,⇑w]/\LsA K H a (ps.map dR)/\ShP ps/\w.length<=100/\∀(i:Nat) (H':Hp),Same H H'->kD ps w i->zF (wAt ps w i) ps=AR->Q ⇑(wAt ps w i) H'
def kL{w:()}(h1:LsA K H a (ps.map dR))(h2:ShP ps)(h3:w.length<=100)(h:∀(i:Nat) (H':Hp),Same H H'->kD ps w i->zF (wAt ps w i) ps=AR->Q ⇑(wAt ps w i) H'):ve K [.ref a,⇑w] H Q E:=#[a,ps,w,rfl,h1,h2,h3,h]
structure HMn(mg:sF->Option sw):Prop where
 m:mg "min" = AR
def iF:sQz 2 ["_law_rules","_law_word_here","_law_first","_law_number","_law_rule","_law_at","_law_behind"] QY:=by nofun
def zc3(B:Bt mg)(HM:HMn mg)(F:("_law_form"^^^QY)):(1&&&["_law_rules","_law_word_here"]) (ve K):=by
 exists F.ok iF
 ·let#[a,ps,w,rfl,hA,hP,hwl,q]:=h
  refine#[_,(ze (vv p8 (yl yv (λZ=>rfl)) (zh (zy 2 iF.nd (zX (za (zD z7 (zA B.len (pv 1)) zd) (za zd zg)))) (zh (zR p8 rfl (xf rfl B.enum (za (pv 0) zg)) (vJ (n:=2) rfl (zZ (zq (i:=3) iF.nd rfl (.inl rfl)) (zZ (zq (i:=4) iF.nd rfl (.inl rfl)) xW))) (zh (zy 5 iF.nd (wl bJ dc de zch (pv 1) (za (!-4) zg))) (ze (zJ (zv op_ge' (pv 5) zd (zx _)) (ze (zy 2 iF.nd (yP (zd7 rfl (wE hr)) rfl HM.m fQ (za (pv 2) (za (zX (za (pv 5) (za (pv 3) zg))) zg)))))
      zr)))) (zh (zJ (zv Xo (!-2) (zA B.len (pv 1)) (zx _)) (ze (zl (pv 1)))
     zr) (zh (zy 4 iF.nd (zk ix_list (pv 0) (!-2))) (zh (zy 6 iF.nd (zP yL (pv 1) (zO (zD z7 (!-2) (zA B.len (!-4)))) yo)) (ze (zy 1 iF.nd (zD zS (zD zS (zP yL (pv 1) yo (zO (!-2))) (!-4)) (pv 6))))))))))),?_]
  have s16:=zW;let#[xs,hX,hI]:=id hA;have hxl:=hI.len;rw[aa]at hxl;have hpn:=hP.n;unfold kY;refine#[λm σ H'=>Same H H'/\∃(k:Nat) (v2 v3 v4 v5 v6:Option V),(m=(wAt ps w k).length/\kD ps w k)/\σ=[!!a,AQ ⇑(wAt ps w k),v2,v3,v4,v5,v6],#[_,Same.refl _,0,AR,AR,AR,AR,AR,#[rfl,λi hi=>w4 hi (bB i)],rfl],?_];refine nmC ?_;rintro m σ H1 ⟨s1,k,v2,v3,v4,v5,v6,⟨rfl,hk⟩,rfl⟩:_;have hvl:=vD hP.sh hk;right
  rfl'
  refine#[λσ' H''=>Same H H''/\∃(u:Nat × Nat) (v2 v3 v4 v5 v6:Option V),zF (wAt ps w k) ps=AQ u/\σ'=[!!a,AQ ⇑(Ze (wAt ps w k) ps u),v2,v3,v4,v5,v6],?_,?_]
  ·refine nmB ?_;rintro σ' H'' ⟨s2,u,v2,v3,v4,v5,v6,h,rfl⟩:_
   have hk1:kD ps w (k+1):=λi hi=>by
    by_cases e:i=k
    ·rw[e,h];intro z;cases z
    ·exact hk i ⋯
   have e:=xI h
   have m1:(wAt ps w (k+1)).length<(wAt ps w k).length:=by
    let#[p,h1,h2]:=yd h;let#[e1,_]:=yB h2;have e2:=congrArg cG e1;have:=hP.sh p (ac h1);rw[e];unfold Ze yX;rw[yU h1]
    erw[aj]at e2 ⊢
    lia
   right;exact#[_,m1,s2,k+1,rfl,hk1,v2,v3,v4,v5,v6,by rw[e]]
  generalize hv:wAt ps w k=v at hvl;change Same H H'/\∃q:sv,H' q=AQ (.tup [.int ((v.length:Int)+1),.int 0])/\σ=[!!a,~~~v,!!q,v3,v4,v5,v6]
  ·rfl'
   exact#[⋯,⋯,λp hp=>#[s1.trans (zf hp),zc]]
  rintro σ H2 ⟨s2,q0,hq0,rfl⟩:0;change Same H H'/\∃(q0:sv) (x y:Int),H' q0=AQ (.tup [.int x,.int y])/\AtF v ps ps.length x y/\∃v3 v4 v5:Option V,σ=[!!a,~~~v,!!q0,v3,v4,v5,v6]
  ·rfl'
   refine#[#[_,SqL.of (s2 _ _ hX)],ForEL.by (xs:=xs) (λi σ H'=>Same H H'/\∃(q0:sv) (x y:Int),H' q0=AQ (.tup [.int x,.int y])/\AtF v ps i x y/\∃v3 v4 v5:Option V,σ=[!!a,~~~v,!!q0,v3,v4,v5,v6]) #[s2,q0,_,_,hq0,#[AR,.inl #[rfl,λj q h=>w4 h (bB _)],.inl #[rfl,rfl]],v3,v4,v5,rfl] (λi σ H' Z h=>SqL.of (h.1 _ _ hX)) ?_ ?_]
   ·refine nmE ?_;rintro i x σ H3 p3 hx ⟨s3,q0,x0,y0,hq0,hat,v3,v4,v5,rfl⟩ hp3:_;have hi:=(AX.mp hx).1;let#[r,p,hr,rfl,hsq]:=hI.getR hx;have sp3:=zf (o:=.tup [.int (i:Nat),.ref p]) hp3;have s4:=s3.trans sp3;have hq4:=sp3 _ _ hq0;have hsq4:=zp s4 hsq;right
    rfl'
    refine#[_,SqT.of zc,rfl,_,_,rfl,_,_,rfl,rfl,?_];generalize upd H3 p3 (.tup [.int (i:Nat),.ref p])=H4 at s4 hq4 hsq4;change H'=H4/\∃z:Int,zfU v r.1 z/\σ=[!!a,~~~v,!!q0,-~~~i,!!p,~~~!z,v6]
    ·rfl'
     exact#[_,hsq4,_,rfl,v,r.1,rfl,rfl,λz hz=>#[rfl,z,hz,rfl]]
    rintro σ H5 ⟨rfl,z,hz,rfl⟩:_;have hnx:=hat.next hr (hP.ne r (ac hr)) hz;right
    rfl'
    refine yb (λh0=>#[⋯,λp5 hp5=>?_]) λh0=>#[s4,q0,x0,y0,hq4,hnx.1 ⋯,rfl];have sp5:=zf (o:=.tup [.int z,.int (i:Nat)]) hp5;refine#[q0,p5,x0,y0,z,(i:Nat),rfl,SqT.of (sp5 _ _ hq4),SqT.of zc,s4.trans sp5,?_];have hy:=hnx.2 h0;by_cases g:z<x0\/(z=x0/\(i:Int)<y0)
    ·rw[w6 g]at hy ⊢;exact#[p5,_,_,zc,hy,rfl]
    ·rw[w9 g]at hy ⊢;exact#[q0,_,_,sp5 _ _ hq4,hy,rfl]
   ·refine nmB ?_;rintro σ H' ⟨s',q0,x,y,h1,h2,v3,v4,v5,rfl⟩:0;exact#[s',q0,x,y,h1,by rw[<- hxl];exact h2,v3,v4,v5,rfl]
  rintro σ H3 ⟨s3,q0,x,y,hq0,⟨r0,hF,hat⟩,v3,v4,v5,rfl⟩:_;have hfu:=Zu hF;right;change H'=H3/\(∃(n j:Nat) (p:zH),x=(n:Int)/\y=(j:Int)/\ps[j]? = AQ p/\zw v (n:Int) p.1=AS/\zF v ps=AQ (j,n))/\σ=[!!a,~~~v,!!q0,v3,v4,v5,v6]
  ·rfl'
   refine#[_,SqT.of hq0,_,rfl,⋯,_,rfl,yb (λhg=>?_) λhg=>?_]
   ·rcases hat with ⟨rfl,_⟩ | ⟨j,n,_,_,hn,rfl,_⟩
    ·rw[<- hv]at hfu ⊢;exact q k H3 s3 hk hfu.symm
    ·lia
   ·let#[j,n,rfl,_,_,h1,h2]:=hat.resolve_left λh=>hg (by have:=h.2;lia);let#[p,g1,g2]:=yd hfu.symm;exact#[n,h1,j,h2,p,g1,g2,hfu.symm]
  rintro σ H4 ⟨rfl,⟨n,j,r,rfl,rfl,hr,hst,hfu⟩,rfl⟩:_;let#[hn1,hn2]:=st_of.mp hst;have hrm:=ac hr;have hrl:=hP.s r hrm;have hrs:=hP.sh r hrm
  obtain⟨x3,hx3,hsq3⟩:∃p3:sv,xs[j]? = AQ (.ref p3)/\SqT K H4 p3 [⇑r.1,⇑r.2]:=by
   have hj:=(AX.mp hr).1;have hx:xs[j]? = AQ (xs[j]'⋯):=af ⋯;let#[r',p,hr',e,hsq]:=hI.getR hx;rw[hr]at hr';cases hr';exact#[p,by rw[hx,e],zp s3 hsq]
  right;change H'=H4/\σ=[!!a,~~~v,!!q0,v3,!!x3,v5,v6]
  ·rfl'
   exact#[_,SqT.of hq0,_,rfl,_,rfl,_,SqL.of (s3 _ _ hX),vf hx3]
  rintro σ H5 ⟨rfl,rfl⟩:0;change H'=H5/\σ=[!!a,~~~v,!!q0,v3,!!x3,v5,AQ ⇑(v.drop (n+r.1.length))]
  ·rfl'
   refine#[_,SqT.of hq0,_,rfl,_,hsq3,_,rfl,_,#[by rw[zI];lia,rfl],_,rfl,⋯,?_];rw[zI,<- Int.natCast_add,xp v (bI _),aA]
  rintro σ H6 ⟨rfl,rfl⟩:0
  rfl'
  have e:v.take n ++ r.2 ++ v.drop (n+r.1.length)=Ze v ps (j,n):=by
   unfold Ze yX;rw[yU hr];rfl
  refine#[_,SqT.of hq0,_,rfl,_,rfl,⋯,_,hsq3,_,rfl,_,rfl,?_,?_,s3,_,hfu,?_]
  all_goals erw[zI,yR,uI v (bI _),aA,aj,aC,aS]
  ·lia
  ·lia
  ·rw[e]
def zgp:List V->Hp->VK->Prop:=λxs H Q=>∃i j,xs=[.int i,.int j]/\Q (.int (if j<i then j else i)) H
def zeS(hc:X.calm=AS):w8 X (.builtin "min") zgp:=QX hc
def zct{A B C X Y:Prop}[Decidable A][Decidable B][Decidable C](h1:A->(B\/C)->X)(h2:¬ (A/\(B\/C))->Y):if A then (if B then X else if C then X else Y)else Y:=by by_cases a:A <;> by_cases b:B <;> by_cases c:C <;> simp_all
def kZ(ps:List zH):Bool:=(ovA ps ps.length).all (X8 ps 40)
def metA_un : kZ ps=AS ↔ unG ps 40=[]:=by unfold kZ unG;rw[List.all_eq_true,List.filter_eq_nil_iff];exact#[λh t ht=>by rw[h t ht];decide,λh t ht=>by simpa using h t ht]
def zcF(hr:ps[i]? = AQ r)(ho:ps[j]? = AQ o)(hn:n<r.1.length)(hsz:sz=min (r.1.length - n) o.1.length):xD (lf ps i) (lf ps j) n=decide ((r.1.drop n).take sz=o.1.take sz)/\pkA ps (i,j,n)=r.2 ++ o.1.drop sz/\pkB ps (i,j,n)=(r.1 ++ o.1.drop sz).take n ++ o.2 ++ (r.1 ++ o.1.drop sz).drop (n+o.1.length):=by
 have d1:ps.getD i ([],[])=r:=by rw[ae,hr];rfl
 have d2:ps.getD j ([],[])=o:=by rw[ae,ho];rfl
 have ed:o.1.drop (r.1.length - n)=o.1.drop sz:=by
  rcases gm (r.1.length - n) o.1.length with h | h
  ·rw[hsz,cw h]
  ·rw[hsz,cE h,bf h,dM]
 refine#[?_,?_,?_]
 ·rw[xE hr,xE ho];unfold xD
  have e1:(r.1.drop n).take o.1.length=(r.1.drop n).take sz:=by
   rw[hsz];rcases gm (r.1.length - n) o.1.length with h | h
   ·rw[cw h,aW (by rw[aS];exact h),aW (by rw[aS];exact al _)]
   ·rw[cE h]
  have e2:o.1.take (r.1.length - n)=o.1.take sz:=by
   rw[hsz];rcases gm (r.1.length - n) o.1.length with h | h
   ·rw[cw h]
   ·rw[cE h,aW h,aI]
  rw[e1,e2]
 ·unfold pkA yX yu;rw[xE hr,xE ho,d1];show (r.1 ++ o.1.drop (r.1.length - n)).take 0 ++ r.2 ++ (r.1 ++ o.1.drop (r.1.length - n)).drop (0+r.1.length)=_;rw[bu,bg,dY,fO,ed]
 ·unfold pkB yX yu;rw[xE hr,xE ho,d2];show (r.1 ++ o.1.drop (r.1.length - n)).take n ++ o.2 ++ (r.1 ++ o.1.drop (r.1.length - n)).drop (n+o.1.length)=_;rw[ed]
def YL(hP:ShP ps)(h1:(pkA ps t).length<=40)(h2:(pkB ps t).length<=40)(a1:kD ps (pkA ps t) i)(a2:zF (wAt ps (pkA ps t) i) ps=AR)(b1:kD ps (pkB ps t) j)(b2:zF (wAt ps (pkB ps t) j) ps=AR):X8 ps 40 t=decide (wAt ps (pkA ps t) i=wAt ps (pkB ps t) j):=by have l1:=vD hP.sh a1;have l2:=vD hP.sh b1;unfold X8 zfg;rw[qI #[a1,a2,⋯],qI #[b1,b2,⋯]];rfl
def YT(K:su):Sp:=λvs H Q Z=>∃(a:sv) (ps:List zH),vs=[.ref a]/\LsA K H a (ps.map dR)/\ShP ps/\(∀p ∈ ps,p.1.length<=10/\p.2.length<=10)/\∀H':Hp,Same H H'->Q (.bl (kZ ps)) H'
def gU:sQz 1 ["_law_rules","_law_k","_law_rule","_law_n","_law_other","_law_place","_law_size","_law_agree","_law_word_here","_law_left","_law_behind","_law_right_here"] JE:=by nofun
def zcT(B:Bt mg)(HM:HMn mg)(F:("_law_meet"^^^JE))(oS:(1<<<"_law_form") ["_law_rules","_law_word_here"] [] (ve K)):(2&&&["_law_rules"]) (YT K):=by
 exists F.ok gU
 ·let#[a,ps,rfl,hA,hP,hsd,q]:=h
  refine#[_,(zh (zR p8 rfl (xf rfl B.enum (za (pv 0) zg)) (vJ (n:=2) rfl (zZ (zq (i:=1) gU.nd rfl (.inl rfl)) (zZ (zq (i:=2) gU.nd rfl (.inl rfl)) xW))) (ze (zR p8 rfl (xf rfl B.enum (za (pv 0) zg)) (vJ (n:=2) rfl (zZ (zq (i:=3) gU.nd rfl (.inl rfl)) (zZ (zq (i:=4) gU.nd rfl (.inl rfl)) xW))) (ze (zR p8 rfl (zV rfl B.range (za (zA B.len (!-2)) zg)) (zq (i:=5) gU.nd rfl (.inl rfl)) (zh (zy 6 gU.nd (yP (zeS rfl) rfl HM.m fQ (za (zD wc (zA B.len (!-2)) (pv 5)) (za (zA B.len (!-4)) zg)))) (zh (zy 7 gU.nd (yi xA (zP yL (!-2) (zO (pv 5)) (zO (zD z7 (pv 5) (pv 6)))) (zP yL (!-4) yo (zO (pv 6))) (zx _))) (ze (zJ (PW.pt (W5 (yl (pv 7) (λZ=>rfl)) (Z5 (PW.pt (wU (zv um (pv 1) (pv 3) (zx _)) (we (zv Xo (pv 5) zd (zx _)))))))) (zh (zy 8 gU.nd (zD zS (!-2) (zP yL (!-4) (zO (pv 6)) yo))) (zh (zy 9 gU.nd (zD zS (!-2) (zP yL (!-4) (zO (pv 6)) yo))) (zh (zy 10 gU.nd (zP yL (pv 8) (zO (zD z7 (pv 5) (zA B.len (!-4)))) yo)) (zh (zy 11 gU.nd (zD zS (zD zS (zP yL (pv 8) yo (zO (pv 5))) (!-4)) (pv 10))) (ze (zJ (zv um (cl0 oS hr .nil rfl (za (pv 0) (za (pv 9) zg))) (cl0 oS hr .nil rfl (za (pv 0) (za (pv 11) zg))) (zx _)) (ze (zl yv))
        zr))))))
       zr))))))))) (ze (zl yv))),?_]
  have s16:=zW;have hpl:=hP.n;let#[xs,hX,hI]:=id hA;have hxl:=hI.len;rw[aa]at hxl
  refine qz (λσ H'=>Same H H'/\∀t ∈ ovA ps ps.length,X8 ps 40 t=AS) ?_ λσ H' s'=>by
   rfl'
   have e:kZ ps=AS:=Bg.mpr s'.2;have:=q H' s'.1;rw[e]at this;exact this
  rfl'
  refine#[#[_,SqL.of hX],ForEL.by (xs:=xs) (λi σ H'=>Same H H'/\(∀t ∈ ovA ps i,X8 ps 40 t=AS)/\∃v1 v2 v3 v4 v5 v6 v7 v8 v9 v10 v11:Option V,σ=[!!a,v1,v2,v3,v4,v5,v6,v7,v8,v9,v10,v11]) #[Same.refl _,λt h=>(nomatch h),AR,AR,AR,AR,AR,AR,AR,AR,AR,AR,AR,rfl] (λi σ H' Z h=>SqL.of (h.1 _ _ hX)) ?_ λσ H' h=>#[h.1,by rw[<- hxl];exact h.2.1]];refine nmE ?_;rintro i x σ H1 p1 hx ⟨s1,m1,v1,v2,v3,v4,v5,v6,v7,v8,v9,v10,v11,rfl⟩ hp1:_;let#[r,p,hr,rfl,hsq]:=hI.getR hx;have hrm:=ac hr;let#[r1,r2]:=hsd r hrm;have s2:=s1.trans (zf (o:=.tup [.int (i:Nat),.ref p]) hp1);right;dsimp only;refine zbT (SqT.of zc) ?_;generalize upd H1 p1 (.tup [.int (i:Nat),.ref p])=H2 at s2
  rfl'
  refine#[#[_,SqL.of (s2 _ _ hX)],ForEL.by (xs:=xs) (λj σ H'=>Same H H'/\(∀t ∈ ovI ps i j,X8 ps 40 t=AS)/\∃v3 v4 v5 v6 v7 v8 v9 v10 v11:Option V,σ=[!!a,-~~~i,!!p,v3,v4,v5,v6,v7,v8,v9,v10,v11]) #[s2,λt h=>(nomatch h),v3,v4,v5,v6,v7,v8,v9,v10,v11,rfl] (λi σ H' Z h=>SqL.of (h.1 _ _ hX)) ?_ ?_]
  rotate_left
  ·refine nmB ?_;rintro σ H' ⟨s',m',v3,v4,v5,v6,v7,v8,v9,v10,v11,rfl⟩:0;refine#[s',λt ht=>?_,_,_,_,_,_,_,_,_,_,_,_,rfl];rw[qX,<- hxl]at ht;exact (Ba.mp ht).elim (m1 t) (m' t)
  refine nmE ?_;rintro j x σ H3 p3 hx3 ⟨s3,m3,v3,v4,v5,v6,v7,v8,v9,v10,v11,rfl⟩ hp3:_;let#[o,po,ho,rfl,hso]:=hI.getR hx3;have hom:=ac ho;let#[o1,o2]:=hsd o hom;have s4:=s3.trans (zf (o:=.tup [.int (j:Nat),.ref po]) hp3);right;dsimp only;refine zbT (SqT.of zc) ?_;generalize upd H3 p3 (.tup [.int (j:Nat),.ref po])=H4 at s4
  rfl'
  refine#[_,zp s4 hsq,_,rfl,_,#[by rw[zI];lia,rfl],⋯,by rw[zI];lia,?_];rw[zI];refine ForR.by (λn σ H'=>Same H H'/\(∀t ∈ Yz ps i j n,X8 ps 40 t=AS)/\∃v5 v6 v7 v8 v9 v10 v11:Option V,σ=[!!a,-~~~i,!!p,-~~~j,!!po,v5,v6,v7,v8,v9,v10,v11]) #[s4,λt h=>(nomatch h),v5,v6,v7,v8,v9,v10,v11,rfl] ?_ ?_
  rotate_left
  ·refine nmB ?_;rintro σ H' ⟨s',m',v5,v6,v7,v8,v9,v10,v11,rfl⟩:0;refine#[s',λt ht=>?_,_,_,_,_,_,_,_,_,_,rfl];rw[uw,xE hr]at ht;exact (Ba.mp ht).elim (m3 t) (m' t)
  refine nm3 ?_;rintro n σ H5 hn ⟨s5,m5,v5,v6,v7,v8,v9,v10,v11,rfl⟩:_;have hn':n<r.1.length:=⋯;right;dsimp only
  erw[yt,aM,aL]
  rw[show (0:Int)+(n:Int)=(n:Int) by lia];have hsq5:=zp s5 hsq;have hso5:=zp s5 hso;change H'=H5/\∃sz:Nat,sz=min (r.1.length - n) o.1.length/\σ=[!!a,-~~~i,!!p,-~~~j,!!po,-~~~n,-~~~sz,v7,v8,v9,v10,v11]
  ·rfl'
   refine#[_,hsq5,_,rfl,_,#[by rw[zI];lia,rfl],_,hso5,_,rfl,_,#[by rw[zI];lia,rfl],_,_,rfl,rfl,?_];rw[zI,zI];refine congrArg V.int ?_;split <;> lia
  rintro σ H6 ⟨rfl,sz,hsz,rfl⟩:0;change H'=H6/\σ=[!!a,-~~~i,!!p,-~~~j,!!po,-~~~n,-~~~sz,AQ (.bl (decide ((r.1.drop n).take sz=o.1.take sz))),v8,v9,v10,v11]
  ·rfl'
   refine#[_,hsq5,_,rfl,_,rfl,by rw[zI];lia,_,hso5,_,rfl,_,rfl,by rw[zI];lia,?_];rw[jv,jv,uI _ (bI _),UG _ (bI _) ⋯,aA,aA,show ((n:Int)+(sz:Int) - (n:Int)).toNat=sz by lia]
  rintro σ H7 ⟨rfl,rfl⟩:_;let#[eg,eA,eB]:=zcF hr ho hn' hsz;right
  rfl'
  refine zct (λhag hne=>?_) λhno=>#[s5,λt ht=>?_]
  rotate_left
  ·rw[wN,eg]at ht;refine (Ba.mp ht).elim (m5 t) λht=>?_;rw[w9]at ht
   ·cases ht
   ·intro hb
    erw[ba,dU,decide_eq_true_eq]at hb
    exact hno #[hb.2,hb.1.imp (λh z=>h ⋯) λh=>by lia]
  have hsl:(o.1.drop sz).length<=10:=by rw[aS];lia
  change H'=H7/\σ=[!!a,-~~~i,!!p,-~~~j,!!po,-~~~n,-~~~sz,AQ (.bl (decide ((r.1.drop n).take sz=o.1.take sz))),AQ ⇑(r.1 ++ o.1.drop sz),v9,v10,v11]
  ·rfl'
   refine#[_,hsq5,_,rfl,_,hso5,_,rfl,_,rfl,by rw[zI];lia,_,rfl,?_,?_]
   all_goals rw[jv,xp _ (bI _),aA]
   ·rw[zI];lia
   ·rw[yR]
  rintro σ H8 ⟨rfl,rfl⟩:0;change H'=H8/\σ=[!!a,-~~~i,!!p,-~~~j,!!po,-~~~n,-~~~sz,AQ (.bl (decide ((r.1.drop n).take sz=o.1.take sz))),AQ ⇑(r.1 ++ o.1.drop sz),AQ ⇑(r.2 ++ o.1.drop sz),v10,v11]
  ·rfl'
   refine#[_,hsq5,_,rfl,_,hso5,_,rfl,_,rfl,by rw[zI];lia,_,rfl,?_,?_]
   all_goals rw[jv,xp _ (bI _),aA]
   ·rw[zI];lia
   ·rw[yR]
  rintro σ H9 ⟨rfl,rfl⟩:_;have hwl:(r.1 ++ o.1.drop sz).length<=20:=by rw[aj];lia
  right;generalize hwd:r.1 ++ o.1.drop sz=wd at eB hwl;change H'=H9/\σ=[!!a,-~~~i,!!p,-~~~j,!!po,-~~~n,-~~~sz,AQ (.bl (decide ((r.1.drop n).take sz=o.1.take sz))),~~~wd,AQ ⇑(r.2 ++ o.1.drop sz),AQ ⇑(wd.drop (n+o.1.length)),v11]
  ·rfl'
   refine#[_,hso5,_,rfl,_,#[by rw[zI];lia,rfl],⋯,?_];rw[zI,<- Int.natCast_add,xp wd (bI _),aA]
  rintro σ H10 ⟨rfl,rfl⟩:0;change H'=H10/\σ=[!!a,-~~~i,!!p,-~~~j,!!po,-~~~n,-~~~sz,AQ (.bl (decide ((r.1.drop n).take sz=o.1.take sz))),~~~wd,AQ ⇑(r.2 ++ o.1.drop sz),AQ ⇑(wd.drop (n+o.1.length)),AQ ⇑(wd.take n ++ o.2 ++ wd.drop (n+o.1.length))]
  ·rfl'
   refine#[⋯,_,hso5,_,rfl,_,rfl,?_,?_,?_]
   all_goals erw[zI,yR,uI wd (bI _),aA,aj,aC,aS]
   ·lia
   ·lia
  rintro σ H11 ⟨rfl,rfl⟩:0
  rfl'
  rw[<- eA,<- eB];have hlA:(pkA ps (i,j,n)).length<=40:=by rw[eA,aj];lia
  have hlB:(pkB ps (i,j,n)).length<=40:=by rw[eB];erw[aj,aC,aS];lia
  have hR:=hA.same s5;refine kL hR hP ⋯ λi1 H12 s12 a1 a2=>kL (hR.same s12) hP ⋯ λi2 H13 s13 b1 b2=>#[rfl,yb (λhd=>?_) λhd=>#[(s5.trans s12).trans s13,λt ht=>?_]]
  ·have hmf:=YL hP hlA hlB a1 a2 b1 b2;rw[u9 λe=>hd (by rw[e])]at hmf
   have e:kZ ps=AT:=by
    unfold kZ;rw[List.all_eq_false];refine#[(i,j,n),Bm.mpr #[i,Bc.mpr (AX.mp hr).1,Bm.mpr #[j,Bc.mpr (AX.mp ho).1,AY.mpr #[n,Be.mpr #[Bc.mpr (by rw[xE hr];exact hn'),?_],rfl]]],by rw[hmf];decide];rw[eg,ba,dU,decide_eq_true_eq,decide_eq_true_eq,decide_eq_true_eq];exact#[hne.imp (λh z=>h (by rw[z])) λh=>by lia,hag]
   have:=q H13 ((s5.trans s12).trans s13);rw[e]at this;exact this
  ·rw[wN]at ht;refine (Ba.mp ht).elim (m5 t) λht=>?_;split at ht
   ·rw[Bb.mp ht,YL hP hlA hlB a1 a2 b1 b2];exact u6 (wJ (V.str.inj (Classical.not_not.mp hd)))
   ·cases ht
def Alk(rs rs':List zH):Prop:=rs'.length=rs.length/\∀g:zH->zH,(∀p ∈ rs,g (p.2,p.1)=g p)->(rs'.map g).Perm (rs.map g)
def Alk.snoc(h:Alk rs rs')(e:r'=r\/r'=(r.2,r.1)):Alk (rs ++ [r]) (rs' ++ [r']):=by
 refine#[by rw[aj,aj,h.1];rfl,λg hg=>?_];rw[am,am]
 have e':g r'=g r:=by
  rcases e with rfl | rfl
  ·rfl
  ·exact hg r (aF _ aB)
 rw[ao,ao,e'];exact (h.2 g λp hp=>hg p (bx _ hp)).append_right _
def Alk.perm(h:Alk rs rs1)(e:rs2.Perm rs1):Alk rs rs2:=#[e.length_eq.trans h.1,λg hg=>(e.map g).trans (h.2 g hg)]
theorem Iss.erase : ∀{ds:List L3.D} {vs:List V} {j:Nat},Iss K H ds vs->Iss K H (ds.eraseIdx j) (vs.eraseIdx j)
 | [],vs,j,h=>by
  erw[Iss]at h
  subst h
  erw[eS,Iss]
 | d::ds,vs,j,h=>by
  erw[Iss]at h
  let#[v,r,rfl,h1,h2]:=h
  cases j with
  | zero=>exact h2
  | succ j =>
   erw[cC,Iss]
   exact#[v,_,rfl,h1,Iss.erase h2]
theorem kM{α:Type}:∀{xs:List α} {j:Nat} {x:α},xs[j]? = AQ x->(x::xs.eraseIdx j).Perm xs
 | [],j,x,h=>by simp at h
 | y::xs,0,x,h=>by simp at h;rw[h];exact .refl _
 | y::xs,j+1,x,h=>by
  rw[cC];exact (List.Perm.swap _ _ _).trans ((kM ↥h).cons y)
theorem Xe(s:Same H H')(h:H' p=AR):H p=AR:=by
 cases e:H p with
 | none=>rfl
 | some o =>
  rw[s _ _ e]at h;cases h
theorem Xb{α β:Type}{g:α->β}:∀{xs:List α} {j:Nat},(xs.map g).eraseIdx j=(xs.eraseIdx j).map g
 | [],j=>by rw[aH,eS,eS];rfl
 | x::xs,0=>rfl
 | x::xs,j+1=>by rw[ao,cC,cC,ao,Xb]
def Yr(K:su):Sp:=λvs H Q Z=>∃(a:sv) (c:Int) (rs:List zH),vs=[.ref a,.int c]/\uV c/\LsA K H a (rs.map dR)/\rs.length<=20/\∀(D:sv) (H':Hp) (rs':List zH),H D=AR->Same H H'->LsA K H' D (rs'.map dR)->Alk rs rs'->Q (.ref D) H'
def ia:sQz 2 ["_law_pacts","_law_cell_here","_law_number","_law_left","_law_pact","_law_told"] Zm:=by nofun
def UN(B:Bt mg)(F:("_law_turned"^^^Zm))(gZ:(1<<<"_law_mixed") ["_law_cell_here","_law_turn"] [] xK):(2&&&["_law_pacts","_law_cell_here"]) (Yr K):=by
 exists F.ok ia
 ·let#[a,c,rs,rfl,hc,hA,hrl,q]:=h
  refine#[_,(zh (zy 2 ia.nd (cl0 gZ hr .nil rfl (za (pv 1) (za zd zg)))) (zh (zy 3 ia.nd (xh zg)) (zh (zR p8 rfl (zY (pv 0)) (zq (i:=4) ia.nd rfl (.inl rfl)) (zh (yW (wl aX bh bn yy (pv 3) (za (zk ix_list (xh (za (pv 4) (za (zX (za (!-4) (za (!-4) zg))) zg))) (zD yT (pv 2) zd)) zg))) (ze (zy 2 ia.nd (zD yZ (pv 2) zd))))) (zh (zy 2 ia.nd (cl0 gZ hr .nil rfl (za (pv 1) (za zd zg)))) (zh (zy 5 ia.nd (xh zg)) (zh (vv p8 (zv Xo (zA B.len (pv 3)) zd (zx _)) (zh (yW (wl aX bh bn yy (pv 5) (za (wl aX PySem.F.slot_list_pop PySem.F.type_list_pop Kq (pv 3) (za (zD yT (pv 2) (zA B.len (pv 3))) zg)) zg))) (ze (zy 2 ia.nd (zD yZ (pv 2) (zD z7 (zA B.len (pv 3)) zd)))))) (ze (zl (pv 5))))))))),?_]
  have s16:=zW;let#[xs,hX,hI]:=id hA;have hxl:=hI.len;rw[aa]at hxl;change H'=H/\∃z:Int,σ=[!!a,~~~!c,~~~!z,AR,AR,AR]
  ·rfl'
   exact xC hc ∅ ∅ λz Z=>#[rfl,z,rfl]
  rintro σ H1 ⟨rfl,z,rfl⟩:0;change ∃D:sv,H1 D=AR/\H'=upd H1 D (.lst [])/\σ=[!!a,~~~!c,~~~!z,!!D,AR,AR]
  ·rfl'
   exact#[⋯,λp hp=>#[p,hp,rfl,rfl]]
  rintro σ H2 ⟨D,hD,rfl,rfl⟩:0;change Same H1 H'/\(∃rs1:List zH,LsA K H' D (rs1.map dR)/\Alk rs rs1)/\∃(z:Int) (v:Option V),σ=[!!a,~~~!c,~~~!z,!!D,v,AR]
  ·rfl'
   refine#[#[_,SqL.of (zf hD _ _ hX)],ForL.by (xs:=xs) (λi σ H'=>Same H1 H'/\(∃rs1:List zH,LsA K H' D (rs1.map dR)/\Alk (rs.take i) rs1)/\∃(z:Int) (v:Option V),σ=[!!a,~~~!c,~~~!z,!!D,v,AR]) #[zf hD,#[[],LsA.nil,rfl,λZ Z=>.refl _],_,_,rfl] (λi σ H' Z h=>SqL.of (h.1 _ _ hX)) ?_ ?_]
   ·refine nm4 ?_;rintro i x σ H3 hx ⟨s3,⟨rs1,hL1,hAk⟩,z,v,rfl⟩:_;have hi:=(AX.mp hx).1;let#[r,p,hr,rfl,hsq]:=hI.getR hx;have hsq3:=zp s3 hsq;let#[ys,hY,hJ]:=hL1;have hyl:=hJ.len;rw[aa,hAk.1,aC]at hyl;have m0:=bq z (b:=2) ∅;have m1:=bp z (b:=2) ∅;right
    erw[yt,aM,aL]
    change Same H1 H'/\(∃rs1:List zH,LsA K H' D (rs1.map dR)/\Alk (rs.take (i+1)) rs1)/\σ=[!!a,~~~!c,~~~!z,!!D,!!p,AR]
    ·rfl'
     have et:rs.take (i+1)=rs.take i ++ [r]:=by
      rw[List.take_add_one,hr];rfl
     rw[et];refine#[.inl #[_,SqL.of hY],_,hsq3,_,rfl,_,hsq3,_,rfl,⋯,λp1 hp1=>#[⋯,λp2 hp2=>#[∅,_,SqL.of zc,?_]]];have s5:=(zf (o:=.tup [⇑r.2,⇑r.1]) hp1).trans (zf (o:=.lst [V.ref p,V.ref p1]) hp2);have hr5:SqT K _ p1 [⇑r.2,⇑r.1]:=SqT.of (zf (o:=.lst [V.ref p,V.ref p1]) hp2 _ _ zc);rcases (show z % 2=0\/z % 2=1 by lia)with e | e <;> rw[e]
     ·refine#[_,rfl,ys,s5 _ _ hY,⋯,zu (s3.trans s5) hD,rs1 ++ [r],?_,hAk.snoc (.inl rfl)];rw[am];exact LsA.snoc (s5 _ _ hY) (Iss.same s5 _ _ hJ) (y9 rs1) (uQ r) (Uj (zp s5 hsq3))
     ·refine#[_,rfl,ys,s5 _ _ hY,⋯,zu (s3.trans s5) hD,rs1 ++ [(r.2,r.1)],?_,hAk.snoc (.inr rfl)];rw[am];exact LsA.snoc (s5 _ _ hY) (Iss.same s5 _ _ hJ) (y9 rs1) (uQ (r.2,r.1)) (Uj hr5)
    rintro σ H4 ⟨s4,⟨rs4,hL4,hA4⟩,rfl⟩:0
    rfl'
    exact#[#[∅,∅],s4,rs4,hL4,hA4]
   ·refine nmB ?_;rintro σ H' ⟨s',⟨rs1,h1,h2⟩,z,v,rfl⟩:_;rw[aW ⋯]at h2;right;exact#[s',#[rs1,h1,h2],z,v,rfl]
  rintro σ H3 ⟨s3,⟨rs1,hL1,hAk⟩,z,v,rfl⟩:0;change H'=H3/\∃(z:Int) (v:Option V),σ=[!!a,~~~!c,~~~!z,!!D,v,AR]
  ·rfl'
   exact xC hc ∅ ∅ λz Z=>#[rfl,z,rfl]
  rintro σ H4 ⟨rfl,z,v,rfl⟩:0;change ∃J:sv,H4 J=AR/\H'=upd H4 J (.lst [])/\∃v:Option V,σ=[!!a,~~~!c,~~~!z,!!D,v,!!J]
  ·rfl'
   exact#[⋯,λp hp=>#[p,hp,rfl,rfl]]
  rintro σ H5 ⟨J,hJ,rfl,v,rfl⟩:_
  have hJD:J≠D:=λe=>by
   let#[_,h,_]:=hL1;rw[<- e,hJ]at h;cases h
  have hJ1:H1 J=AR:=Xe s3 hJ;right;change Same H1 H'/\∃rs2:List zH,rs2.Perm rs1/\LsA K H' J (rs2.map dR)/\∃(z:Int) (v:Option V),σ=[!!a,~~~!c,~~~!z,!!D,v,!!J]
  ·unfold kY;refine#[λm σ H'=>Same H1 H'/\∃la lb:List zH,la.length=m/\(lb ++ la).Perm rs1/\LsA K H' D (la.map dR)/\LsA K H' J (lb.map dR)/\∃(z:Int) (v:Option V),σ=[!!a,~~~!c,~~~!z,!!D,v,!!J],#[_,s3.trans (zf hJ),rs1,[],rfl,.refl _,hL1.same (zf hJ),LsA.nil,_,_,rfl],?_];refine nmC ?_;rintro m σ H' ⟨s',la,lb,rfl,hpm,hLa,hLb,z,v,rfl⟩:_;have hpl:=hpm.length_eq;have ha1:=hAk.1;rw[aj]at hpl;let#[xa,hXa,hIa]:=id hLa;let#[xb,hXb,hIb]:=id hLb;have hal:=hIa.len;have hbl:=hIb.len;rw[aa]at hal hbl;right
   rfl'
   refine#[_,.inl #[_,SqL.of hXa,rfl],yb (λhpos=>?_) λhn=>?_]
   ·refine#[λσ' H''=>Same H1 H''/\∃la' lb':List zH,la'.length+1=la.length/\(lb' ++ la').Perm rs1/\LsA K H'' D (la'.map dR)/\LsA K H'' J (lb'.map dR)/\∃(z:Int) (v:Option V),σ'=[!!a,~~~!c,~~~!z,!!D,v,!!J],?_,?_]
    ·refine nmB ?_;rintro σ' H'' ⟨t1,la',lb',t2,t3,t4,t5,z,v,rfl⟩:0;exact#[la'.length,⋯,t1,la',rfl,lb',t3,t4,t5,z,v,rfl]
    refine zj (λσ H''=>Same H1 H''/\∃la' lb':List zH,la'.length+1=la.length/\(lb' ++ la').Perm rs1/\LsA K H'' D (la'.map dR)/\LsA K H'' J (lb'.map dR)/\σ=[!!a,~~~!c,~~~!z,!!D,v,!!J]) ?_ ?_
    ·rfl'
     have m0:=bq z (b:=(xa.length:Int)) ⋯;have m1:=bp z (b:=(xa.length:Int)) ⋯;let#[y,e1,_]:=vP (xs:=xa) m0 m1;let#[j,hj,hy,_]:=Zd e1;let#[r,pr,hr,rfl,hsq]:=hIa.getR hy;have ep:=kM hr;have epl:=ep.length_eq;rw[aG]at epl;refine#[.inl #[_,SqL.of hXb],.inl #[_,SqL.of hXa],_,.inl #[_,SqL.of hXa,rfl],⋯,D,xa,_,j,_,rfl,rfl,hXa,⋯,⋯,hj,hy,?_]
     have hXb8:upd H' D (.lst (xa.eraseIdx j)) J=AQ (.lst xb):=by
      rw[zt hJD];exact hXb
     have hIa8:Iss K (upd H' D (.lst (xa.eraseIdx j))) ((la.eraseIdx j).map dR) (xa.eraseIdx j):=by
      have h:=Iss.erase (j:=j) (Iss.updL (zs:=xa.eraseIdx j) hXa _ _ (y9 la) hIa);rw[Xb]at h;exact h
     have hIb8:=Iss.updL (zs:=xa.eraseIdx j) hXa _ _ (y9 lb) hIb;refine#[xb,hXb8,⋯,zu (zu s' hD) hJ1,la.eraseIdx j,epl,lb ++ [r],?_,#[xa.eraseIdx j,?_,Iss.updL hXb8 _ _ (y9 _) hIa8],?_]
     ·rw[aQ];exact (ep.append_left lb).trans hpm
     ·rw[zt (Ne.symm hJD)];exact zc
     ·rw[am];exact LsA.snoc hXb8 hIb8 (y9 lb) (uQ r) (Uj (qY hXa hsq))
    rintro σ H7 ⟨t1,la',lb',t2,t3,t4,t5,rfl⟩:_;let#[xc,hXc,hIc]:=id t4;have hcl:=hIc.len;rw[aa]at hcl;right
    rfl'
    exact#[_,.inl #[_,SqL.of hXc,rfl],#[⋯,⋯],t1,la',t2,lb',t3,t4,t5]
   ·have hla:la=[]:=Bn.mp ⋯;subst hla;rw[aT]at hpm;exact#[s',lb,hpm,xb,hXb,hIb]
  rintro σ H6 ⟨s6,rs2,hp,hL2,z,v,rfl⟩:0
  rfl'
  exact q _ _ rs2 hJ1 s6 hL2 (hAk.perm hp)
def ZF:Sp:=λvs H Q Z=>∃(ls:()) (c:Int) (m:Nat),vs=[.int c,⇑ls,.int (m:Nat)]/\1<=ls.length/\ls.length<=26/\m<=100/\∀l:(),l.length=m->(∀x ∈ l,x ∈ ls)->Q ⇑l H
def Jw(h1:1<=ls.length)(h2:ls.length<=26)(h4:m<=100)(h:∀l:(),l.length=m->(∀x ∈ l,x ∈ ls)->Q ⇑l H):ZF [.int c,⇑ls,.int (m:Nat)] H Q E :=
 #[ls,c,m,rfl,h1,h2,h4,h]
def mw:sQz 3 ["_law_number","_law_letters_here","_law_size","_law_word_here","_law_k"] Wc:=by nofun
def Kw(B:Bt mg)(F:("_law_exact"^^^Wc)):(1&&&["_law_number","_law_letters_here","_law_size"]) ZF:=by
 exists F.ok mw
 ·let#[ls,c,m,rfl,h1,h2,h4,q]:=h
  refine#[_,(zG (zy 3 mw.nd z9) (zG (zR p8 rfl (zV rfl B.range (za (pv 2) zg)) (zq (i:=4) mw.nd rfl (.inl rfl)) (zG (zy 3 mw.nd (zD zS (pv 3) (zk YS (pv 1) (zD yT (pv 0) (zA B.len (pv 1)))))) (ze (zy 0 mw.nd (zD yZ (pv 0) (zA B.len (pv 1))))))) (ze (zl (pv 3))))),?_]
  have s16:=zW
  rfl'
  refine#[⋯,⋯,ForR.by (λi σ H'=>H'=H/\∃(found:()) (number:Int) (v5:Option V),σ=[~~~!number,~~~ls,-~~~m,~~~found,v5]/\found.length=i/\∀x ∈ found,x ∈ ls)
   #[rfl,[],_,AR,rfl,rfl,λx h=>(nomatch h)] ?_ ?_]
  ·refine nm3 ?_;rintro i σ H' hi ⟨rfl,found,number,v5,rfl,hf,hm⟩:0
   rfl'
   have hm0:=bq number (b:=(ls.length:Int)) ⋯;have hm1:=bp number (b:=(ls.length:Int)) ⋯;let#[v,e1,e2]:=vP hm0 hm1
   repeat (refine And.intro (by first | lia | decide | exact#[⋯,⋯] | assumption) ?_)
   refine#[v,e1,?_]
   repeat (refine And.intro (by first | lia | decide | exact#[⋯,⋯] | assumption) ?_)
   refine#[by rw[aj,hf];rfl,λx hx=>?_];rcases Ba.mp hx with h | h
   ·exact hm x h
   ·rw[Bb.mp h];exact ac e2
  ·refine nmB ?_;rintro σ H' ⟨rfl,found,number,v5,rfl,hf,hm⟩:0
   rfl'
   exact q found (by rw[hf];lia) hm
def DrawnP(ls:())(m:Nat)(rs:List zH):Prop:=(rs.map (·.1)).Nodup/\∀r ∈ rs,r.1.length=m/\r.2.length<m/\(∀x ∈ r.1,x ∈ ls)/\∀x ∈ r.2,x ∈ ls
def kvR(rs:List zH):List (sF × V):=rs.map λr=>(tx r.1,V.str (tx r.2))
def zbz(h:atD (kvR rs) (tx u)=AR):u ∉ rs.map (·.1):=λhu=>by
 let#[r,hr,rfl]:=AY.mp hu;unfold atD at h;rw[fA,du]at h;exact h (tx r.1,V.str (tx r.2)) (AY.mpr #[r,hr,rfl]) (u6 rfl)
def DrawnP.snoc(h:DrawnP ls m rs)(hno:atD (kvR rs) (tx u)=AR)(h1:u.length=m)(h2:v.length<m)(h3:∀x ∈ u,x ∈ ls)(h4:∀x ∈ v,x ∈ ls):DrawnP ls m (rs ++ [(u,v)]):=by
 refine#[?_,λr hr=>?_]
 ·rw[am];exact Bz.mpr #[h.1,Bh.mpr #[(nomatch ·),.nil],λa ha b hb=>by rw[Bb.mp hb];rintro rfl;exact zbz hno ha]
 ·rcases Ba.mp hr with hr | hr
  ·exact h.2 r hr
  ·rw[Bb.mp hr];exact#[h1,h2,h3,h4]
theorem zfI(h:(rs.map (·.1)).Nodup):∀r ∈ rs,atD (kvR rs) (tx r.1)=AQ (V.str (tx r.2)):=by
 induction rs with
 | nil=>intro r h;cases h
 | cons a rs ih =>
  rw[ao,List.nodup_cons]at h;intro r hr;unfold atD kvR;rw[ao,dk];rcases AZ.mp hr with rfl | hr
  ·rw[u6 rfl];rfl
  ·rw[u9 λe=>h.1 (by rw[wJ e];exact AY.mpr #[r,hr,rfl])];exact ih h.2 r hr
def zba(K:su):Sp:=λvs H Q Z=>∃(a:sv) (ns:List Int) (ls:()) (m:Nat),vs=[.ref a,⇑ls,.int (m:Nat)]/\SqL K H a (ns.map V.int)/\(∀z ∈ ns,uV z)/\1<=ls.length/\ls.length<=26/\1<=m/\m<=50/\∀(D:sv) (H':Hp) (rs:List zH),Same H H'->LsA K H' D (rs.map dR)->rs.length<=12->rs≠[]->DrawnP ls m rs->Q (.ref D) H'
def mx:sQz 3 ["_law_script","_law_letters_here","_law_size","_law_rights","_law_number","_law_cell_here","_law_left"] Z3:=by nofun
def K4(B:Bt mg)(F:("_law_pairs"^^^Z3))(my:(1<<<"_law_cell") ["_law_script","_law_k"] [] (jh K))(rQ:(1<<<"_law_exact") ["_law_number","_law_letters_here","_law_size"] [] ZF)(gZ:(1<<<"_law_mixed") ["_law_cell_here","_law_turn"] [] xK)(pW:(1<<<"_law_word") ["_law_number","_law_letters_here","_law_most"] [] jl):(2&&&["_law_script","_law_letters_here","_law_size"]) (zba K):=by
 exists F.ok mx
 ·let#[a,ns,ls,m,rfl,hS,hB,h1,h2,h3,h4,q]:=h
  refine#[_,(zh (xH (i:=3) mx.nd rfl (Or.inr rfl) zcC) (zh (zR p8 rfl (zV rfl B.range (za (zD z7 zd (zD yT (cl0 my hr .nil rfl (za (pv 0) (za zd zg))) zd)) zg)) (zq (i:=4) mx.nd rfl (.inl rfl)) (zh (zy 5 mx.nd (cl0 my hr .nil rfl (za (pv 0) (za (zD z7 zd (pv 4)) zg)))) (zh (zy 6 mx.nd (cl0 rQ hr .nil rfl (za (cl0 gZ hr .nil rfl (za (pv 5) (za zd zg))) (za (pv 1) (za (pv 2) zg))))) (ze (yW (zd0 eF PySem.F.type_dict_setdefault zdA (pv 3) (za (pv 6) (za (cl0 pW hr .nil rfl (za (cl0 gZ hr .nil rfl (za (pv 5) (za zd zg))) (za (pv 1) (za (zD wc (pv 2) zd) zg)))) zg)))))))) (ze (zl (yJ (own:=["_law_left"]) (caps:=["_law_rights"]) (ix:=[3]) (tt:=xo) (te:=(Um (zK (ya 0) (zK (tOp (zdR P w) (ya 1) (ya 0)) xv)))) rfl (zM (sc:=zi Z3) rfl (!0) (!0) (!0) rfl (!0) (!0) rfl) (zeW (pv 3)) (λZ Z Z Z Z Z=>zq (i:=0) (show List.Nodup [_,_] by decide) rfl (.inl rfl)) (λZ Z Z Z Z Z=>yh) (λZ Z Z Z Z Z=>(zX (za (pv 0) (za (zk zcX (pv 1) (pv 0)) zg))))))))),?_]
  have s16:=zW;change Same H H'/\∃(p:sv) (ep:Nat),H p=AR/\H' p=AQ (X1 P w p [] ep)/\σ=[!!a,~~~ls,-~~~m,!!p,AR,AR,AR]
  ·rfl'
   exact λp ep hp=>#[zf hp,p,hp,#[ep,zc],rfl]
  rintro σ H1 ⟨s1,p,ep,hp,hH1,rfl⟩:0;change Same H H'/\∃(rs:List zH) (ep:Nat) (v4 v5 v6:Option V),H' p=AQ (X1 P w p (kvR rs) ep)/\rs.length<=12/\rs≠[]/\DrawnP ls m rs/\σ=[!!a,~~~ls,-~~~m,!!p,v4,v5,v6]
  ·rfl'
   refine vF (s1.seq hS) hB ∅ λc hc=>?_;have c0:=bq c (b:=12) ∅;have c1:=bp c (b:=12) ∅;refine#[c,rfl,∅,⋯,⋯,ForR.by (λi σ H'=>Same H H'/\∃(rs:List zH) (ep:Nat) (v4 v5 v6:Option V),H' p=AQ (X1 P w p (kvR rs) ep)/\rs.length<=i/\(0<i->rs≠[])/\DrawnP ls m rs/\σ=[!!a,~~~ls,-~~~m,!!p,v4,v5,v6]) #[s1,[],ep,AR,AR,AR,hH1,al _,λh=>w4 h ∅,#[.nil,λr h=>(nomatch h)],rfl] ?_ ?_]
   ·refine nm3 ?_;rintro i σ H2 hi ⟨s2,rs,ep2,v4,v5,v6,hH2,hl,hne,hD,rfl⟩:0;change H'=H2/\∃d:Int,uV d/\σ=[!!a,~~~ls,-~~~m,!!p,AQ (.int (0+(i:Int))),~~~!d,v6]
    ·rfl'
     exact vF (s2.seq hS) hB ⋯ λd hd=>#[rfl,d,hd,rfl]
    rintro σ H3 ⟨rfl,d,hd,rfl⟩:0;change H'=H3/\∃u:(),u.length=m/\(∀x ∈ u,x ∈ ls)/\σ=[!!a,~~~ls,-~~~m,!!p,AQ (.int (0+(i:Int))),~~~!d,~~~u]
    ·rfl'
     exact xC hd ∅ ∅ λz hz=>Jw h1 h2 ⋯ λu hu1 hu2=>#[rfl,u,hu1,hu2,rfl]
    rintro σ H4 ⟨rfl,u,hu1,hu2,rfl⟩:0
    rfl'
    unfold zgX
    rfl'
    refine#[#[_,_,hH2],?_];refine xC hd ∅ ∅ λz hz=>Ww hz h1 h2 ⋯ ⋯ λv hv1 hv2=>?_;refine#[p,_,_,_,_,rfl,rfl,hH2,by unfold kvR;rw[aa];lia,λy hy=>#[s2,rs,#[ep2,hH2],⋯,λZ e=>(by rw[e]at hy;cases hy),hD],λhno ep3=>#[zu s2 hp,rs ++ [(u,v)],#[ep3,by rw[zc];unfold kvR;rw[am];rfl],by rw[aj];exact eW hl,λZ e=>by simp at e,hD.snoc hno hu1 ⋯ hu2 hv2]]
   ·refine nmB ?_;rintro σ H2 ⟨s2,rs,ep2,v4,v5,v6,hH2,hl,hne,hD,rfl⟩:0;exact#[s2,rs,#[ep2,hH2],⋯,hne ⋯,hD,#[v4,v5,v6,rfl]]
  rintro σ H2 ⟨s2,rs,ep2,v4,v5,v6,hH2,hl,hne,hD0,rfl⟩:0
  rfl'
  show qH (zfB P w (ya 3)) _ _ _ _ _ _ _ _;rw[zfG]
  rfl'
  refine#[_,_,hH2,λD hD=>CompD.by (λi AW H'=>Same H2 H'/\H' D=AQ (.lst AW)/\Iss K H' ((rs.take i).map dR) AW) #[zf hD,zc,by erw[bu,aH,Iss]] (λi AW H' h=>h.1 _ _ hH2) ?_ ?_]
  ·refine nm4 ?_;rintro i r AW H' hr ⟨hs,hH,hI⟩:_;have hil:=(AX.mp hr).1;right;unfold kvR at hr hil;rw[aa]at hil;rw[aq,af hil]at hr;obtain rfl:=Option.some.inj hr;have hal:=hI.len;rw[aa,aC]at hal;have et:rs.take (i+1)=rs.take i ++ [rs[i]]:=zQ (af hil)
   erw[xo]
   rfl'
   refine#[yx,p,_,_,_,_,rfl,rfl,hs _ _ hH2,zfI hD0.1 _ (dN hil),⋯,λp1 hp1=>#[zf hp1 _ _ hH,⋯,CNx.mk (by unfold kvR;rw[aa];exact hil) #[zu (hs.trans (zf hp1)) hD,zc,?_]]];rw[et,am];have u2:=zf (o:=HO.tup [.str (tx rs[i].1),.str (tx rs[i].2)]) hp1;let#[ys,hY,hJ]:=LsA.snoc (u2 _ _ hH) (Iss.same u2 _ _ hI) (y9 _) (uQ rs[i]) (Uj (SqT.of zc));rw[zc]at hY;cases hY;exact hJ
  ·refine nmB ?_;rintro AW H' ⟨hs,hH,hI⟩:0;unfold kvR at hI;rw[aa,aI]at hI;exact q D H' rs (s2.trans hs) #[AW,hH,hI] hl hne hD0
theorem U9:∀ws:List (()),Str.join (tx []) (ws.map tx)=tx ws.flatten
 | []=>rfl
 | [w]=>by
  show tx w=_;simp
 | w::v::r=>by
  have ih:=U9 (v::r);show tx w ++ tx [] ++ Str.join (tx []) ((v::r).map tx)=_;rw[ih,yR,yR];simp
def KU{ws:List (())}(h:ws.flatten.length<=100000):JoinOk (tx []) (ws.map tx)=AS:=by
 have s16:=zW
 have hf:∀(l:List (())) (n:Nat),(l.map tx).foldl (λa y=>a+y.length+0) n=n+l.flatten.length:=λl=>by
  induction l with
  | nil=>intro n;rfl
  | cons c r ih =>
   intro n;rw[ao,List.foldl_cons,ih,zI,dB,aj];lia
 have e:JoinOk (tx []) (ws.map tx)=!PySem.Builtin.Str.tooLong ((ws.map tx).foldl (λa y=>a+y.length+0) 0):=by
  unfold JoinOk;rw[List.foldl_toArray];rfl
 rw[e,hf];unfold PySem.Builtin.Str.tooLong;rw[dC,decide_eq_false_iff_not];lia
def dK3(k:Nat)(l:())(r:zH):List L3.D:=[.int (r.1.length:Nat),.lst ((uo k l r.1).map L3.D.int),dR r]
def wn(k:Nat)(l:())(rs:List zH)(d:{r // r ∈ rs}):KeyFam {r // r ∈ rs}:=#[λa=>dK3 k l a.1,λa b=>rankF.lt (uL k l [] a.1.1) (uL k l [] b.1.1),AS,d]
theorem zai(h:eqD x1 y1=AS->eqD x2 y2=AT):wL (x1::x2::r) (y1::y2::r')=wL [x1,x2] [y1,y2]:=by
 cases e:eqD x1 y1 with
 | false=>erw[wL,e,be,if_false]
 | true=>erw[wL,e,h e,be,if_false]
theorem Zh{rs:List zH}(h:(rs.map (·.1)).Nodup)(ha:a ∈ rs)(hb:b ∈ rs)(e:a.1=b.1):a=b:=by
 induction rs with
 | nil=>cases ha
 | cons c rs ih =>
  rw[ao,List.nodup_cons]at h;rcases AZ.mp ha with e1 | ha'
  ·rcases AZ.mp hb with e2 | hb'
   ·rw[e1,e2]
   ·exact w4 (AY.mpr #[b,hb',by rw[<- e1];exact e.symm]) h.1
  ·rcases AZ.mp hb with e2 | hb'
   ·exact w4 (AY.mpr #[a,ha',by rw[<- e2];exact e]) h.1
   ·exact ih h.2 ha' hb'
def WX(hu:∀c ∈ u,c ∈ l)(hv:∀c ∈ v,c ∈ l)(h:u≠v):eqD (.lst ((uo k l u).map L3.D.int)) (.lst ((uo k l v).map L3.D.int))=AT:=by
 erw[eqD]
 rw[je];exact u9 λe=>h (Yb hu hv e)
def Vd(hk:k≠2)(hn:(rs.map (·.1)).Nodup)(hl:∀r ∈ rs,∀c ∈ r.1,c ∈ l):(wn k l rs d).OkF where
 w:=#[λa b h=>rankF_ok.w.asym _ _ h,λa b c h1 h2=>rankF_ok.w.ntr _ _ _ h1 h2]
 eq:=λa b=>by
  by_cases e:a.1.1=b.1.1
  ·obtain rfl:a=b:=Subtype.ext (Zh hn a.2 b.2 e)
   have h1:(wn k l rs d).lt a a=AT:=by
    cases h:(wn k l rs d).lt a a with
    | false=>rfl
    | true=>exact (rankF_ok.w.asym _ _ h).symm.trans h |>.symm
   rw[h1]
   erw[wn,dK3,wL,uz,if_true]
  ·have h:=rankF_ok.eq (uL k l [] a.1.1) (uL k l [] b.1.1);have w1:∀u:(),zE k l [] u=(u.length:Int):=λu=>by unfold zE;rw[w9 hk]
   erw[wn]
   rw[<- h];unfold dK3;rw[zai λZ=>WX (hl _ a.2) (hl _ b.2) e]
   erw[rankF,uL,w1]
 ok:=λa b=>by
  by_cases e:a.1.1=b.1.1
  ·obtain rfl:a=b:=Subtype.ext (Zh hn a.2 b.2 e)
   erw[wn,dK3,okF,uz,if_true]
  ·erw[wn,dK3,okF,WX (hl _ a.2) (hl _ b.2) e,be,if_false,okD]
   split
   ·exact ur _ _
   ·trivial
 dp:=λa=>by erw[wn,dK3,dR,dpD,vH,uN];decide
 sh:=λa=>#[_,_,rfl,.inl #[rfl,_,rfl]]
theorem Jj{β:Type}{f:β->L3.D}{g:β->V}:∀{ys:List β},(∀y ∈ ys,Is K H (f y) (g y))->Iss K H (ys.map f) (ys.map g)
 | [],_=>by erw[aH,Iss]
 | y::ys,h=>by
  erw[ao,Iss]
  exact#[_,_,rfl,h y aB,Jj λz hz=>h z (ar _ hz)]
theorem UY{β:Type}{f:β->L3.D}:∀{bs:List β} {xs:List V},Iss K H (bs.map f) xs->∀y ∈ bs.zip xs,Is K H (f y.1) y.2
 | [],xs,_,y,hy=>by cases hy
 | b::bs,xs,h,y,hy=>by
  erw[ao,Iss]at h
  let#[x,r,rfl,h1,h2]:=h;rcases AZ.mp hy with rfl | hy
  ·exact h1
  ·exact UY h2 y hy
def zeu(k:Nat)(l:())(rs rs':List zH):Prop:=rs'.Perm rs/\rs'.Pairwise λa b=>rankF.lt (uL k l [] b.1) (uL k l [] a.1)=AT
def Wf(hk:k≠2)(hn:(rs.map (·.1)).Nodup)(hl:∀r ∈ rs,∀c ∈ r.1,c ∈ l)(hI:Iss K H (rs.attach.map λa=>.tup ((wn k l rs d).dec a)) xs) :
  ∃rs':List zH,zeu k l rs rs'/\Iss K H (rs'.map λr=>.tup (dK3 k l r)) ((srt (λp q=>(wn k l rs d).lt p.1 q.1) ((wn k l rs d).d0,V.non) (rs.attach.zip xs)).map (·.2)):=by
 have W:=(Vd (d:=d) hk hn hl).w;let#[p1,p2]:=Vp (lt:=λ(p q:{r // r ∈ rs} × V)=>(wn k l rs d).lt p.1 q.1) #[λa b=>W.asym _ _,λa b c=>W.ntr _ _ _] ((wn k l rs d).d0,V.non) (rs.attach.zip xs);generalize srt (λ(p q:{r // r ∈ rs} × V)=>(wn k l rs d).lt p.1 q.1) ((wn k l rs d).d0,V.non) (rs.attach.zip xs)=ys at p1 p2;refine#[ys.map λy=>y.1.1,#[?_,?_],?_]
 ·have h1:=(p1.map (·.1)).map Subtype.val;have hlen:=hI.len;rw[aa]at hlen;rw[e9 ⋯,List.attach_map_subtype_val,ce]at h1;exact h1
 ·exact Bs.mpr p2
 ·rw[ce];exact Jj λy hy=>UY hI y (p1.mem_iff.mp hy)
def hid(H:Hp)(R:sv):Hp:=λb=>if b=R then AR else H b
def vM(h:b≠R):hid H R b=H b:=w9 h
def Vy : Same (hid H R) H:=λb o h=>by
 by_cases e:b=R
 ·rw[e,hid,w6 rfl]at h;cases h
 ·rw[vM e]at h;exact h
def Qc : hid (upd H R o) R=hid H R:=funext λb=>by
 by_cases e:b=R
 ·rw[e,hid,hid,w6 rfl,w6 rfl]
 ·rw[vM e,vM e,zt e]
def Kv(s:Same H H')(hR:H R=AR):Same H (hid H' R):=λb o h=>by
 rw[vM (zN h hR)];exact s b o h
def Zj(s:Same H H'):Same (hid H R) (hid H' R):=λb o h=>by
 by_cases e:b=R
 ·rw[e,hid,w6 rfl]at h;cases h
 ·rw[vM e]at h ⊢;exact s b o h
def WG(K:su):Sp:=λvs H Q Z=>∃(a:sv) (rs:List zH) (b:Bool) (l:()),vs=[.ref a,.bl b,⇑l]/\LsA K H a (rs.map dR)/\rs≠[]/\rs.length<=12/\(rs.map (·.1)).Nodup/\(∀r ∈ rs,r.1.length<=10/\∀c ∈ r.1,c ∈ l)/\kg l=AS/\∀(D:sv) (H':Hp) (rs':List zH),Same H H'->LsA K H' D (rs'.map dR)->zeu (if b=AS then 1 else 0) l rs rs'->Q (.ref D) H'
def mz:sQz 3 ["_law_pairs_here","_law_right_here","_law_letters_here","_law_ranks","_law_pair","_law_seen"] qh:=by nofun
def zaq{f:sv}{fd:tM}(B:Bt mg)(hsorted:Qk mg)(F:("_law_sided"^^^qh)) :(3&&&["_law_pairs_here","_law_right_here","_law_letters_here"]) (WG K):=by
 exists F.ok mz
 ·let#[a,rs,b,l,rfl,hA,hne,hrl,hn,hl,hg,q]:=h
  refine#[_,(zh (zy 3 mz.nd (xh zg)) (zh (zR p8 rfl (zY (pv 0)) (zq (i:=4) mz.nd rfl (.inl rfl)) (zh (xH (i:=5) mz.nd rfl (Or.inr rfl) (!-4)) (zh (zJ (yl (pv 1) (λZ=>rfl)) (ze (xH (i:=5) mz.nd rfl (Or.inr rfl) (wl bJ PySem.F.slot_str_join PySem.F.type_str_join ze1 z9 (za (yJ (own:=["_law_k"]) (caps:=["_law_seen"]) (ix:=[5]) (tt:=xo) (te:=(tOp za0 (ya 1) (tOp (rI0 λi j=>.int (i - j)) (tOp (rI0 λi j=>.int (i - j)) (tCB (Wy K) (zK (ya 1) xv)) (tC (.int 1))) (ya 0)))) rfl (zM (sc:=zi qh) rfl (!0) (!0) (!0) rfl (!0) (!0) rfl) (zV rfl B.range (za (zA B.len (pv 5)) zg)) (λZ Z Z Z Z Z=>zq (i:=0) (show List.Nodup [_,_] by decide) rfl (.inl rfl)) (λZ Z Z Z Z Z=>yh) (λZ Z Z Z Z Z=>(zk YS (pv 1) (zD wc (zD wc (zA B.len (pv 1)) zd) (pv 0))))) zg))))
     zr) (ze (yW (wl aX bh bn yy (pv 3) (za (zX (za (zA B.len (pv 5)) (za (yJ (own:=["_law_sign"]) (caps:=["_law_letters_here"]) (ix:=[2]) (tt:=xo) (te:=(tBM K "str" K6 (ya 1) (zK (ya 0) xv))) rfl (zM (sc:=zi qh) rfl (!0) (!0) (!0) rfl (!0) (!0) rfl) (YO (pv 5)) (λZ Z Z Z Z Z=>zq (i:=0) (show List.Nodup [_,_] by decide) rfl (.inl rfl)) (λZ Z Z Z Z Z=>yh) (λZ Z Z Z Z Z=>(wl bJ dc de za5 (pv 1) (za (pv 0) zg)))) (za (pv 4) zg)))) zg))))))) (ze (zl (yJ (own:=["_law_rank"]) (caps:=[]) (ix:=[]) (tt:=xo) (te:=(tOp (ut K) (ya 0) (tC (.int 2)))) rfl (zM (sc:=zi qh) rfl (!0) (!0) (!0) rfl (!0) (!0) rfl) (zY (yP (zcA (k:=0) (hr.mono ∅)) rfl hsorted fg (za (pv 3) zg))) (λZ Z Z Z Z Z=>zq (i:=0) (show List.Nodup [_] by decide) rfl (.inl rfl)) (λZ Z Z Z Z Z=>yh) (λZ Z Z Z Z Z=>(!-0))))))),?_]
  have s16:=zW;let#[xs,hX,hI]:=id hA;have hxl:=hI.len;rw[aa]at hxl;obtain⟨k,hk⟩:∃k:Nat,(if b=AS then 1 else 0)=k:=#[_,rfl];rw[hk]at q;change Same H H'/\∃(R:sv),H R=AR/\H' R=AQ (.lst [])/\σ=[!!a,AQ (.bl b),~~~l,!!R,AR,AR]
  ·rfl'
   exact#[ay _,λR hR=>#[zf hR,R,hR,zc,rfl]]
  rintro σ H1 ⟨s1,R,hR,hR1,rfl⟩:0;change Same H H'/\∃v4 v5:Option V,LsA K H' R (rs.map λr=>.tup (dK3 k l r))/\σ=[!!a,AQ (.bl b),~~~l,!!R,v4,v5]
  ·rfl'
   refine#[#[_,SqL.of (s1 _ _ hX)],ForL.by (xs:=xs) (λi σ H'=>Same H H'/\∃(v4 v5:Option V) (ys:List V),H' R=AQ (.lst ys)/\Iss K (hid H' R) ((rs.take i).map λr=>.tup (dK3 k l r)) ys/\σ=[!!a,AQ (.bl b),~~~l,!!R,v4,v5]) #[s1,AR,AR,[],hR1,by erw[bu,aH,Iss],rfl] (λi σ H' Z h=>SqL.of (h.1 _ _ hX)) ?_ ?_]
   ·refine nm4 ?_;rintro i x σ H2 hx ⟨s2,v4,v5,ys,hY,hJ,rfl⟩:_;have hil:=(AX.mp hx).1;let#[r,pr,hri,rfl,hqr]:=hI.getR hx;have hrm:=ac hri;let#[hr10,hrc]:=hl r hrm;have hq2:=zp s2 hqr;have hyl:=hJ.len;rw[aa,aC]at hyl;right
    erw[yt,aM,aL]
    change H'=H2/\σ=[!!a,AQ (.bl b),~~~l,!!R,!!pr,AQ ⇑r.1]
    ·rfl'
     exact#[_,hq2,rfl]
    rintro σ H3 ⟨rfl,rfl⟩:0;change Same H3 H'/\σ=[!!a,AQ (.bl b),~~~l,!!R,!!pr,AQ ⇑(yD k r.1)]
    ·rfl'
     refine yb (λhb=>#[⋯,⋯,⋯,λD hD=>CompR.by (λi AW H'=>Same H3 H'/\H' D=AQ (.lst AW)/\AW=(((r.1.reverse.take i).map λc=>[c]).map tx).map V.str) #[zf hD,zc,rfl] ?_ ?_]) λhb=>#[Same.refl _,?_]
     ·refine nm3 ?_;rintro i AW H' hi ⟨hs,hH,rfl⟩:_;rw[aA]at hi
      have hr:r.1.reverse[i]? = AQ (r.1[r.1.length - 1 - i]'⋯):=by
       rw[bE hi,af ⋯]
      have ha:atI r.1 ((r.1.length:Int) - 1 - (0+(i:Int)))=AQ (r.1[r.1.length - 1 - i]'⋯):=by
       rw[show (r.1.length:Int) - 1 - (0+(i:Int))=((r.1.length - 1 - i:Nat):Int) by lia];exact vf (af ⋯)
      right
      erw[xo]
      rfl'
      refine#[yx,⋯,⋯,_,ha,hH,by erw[aa,aC,bK];lia,CNx.mk (by rw[aA];exact hi) #[zu hs hD,zc,?_]];rw[zQ hr,am,am,am];rfl
     ·refine nmB ?_;rintro AW H' ⟨hs,hH,rfl⟩:_;rw[aA,<- bK,aI]at hH
      have hfl:(r.1.reverse.map λc=>[c]).flatten=r.1.reverse:=by
       induction r.1.reverse with
       | nil=>rfl
       | cons a r ih=>rw[ao,dB,ih];rfl
      right;refine#[tx [],D,(r.1.reverse.map λc=>[c]).map tx,rfl,rfl,SqL.of hH,KU (by rw[hfl,bK];lia),?_];have e:Txt.join (tx []) ((r.1.reverse.map λc=>[c]).map tx)=Str.join (tx []) ((r.1.reverse.map λc=>[c]).map tx):=StrLaws.glued_eq_join _ _;rw[e,U9,hfl];refine#[hs,?_];rw[<- hk,w6 hb];rfl
     ·rw[<- hk,w9 hb];rfl
    rintro σ H4 ⟨s4,rfl⟩:_;have hsl:(yD k r.1).length=r.1.length:=by unfold yD;split <;> erw[bK]
    have hsm:∀c ∈ yD k r.1,c ∈ l:=λc hc=>hrc c (by
     unfold yD at hc;split at hc
     ·exact Bf.mp hc
     ·exact hc)
    right
    rfl'
    refine#[.inl #[_,SqL.of (s4 _ _ hY)],⋯,λD hD=>CompS.by (l:=yD k r.1) (λi AW H'=>Same H4 H'/\H' D=AQ (.lst AW)/\AW=(qF l ((yD k r.1).take i)).map V.int) #[zf hD,zc,rfl] ?_ ?_]
    ·refine nm4 ?_;rintro i c AW H' hc ⟨hs,hH,rfl⟩:_;have hci:=(AX.mp hc).1;have hcl:=hsm c (ac hc);right
     erw[xo]
     rfl'
     rw[WP hcl];refine#[yx,hH,by rw[aa];unfold qF;rw[aa,aC];lia,CNx.mk hci #[zu hs hD,zc,?_]];unfold qF;rw[zQ hc,am,am];rfl
    ·refine nmB ?_;rintro AW H' ⟨hs,hH,rfl⟩:_;rw[aI]at hH;have hR':=hs _ _ (s4 _ _ hY);right;refine#[⋯,λp hp=>?_];have up:=zf (o:=HO.tup [.int ((yD k r.1).length:Nat),.ref D,.ref pr]) hp;have hDR:D≠R:=λe=>by rw[e,s4 _ _ hY]at hD;cases hD
     have hpR:p≠R:=λe=>by rw[e,hR']at hp;cases hp
     have s5:=(s2.trans s4).trans (hs.trans up);refine#[ys,up _ _ hR',⋯,zu s5 hR,_,_,ys ++ [.ref p],zc,?_,rfl,rfl];rw[Qc,zQ hri,am];refine Iss.append (Iss.same (Zj (s4.trans (hs.trans up))) _ _ hJ) ?_
     erw[ao,aH,Iss,dK3,Is]
     refine#[_,_,rfl,#[p,_,rfl,SqT.of ((vM hpR).trans zc),_,_,rfl,by rw[hsl],_,_,rfl,#[D,_,rfl,SqL.of ((vM hDR).trans (up _ _ hH)),Iss.ints _],_,_,rfl,Uj (zp (Kv s5 hR) hqr),rfl],rfl]
   ·refine nmB ?_;rintro σ H2 ⟨s2,v4,v5,ys,hY,hJ,rfl⟩:_;rw[hxl,aI]at hJ;right;exact#[s2,#[ys,hY,Iss.same Vy _ _ hJ],v4,v5,rfl]
  rintro σ H2 ⟨s2,v4,v5,⟨ys,hY,hJ⟩,rfl⟩:0
  rfl'
  obtain⟨r0,hr0⟩:∃r0,r0 ∈ rs:=by
   cases rs with
   | nil=>exact w4 rfl hne
   | cons r0 _=>exact#[r0,aB]
  have hk2:k≠2:=by rw[<- hk];split <;> decide
  have hJ':Iss K H2 (rs.attach.map λa=>.tup ((wn k l rs #[r0,hr0]).dec a)) ys:=by
   rw[show (rs.attach.map λa=>L3.D.tup ((wn k l rs #[r0,hr0]).dec a))=rs.map λr=>.tup (dK3 k l r)from List.attach_map_val (f:=λr=>L3.D.tup (dK3 k l r))];exact hJ
  have hyl:=hJ.len;rw[aa]at hyl;let#[rs',hS,hO]:=Wf hk2 hn (λr hr=>(hl r hr).2) hJ';refine#[R,ys,_,wn k l rs #[r0,hr0],rs.attach,rfl,SqL.of hY,⋯,Vd hk2 hn λr hr=>(hl r hr).2,hJ',λD hD=>#[D,rfl,#[_,SqL.of zc],λJ hJn=>?_]];generalize (srt (λ(p q:{r // r ∈ rs} × V)=>(wn k l rs #[r0,hr0]).lt p.1 q.1) ((wn k l rs #[r0,hr0]).d0,V.non) (rs.attach.zip ys)).map (·.2)=zs at *;have uD:=zf (o:=HO.lst zs) hD;have hzl:=hO.len;have hpl:=hS.1.length_eq;rw[aa]at hzl;refine CompL.by (xs:=zs) (λi AW H'=>Same (upd H2 D (.lst zs)) H'/\H' J=AQ (.lst AW)/\Iss K H' ((rs'.take i).map dR) AW) #[zf hJn,zc,by erw[bu,aH,Iss]] (λi AW H' Z h=>SqL.of (h.1 _ _ zc)) ?_ ?_
  ·refine nm4 ?_;rintro i x AW H' hx ⟨hs,hH,hIs⟩:_;have hil:=(AX.mp hx).1;let#[dd,e,hi]:=hO.get hx;rw[aq,af ⋯]at e;obtain rfl:=Option.some.inj e;have ht:rs'[i]? = AQ (rs'[i]'⋯):=af ⋯;right;generalize rs'[i]'⋯=r at *
   erw[dK3,Is,Iss]at hi
   let#[p,us,rfl,hq,u1,t1,rfl,rfl,u2,t2,rfl,_,u3,t3,rfl,h3,rfl]:=hi;have hal:=hIs.len;rw[aa,aC]at hal;have hs2:=uD.trans hs
   erw[xo]
   rfl'
   refine#[yx,_,zp hs2 hq,_,rfl,hH,⋯,CNx.mk hil #[zu hs hJn,zc,?_]];rw[zQ ht,am];let#[ws,hW,hV]:=LsA.snoc hH hIs (y9 _) (uQ r) (Is.same hs2 _ _ h3);rw[zc]at hW;cases hW;exact hV
  ·refine nmB ?_;rintro AW H' ⟨hs,hH,hIs⟩:_;rw[hzl,aI]at hIs;right;exact q J H' rs' (s2.trans (uD.trans hs)) #[AW,hH,hIs] hS
def wq(k N:Nat):List Int:=((aJ (2 * k)).map (jR 2 N)).reverse
def atF(c:List Int):Nat->Int
 | 0=>-1
 | n+1=>if c[n]? = AQ 1 then atF c n else (n:Int)
def nxC(c:List Int):List Int:=(aJ c.length).map λi:Nat=>if atF c c.length<(i:Int)then 0 else c.getD i 0
def okC(k N:Nat):Bool:=(wq k N).length == 2 * k && (wq k N).all (λz=>z == 0 || z == 1) && (if N+1<2 ^ (2 * k)then (wq k N).contains 0 && decide (0<=atF (wq k N) (2 * k)) && decide (atF (wq k N) (2 * k)<((2 * k:Nat):Int)) && (nxC (wq k N)).set (atF (wq k N) (2 * k)).toNat 1 == wq k (N+1)else !(wq k N).contains 0)
def okC_all:(∀N ∈ aJ 16,okC 2 N=AS)/\∀N ∈ aJ 64,okC 3 N=AS:=by symm
def TbsA(H:Hp)(D:sv)(k N:Nat)(AW:List V):Prop:=H D=AQ (.lst AW)/\AW.length=N/\∀(i:Nat) (v:V),AW[i]? = AQ v->∃t rs,v=.ref t/\TabAt (hid H D) t rs (wb 2 k i)
def QO:Sp:=λvs H Q Z=>∃k:Nat,vs=[.int (k:Nat)]/\(k=2\/k=3)/\∀(D:sv) (AW:List V) (H':Hp),Same H H'->TbsA H' D k (2 ^ (2 * k)) AW->Q (.ref D) H'
def TbsA.same{H H':Hp}{D:sv}{k N:Nat}{AW:List V}(h:TbsA H D k N AW)(s:Same H H'):TbsA H' D k N AW:=#[s _ _ h.1,h.2.1,λi v hv=>let #[t,rs,e,ht]:=h.2.2 i v hv; #[t,rs,e,ht.same (Zj s)]]
theorem zhi(c:List Int):((c.map L3.D.int).any λe=>eqD e (.int 0))=c.contains 0:=by
 induction c with
 | nil=>rfl
 | cons z c ih =>
  rw[ao,dJ,ih,cU];congr 1
  erw[eqD]
  rw[cS]
  erw[beq_iff_eq]
  exact eq_comm
def zgA(H:Hp)(D:sv)(k:Nat)(m:Nat)(σ:L2.St)(G:Hp):Prop:=Same H G/\∃(N:Nat) (AW:List V) (C:sv) (v4:Option V),TbsA G D k N AW/\C≠D/\((m=2 ^ (2 * k) - N/\N<2 ^ (2 * k)/\G C=AQ (.lst ((wq k N).map V.int))/\σ=[-~~~k,!!D,!!C,AQ (.bl AS),v4])\/(m=0/\N=2 ^ (2 * k)/\σ=[-~~~k,!!D,!!C,AQ (.bl AT),v4]))
def JT{D:Z2}(W:Nat->L2.St->Hp->Prop)(h0:∃m,W m σ H)(h:∀m σ H,W m σ H->c σ H λb H1=>if b=AS then ∃N:L2.St->Hp->Prop,(∀σ' H',N σ' H'->∃m',m'<m/\W m' σ' H')/\tb { nx:=N,rt:=D.rt,bk:=D.nx,ct:=N } σ H1 else D.nx σ H1):kY c tb D σ H:=#[W,h0,h]
def ic:sQz 1 ["_law_many","_law_tables_here","_law_cells","_law_going","_law_at"] ux:=by nofun
def Ql(B:Bt mg)(F:("_law_tables"^^^ux)):(1&&&["_law_many"]) QO:=by
 exists F.ok ic
 ·let#[k,rfl,hk,q]:=h
  refine#[_,(zh (zy 1 ic.nd (xh zg)) (zh (xH (i:=2) ic.nd rfl (Or.inr rfl) (yJ (own:=["_law_k"]) (caps:=[]) (ix:=[]) (tt:=xo) (te:=(tC (.int 0))) rfl (zM (sc:=zi ux) rfl (!0) (!0) (!0) rfl (!0) (!0) rfl) (zV rfl B.range (za (zD qw zd (pv 0)) zg)) (λZ Z Z Z Z Z=>zq (i:=0) (show List.Nodup [_] by decide) rfl (.inl rfl)) (λZ Z Z Z Z Z=>yh) (λZ Z Z Z Z Z=>zd))) (zh (zy 3 ic.nd yv) (zh (vv p8 (yl (pv 3) (λZ=>rfl)) (zh (yW (wl aX bh bn yy (pv 1) (za (xh (za (zP jZ (pv 2) yo (zO (pv 0))) (za (zP jZ (pv 2) (zO (pv 0)) yo) zg))) zg))) (zh (zy 3 ic.nd (yi (zeE (wE hr)) zd (pv 2) (by with_unfolding_all rfl))) (zh (xH (i:=4) ic.nd rfl (Or.inr rfl) (zD wc (zA B.len (pv 2)) zd)) (zh (vv p8 (PW.pt (W5 (zv op_ge' (pv 4) zd (zx _)) (Z5 (zv xA (zk ix_list (pv 2) (pv 4)) zd (zx _))))) (ze (xH (i:=4) ic.nd rfl (Or.inr rfl) (zD wc (pv 4) zd)))) (zh (xH (i:=2) ic.nd rfl (Or.inr rfl) (yJ (own:=["_law_k"]) (caps:=["_law_at","_law_cells"]) (ix:=[4,2]) (tt:=xo) (te:=(tIf (VT (tOp ze8 (ya 0) (ya 1))) (tC (.int 0)) (tOp (rIx K) (ya 2) (ya 0)))) rfl (zM (sc:=zi ux) rfl (!0) (!0) (!0) rfl (!0) (!0) rfl) (zV rfl B.range (za (zA B.len (pv 2)) zg)) (λZ Z Z Z Z Z=>zq (i:=0) (show List.Nodup [_,_,_] by decide) rfl (.inl rfl)) (λZ Z Z Z Z Z=>yh) (λZ Z Z Z Z Z=>(wF (zv Yw (pv 0) (pv 1) (zx _)) zd (zk zaW (pv 2) (pv 0)))))) (ze (zJ (yl (pv 3) (λZ=>rfl)) (ze (JV zd (QR (pv 2) (pv 4) Vf (by intro _;rfl))))
     zr)))))))) (ze (zl (pv 1))))))),?_]
  have s16:=zW;have s16:=zW
  have ok:∀N,N<2 ^ (2 * k)->okC k N=AS:=λN hN=>by
   rcases hk with rfl | rfl
   ·exact okC_all.1 N (Bc.mpr hN)
   ·exact okC_all.2 N (Bc.mpr hN)
  have pw:2 ^ (2 * k)<=64:=by rcases hk with rfl | rfl <;> decide
  have pw0:0<2 ^ (2 * k):=by rcases hk with rfl | rfl <;> decide
  change ∃D:sv,H D=AR/\H'=upd H D (.lst [])/\σ=[-~~~k,!!D,AR,AR,AR]
  ·rfl'
   exact#[⋯,λp hp=>#[p,hp,rfl,rfl]]
  rintro σ H1 ⟨D,hD,rfl,rfl⟩:0;change Same H H'/\TbsA H' D k 0 []/\∃C:sv,C≠D/\H' C=AQ (.lst ((wq k 0).map V.int))/\σ=[-~~~k,!!D,!!C,AR,AR]
  ·rfl'
   refine#[by unfold CMul;lia,⋯,⋯,λC hC=>CompR.by (λi AW H'=>Same (upd H D (.lst [])) H'/\H' C=AQ (.lst AW)/\AW=aR i (V.int 0)) #[zf hC,zc,rfl] ?_ ?_]
   ·refine nm3 ?_;rintro i AW H' hi ⟨hs,hH,rfl⟩:0
    erw[xo]
    rfl'
    refine#[yx,hH,by rw[bM];lia,CNx.mk hi #[zu hs hC,zc,?_]];rw[d7]
   ·refine nmB ?_;rintro AW H' ⟨hs,hH,rfl⟩:0;refine#[(zf hD).trans hs,#[hs _ _ zc,rfl,λi v h=>by simp at h],C,λe=>(by rw[e,zc]at hC;cases hC),?_,rfl];rw[hH];rcases hk with rfl | rfl <;> rfl
  rintro σ H2 ⟨s2,hT2,C,hCD,hC2,rfl⟩:0;change H'=H2/\σ=[-~~~k,!!D,!!C,AQ (.bl AS),AR]
  ·rfl'
  rintro σ H2 ⟨rfl,rfl⟩:0;change Same H H'/\(∃AW,TbsA H' D k (2 ^ (2 * k)) AW)/\∃v2 v3 v4,σ=[-~~~k,!!D,v2,v3,v4]
  ·refine JT (zgA H D k) #[_,s2,0,[],C,AR,hT2,hCD,.inl #[rfl,pw0,hC2,rfl]] ?_;rintro m σ G ⟨sG,N,AW,C,v4,⟨hD1,hD2,hD3⟩,hCD,⟨rfl,hN,hC,rfl⟩ | ⟨rfl,rfl,rfl⟩⟩
   ·rfl'
    have okN:=ok N hN;unfold okC at okN;rw[ba,ba]at okN;let#[#[o1,o2],o3]:=okN;have hcl:(wq k N).length=2 * k:=by simpa using o1
    refine#[λσ' G'=>∃m',m'<2 ^ (2 * k) - N/\zgA H D k m' σ' G',λZ Z h=>h,?_];refine zj (λσ G'=>Same H G'/\(∃acc',TbsA G' D k (N+1) acc')/\G' C=AQ (.lst ((wq k N).map V.int))/\σ=[-~~~k,!!D,!!C,AQ (.bl AS),v4]) ?_ ?_
    ·rfl'
     have e1:Ul ((wq k N).map V.int) AR (AQ (k:Int))=(J5 2 k N 0).map V.int:=by
      rw[show Ul ((wq k N).map V.int) AR (AQ (k:Int))=((wq k N).map V.int).take k from uI _ (bI _),<- fY];have h:=Wa (n:=2) (k:=k) (N:=N) (r:=0) ∅;rw[Nat.zero_mul,dw]at h;rw[<- h];rfl
     have e2:Ul ((wq k N).map V.int) (AQ (k:Int)) AR=(J5 2 k N 1).map V.int:=by
      rw[show Ul ((wq k N).map V.int) (AQ (k:Int)) AR=((wq k N).map V.int).drop k from xp _ (bI _),<- List.map_drop];have h:=Wa (n:=2) (k:=k) (N:=N) (r:=1) ∅;rw[gq,aW (by show ((wq k N).drop k).length<=k;rw[aS,hcl];lia)]at h;rw[<- h];rfl
     refine#[.inl #[_,SqL.of hD1],_,SqL.of hC,λp1 hp1=>#[_,SqL.of (zf hp1 _ _ hC),λp2 hp2=>#[⋯,λp3 hp3=>?_]]];rw[e1]at hp2 hp3 ⊢;rw[e2]at hp3 ⊢;have u1:=zf (o:=HO.lst ((J5 2 k N 0).map V.int)) hp1;have u2:=zf (o:=HO.lst ((J5 2 k N 1).map V.int)) hp2;have u3:=zf (o:=HO.lst [V.ref p1,V.ref p2]) hp3;have u:=u1.trans (u2.trans u3);have n1:p1≠D:=λe=>by rw[e,hD1]at hp1;cases hp1
     have n2:p2≠D:=λe=>by rw[e,u1 _ _ hD1]at hp2;cases hp2
     have n3:p3≠D:=λe=>by rw[e,u2 _ _ (u1 _ _ hD1)]at hp3;cases hp3
     refine#[AW,u _ _ hD1,⋯,zu (sG.trans u) hD,#[AW ++ [.ref p3],zc,by rw[aj,hD2];rfl,λi v h=>?_],by rw[zt hCD];exact u _ _ hC];rw[Qc];by_cases hi:i<AW.length
     ·rw[bU hi]at h;let#[t,rs,e,ht]:=hD3 i v h;exact#[t,rs,e,ht.same (Zj u)]
     ·have hil:=(AX.mp h).1;rw[aj]at hil;have ei:i=AW.length:=by erw[aG,bH]at hil;lia
      rw[ei,bF (al _),d4]at h;cases h;rw[ei,hD2];refine#[p3,[p1,p2],rfl,#[(vM n3).trans zc,rfl,λj r x hr hx=>?_]]
      match j,hr,hx with
      | 0,hr,hx =>
       cases hr;cases hx;exact (vM n1).trans (u3 _ _ (u2 _ _ zc))
      | 1,hr,hx =>
       cases hr;cases hx;exact (vM n2).trans (u3 _ _ zc)
      | j+2,hr,hx=>simp at hr
    rintro σ G1 ⟨s1,⟨acc',hT1⟩,hC1,rfl⟩:0;refine zj (λσ G'=>G'=G1/\σ=[-~~~k,!!D,!!C,AQ (.bl (decide (N+1<2 ^ (2 * k)))),v4]) ?_ ?_
    ·rfl'
     refine#[C,(wq k N).map L3.D.int,.int 0,rfl,?_,rfl,by rw[uN];decide,rfl,congrArg V.bl ?_]
     ·erw[Is]
      exact#[C,_,rfl,SqL.of hC1,Iss.ints _]
     ·rw[w9 ∅,zhi];by_cases hlt:N+1<2 ^ (2 * k)
      ·rw[w6 hlt,ba,ba,ba]at o3;rw[o3.1.1.1,u6 hlt]
      ·rw[w9 hlt]at o3;rw[u9 hlt];simpa using o3
    rintro σ G1 ⟨rfl,rfl⟩:0;refine zj (λσ G'=>G'=G1/\σ=[-~~~k,!!D,!!C,AQ (.bl (decide (N+1<2 ^ (2 * k)))),AQ (.int ((2 * k:Nat) - 1))]) ?_ ?_
    ·rfl'
     exact#[_,.inl #[_,SqL.of hC1,rfl],by rw[aa,hcl]]
    rintro σ G1 ⟨rfl,rfl⟩:0;refine zj (λσ G'=>G'=G1/\σ=[-~~~k,!!D,!!C,AQ (.bl (decide (N+1<2 ^ (2 * k)))),AQ (.int (atF (wq k N) (2 * k)))]) ?_ ?_
    ·refine JT (λm σ G'=>G'=G1/\m<=2 * k/\atF (wq k N) m=atF (wq k N) (2 * k)/\σ=[-~~~k,!!D,!!C,AQ (.bl (decide (N+1<2 ^ (2 * k)))),AQ (.int ((m:Nat) - 1))]) #[2 * k,rfl,al _,rfl,rfl] ?_;refine nmC ?_;rintro m σ G' ⟨rfl,hm,hat,rfl⟩:0
     rfl'
     refine yb (λh0=>?_) λh0=>?_
     ·obtain⟨j,rfl⟩:∃j,m=j+1:=#[m - 1,⋯];have hj:j<(wq k N).length:=⋯;have ej:(((j+1:Nat):Int)) - 1=((j:Nat):Int):=⋯;have hg:(wq k N)[j]? = AQ (wq k N)[j]:=af hj
      erw[atF,hg]at hat
      rw[ej];refine#[_,SqL.of hC1,.int ((wq k N)[j]),vf (by rw[aq,hg];rfl),rfl,yb (λe=>#[λσ' G''=>G''=G'/\σ'=[-~~~k,!!D,!!C,AQ (.bl (decide (N+1<2 ^ (2 * k)))),AQ (.int ((j:Nat) - 1))],?_,rfl,rfl]) λe=>?_]
      ·rintro σ' G'' ⟨rfl,rfl⟩;rw[w6 (congrArg AQ (V.int.inj e))]at hat;exact#[j,⋯,rfl,⋯,hat,rfl]
      ·rw[w9 λz=>e (congrArg V.int (Option.some.inj z))]at hat;exact hat
     ·have:m=0:=⋯;subst this;exact hat
    rintro σ G1 ⟨rfl,rfl⟩:0;refine zj (λσ G'=>Same G1 G'/\∃C',G1 C'=AR/\G' C'=AQ (.lst ((nxC (wq k N)).map V.int))/\σ=[-~~~k,!!D,!!C',AQ (.bl (decide (N+1<2 ^ (2 * k)))),AQ (.int (atF (wq k N) (2 * k)))]) ?_ ?_
    ·rfl'
     refine#[_,.inl #[_,SqL.of hC1,rfl],⋯,by rw[aa,hcl];lia,λC' hC'=>CompR.by (λi AW H'=>Same G1 H'/\H' C'=AQ (.lst AW)/\AW=((nxC (wq k N)).take i).map V.int) #[zf hC',zc,rfl] ?_ ?_]
     ·refine nm3 ?_;rintro i AW H' hi ⟨hs,hH,rfl⟩:_;rw[aa,hcl,aA]at hi;have hi':i<(wq k N).length:=⋯
      have hx:(nxC (wq k N))[i]? = AQ (if atF (wq k N) (2 * k)<(i:Int)then 0 else (wq k N)[i]):=by
       unfold nxC;rw[aq,af (by rw[bL];exact hi'),eJ,hcl,Option.map_some,ae,af hi'];rfl
      have hal:(((nxC (wq k N)).take i).map V.int).length<sr:=by rw[aa,aC];lia
      have hlen:i<(((wq k N).map V.int).length:Int).toNat:=by rw[aa,hcl,aA];exact hi
      right
      erw[xo]
      rfl'
      refine#[yx,yb (λhlt=>#[hH,hal,CNx.mk hlen #[zu hs hC',zc,?_]]) λhlt=>.inl #[_,SqL.of (hs _ _ hC1),.int ((wq k N)[i]),?_,hH,hal,CNx.mk hlen #[zu hs hC',zc,?_]]]
      ·rw[w6 ⋯]at hx;rw[zQ hx,am];rfl
      ·rw[show (0:Int)+(i:Int)=((i:Nat):Int) by lia];exact vf (by rw[aq,af hi'];rfl)
      ·rw[w9 ⋯]at hx;rw[zQ hx,am];rfl
     ·refine nmB ?_;rintro AW H' ⟨hs,hH,rfl⟩:0;refine#[hs,C',hC',?_,rfl];rw[hH,aa,aA,aW (by unfold nxC;rw[aa,bL];exact al _)]
    rintro σ G2 ⟨g2,C',hC',hC2,rfl⟩:_;have hCD':C'≠D:=λe=>by rw[e,hT1.1]at hC';cases hC'
    right
    rfl'
    refine yb (λhlt=>?_) λhlt=>?_
    ·unfold zfa
     rfl'
     rw[w6 hlt,ba,ba,ba]at o3;let#[#[#[_,a0],a1],a2]:=o3;have a0':=u5 a0;have a1':=u5 a1;have hnl:((nxC (wq k N)).map V.int).length=2 * k:=by unfold nxC;rw[aa,aa,bL,hcl]
     refine#[C',_,_,(atF (wq k N) (2 * k)).toNat,rfl,rfl,hC2,?_,2 ^ (2 * k) - (N+1),⋯,s1.trans (zu g2 hC'),N+1,acc',C',_,hT1.same (zu g2 hC'),hCD',.inl #[rfl,hlt,?_,by rw[u6 hlt]]]
     ·unfold ixN;rw[hnl]
      erw[a0',if_true]
      rw[w6 ⋯]
     ·rw[zc,<- List.map_set,beq_iff_eq.mp a2]
    ·exact#[0,⋯,s1.trans g2,N+1,acc',C',_,hT1.same g2,hCD',.inr #[rfl,⋯,by rw[u9 hlt]]]
   ·rfl'
    exact#[sG,AW,hD1,hD2,hD3]
  rintro σ H3 ⟨s3,⟨AW,hT3⟩,v2,v3,v4,rfl⟩:0
  rfl'
  exact q D AW H3 s3 hT3
def Zw:Sp:=λvs H Q Z=>∃(t:sv) (rs:List sv) (tab:List (List Int)) (l:()) (r:Int) (w:()),vs=[.ref t,⇑l,.int r,⇑w]/\TabAt H t rs tab/\xB l tab/\0<=r/\r<(tab.length:Int)/\(∀c ∈ w,c ∈ l)/\Q (.int (ue l tab r w)) H
def qR{w:()}(h:TabAt H t rs tab)(hG:xB l tab)(h0:0<=r)(h1:r<(tab.length:Int))(hw:∀c ∈ w,c ∈ l)(q:Q (.int (ue l tab r w)) H):Zw [.ref t,⇑l,.int r,⇑w] H Q E:=#[t,rs,tab,l,r,w,rfl,h,hG,h0,h1,hw,q]
def pX:sQz 4 ["_law_table","_law_letters_here","_law_room","_law_word_here","_law_sign"] zcR:=by nofun
def zeq(B:Bt mg)(F:("_law_led"^^^zcR)):(1&&&["_law_table","_law_letters_here","_law_room","_law_word_here"]) Zw:=by
 exists F.ok pX
 ·let#[t,rs,tab,l,r,w,rfl,hT,hG,h0,h1,hw,q]:=h
  refine#[_,(zG (zR p8 rfl (YO (pv 3)) (zq (i:=4) pX.nd rfl (.inl rfl)) (ze (zy 2 pX.nd (zk ix_list (zk ix_list (pv 0) (pv 2)) (wl bJ dc de za5 (pv 1) (za (pv 4) zg)))))) (ze (zl (pv 2)))),?_]
  have s16:=zW
  rfl'
  refine ForS.by (λi σ H'=>H'=H/\∃v4,σ=[!!t,~~~l,AQ (.int (ue l tab r (w.take i))),~~~w,v4]) #[rfl,AR,rfl] ?_ ?_
  ·refine nm4 ?_;rintro i c σ H' hc ⟨rfl,v4,rfl⟩:_;have hcl:=hw c (ac hc);let#[a,b]:=Zn hG (w:=w.take i) h0 h1 λx hx=>hw x (bz hx);let#[r',x,e1,e2,e3]:=hT.get a b;right
   rfl'
   refine#[_,SqL.of hT.top,_,e1,_,rfl,_,SqL.of e3,?_];rw[WP hcl,Y1 hc];exact zbr hG e2 hcl
  ·refine nmB ?_;rintro σ H' ⟨rfl,v4,rfl⟩:0
   rfl'
   rw[aI];exact q
def qm(l:())(tab:List (List Int))(ps:List zH):Bool:=ps.all λp=>(wX l tab p.1 p.2).isNone
def holdsB_iff : qm l tab ps=AS ↔ ∀p ∈ ps,wX l tab p.1 p.2=AR:=by unfold qm;rw[List.all_eq_true];exact#[λh p hp=>Br.mp (h p hp),λh p hp=>Br.mpr (h p hp)]
def jj(K:su):Sp:=λvs H Q Z=>∃(t a:sv) (rs:List sv) (tab:List (List Int)) (l:()) (ps:List zH),vs=[.ref t,⇑l,.ref a]/\TabAt H t rs tab/\xB l tab/\LsA K H a (ps.map dR)/\InP l ps/\Q (.bl (qm l tab ps)) H
def VM(h1:TabAt H t rs tab)(h2:xB l tab)(h3:LsA K H a (ps.map dR))(h4:InP l ps)(q:Q (.bl (qm l tab ps)) H):jj K [.ref t,⇑l,.ref a] H Q E:=#[t,a,rs,tab,l,ps,rfl,h1,h2,h3,h4,q]
def oz:sQz 3 ["_law_table","_law_letters_here","_law_pairs_here","_law_pair","_law_room"] Wj:=by nofun
def K7(B:Bt mg)(F:("_law_holds"^^^Wj))(oU:(1<<<"_law_led") ["_law_table","_law_letters_here","_law_room","_law_word_here"] [] Zw):(2&&&["_law_table","_law_letters_here","_law_pairs_here"]) (jj K):=by
 exists F.ok oz
 ·let#[t,a,rs,tab,l,ps,rfl,hT,hG,hA,hp,q]:=h
  refine#[_,(zh (zR p8 rfl (zY (pv 2)) (zq (i:=3) oz.nd rfl (.inl rfl)) (ze (zR p8 rfl (zV rfl B.range (za (zA B.len (pv 0)) zg)) (zq (i:=4) oz.nd rfl (.inl rfl)) (ze (zJ (zv um (cl0 oU hr .nil rfl (za (pv 0) (za (pv 1) (za (pv 4) (za (!-3) zg))))) (cl0 oU hr .nil rfl (za (pv 0) (za (pv 1) (za (pv 4) (za (!-3) zg))))) (zx _)) (ze (zl yv))
      zr))))) (ze (zl yv))),?_]
  have s16:=zW;have hl:=hT.len;have hhi:=hG.hi;let#[xs,hX,hI]:=id hA;have hxl:=hI.len;rw[aa]at hxl;change H'=H/\(∀p ∈ ps,wX l tab p.1 p.2=AR)/\∃v3 v4,σ=[!!t,~~~l,!!a,v3,v4]
  ·rfl'
   refine#[#[_,SqL.of hX],ForL.by (xs:=xs) (λi σ H'=>H'=H/\(∀j p,j<i->ps[j]? = AQ p->wX l tab p.1 p.2=AR)/\∃v3 v4,σ=[!!t,~~~l,!!a,v3,v4]) #[rfl,λj p h=>w4 h (bB j),_,_,rfl] (λi σ H' Z h=>by rw[h.1];exact SqL.of hX) ?_ λσ H' h=>?_]
   ·refine nm4 ?_;rintro i x σ H' hx ⟨rfl,hb,v3,v4,rfl⟩:_;let#[r,pr,hri,rfl,hqr]:=hI.getR hx;let#[r1,r2]:=hp r (ac hri);right
    erw[yt,aM,aL]
    rfl'
    refine#[_,.inl #[_,SqL.of hT.top,rfl],by rw[aa];lia,by rw[aa];lia,ForR.by (λn σ H''=>H''=H'/\(∀j:Nat,j<n->ue l tab (j:Int) r.1=ue l tab (j:Int) r.2)/\∃v4,σ=[!!t,~~~l,!!a,!!pr,v4]) #[rfl,λj h=>w4 h (bB j),_,rfl] ?_ λσ H'' h=>?_]
    ·refine nm3 ?_;rintro n σ H'' hn ⟨rfl,hc,v4,rfl⟩:_;rw[aa]at hn;have hn':n<tab.length:=⋯;have e0:(0:Int)+(n:Int)=(n:Int):=⋯;right
     erw[yt,aM,aL]
     rfl'
     refine#[_,hqr,_,rfl,qR hT hG ⋯ ⋯ r1 #[_,hqr,_,rfl,qR hT hG ⋯ ⋯ r2 ?_]];rw[e0]
     rfl'
     refine yb (λh=>?_) λh j hj=>?_
     ·have:qm l tab ps=AT:=by
       cases e:qm l tab ps with
       | false=>rfl
       | true =>
        have:=holdsB_iff.mp e r (ac hri);rw[Xk hn' h hc]at this;cases this
      rw[this]at q;exact q
     ·by_cases hj':j<n
      ·exact hc j hj'
      ·have:j=n:=⋯;rw[this];exact Decidable.not_not.mp h
    ·let#[rfl,hc,v4,rfl]:=h;rw[aa]at hc;refine#[rfl,λj p hj hpj=>?_,_,_,rfl];by_cases hj':j<i
     ·exact hb j p hj' hpj
     ·have:j=i:=⋯;subst this;rw[hri]at hpj;cases hpj;exact Y7 λj hj=>hc j ⋯
   ·let#[rfl,hb,v3,v4,rfl]:=h;refine#[rfl,λp hp=>?_,v3,v4,rfl];let#[j,hj]:=Bl.mp hp;exact hb j p (by have:=(AX.mp hj).1;lia) hj
  rintro σ H1 ⟨rfl,hb,v3,v4,rfl⟩:0
  rfl'
  rw[holdsB_iff.mpr hb]at q;exact q
theorem vU : ∀{ps:List zH} {i:Nat},(wI l tab ps i).isNone=qm l tab ps
 | [],i=>rfl
 | p::ps,i=>by
  erw[wI,qm,eM]
  cases h:wX l tab p.1 p.2 with
  | some r=>rfl
  | none=>exact vU (ps:=ps) (i:=i+1)
def zd4(K:su):Sp:=λvs H Q Z=>∃(l:()) (a wd:sv) (ps:List zH) (u v:()),vs=[⇑l,.ref a,.ref wd]/\(l.length=2\/l.length=3)/\LsA K H a (ps.map dR)/\InP l ps/\H wd=AQ (.lst [⇑u,⇑v])/\(∀c ∈ u,c ∈ l)/\(∀c ∈ v,c ∈ l)/\(∀(t:sv) (rs:List sv) (N:Nat) (H':Hp),Same H H'->N<2 ^ (2 * l.length)->yY l (wb 2 l.length N) ps u v=AS->(∀N',N'<N->yY l (wb 2 l.length N') ps u v=AT)->TabAt H' t rs (wb 2 l.length N)->Q (.ref t) H')/\((∀N,N<2 ^ (2 * l.length)->yY l (wb 2 l.length N) ps u v=AT)->∀H',Same H H'->Q .non H')
def ly:sQz 3 ["_law_letters_here","_law_pacts","_law_words","_law_table","_law_apart"] wx:=by nofun
def km(B:Bt mg)(F:("_law_first_world"^^^wx))(rJ:(1<<<"_law_tables") ["_law_many"] [] QO)(oU:(1<<<"_law_led") ["_law_table","_law_letters_here","_law_room","_law_word_here"] [] Zw)(rR:(2<<<"_law_holds") ["_law_table","_law_letters_here","_law_pairs_here"] [] (jj K)):(3&&&["_law_letters_here","_law_pacts","_law_words"]) (zd4 K):=by
 exists F.ok ly
 ·let#[l,a,wd,ps,u,v,rfl,hl,hA,hin,hW,hu,hv,q1,q2]:=h
  refine#[_,(zh (zR p8 rfl (zY (cl0 rJ hr .nil rfl (za (zA B.len (pv 0)) zg))) (zq (i:=3) ly.nd rfl (.inl rfl)) (zh (zy 4 ly.nd (yi um (cl0 oU hr .nil rfl (za (pv 3) (za (pv 0) (za zd (za (zk ix_list (pv 2) zd) zg))))) (cl0 oU hr .nil rfl (za (pv 3) (za (pv 0) (za zd (za (zk ix_list (pv 2) zd) zg))))) (zx _))) (ze (zJ (PW.pt (W5 (yl (pv 4) (λZ=>rfl)) (Z5 (yl (cl0 rR hr .nil rfl (za (pv 3) (za (pv 0) (za (pv 1) zg)))) (λZ=>rfl))))) (ze (zl (pv 3)))
     zr)))) (ze (zl ye))),?_]
  have s16:=zW;change Same H H'/\(∀N,N<2 ^ (2 * l.length)->yY l (wb 2 l.length N) ps u v=AT)/\∃v3 v4,σ=[~~~l,!!a,!!wd,v3,v4]
  ·rfl'
   refine#[⋯,l.length,rfl,hl,λD AW H1 s1 hT=>#[D,rfl,#[_,SqL.of hT.1],ForL.by (xs:=AW) (λi σ H'=>H'=H1/\(∀N,N<i->yY l (wb 2 l.length N) ps u v=AT)/\∃v3 v4,σ=[~~~l,!!a,!!wd,v3,v4]) #[rfl,λN h=>w4 h (bB N),_,_,rfl] (λi σ H' Z h=>by rw[h.1];exact SqL.of hT.1) ?_ ?_]]
   ·refine nm4 ?_;rintro i x σ H' hx ⟨rfl,hb,v3,v4,rfl⟩:_;let#[t,rs,rfl,ht0]:=hT.2.2 i x hx;have ht:=ht0.same Vy;have hi:=(AX.mp hx).1;rw[hT.2.1]at hi;have hG:xB l (wb 2 l.length i):=qS i ∅ ∅;have hl2:(wb 2 l.length i).length=2:=uP 2 l.length i;have hW1:=s1 _ _ hW;right
    erw[yt,aM,aL]
    refine zj (λσ G=>G=H'/\σ=[~~~l,!!a,!!wd,!!t,AQ (.bl (decide (ue l (wb 2 l.length i) 0 u≠ue l (wb 2 l.length i) 0 v)))]) ?_ ?_
    ·rfl'
     refine#[_,SqL.of hW1,_,rfl,qR ht hG ∅ (by rw[hl2];decide) hu #[_,SqL.of hW1,_,rfl,qR ht hG ∅ (by rw[hl2];decide) hv #[rfl,rfl,?_]]];by_cases e:ue l (wb 2 l.length i) 0 u=ue l (wb 2 l.length i) 0 v
     ·rw[u6 (congrArg V.int e),u9 λh=>h e];rfl
     ·rw[u9 λh=>e (V.int.inj h),u6 e];rfl
    rintro σ G ⟨rfl,rfl⟩:0
    rfl'
    have nxt:yY l (wb 2 l.length i) ps u v=AT->∀N,N<i+1->yY l (wb 2 l.length N) ps u v=AT:=λh N hN=>by
     by_cases e:N=i
     ·rw[e];exact h
     ·exact hb N ⋯
    refine yb (λe=>VM ht hG (hA.same s1) hin #[_,rfl,yb (λe2=>?_) λe2=>#[rfl,nxt ?_]]) λe=>nxt ?_
    ·refine q1 t rs i G s1 hi ?_ hb ht;unfold yY;rw[u6 e,vU,e2];rfl
    ·unfold yY;rw[vU,Bv.mpr e2,dv]
    ·unfold yY;rw[u9 e,Bool.false_and]
   ·refine nmB ?_;rintro σ H' ⟨rfl,hb,v3,v4,rfl⟩:_;rw[hT.2.1]at hb;right;exact#[s1,hb,_,_,rfl]
  rintro σ H1 ⟨s1,hb,v3,v4,rfl⟩:0
  rfl'
  exact q2 hb H1 s1
def zbx(hk:k≠2)(u v:()):zU k l ns u v=rankF.lt (uL k l [] u) (uL k l [] v):=by
 unfold zU
 erw[rankF,uL,zE,w9 hk]
def Kp(hk:k≠2)(hl:∀r ∈ rs,∀c ∈ r.1,c ∈ l)(hn:(rs.map Prod.fst).Nodup)(hz:Lined k l ns es zs)(hp:(zb zs).Perm rs)(hs:rs.Pairwise λa b=>rankF.lt (uL k l [] b.1) (uL k l [] a.1)=AT):zb zs=rs:=by
 refine List.Perm.eq_of_pairwise (le:=λa b:zH=>rankF.lt (uL k l [] b.1) (uL k l [] a.1)=AT) (λa b ha hb h1 h2=>?_) ?_ hs hp
 ·have ha':=hp.mem_iff.mp ha;refine Zh hn ha' hb ((zbh (k:=k) (ns:=[]) (hl a ha') (hl b hb)).mp ?_);by_cases e:uL k l [] a.1=uL k l [] b.1
  ·exact e
  ·have:=jG e;rw[h1,h2]at this;cases this
 ·refine Bs.mpr (hz.srt.imp λ{a b} h=>?_);unfold ku at h;by_cases e:b.1=a.1
  ·simp only;rw[e];exact qx _
  ·rw[w9 e,zbx hk]at h;exact h
theorem zeR{w:Bool}(hk:k≠2)(hs:∀p ∈ rs,TLr l s p)(h3:s<=3)(h12:rs.length<=12)(hA:(rs'.map lgR).Perm rs)(hn:(rs.map Prod.fst).Nodup)(ho:rs.Pairwise λa b=>rankF.lt (uL k l [] b.1) (uL k l [] a.1)=AT)(hr:kZ rs=AT->r=0)(hC:Cpl k l ns (r+1) [] (fEs rs' rs'.length) w es):w=kZ rs/\zb es=rs/\∀e ∈ es,e.2.2.length=1:=by
 have lin:=λzs (hz:Lined k l ns (fEs rs' rs'.length) zs)=>Ki hk hs ⋯ hA hn hz;have thin:∀{r},uM k l ns 20 (fEs rs' rs'.length) r->∃zs,Lined k l ns (fEs rs' rs'.length) zs/\r=AQ zs:=λh=>zda (n:=19) h λzs hz=>(lin zs hz).1
 have good:∀zs,Lined k l ns (fEs rs' rs'.length) zs->jw zs=AT/\(∀t ∈ ovA (zb zs) (zb zs).length,OkG (zb zs) 40 t)/\zb zs=rs/\∀e ∈ zs,e.2.2.length=1:=λzs hz=>by
  let#[#[h1,_],hp,hone]:=lin zs hz
  have hb:jw zs=AT:=by
   unfold jw;have:=hp.length_eq;rw[xy]at this;rw[u9 ⋯,Bool.false_or,List.any_eq_false];intro e he;have:=(h1 e he).a;have:=(h1 e he).b;rw[decide_eq_true_eq];lia
  have hpe:=Kp hk (λr hr=>(hs r hr).ma) hn hz hp ho;refine#[hb,λt ht=>?_,hpe,hone];rw[hpe]at ht ⊢;let#[#[a1,a2],b1,b2]:=zdu (l:=l) (ps:=rs) (λp h=>#[(hs p h).ma,(hs p h).mb]) (λp h=>#[by have:=(hs p h).a;lia,by have:=(hs p h).b;lia]) ht
  have sh:∀p ∈ rs,p.2.length<p.1.length:=λp h=>by
   have:=(hs p h).a;have:=(hs p h).b;lia
  let#[i,hi,_]:=vz sh a1;let#[j,hj,_]:=vz sh b1;exact#[by rw[qI hi];rfl,by rw[qI hj];rfl]
 cases hC with
 | slim h =>
  rcases h with h | ⟨bs,h,hb⟩
  ·let#[zs,_,e]:=thin h;cases e
  ·let#[zs,hz,e]:=thin h;cases e;rw[(good _ hz).1]at hb;cases hb
 | far h hb ht ho =>
  let#[zs,hz,e]:=thin h;cases e;exact w4 ((good _ hz).2.1 _ ht) ho
 | whole h hb ho hu =>
  let#[zs,hz,e]:=thin h;cases e;have hp:=(good _ hz).2.2;rw[hp.1]at hu;exact#[(metA_un.mpr hu).symm,hp]
 | more h hb ho hu q =>
  let#[zs,hz,e]:=thin h;cases e;have hp:=(good _ hz).2.2
  have hm:kZ rs=AT:=by
   rw[eR];exact λh=>hu (by rw[hp.1];exact metA_un.mp h)
  rw[hm];cases hr hm
  cases q with
  | out=>exact#[rfl,hp]
def za8(hs:∀p ∈ rs,TLr l s p)(h:Alk rs rs'):(rs'.map lgR).Perm rs:=by
 have e:rs.map lgR=rs:=by
  refine (bT λp hp=>?_).trans (List.map_id _);unfold lgR;have:=(hs p hp).a;have:=(hs p hp).b;rw[w9 ⋯];rfl
 have:=h.2 lgR λp hp=>by
  unfold lgR;have:=(hs p hp).a;have:=(hs p hp).b;simp only;rw[w6 ⋯,w9 ⋯]
 rw[e]at this;exact this
inductive J79(K:su)(H:Hp)(l:())(ps rs:List zH)(u v:())(i j:Nat)(wh:Bool)(m:Nat)(p:sv):Prop where
 | alike (S:sv) (ss:List Stp) (he:wAt ps u i=wAt ps v j) (hp:H p=AQ (.tup [.str "alike",.ref S])) (hS:LsA K H S (ss.map dSt)) (hl:ss.length<=2000) (hw:yg rs u ss=AQ v)
 | forms (es:List Ent) (D:sv) (hn:wAt ps u i≠wAt ps v j) (hw:wh=AS) (hps:zb es=ps) (hE:∀e ∈ es,EOk rs e/\EB l e) (hp:H p=AQ (.tup [.str "forms",.ref D,⇑(wAt ps u i),⇑(wAt ps v j)])) (hD:EnsM K H D es)
 | world (N:Nat) (t:sv) (ts:List sv) (hn:wAt ps u i≠wAt ps v j) (hw:wh=AT) (hm:m=2) (h3:N<2 ^ (2 * l.length)) (h4:yY l (wb 2 l.length N) rs u v=AS) (h5:∀N',N'<N->yY l (wb 2 l.length N') rs u v=AT) (hp:H p=AQ (.tup [.str "world",.ref t])) (ht:TabAt H t ts (wb 2 l.length N))
 | open_ (hn:wAt ps u i≠wAt ps v j) (hw:wh=AT) (h5:m=2->∀N',N'<2 ^ (2 * l.length)->yY l (wb 2 l.length N') rs u v=AT) (hp:H p=AQ (.tup [.str "open"]))
def UL{w:()}(hw:∀c ∈ w,c ∈ l):ue l (wb 1 l.length N) 0 w=0:=by have hG:xB l (wb 1 l.length N):=qS N ∅ ∅;have hl:(wb 1 l.length N).length=1:=uP 1 l.length N;let#[a,b]:=Zn hG (w:=w) (r:=0) ∅ (by rw[hl];decide) hw;rw[hl]at b;lia
theorem zbs(h:∀e ∈ es,e.2.2.length<=C):∀us:List Stp,(byL es us).length<=us.length * C
 | []=>ay _
 | u::us=>by
  have ih:=zbs h us;unfold byL at ih ⊢;rw[eQ,aj,aG,dQ]
  have h1:(es.getD u.1.toNat ([],[],[])).2.2.length<=C:=by
   rw[ae]
   cases e:es[u.1.toNat]? with
   | none=>exact ay _
   | some x=>exact h x (ac e)
  have h2:(XS es u).length<=C:=by
   unfold XS;rw[YI];split
   ·exact h1
   ·rw[yA];exact h1
  lia
theorem JOut.j90(h:JOut K H k l ns rs u v r m p)(hG:OG l ns k)(hk:k≠2)(hs:∀p ∈ ps,TLr l s p)(h3:s<=3)(h12:ps.length<=12)(hA:Alk ps rs)(hnd:(ps.map Prod.fst).Nodup)(ho:ps.Pairwise λa b=>rankF.lt (uL k l [] b.1) (uL k l [] a.1)=AT)(hr:kZ ps=AT->r=0)(hb:∀p ∈ rs,p.1.length<=60/\p.2.length<=60/\(∀c ∈ p.1,c ∈ l)/\∀c ∈ p.2,c ∈ l)(hm:m=1\/m=2)(hu8:u.length<=8)(hv8:v.length<=8)(hu:∀c ∈ u,c ∈ l)(hv:∀c ∈ v,c ∈ l):∃i j,EndsAt ps u i/\EndsAt ps v j/\J79 K H l ps rs u v i j (kZ ps) m p:=by
 have sh:∀p ∈ ps,p.2.length<p.1.length:=λp h=>by
  have:=(hs p h).a;have:=(hs p h).b;lia
 have core:∀{w:Bool} {es:List Ent},Cpl k l ns (r+1) [] (fEs rs rs.length) w es->w=kZ ps/\zb es=ps/\(∀e ∈ es,EOk rs e/\EB l e)/\∃i j,EndsAt ps u i/\EndsAt ps v j/\(jU es u v i j).length<=2000:=λ{w es} hC=>by
  let#[h1,e,hone]:=zeR hk hs h3 h12 (za8 hs hA) hnd ho hr hC;let#[gE,gor]:=zdY (rs:=rs) hG hC (zdO hb) (λe he=>Km he) #[λe h=>(nomatch h),.inl rfl];let#[i,hi,bi]:=vz sh (w:=u) ⋯;let#[j,hj,bj]:=vz sh (w:=v) ⋯;refine#[h1,e,λe he=>#[gE e he,?_],i,j,hi,hj,?_]
  ·rcases gor with rfl | ⟨_,_,hB⟩
   ·cases he
   ·exact hB.e e he
  ·have hl:=zbs (C:=1) (λe he=>gf (hone e he)) (stS (sAt (zb es) u i) ++ yN (stS (sAt (zb es) v j)));rw[aj,yA,uT,uT,vX,vX]at hl;exact aP hl ⋯
 have noR:∀{w:Bool} {es:List Ent},zb es=ps->NoR es w u v->(∃i j,EndsAt ps u i/\EndsAt ps v j/\(jU es u v i j).length<=2000)->w=AT/\∃i j,EndsAt ps u i/\EndsAt ps v j/\wAt ps u i≠wAt ps v j:=λ{w es} e hno ⟨i,j,hi,hj,hl⟩=>by
  unfold NoR at hno;rw[e]at hno;rcases hno with h | h | ⟨i',j',hi',hj',h | h⟩
  ·exact w4 hi (h i)
  ·exact w4 hj (h j)
  ·exact#[h.2,i',j',hi',hj',h.1]
  ·rw[hi'.uniq hi,hj'.uniq hj]at h;lia
 cases h with
 | alike w es i j S hc hb' hi hj he hl hp hS =>
  let#[_,e,hE,_]:=core hc;have hw:=Q4 (λe he=>(hE e he).1) hi hj he;rw[e]at hi hj he;exact#[i,j,hi,hj,.alike S _ he hp hS hl hw]
 | forms es i j D hc hb' hi hj hn hp hD =>
  let#[h1,e,hE,_]:=core hc;rw[e]at hi hj hn hp;exact#[i,j,hi,hj,.forms es D hn h1.symm e hE hp hD]
 | world w es n N t ts hc hb' hno h1 h2 h3 h4 h5 hp ht' =>
  let#[g1,e,_,g4]:=core hc;let#[g5,i,j,hi,hj,hn]:=noR e hno g4
  have hn2:n=2:=by
   rcases (show n=1\/n=2 by lia)with rfl | rfl
   ·unfold yY at h4;rw[UL hu,UL hv]at h4;simp at h4
   ·rfl
  subst hn2;exact#[i,j,hi,hj,.world N t ts hn (g1.symm.trans g5) ⋯ h3 h4 (λN' h'=>h5 2 N' ∅ ⋯ (.inr #[rfl,h'])) hp ht']
 | open_ w es hc hb' hno h5 hp =>
  let#[g1,e,_,g4]:=core hc;let#[g5,i,j,hi,hj,hn]:=noR e hno g4;exact#[i,j,hi,hj,.open_ hn (g1.symm.trans g5) (λhm2 N' h'=>h5 2 N' ∅ h' (.inl ⋯)) hp]
def zaT(h:H p=AQ (.lst [⇑x,⇑y])):Is K H (.lst [⇑x,⇑y]) (.ref p):=by
 erw[Is,Iss]
 exact#[_,_,rfl,SqL.of h,_,_,rfl,rfl,_,_,rfl,rfl,rfl]
def Vx(K:su):Sp:=λvs H Q Z=>∃(p ra pa wd:sv) (l:()) (ps rs:List zH) (u v:()) (i j:Nat) (wh:Bool) (m:Nat),vs=[.ref p,.bl wh,.ref ra,.ref pa,.ref wd,⇑l,.int (m:Nat)]/\(l.length=2\/l.length=3)/\LsA K H ra (ps.map dR)/\ShP ps/\ps.length<=12/\LsA K H pa (rs.map dR)/\qL rs/\InP l rs/\H wd=AQ (.lst [⇑u,⇑v])/\(u.length<=8/\v.length<=8)/\(∀c ∈ u,c ∈ l)/\(∀c ∈ v,c ∈ l)/\EndsAt ps u i/\EndsAt ps v j/\J79 K H l ps rs u v i j wh m p/\∀H',Q (.bl AS) H'
def ni:sQz 7 ["_law_found","_law_whole_here","_law_rules","_law_pacts","_law_words","_law_letters_here","_law_most","_law_forms","_law_table"] u7:=by nofun
def zav(B:Bt mg)(F:("_law_right"^^^u7))(oS:(1<<<"_law_form") ["_law_rules","_law_word_here"] [] (ve K))(pH:(3<<<"_law_first_world") ["_law_letters_here","_law_pacts","_law_words"] [] (zd4 K))(pR:(2<<<"_law_end") ["_law_pacts","_law_word_here","_law_steps_here"] [] (Y4 K)):(4&&&["_law_found","_law_whole_here","_law_rules","_law_pacts","_law_words","_law_letters_here","_law_most"]) (Vx K):=by
 exists F.ok ni
 ·let#[p,ra,pa,wd,l,ps,rs,u,v,i,j,wh,m,rfl,hl,hR,hSh,hp12,hPa,hok,hin,hW,h88,hu,hv,hi,hj,hJ,q]:=h
  refine#[_,(zh (XD (i:=7) ni.nd rfl (.inl rfl) (.inl rfl) (own:=["_law_word_here"]) (caps:=["_law_rules"]) (ix:=[2]) (tt:=xo) (te:=(uc (ve K) [] E0 (zK (ya 1) (zK (ya 0) xv)))) rfl (zM (sc:=zi u7) rfl (!0) (!0) (!0) rfl (!0) (!0) rfl) (zY (pv 4)) (λZ Z Z Z Z Z=>zq (i:=0) (show List.Nodup [_,_] by decide) rfl (.inl rfl)) (λZ Z Z Z Z Z=>yh) (λZ Z Z Z Z Z=>(cl0 oS hr .nil rfl (za (pv 1) (za (pv 0) zg))))) (zh (zJ (zv xA (zk ix_list (pv 7) zd) (zk ix_list (pv 7) zd) (zx _)) (ze (zl (jy (yi xA (!-0) z9 (zx _)) (jM (yi xA (cl0 pR hr .nil rfl (za (pv 3) (za (zk ix_list (pv 4) zd) (za (!-0) zg)))) (zk ix_list (pv 4) zd) (zx _))))))
    zr) (zh (zJ (yl (pv 1) (λZ=>rfl)) (zh (zJ (PW.pt (wU (zv um (!-0) z9 (zx _)) (we (zv (za6 (wE hr)) (xh (za (!-0) (za (!-0) zg))) (pv 7) (zx _))))) (ze (zl yv))
     zr) (zh (zJ (zv (za6 (wE hr)) (yJ (own:=["_law_entry"]) (caps:=[]) (ix:=[]) (tt:=xo) (te:=(Um (zK (tOp (ut K) (ya 0) (tC (.int 0))) (zK (tOp (ut K) (ya 0) (tC (.int 1))) xv)))) rfl (zM (sc:=zi u7) rfl (!0) (!0) (!0) rfl (!0) (!0) rfl) (zY (!-0)) (λZ Z Z Z Z Z=>zq (i:=0) (show List.Nodup [_] by decide) rfl (.inl rfl)) (λZ Z Z Z Z Z=>yh) (λZ Z Z Z Z Z=>(zX (za (!-0) (za (!-0) zg))))) (pv 2) (zx _)) (ze (zl yv))
     zr) (ze (zl (yP (zeN rfl) rfl B.all fP (za (yJ (own:=["_law_entry"]) (caps:=["_law_pacts"]) (ix:=[3]) (tt:=xo) (te:=(tOp rEq (uc (Y4 K) [] E0 (zK (ya 1) (zK (tOp (ut K) (ya 0) (tC (.int 0))) (zK (tOp (ut K) (ya 0) (tC (.int 2))) xv)))) (tOp (ut K) (ya 0) (tC (.int 1))))) rfl (zM (sc:=zi u7) rfl (!0) (!0) (!0) rfl (!0) (!0) rfl) (zY (!-0)) (λZ Z Z Z Z Z=>zq (i:=0) (show List.Nodup [_,_] by decide) rfl (.inl rfl)) (λZ Z Z Z Z Z=>yh) (λZ Z Z Z Z Z=>(yi xA (cl0 pR hr .nil rfl (za (pv 1) (za (!-0) (za (!-0) zg)))) (!-0) (zx _)))) zg))))))
    zr) (zh (zy 8 ni.nd ye) (zh (zJ (zv xA (pv 6) zd (zx _)) (ze (zy 8 ni.nd (cl0 pH hr .nil rfl (za (pv 5) (za (pv 3) (za (pv 4) zg))))))
    zr) (zh (zJ (zv op_isN' (pv 8) ye (zx _)) (ze (zl (yi (W9 (wE hr)) (pv 0) (zX (za z9 zg)) (zx _))))
    zr) (ze (zl (jy (yi xA (!-0) z9 (zx _)) (jM (yi (W9 (wE hr)) (!-0) (pv 8) (zx _)))))))))))),?_]
  have s16:=zW;let#[u8,v8]:=h88
  have hmk:∀(G:Hp),Same H G->J79 K G l ps rs u v i j wh m p:=λG s=>by
   cases hJ with
   | alike S ss he hp hS hl hw=>exact .alike S ss he (s _ _ hp) (hS.same s) hl hw
   | forms es D hn hw hps hE hp hD=>exact .forms es D hn hw hps hE (s _ _ hp) (hD.same s)
   | world N t ts hn hw hm h3 h4 h5 hp ht=>exact .world N t ts hn hw hm h3 h4 h5 (s _ _ hp) (ht.same s)
   | open_ hn hw h5 hp=>exact .open_ hn hw h5 (s _ _ hp)
  change Same H H'/\∃F:sv,H' F=AQ (.lst [⇑(wAt ps u i),⇑(wAt ps v j)])/\σ=[!!p,AQ (.bl wh),!!ra,!!pa,!!wd,~~~l,-~~~m,!!F,AR]
  ·rfl'
   refine#[#[_,SqL.of hW],λD hD=>CompL.by (xs:=[⇑u,⇑v]) (λn AW H'=>Same H H'/\H' D=AQ (.lst AW)/\AW=[V.str (tx (wAt ps u i)),V.str (tx (wAt ps v j))].take n) #[zf hD,zc,rfl] (λn AW H' Z h=>SqL.of (h.1 _ _ hW)) ?_ ?_]
   ·refine nm4 ?_;rintro n x AW H' hx ⟨hs,hH,rfl⟩:_;have hn:=(AX.mp hx).1;right;rcases (show n=0\/n=1 by erw[aG,bH]at hn;lia)with rfl | rfl
    ·cases hx
     erw[xo]
     rfl'
     refine#[yx,ra,ps,u,rfl,hR.same hs,hSh,⋯,λi' H'' s'' hl' he'=>?_];rw[uH hl' he' hi.live hi.end_];exact#[s'' _ _ hH,by show 0<sr;lia,CNx.mk hn #[zu (hs.trans s'') hD,zc,rfl]]
    ·cases hx
     erw[xo]
     rfl'
     refine#[yx,ra,ps,v,rfl,hR.same hs,hSh,⋯,λi' H'' s'' hl' he'=>?_];rw[uH hl' he' hj.live hj.end_];exact#[s'' _ _ hH,by show 1<sr;lia,CNx.mk hn #[zu (hs.trans s'') hD,zc,rfl]]
   ·refine nmB ?_;rintro AW H' ⟨hs,hH,rfl⟩:0;exact#[hs,D,hH,rfl]
  rintro σ H1 ⟨s1,F,hF,rfl⟩:_;have hPa1:=hPa.same s1;have hW1:=s1 _ _ hW;have hR1:=hR.same s1;right
  cases hmk H1 s1 with
  | alike S ss he hp hS hl' hw =>
   refine qz (λZ Z=>False) ?_ λZ Z h=>h.elim
   rfl'
   exact#[_,SqL.of hF,_,rfl,_,SqL.of hF,_,rfl,rfl,yb (λZ=>#[_,SqT.of hp,_,rfl,rfl,yb (λZ=>#[_,SqL.of hW1,_,rfl,_,SqT.of hp,_,rfl,XJ hPa1.is hok ⋯ hS.is hl' hw #[_,SqL.of hW1,_,rfl,rfl,by rw[u6 rfl];exact q _]]) λz=>w4 rfl z]) λh=>w4 (by rw[he]) h]
  | forms es D hn hw hps hE hp hD =>
   change H'=H1/\σ=[!!p,AQ (.bl wh),!!ra,!!pa,!!wd,~~~l,-~~~m,!!F,AR]
   ·rfl'
    exact#[_,SqL.of hF,_,rfl,_,SqL.of hF,_,rfl,rfl,yb (λh=>w4 (wJ (V.str.inj h)) hn) λZ=>trivial]
   rintro σ H2 ⟨rfl,rfl⟩:0;refine qz (λZ Z=>False) ?_ λZ Z h=>h.elim
   rfl'
   rw[w6 hw];have hlen:es.length<=12:=by rw[<- xy,hps];exact hp12
   let#[xs,hX,hEn]:=id hD;have hxl:=hEn.len;change Same H2 H'/\σ=[!!p,AQ (.bl wh),!!ra,!!pa,!!wd,~~~l,-~~~m,!!F,AR]
   ·rfl'
    refine#[_,SqT.of hp,_,rfl,rfl,yb (λz=>w4 rfl z) λZ=>#[_,SqT.of hp,_,rfl,_,SqT.of hp,_,rfl,⋯,λL hL=>U0 (.inl #[zaT zc,zaT (zf hL _ _ hF)]) (by erw[vH,dpD];decide) #[_,rfl,yb (λe=>by rw[xg]at e;cases e) λZ=>zf hL]]]
   rintro σ H3 ⟨s3,rfl⟩:0;change Same H3 H'/\σ=[!!p,AQ (.bl wh),!!ra,!!pa,!!wd,~~~l,-~~~m,!!F,AR]
   ·rfl'
    refine#[_,SqT.of (s3 _ _ hp),_,rfl,D,rfl,#[_,SqL.of (s3 _ _ hX)],λJ hJ'=>CompL.by (xs:=xs) (λn AW H'=>Same H3 H'/\H' J=AQ (.lst AW)/\Iss K H' (((zb es).take n).map dR) AW) #[zf hJ',zc,by erw[bu,aH,Iss]] (λn AW H' Z h=>SqL.of (h.1 _ _ (s3 _ _ hX))) ?_ ?_]
    ·refine nm4 ?_;rintro n x AW H' hx ⟨hs,hH,hIs⟩:_;have hi':=(AX.mp hx).1;let#[e,pe,se,hei,rfl,hqe,hse]:=hEn.get hx;have hm:(zb es)[n]? = AQ (e.1,e.2.1):=by unfold zb;rw[aq,hei];rfl
     have hal:=hIs.len;rw[aa,aC]at hal;have hq2:=zp (s3.trans hs) hqe;right
     erw[xo]
     rfl'
     refine#[yx,_,hq2,_,rfl,_,hq2,_,rfl,⋯,λp' hp'=>#[zf hp' _ _ hH,⋯,CNx.mk hi' #[zu (hs.trans (zf hp')) hJ',zc,?_]]];rw[zQ hm,am];exact qT hH hIs hp' zeG (y9 _) (by erw[z8,xq,and_self])
    ·refine nmB ?_;rintro AW H' ⟨hs,hH,hIs⟩:_;have hpl:=xy es;rw[hxl,<- hpl,aI,hps]at hIs;right;exact U0 (.inl #[LsA.is #[AW,hH,hIs],(hR1.same (s3.trans hs)).is]) (bX (zaY _) ∅) #[_,rfl,yb (λe=>by rw[xg]at e;cases e) λZ=>hs]
   rintro σ H4 ⟨s4,rfl⟩:_;have s24:=s3.trans s4;let#[xs2,hX2,hI2]:=hD.same s24;have hxl2:=hI2.len;have hP4:=hPa1.same s24;right
   rfl'
   refine#[_,SqT.of (s24 _ _ hp),_,rfl,D,rfl,#[_,SqL.of hX2],λJ hJ'=>CompL.by (xs:=xs2) (λn AW H'=>Same H4 H'/\H' J=AQ (.lst AW)/\AW=(aR n AS).map V.bl) #[zf hJ',zc,rfl] (λn AW H' Z h=>SqL.of (h.1 _ _ hX2)) ?_ ?_]
   ·refine nm4 ?_;rintro n x0 AW H' hx ⟨hs,hH,rfl⟩:_;have hi':=(AX.mp hx).1;let#[e,pe,se,hei,rfl,hqe,hse]:=hI2.get hx;let#[hok',hEe]:=hE e (ac hei);have hq2:=zp hs hqe;right
    erw[xo]
    rfl'
    refine#[yx,_,hq2,_,rfl,_,hq2,_,rfl,XJ (hP4.same hs).is hok (by have:=hEe.a;lia) (hse.same hs).is (by have:=hEe.s;lia) hok' #[_,hq2,_,rfl,rfl,hH,by rw[aa,bM];lia,CNx.mk hi' #[zu hs hJ',zc,?_]]];rw[d7,am];simp
   ·refine nmB ?_;rintro AW H' ⟨hs,hH,rfl⟩:0;refine#[J,aR xs2.length AS,rfl,SqL.of hH,?_];have e:(aR xs2.length AS).all id=AS:=by simp
    rw[e];exact q _
  | world N t ts hn hw hm h3 h4 h5 hp ht =>
   change H'=H1/\σ=[!!p,AQ (.bl wh),!!ra,!!pa,!!wd,~~~l,-~~~m,!!F,AR]
   ·rfl'
    exact#[_,SqL.of hF,_,rfl,_,SqL.of hF,_,rfl,rfl,yb (λh=>w4 (wJ (V.str.inj h)) hn) λZ=>trivial]
   rintro σ H2 ⟨rfl,rfl⟩:0;change H'=H2/\σ=[!!p,AQ (.bl wh),!!ra,!!pa,!!wd,~~~l,-~~~m,!!F,AR]
   ·rfl'
    exact yb (λh=>by rw[hw]at h;cases h) λZ=>trivial
   rintro σ H2 ⟨rfl,rfl⟩:0;change H'=H2/\σ=[!!p,AQ (.bl wh),!!ra,!!pa,!!wd,~~~l,-~~~m,!!F,AQ (.non)]
   ·rfl'
   rintro σ H2 ⟨rfl,rfl⟩:0;change Same H2 H'/\∃t' rs',TabAt H' t' rs' (wb 2 l.length N)/\σ=[!!p,AQ (.bl wh),!!ra,!!pa,!!wd,~~~l,-~~~m,!!F,!!t']
   ·rfl'
    refine yb (λZ=>#[l,pa,wd,rs,u,v,rfl,hl,hPa1,hin,hW1,hu,hv,λt' rs' N' H' s' g1 g2 g3 g4=>?_,λh=>?_]) λh=>w4 ⋯ h
    ·have eN:N'=N:=by
      rcases dD N' N with e | e | e
      ·rw[h5 N' e]at g2;cases g2
      ·exact e
      ·have:=g3 N e;rw[h4]at this;cases this
     rw[eN]at g4;exact#[s',t',#[rs',g4],rfl]
    ·have:=h N h3;rw[h4]at this;cases this
   rintro σ H3 ⟨s3,t',rs',ht',rfl⟩:0;change H'=H3/\σ=[!!p,AQ (.bl wh),!!ra,!!pa,!!wd,~~~l,-~~~m,!!F,!!t']
   ·rfl'
   rintro σ H3 ⟨rfl,rfl⟩:0
   rfl'
   refine#[_,SqT.of (s3 _ _ hp),_,rfl,rfl,yb (λZ=>#[_,SqT.of (s3 _ _ hp),_,rfl,ZM (.inl #[(ht.same s3).is,ht'.is]) (bX (zcd _) ∅) ?_]) λz=>w4 rfl z];rw[xg];exact q _
  | open_ hn hw h5 hp =>
   change H'=H1/\σ=[!!p,AQ (.bl wh),!!ra,!!pa,!!wd,~~~l,-~~~m,!!F,AR]
   ·rfl'
    exact#[_,SqL.of hF,_,rfl,_,SqL.of hF,_,rfl,rfl,yb (λh=>w4 (wJ (V.str.inj h)) hn) λZ=>trivial]
   rintro σ H2 ⟨rfl,rfl⟩:0;change H'=H2/\σ=[!!p,AQ (.bl wh),!!ra,!!pa,!!wd,~~~l,-~~~m,!!F,AR]
   ·rfl'
    exact yb (λh=>by rw[hw]at h;cases h) λZ=>trivial
   rintro σ H2 ⟨rfl,rfl⟩:0;change H'=H2/\σ=[!!p,AQ (.bl wh),!!ra,!!pa,!!wd,~~~l,-~~~m,!!F,AQ (.non)]
   ·rfl'
   rintro σ H2 ⟨rfl,rfl⟩:0;change Same H2 H'/\σ=[!!p,AQ (.bl wh),!!ra,!!pa,!!wd,~~~l,-~~~m,!!F,AQ (.non)]
   ·rfl'
    refine yb (λhm=>#[l,pa,wd,rs,u,v,rfl,hl,hPa1,hin,hW1,hu,hv,λt' rs' N' H' s' g1 g2 Z Z=>?_,λZ H' s'=>#[s',rfl]]) λZ=>Same.refl _;have:=h5 ⋯ N' g1;rw[g2]at this;cases this
   rintro σ H3 ⟨s3,rfl⟩:0;refine qz (λZ Z=>False) ?_ λZ Z h=>h.elim
   rfl'
   refine#[⋯,λp1 hp1=>ZM (l:=[.str "open"]) (m:=[.str "open"]) (.inr #[?_,?_]) ∅ ?_]
   ·erw[Is,Iss]
    exact#[_,_,rfl,SqT.of (zf hp1 _ _ (s3 _ _ hp)),_,_,rfl,rfl,rfl]
   ·erw[Is,Iss]
    exact#[_,_,rfl,SqT.of zc,_,_,rfl,rfl,rfl]
   ·rw[xg];exact q _
def JA(l:()):zbZ λu v:()=>(∀c ∈ u,c ∈ l) ↔ ∀c ∈ v,c ∈ l :=
 #[λZ=>.rfl,.symm,.trans,λ{u v} a b h=>by
  erw[List.mem_append]
  exact#[λg c hc=>hc.elim (λhc=>hc.elim (λhc=>g c (.inl (.inl hc))) (h.mp (λc hc=>g c (.inl (.inr hc))) c)) (λhc=>g c (.inr hc)),λg c hc=>hc.elim (λhc=>hc.elim (λhc=>g c (.inl (.inl hc))) (h.mpr (λc hc=>g c (.inl (.inr hc))) c)) (λhc=>g c (.inr hc))]]
theorem J79.same{H H':Hp}{l:()}{ps rs:List zH}{u v:()}{i j m:Nat}{wh:Bool}{p:sv}(h:J79 K H l ps rs u v i j wh m p)(s:Same H H'):J79 K H' l ps rs u v i j wh m p:=by
 cases h with
 | alike S ss he hp hS hl hw=>exact .alike S ss he (s _ _ hp) (hS.same s) hl hw
 | forms es D hn hw hps hE hp hD=>exact .forms es D hn hw hps hE (s _ _ hp) (hD.same s)
 | world N t ts hn hw hm h3 h4 h5 hp ht=>exact .world N t ts hn hw hm h3 h4 h5 (s _ _ hp) (ht.same s)
 | open_ hn hw h5 hp=>exact .open_ hn hw h5 (s _ _ hp)
def WF(K:su)(T:sv):Sp:=λvs H Q Z=>∃(a:sv) (ns:List Int),vs=[.ref a]/\SqL K H a (ns.map V.int)/\(∀z ∈ ns,uV z)/\H T=AQ (.tbl #[])/\∀H',Q (.bl AS) H'
def gQ:sQz 1 ["_law_script","_law_first","_law_letters_here","_law_right_here","_law_order","_law_rules","_law_pacts","_law_words","_law_asked","_law_whole_here","_law_rounds","_law_most","_law_found"] kC:=by nofun
def zeh{f CO CR CW TB:sv}(B:Bt mg)(T:TWS P w K mg base CO CR CW)(F:("law"^^^kC))(my:(1<<<"_law_cell") ["_law_script","_law_k"] [] (jh K))(rG:(2<<<"_law_letters") ["_law_cell_here","_law_many"] [] uZ)(rS:(3<<<"_law_sided") ["_law_pairs_here","_law_right_here","_law_letters_here"] [] (WG K))(rK:(2<<<"_law_turned") ["_law_pacts","_law_cell_here"] [] (Yr K))(si:(2<<<"_law_meet") ["_law_rules"] [] (YT K))(rL:(11>>>"judged") ["order","pacts","one","other","rounds","most"] [] (zeQ K CO CR CW TB))(rT:(4<<<"_law_right") ["_law_found","_law_whole_here","_law_rules","_law_pacts","_law_words","_law_letters_here","_law_most"] [] (Vx K))(rV:(2<<<"_law_pairs") ["_law_script","_law_letters_here","_law_size"] [] (zba K))(pW:(1<<<"_law_word") ["_law_number","_law_letters_here","_law_most"] [] jl)(pR:(2<<<"_law_end") ["_law_pacts","_law_word_here","_law_steps_here"] [] (Y4 K))(rM:(4<<<"_law_answer") ["_law_found","_law_many"] [] (JQ K))(gZ:(1<<<"_law_mixed") ["_law_cell_here","_law_turn"] [] xK)(rW:(3<<<"_law_chain") ["_law_pacts","_law_word_here","_law_cells","_law_most"] [] (ZU K)):(12&&&["_law_script"]) (WF K TB):=by
 exists F.ok gQ
 ·let#[a,ns,rfl,hS,hB,hT,q]:=h
  refine#[_,(zh (zy 1 gQ.nd (cl0 my hr .nil rfl (za (pv 0) (za zd zg)))) (zh (xH (i:=2) gQ.nd rfl (Or.inr rfl) (cl0 rG hr .nil rfl (za (pv 1) (za (zD z7 zd (zD yT (pv 1) zd)) zg)))) (zh (zy 3 gQ.nd (yi xA (zD yT (zD yZ (pv 1) zd) zd) zd (zx _))) (zh (zy 4 gQ.nd (mkC T.mO hr rfl T.gO (za (pv 2) zg))) (zh (zJ (yl (pv 3) (λZ=>rfl)) (ze (zy 4 gQ.nd (mkC T.mR hr rfl T.gR (za (pv 2) zg))))
    zr) (zh (zy 5 gQ.nd (cl0 rS hr .nil rfl (za (cl0 rV hr .nil rfl (za (pv 0) (za (pv 2) (za (zD z7 zd (zD yT (zD yZ (pv 1) zd) zd)) zg)))) (za (pv 3) (za (pv 2) zg))))) (zh (zy 6 gQ.nd (cl0 rK hr .nil rfl (za (pv 5) (za (cl0 my hr .nil rfl (za (pv 0) (za zd zg))) zg)))) (zh (XD (i:=7) gQ.nd rfl (.inl rfl) (.inl rfl) (own:=["_law_k"]) (caps:=["_law_script","_law_letters_here"]) (ix:=[0,2]) (tt:=xo) (te:=(uc jl [] E0 (zK (uc xK [] E0 (zK (uc (jh K) [] E0 (zK (ya 1) (zK (tOp Yq (tC (.int 12)) (ya 0)) xv))) (zK (tC (.int 4)) xv))) (zK (ya 2) (zK (tC (.int 8)) xv))))) rfl (zM (sc:=zi kC) rfl (!0) (!0) (!0) rfl (!0) (!0) rfl) (zV rfl B.range (za zd zg)) (λZ Z Z Z Z Z=>zq (i:=0) (show List.Nodup [_,_,_] by decide) rfl (.inl rfl)) (λZ Z Z Z Z Z=>yh) (λZ Z Z Z Z Z=>(cl0 pW hr .nil rfl (za (cl0 gZ hr .nil rfl (za (cl0 my hr .nil rfl (za (pv 1) (za (zD jm zd (pv 0)) zg))) (za zd zg))) (za (pv 2) (za zd zg)))))) (zh (zy 8 gQ.nd (cl0 my hr .nil rfl (za (pv 0) (za zd zg)))) (zh (zJ (zv xA (zD yT (pv 8) zd) zd (zx _)) (ze (JV (cl0 pR hr .nil rfl (za (pv 6) (za (zk ix_list (pv 7) zd) (za (cl0 rW hr .nil rfl (za (pv 6) (za (zk ix_list (pv 7) zd) (za (zP jZ (pv 0) (zO zd) (zO zd)) (za zd zg))))) zg)))) (QR (pv 7) zd Vf (by intro _;rfl))))
    zr) (zh (zy 9 gQ.nd (cl0 si hr .nil rfl (za (pv 5) zg))) (zh (zy 10 gQ.nd zd) (zh (zJ (yl (pv 9) (λZ=>rfl)) (ze (zy 10 gQ.nd (zD yT (zD yZ (pv 8) zd) zd)))
    zr) (zh (zy 11 gQ.nd (zD z7 zd (zD yT (zD yZ (pv 8) zd) zd))) (zh (zy 12 gQ.nd (clP xe0 rL hr .nil rfl (za (pv 4) (za (vh xF rfl B.list PySem.Pv.boot_list (za (pv 6) zg)) (za (zk ix_list (pv 7) zd) (za (zk ix_list (pv 7) zd) (za (pv 10) (za (pv 11) zg)))))))) (zh (zJ (yf (yl (cl0 rM hr .nil rfl (za (pv 12) (za (zA B.len (pv 2)) zg))) (λZ=>rfl))) (ze (zl yv))
    zr) (ze (zl (cl0 rT hr .nil rfl (za (pv 12) (za (pv 9) (za (pv 5) (za (pv 6) (za (pv 7) (za (pv 2) (za (pv 11) zg)))))))))))))))))))))))))),?_]
  have s16:=zW;have hTab:TabOk H TB lp lq:=#[#[],hT,trivial,.inl rfl];change H'=H/\∃n:Int,uV n/\σ=[!!a,~~~!n,AR,AR,AR,AR,AR,AR,AR,AR,AR,AR,AR]
  ·rfl'
   exact vF hS hB ∅ λc hc=>#[rfl,c,hc,rfl]
  rintro σ H0 ⟨rfl,n,hn,rfl⟩:0;change H'=H0/\∃l:(),kg l=AS/\(l.length=2\/l.length=3)/\σ=[!!a,~~~!n,~~~l,AR,AR,AR,AR,AR,AR,AR,AR,AR,AR]
  ·rfl'
   have e0:=bq n (b:=2) ∅;have e1:=bp n (b:=2) ∅;exact#[∅,XQ hn ⋯ ⋯ λl hl hnd hs=>#[rfl,l,u6 #[⋯,⋯,hs,hnd],⋯,rfl]]
  rintro σ H1 ⟨rfl,l,hg,l23,rfl⟩:_;let#[l1,l6,lsm,lnd]:=u5 hg;have l3:l.length<=3:=⋯;right;change H'=H1/\∃b:Bool,σ=[!!a,~~~!n,~~~l,AQ (.bl b),AR,AR,AR,AR,AR,AR,AR,AR,AR]
  ·rfl'
   exact#[#[∅,∅],∅]
  rintro σ H1 ⟨rfl,b,rfl⟩:_
  have mk:∀{C x dx:sv} {H:Hp},H x=AR->H dx=AR->Same H (upd (upd (upd H dx (.own x)) x (.ins C dx [])) x (.ins C dx [("letters",⇑l)])):=λ{C x dx H} hx hdx b o' e=>by
   rw[zt (zN e hx),zt (zN e hx)];exact zf hdx _ _ e
  right;change Same H1 H'/\∃o:sv,OrdAt CO CR CW H' o 0 l (l.map λZ=>1)/\σ=[!!a,~~~!n,~~~l,AQ (.bl b),!!o,AR,AR,AR,AR,AR,AR,AR,AR]
  ·rfl'
   intro x dx hx hdx hne;exact#[x,CO,dx,l,rfl,hg,T.cO,T.lO,zc,rfl,mk hx hdx,dx,.inl #[rfl,zc]]
  rintro σ H2 ⟨s2,o0,ho0,rfl⟩:_;obtain⟨k,hk⟩:∃k:Nat,(if b=AS then 1 else 0)=k:=#[_,rfl];right;change Same H1 H'/\∃(o:sv),OrdAt CO CR CW H' o k l (l.map λZ=>1)/\σ=[!!a,~~~!n,~~~l,AQ (.bl b),!!o,AR,AR,AR,AR,AR,AR,AR,AR]
  ·rfl'
   refine yb (λhb=>?_) λhb=>#[s2,by rw[<- hk,w9 hb];exact ho0];intro x dx hx hdx hne;exact#[x,CR,dx,l,rfl,hg,T.cR,T.lR,zc,rfl,s2.trans (mk hx hdx),by rw[<- hk,w6 hb];exact#[dx,.inr #[rfl,zc]]]
  rintro σ H3 ⟨s3,o,ho,rfl⟩:_;have k2:k≠2:=by rw[<- hk];split <;> decide
  have hG:OG l (l.map λZ=>1) k:=#[hg,by rw[<- hk];split <;> decide,aa _,λx hx=>by let#[_,_,rfl]:=AY.mp hx;decide];have hS3:=s3.seq hS;right;change Same H3 H'/\∃pr:sv,(∃(rs:List zH) (m:Nat),m<=3/\LsA K H' pr (rs.map dR)/\rs.length<=12/\(rs.map Prod.fst).Nodup/\(∀p ∈ rs,TLr l m p)/\rs.Pairwise λa b=>rankF.lt (uL k l [] b.1) (uL k l [] a.1)=AT)/\σ=[!!a,~~~!n,~~~l,AQ (.bl b),!!o,!!pr,AR,AR,AR,AR,AR,AR,AR]
  ·rfl'
   have e0:=bq (n / 4) (b:=2) ∅;have e1:=bp (n / 4) (b:=2) ∅;rw[show 2+n / 4 % 2=((2+n / 4 % 2).toNat:Int) by lia];obtain⟨m,hm⟩:∃m,(2+n / 4 % 2).toNat=m:=#[_,rfl];rw[hm];refine#[#[∅,∅],∅,a,ns,l,m,rfl,hS3,hB,⋯,⋯,⋯,⋯,λD H' rs s' hL h12 hne hD=>#[D,rs,b,l,rfl,hL,hne,h12,hD.1,λr hr=>#[by have:=(hD.2 r hr).1;lia,(hD.2 r hr).2.2.1],hg,λD2 H5 rs' s5 hL5 hSd=>?_]];rw[hk]at hSd;refine#[s'.trans s5,D2,#[rs',m,⋯,hL5,by rw[hSd.1.length_eq];exact h12,((hSd.1.map Prod.fst).nodup_iff).mpr hD.1,λp hp=>?_,hSd.2],rfl];have h:=hD.2 p (hSd.1.mem_iff.mp hp);exact#[h.1,h.2.1,h.2.2.1,h.2.2.2]
  rintro σ H4 ⟨s4,pr,⟨rs,m,m3,hP,h12,hnd,hTL,hso⟩,rfl⟩:_;have hS4:=s4.seq hS3;right;change Same H4 H'/\∃pa:sv,(∃rs',LsA K H' pa (rs'.map dR)/\Alk rs rs')/\σ=[!!a,~~~!n,~~~l,AQ (.bl b),!!o,!!pr,!!pa,AR,AR,AR,AR,AR,AR]
  ·rfl'
   exact vF hS4 hB ∅ λc hc=>#[pr,c,rs,rfl,hc,hP,⋯,λD H' rs' Z s' hL hA=>#[s',D,#[rs',hL,hA],rfl]]
  rintro σ H5 ⟨s5,pa,⟨rs',hPa,hA⟩,rfl⟩:_;have hAp:=za8 hTL hA;have hrl:rs'.length<=12:=by rw[hA.1];exact h12
  have hrs:∀p ∈ rs',p.1.length<=3/\p.2.length<=3/\(∀c ∈ p.1,c ∈ l)/\∀c ∈ p.2,c ∈ l:=λp hp=>by
   have h:=hTL _ (hAp.mem_iff.mp (AY.mpr #[p,hp,rfl]));have h1:=h.a;have h2:=h.b;have h3:=h.ma;have h4:=h.mb;unfold lgR at h1 h2 h3 h4;by_cases g:p.1.length<p.2.length
   ·rw[w6 g]at h1 h2 h3 h4;simp only at h1 h2 h3 h4;exact#[⋯,⋯,h4,h3]
   ·rw[w9 g]at h1 h2 h3 h4;exact#[⋯,⋯,h3,h4]
  have hok:qL rs':=#[⋯,λr hr=>by have:=hrs r hr;lia];have sE:=s4.trans s5;have hS5:=sE.seq hS3;have hPr:=hP.same s5
  have hShP:ShP rs:=#[λp hp e=>by
   have h1:=(hTL p hp).a;have h2:=(hTL p hp).b;rw[e]at h1
   erw[bH]at h1
   lia,λp hp=>by
   have h1:=(hTL p hp).a;have h2:=(hTL p hp).b
   lia,λp hp=>by
   have h1:=(hTL p hp).a
   lia,⋯]
  right;change Same H5 H'/\∃(wd:sv) (u v:()),H5 wd=AR/\H' wd=AQ (.lst [⇑u,⇑v])/\(u.length<=8/\v.length<=8)/\(∀c ∈ u,c ∈ l)/\(∀c ∈ v,c ∈ l)/\σ=[!!a,~~~!n,~~~l,AQ (.bl b),!!o,!!pr,!!pa,!!wd,AR,AR,AR,AR,AR]
  ·rfl'
   refine#[⋯,⋯,λD hD=>CompR.by (λi AW H'=>Same H5 H'/\H' D=AQ (.lst AW)/\∃ws:List (()),AW=ws.map (λw=>V.str (tx w))/\ws.length=i/\∀w ∈ ws,w.length<=8/\∀c ∈ w,c ∈ l) #[zf hD,zc,[],rfl,rfl,λw h=>(nomatch h)] ?_ ?_]
   ·refine nm3 ?_;rintro i AW H' hi ⟨hs,hH,ws,rfl,hwl,hwb⟩:0
    erw[xo]
    rfl'
    refine#[yx,vF (hs.seq hS5) hB ⋯ λc hc=>xC hc ∅ ∅ λz hz=>Ww hz ⋯ ⋯ ∅ ∅ λw hw1 hw2=>#[hH,by rw[aa,hwl];have:i<2:=hi;lia,CNx.mk hi #[zu hs hD,zc,ws ++ [w],by rw[am];rfl,by rw[aj,hwl];rfl,λw' hw'=>?_]]];rcases Ba.mp hw' with h | h
    ·exact hwb w' h
    ·rw[Bb.mp h];exact#[⋯,hw2]
   ·refine nmB ?_;rintro AW H' ⟨hs,hH,ws,rfl,hwl,hwb⟩:0
    match ws,hwl,hwb,hH with
    | [u,v],_,hwb,hH =>
     have hu:=hwb u aB;have hv:=hwb v (ar _ aB);exact#[hs,D,hD,u,v,hH,hu.1,hv.1,hu.2,hv.2,rfl]
  rintro σ H6 ⟨s6,wd,u,v0,hwn,hW0,⟨hu8,hv08⟩,hu,hv0,rfl⟩:_;have hS6:=s6.seq hS5;right;change H'=H6/\∃c:Int,σ=[!!a,~~~!n,~~~l,AQ (.bl b),!!o,!!pr,!!pa,!!wd,~~~!c,AR,AR,AR,AR]
  ·rfl'
   exact vF hS6 hB ∅ λc hc=>#[rfl,c,rfl]
  rintro σ H6 ⟨rfl,c,rfl⟩:_;have hPa6:=hPa.same s6;right;change Same H5 H'/\∃v:(),H' wd=AQ (.lst [⇑u,⇑v])/\v.length<=8/\(∀c ∈ v,c ∈ l)/\σ=[!!a,~~~!n,~~~l,AQ (.bl b),!!o,!!pr,!!pa,!!wd,~~~!c,AR,AR,AR,AR]
  ·rfl'
   refine#[∅,yb (λZ=>?_) λZ=>#[s6,v0,hW0,hv08,hv0]];refine#[_,SqL.of hW0,_,rfl,_,SqL.of hW0,_,rfl,_,hS6,λp hp=>?_];rw[Y8 ns ∅ ∅];have hcb:∀z ∈ (ns.drop (14:Int).toNat).take ((30:Int) - 14).toNat,uV z:=λz hz=>hB z (cM (bz hz));have hcl:((ns.drop (14:Int).toNat).take ((30:Int) - 14).toNat).length<=16:=by rw[aC];exact Nat.min_le_left _ _
   generalize (ns.drop (14:Int).toNat).take ((30:Int) - 14).toNat=cs at hcb hcl ⊢;have sp:=zf (o:=.lst (cs.map V.int)) hp;refine UH (hPa6.same sp).is hok ⋯ ∅ (SqL.of zc) hcb ⋯ λT H7 ss w' hT s7 hL7 hwk hw' hsl Z=>XJ (hPa6.same (sp.trans s7)).is hok ⋯ hL7.is ⋯ hwk ?_;unfold zfa
   rfl'
   refine#[wd,_,_,1,rfl,rfl,s7 _ _ (sp _ _ hW0),rfl,zu (s6.trans (sp.trans s7)) hwn,w',zc,hw',(zaR (JA l) (λp hp=>#[λZ=>(hrs p hp).2.2.2,λZ=>(hrs p hp).2.2.1]) hwk).mp hu]
  rintro σ H7 ⟨s7,v,hW,hv8,hv,rfl⟩:_;have hS7:=s7.seq hS5;right;change Same H7 H'/\σ=[!!a,~~~!n,~~~l,AQ (.bl b),!!o,!!pr,!!pa,!!wd,~~~!c,AQ (.bl (kZ rs)),AR,AR,AR]
  ·rfl'
   exact#[pr,rs,rfl,hPr.same s7,hShP,λp hp=>by have h1:=(hTL p hp).a;have h2:=(hTL p hp).b;lia,λH' s'=>#[s',rfl]]
  rintro σ H8 ⟨s8,rfl⟩:0;change H'=H8/\σ=[!!a,~~~!n,~~~l,AQ (.bl b),!!o,!!pr,!!pa,!!wd,~~~!c,AQ (.bl (kZ rs)),~~~!(0),AR,AR]
  ·rfl'
  rintro σ H8 ⟨rfl,rfl⟩:0;change H'=H8/\∃r:Nat,(kZ rs=AT->r=0)/\r<=3/\σ=[!!a,~~~!n,~~~l,AQ (.bl b),!!o,!!pr,!!pa,!!wd,~~~!c,AQ (.bl (kZ rs)),-~~~r,AR,AR]
  ·rfl'
   have c0:=bq (c / 2) (b:=4) ∅;have c1:=bp (c / 2) (b:=4) ∅;exact yb (λhm=>#[#[∅,∅],∅,(c / 2 % 4).toNat,λh=>w4 (h.symm.trans hm) ∅,⋯,⋯]) λhm=>#[0,λZ=>rfl,∅,rfl]
  rintro σ H8 ⟨rfl,r,hr0,hr3,rfl⟩:0;change H'=H8/\∃m:Nat,(m=1\/m=2)/\σ=[!!a,~~~!n,~~~l,AQ (.bl b),!!o,!!pr,!!pa,!!wd,~~~!c,AQ (.bl (kZ rs)),-~~~r,-~~~m,AR]
  ·rfl'
   have c0:=bq (c / 8) (b:=2) ∅;have c1:=bp (c / 8) (b:=2) ∅;exact#[#[∅,∅],∅,(1+c / 8 % 2).toNat,⋯,⋯]
  rintro σ H8 ⟨rfl,m,hm12,rfl⟩:_;have sA:=s7.trans s8;have sB:=sE.trans sA;have hTab8:=hTab.same (s3.trans sB);have ho8:=ho.same sB;have hPa8:=hPa.same sA;have hPr8:=hPr.same sA;have hW8:=s8 _ _ hW;let#[px,hPx,hPi]:=id hPa8;have hb60:∀p ∈ rs',p.1.length<=60/\p.2.length<=60/\(∀c ∈ p.1,c ∈ l)/\∀c ∈ p.2,c ∈ l:=λp hp=>by have h:=hrs p hp;exact#[⋯,⋯,h.2.2]
  right;change (LsA K H' pa (rs'.map dR)/\LsA K H' pr (rs.map dR)/\H' wd=AQ (.lst [⇑u,⇑v]))/\∃fp:sv,JOut K H' k l (l.map λZ=>1) rs' u v r m fp/\σ=[!!a,~~~!n,~~~l,AQ (.bl b),!!o,!!pr,!!pa,!!wd,~~~!c,AQ (.bl (kZ rs)),-~~~r,-~~~m,!!fp]
  ·rfl'
   refine#[px,.inl (SqL.of hPx),λhd hh=>?_];have sh:=zf (o:=HO.lst px) hh;have hW':=sh _ _ hW8;have hT':=hTab8.same sh;let#[tp,htp,_]:=id hT';refine#[_,SqL.of hW',_,rfl,_,SqL.of hW',_,rfl,o,hd,k,l,_,rs',u,v,r,m,rfl,ho8.same sh,hG,#[px,zc,Iss.same sh _ _ hPi],⋯,hb60,⋯,⋯,hu,hv,⋯,⋯,?_,hT',λfp H' sT hTk hJ=>#[(hPa8.same sh).samT sT htp,(hPr8.same sh).samT sT htp,sT.at htp hW' (λZ z=>by cases z),fp,hJ,rfl]];rcases hm12 with rfl | rfl <;> rcases l23 with h | h <;> rw[h] <;> decide
  rintro σ H9 ⟨⟨hPa9,hPr9,hW9⟩,fp,hJ,rfl⟩:0;change Same H9 H'/\σ=[!!a,~~~!n,~~~l,AQ (.bl b),!!o,!!pr,!!pa,!!wd,~~~!c,AQ (.bl (kZ rs)),-~~~r,-~~~m,!!fp]
  ·rfl'
   exact#[⋯,fp,l,rfl,⋯,hJ.ans ⋯,λH' s'=>#[AS,rfl,Yf s']]
  rintro σ H10 ⟨s10,rfl⟩:_;let#[i,j,hi,hj,hJ79]:=hJ.j90 hG k2 hTL m3 h12 hA hnd hso hr0 hb60 hm12 hu8 hv8 hu hv;right
  rfl'
  exact#[fp,pr,pa,wd,l,rs,rs',u,v,i,j,kZ rs,m,rfl,l23,hPr9.same s10,hShP,h12,hPa9.same s10,hok,λp hp=>(hb60 p hp).2.2,s10 _ _ hW9,#[hu8,hv8],hu,hv,hi,hj,hJ79.same s10,q]
end
end
mutual section
def FnE(K:su)(x q:sF)(st:sI)(f:sv):Prop:=∃fd,Fun K x q st f fd
def FnA(K:su)(x:sF)(st:sI)(f:sv):Prop:=av K so x=AQ (AQ (.ref f))/\FnE K x x st f
def FnA.mk{K:su}{x:sF}{st:sI}{f:sv}{h:sV}{mg:sF->Option sw}(q:FnA K x st f)(X:K.In h)(G:h.Ns so mg):mg x=AQ (.ref f)/\aO K (.ref f)=AS/\FnE K x x st f:=by let#[a,fd,F]:=q;exact#[aK X G a,F.kp,fd,F]
def Ye{us:List sw}(h:us.length=1):∃a,us=[a]:=List.length_eq_one_iff.mp h
theorem vt{us:List sw}(h:us.length=2):∃a0 a1,us=[a0,a1]:=by
 cases us with
 | nil=>cases h
 | cons a r =>
  let#[a1,rfl]:=Ye (Nat.succ.inj h);exact#[a,a1,rfl]
theorem kr{us:List sw}(h:us.length=3):∃a0 a1 a2,us=[a0,a1,a2]:=by
 cases us with
 | nil=>cases h
 | cons a r =>
  let#[a1,a2,rfl]:=vt (Nat.succ.inj h);exact#[a,a1,a2,rfl]
theorem zay{us:List sw}(h:us.length=4):∃a0 a1 a2 a3,us=[a0,a1,a2,a3]:=by
 cases us with
 | nil=>cases h
 | cons a r =>
  let#[a1,a2,a3,rfl]:=kr (Nat.succ.inj h);exact#[a,a1,a2,a3,rfl]
theorem zfk{us:List sw}(h:us.length=5):∃a0 a1 a2 a3 a4,us=[a0,a1,a2,a3,a4]:=by
 cases us with
 | nil=>cases h
 | cons a r =>
  let#[a1,a2,a3,a4,rfl]:=zay (Nat.succ.inj h);exact#[a,a1,a2,a3,a4,rfl]
theorem zgO{us:List sw}(h:us.length=6):∃a0 a1 a2 a3 a4 a5,us=[a0,a1,a2,a3,a4,a5]:=by
 cases us with
 | nil=>cases h
 | cons a r =>
  let#[a1,a2,a3,a4,a5,rfl]:=zfk (Nat.succ.inj h);exact#[a,a1,a2,a3,a4,a5,rfl]
theorem zg2{us:List sw}(h:us.length=7):∃a0 a1 a2 a3 a4 a5 a6,us=[a0,a1,a2,a3,a4,a5,a6]:=by
 cases us with
 | nil=>cases h
 | cons a r =>
  let#[a1,a2,a3,a4,a5,a6,rfl]:=zgO (Nat.succ.inj h);exact#[a,a1,a2,a3,a4,a5,a6,rfl]
def dfm(P:sH)(w:sM){K:su}{mg:sF->Option sw}(base:sV){CX:CXT}{k:Nat}{f:sv}{fd:tM}{nm:sF}{ps:List sF}{sp:Sp}(h:FnOk P w K mg base CX k f fd ps sp)(m:mg nm=AQ (.ref f))(p:aO K (.ref f)=AS)(b:Binds K fd ps []):Df P w K mg base CX k nm ps [] sp:=#[_,_,h,m,p,b]
def FnA.df(P:sH)(w:sM){K:su}{h:sV}{mg:sF->Option sw}(base:sV){x:sF}{st:sI}{f:_}{CX:CXT}{k:Nat}{ps:List sF}{sp:Sp}(q:FnA K x st f)(X:K.In h)(G:h.Ns so mg)(H:∀{fd},Fun K x x st f fd->FnOk P w K mg base CX k f fd ps sp)(hb:∀(kV doc pm:sw) (an:Option sv) (cdv ct:sw) (us:List sw),us.length=ps.length->bindArgs (bC x x (yV st) (yj st) (zi st) .none kV doc pm an cdv ct) #[us,[]]=pure (ps.zip us)):Df P w K mg base CX k x ps [] sp:=by let#[M,p,_,F]:=q.mk X G;exact dfm P w base (H F) M p (F.binds hb)
end
local macro_rules | `(tactic| injections)=>`(tactic| (intro _ _ _ _ _ _ us hl;first | (obtain⟨_,e⟩:=Ye hl;subst e;rfl) | (obtain⟨_,_,e⟩:=vt hl;subst e;rfl) | (obtain⟨_,_,_,e⟩:=kr hl;subst e;rfl) | (obtain⟨_,_,_,_,e⟩:=zay hl;subst e;rfl) | (obtain⟨_,_,_,_,_,e⟩:=zfk hl;subst e;rfl) | (obtain⟨_,_,_,_,_,_,e⟩:=zgO hl;subst e;rfl) | (obtain⟨_,_,_,_,_,_,_,e⟩:=zg2 hl;subst e;rfl)))
local macro_rules | `(nofun)=>`(by injections)
def all_mk{l:PySem.W.OpenLaw}{w:sM}{K:su}{h:sV}{mg:sF->Option sw}{fa f0 f1 f2 f3 f4 f5 f6 f7 f8 f9 f10 f11 f12 f13 f14 f15 f16 f17 f18 f19 f20 f21 f22 f23 f24 f25 f26 f27 f28 f29 f30 f31 f32 f33 f34 f35 f36 f37 f38 f39 f40 f41 f42 f43 f44 f45 f46 f47 f48 f49 f50 f51 f52 f53 f54 f55 f56 f57 f58 f59 f60 f61 f62 f63 f64 pJ gG gA gz gC gD gP gF gL gB gM:sv}{cc TB:sv}(X:K.In h)(G:h.Ns so mg)(hfa:mg "law" = AQ (.ref fa))(hlam:∃a o fd,mg "in_order" = AQ (.ref a)/\h.get? a=AQ o/\o.data=.func fd/\fd.code=.ref cc)(hgT:so≠TB)
{od6 an6 od12 an12 od32 an32 od64 an64:Option sv}{sl6 sl12 sl32 sl64:Array (Option sw)}{oc6 kV6 dc6 pm6 cd6 ct6 oc12 kV12 dc12 pm12 cd12 ct12 oc32 kV32 dc32 pm32 cd32 ct32 oc64 kV64 dc64 pm64 cd64 ct64:sw}
  {t6:AF}
  {fI:sv}
  {odI anI:Option sv}
  {slI:Array (Option sw)}
  {ocI kVI dcI pmI cdI ctI:sw}
  {t8:AF}
  {fU:sv}
  {odU anU:Option sv}
  {slU:Array (Option sw)}
  {ocU kVU dcU pmU cdU ctU:sw}
  {t9:AF}
  {tmt:AF}
  {tmu tms tmd tmp:AF}
  {tcu tce tcd tcp:AF}
  {tju tjs:AF}
  {iM:sv}
  {ip:sv}
  {lP:sv}
  {iG:sv}
  {iN:sv}
  {iq:sv}
  {lA:sv}
  {ie:sv}
  {lQ:sv}
  {lB:sv}
  {mB:sv}
  {iU:sv}
  {iV:sv}
  {og:sv}
  {mZ:AF}
  {d1_gone:sw}
  {d2_gone:Option sv}
  {d3_gone:Nat}
  {d4_gone:Array (Option sw)}
  {nj:sv}
  {ow:AF}
  {d1_unmet:sw}
  {d2_unmet:Option sv}
  {d3_unmet:Nat}
  {d4_unmet:Array (Option sw)}
  (a0:FnA K "is_small_letter" y3 f0)
  (a1:FnA K "letters_of" vj f1)
  (a2:FnA K "stands_at" vZ f2)
  (a3:FnA K "put" zb6 f3)
  (a4:FnA K "first_within" xS f4)
  (a5:FnA K "first_from" vp f5)
  (a6:av K so "gone" = AQ (AQ (.ref f6))) (l6:K.lookup f6=AQ #[oc6,od6,.func (bC "gone" "gone" (yV vL) (yj vL) (zi vL) (.ref og) kV6 dc6 pm6 an6 cd6 ct6),sl6]) (k6:bZ K cd6 "gone" = AS) (p6:aO K (.ref f6)=AS)
  (a7:FnA K "back" WT f7)
  (a8:FnA K "moved" Z8 f8)
  (a9:FnA K "by_pacts" qf f9)
  (a10:FnA K "pairs_of" vC f10)
  (a11:FnA K "as_rule" jH f11)
  (a12:av K so "in_order" = AQ (AQ (.ref f12))) (l12:K.lookup f12=AQ #[oc12,od12,.func (bC "in_order" "in_order" (yV yK) (yj yK) (zi yK) .none kV12 dc12 pm12 an12 cd12 ct12),sl12]) (k12:bZ K cd12 "in_order" = AS) (p12:aO K (.ref f12)=AS)
  (a13:FnA K "brought_down" xZ f13)
  (a14:FnA K "refuse_beyond" xz f14)
  (a15:FnA K "built_anew" wZ f15)
  (a16:FnA K "thinned" jV f16)
  (a17:FnA K "_law_cell" QW f17)
  (a18:FnA K "_law_mixed" XZ f18)
  (a19:FnA K "_law_letters" jr f19)
  (a20:FnA K "_law_word" Uy f20)
  (a21:FnA K "_law_whole" XY f21)
  (a22:FnA K "_law_steps" XR f22)
  (a23:FnA K "_law_used" JC f23)
  (a24:FnA K "_law_uses" Qq f24)
  (a25:FnA K "_law_chain" XF f25)
  (a26:FnA K "_law_end" zcM f26)
  (a27:FnA K "agree" Xu f27)
  (a28:FnA K "overlaps" qi f28)
  (a29:FnA K "peak" JM f29)
  (a30:FnA K "form_of" jK f30)
  (a31:FnA K "is_met" ZA f31)
  (a32:av K so "unmet" = AQ (AQ (.ref f32))) (l32:K.lookup f32=AQ #[oc32,od32,.func (bC "unmet" "unmet" (yV xT) (yj xT) (zi xT) (.ref nj) kV32 dc32 pm32 an32 cd32 ct32),sl32]) (k32:bZ K cd32 "unmet" = AS) (p32:aO K (.ref f32)=AS)
  (a33:FnA K "system_by" vY f33)
  (a34:FnA K "first_entries" yQ f34)
  (a35:FnA K "is_beyond" wB f35)
  (a36:FnA K "thinned_within" xl f36)
  (a37:FnA K "unmet_within" xP f37)
  (a38:FnA K "entry_of" qb f38)
  (a39:FnA K "completed" wA f39)
  (a40:FnA K "table_of" vq f40)
  (a41:FnA K "table_count" wG f41)
  (a42:FnA K "tables_within" xx f42)
  (a43:FnA K "table_at" vx f43)
  (a44:FnA K "tells_apart" wu f44)
  (a45:FnA K "world_apart" wz f45)
  (a46:FnA K "gone_within" ww f46)
  (a47:FnA K "judged_by_roads" y6 f47)
  (a48:FnA K "judged_by_worlds" yS f48)
  (a49:FnA K "judged" ZD f49)
  (a50:FnA K "_law_entries" jJ f50)
  (a51:FnA K "_law_table_ok" vB f51)
  (a52:FnA K "_law_answer" ZS f52)
  (a53:FnA K "_law_form" QY f53)
  (a54:FnA K "_law_meet" JE f54)
  (a55:FnA K "_law_turned" Zm f55)
  (a56:FnA K "_law_exact" Wc f56)
  (a57:FnA K "_law_pairs" Z3 f57)
  (a58:FnA K "_law_sided" qh f58)
  (a59:FnA K "_law_tables" ux f59)
  (a60:FnA K "_law_led" zcR f60)
  (a61:FnA K "_law_holds" Wj f61)
  (a62:FnA K "_law_first_world" wx f62)
  (a63:FnA K "_law_right" u7 f63)
  (a64:av K so "law" = AQ (AQ (.ref f64))) (l64:K.lookup f64=AQ #[oc64,od64,.func (bC "law" "law" (yV kC) (yj kC) (zi kC) .none kV64 dc64 pm64 an64 cd64 ct64),sl64]) (k64:bZ K cd64 "law" = AS) (p64:aO K (.ref f64)=AS)
  (g_LetterError:av K so "LetterError" = AQ (AQ (.ref pJ)))
  (g_NoLetters:av K so "NoLetters" = AQ (AQ (.ref gG)))
  (g_Order:av K so "Order" = AQ (AQ (.ref gA)))
  (g_FromRight:av K so "FromRight" = AQ (AQ (.ref gz)))
  (g_NotTurned:av K so "NotTurned" = AQ (AQ (.ref gC)))
  (g_System:av K so "System" = AQ (AQ (.ref gD)))
  (g_NoUse:av K so "NoUse" = AQ (AQ (.ref gP)))
  (g_TooFar:av K so "TooFar" = AQ (AQ (.ref gF)))
  (g_NoWorld:av K so "NoWorld" = AQ (AQ (.ref gL)))
  (g_World:av K so "World" = AQ (AQ (.ref gB)))
  (g_TooMany:av K so "TooMany" = AQ (AQ (.ref gM)))
  (kbb:aV K (.type "bool") (.type "bool")=AQ AS)
  (kt:aV K (.type "tuple") (.type "tuple")=AQ AS)
  (ki:aV K (.type "int") (.type "int")=AQ AS)
  (kb:aV K (.type "int") (.type "bool")=AQ AT)
  (kl:aV K (.type "list") (.type "list")=AQ AS)
  (XIl:XI K gG)
  (xi:ah K (.ref gG) "__init__" = AQ (AQ (.builtin "ValueError.__init__")))
  (most:av K so "MOST_LETTERS" = AQ (AQ (.int 6 t6)))
  (nk:cf K gA fu=AS)
  (nq:cA K gA=AS)
  (nv:cK K gA=AS)
  (nw:ah K (.ref gA) "__setattr__" = AQ (AQ (.builtin "object.__setattr__")))
  (oB:cT K gA=AS)
  (oE:aO K (.ref gA)=AS)
  (ny:ah K (.ref gA) "letters" = AQ AR)
  (pY:aV K (.ref gA) (.ref gA)=AQ AS)
  (pZ:ah K (.ref gA) "__class__" = AQ (AQ (.builtin "object.__class__")))
  (rb:bY K gA (.type "object")=AQ AS)
  (mC:cf K gz fu=AS)
  (mD:cA K gz=AS)
  (mE:cK K gz=AS)
  (mF:ah K (.ref gz) "__setattr__" = AQ (AQ (.builtin "object.__setattr__")))
  (mG:cT K gz=AS)
  (mH:aO K (.ref gz)=AS)
  (mI:ah K (.ref gz) "letters" = AQ AR)
  (nQ:aV K (.ref gz) (.ref gA)=AQ AS)
  (nR:ah K (.ref gz) "__class__" = AQ (AQ (.builtin "object.__class__")))
  (nS:bY K gz (.type "object")=AQ AS)
  (win:av K so "WINDOW" = AQ (AQ (.int 128 t8)))
  (XIt:XI K gC)
  (nn:ah K (.ref gC) "number" = AQ AR)
  (ini:ah K (.ref gC) "__init__" = AQ (AQ (.ref fI)))
  (lI:K.lookup fI=AQ #[ocI,odI,.func (bC "__init__" "NotTurned.__init__" (yV yc) (yj yc) (zi yc) .none kVI dcI pmI anI cdI ctI),slI])
  (kI:bZ K cdI "NotTurned.__init__" = AS)
  (pI:aO K (.ref fI)=AS)
  (fnI:bc K (.ref fI)=AS)
  (nU:cf K gD fu=AS)
  (nV:cA K gD=AS)
  (nW:cK K gD=AS)
  (nX:ah K (.ref gD) "__setattr__" = AQ (AQ (.builtin "object.__setattr__")))
  (nY:cT K gD=AS)
  (nZ:aO K (.ref gD)=AS)
  (no_System:ah K (.ref gD) "order" = AQ AR)
  (nr_System:ah K (.ref gD) "rules" = AQ AR)
  (XIu:XI K gP)
  (ua:ah K (.ref gP) "at" = AQ AR)
  (iniU:ah K (.ref gP) "__init__" = AQ (AQ (.ref fU)))
  (lU:K.lookup fU=AQ #[ocU,odU,.func (bC "__init__" "NoUse.__init__" (yV yM) (yj yM) (zi yM) .none kVU dcU pmU anU cdU ctU),slU])
  (kU:bZ K cdU "NoUse.__init__" = AS)
  (pU:aO K (.ref fU)=AS)
  (fnU:bc K (.ref fU)=AS)
  (XIf:XI K gF)
  (vi:ah K (.ref gF) "__init__" = AQ (AQ (.builtin "ValueError.__init__")))
  (sFF:dh K (.ref gF) (.ref gF)=AQ AS)
  (XIq:XI K gL)
  (nwi:ah K (.ref gL) "__init__" = AQ (AQ (.builtin "ValueError.__init__")))
  (mostr:av K so "MOST_ROOMS" = AQ (AQ (.int 8 t9)))
  (oF:cf K gB fu=AS)
  (oG:cA K gB=AS)
  (oH:cK K gB=AS)
  (oJ:ah K (.ref gB) "__setattr__" = AQ (AQ (.builtin "object.__setattr__")))
  (oK:cT K gB=AS)
  (oM:aO K (.ref gB)=AS)
  (oN:ah K (.ref gB) "letters" = AQ AR)
  (nt_World:ah K (.ref gB) "table" = AQ AR)
  (XIm:XI K gM)
  (wi:ah K (.ref gM) "__init__" = AQ (AQ (.builtin "ValueError.__init__")))
  (mostt:av K so "MOST_TABLES" = AQ (AQ (.int 1000 tmt)))
  (ks:aV K (.type "str") (.type "str")=AQ AS)
  (nmin:av K so "min" = AQ AR)
  (nany:av K so "any" = AQ AR)
  (nsorted:av K so "sorted" = AQ AR)
  (mou:av K so "MOST_USES_thinning" = AQ (AQ (.int 40 tmu)))
  (mos:av K so "MOST_STEPS_thinning" = AQ (AQ (.int 240 tms)))
  (mod_:av K so "MOST_SIDE_thinning" = AQ (AQ (.int 60 tmd)))
  (mop:av K so "MOST_PASSES" = AQ (AQ (.int 20 tmp)))
  (mcu:av K so "MOST_USES_completing" = AQ (AQ (.int 40 tcu)))
  (mce:av K so "MOST_ENTRIES" = AQ (AQ (.int 12 tce)))
  (mcd:av K so "MOST_SIDE_completing" = AQ (AQ (.int 10 tcd)))
  (mcp:av K so "MOST_PEAKS" = AQ (AQ (.int 8 tcp)))
  (mju:av K so "MOST_USES_judging" = AQ (AQ (.int 40 tju)))
  (mjs:av K so "MOST_STEPS_judging" = AQ (AQ (.int 2000 tjs)))
  (lS:ah K (.ref gA) "__init__" = AQ (AQ (.ref iM)))
  (lT:FnE K "__init__" "Order.__init__" vm iM)
  (iO:bc K (.ref iM)=AS)
  (iW:ah K (.ref gA) "weight" = AQ (AQ (.ref ip)))
  (iX:FnE K "weight" "Order.weight" xR ip)
  (ir:bc K (.ref ip)=AS)
  (lV:ah K (.ref gA) "seen" = AQ (AQ (.ref lP)))
  (lX:FnE K "seen" "Order.seen" wW lP)
  (lY:bc K (.ref lP)=AS)
  (iH:ah K (.ref gz) "seen" = AQ (AQ (.ref iG)))
  (iI:FnE K "seen" "FromRight.seen" xj iG)
  (iJ:bc K (.ref iG)=AS)
  (lZ:ah K (.ref gA) "rank" = AQ (AQ (.ref iN)))
  (md:FnE K "rank" "Order.rank" xN iN)
  (iP:bc K (.ref iN)=AS)
  (iY:ah K (.ref gA) "before" = AQ (AQ (.ref iq)))
  (iZ:FnE K "before" "Order.before" wa iq)
  (iu:bc K (.ref iq)=AS)
  (lC:ah K (.ref gD) "__init__" = AQ (AQ (.ref lA)))
  (lD:FnE K "__init__" "System.__init__" wv lA)
  (lE:bc K (.ref lA)=AS)
  (ig:ah K (.ref gD) "rules_told" = AQ (AQ (.ref ie)))
  (ij:FnE K "rules_told" "System.rules_told" yG ie)
  (ik:bc K (.ref ie)=AS)
  (mf:ah K (.ref gB) "__init__" = AQ (AQ (.ref lQ)))
  (mh:FnE K "__init__" "World.__init__" vo lQ)
  (mi:bc K (.ref lQ)=AS)
  (lF:ah K (.ref gB) "rooms" = AQ (AQ (.ref lB)))
  (lG:FnE K "rooms" "World.rooms" wC lB)
  (lH:bc K (.ref lB)=AS)
  (mJ:ah K (.ref gB) "led" = AQ (AQ (.ref mB)))
  (mK:FnE K "led" "World.led" vV mB)
  (mL:bc K (.ref mB)=AS)
  (lc:ah K (.ref gB) "parted" = AQ (AQ (.ref iU)))
  (lg:FnE K "parted" "World.parted" xV iU)
  (lh:bc K (.ref iU)=AS)
  (li:ah K (.ref gB) "broken" = AQ (AQ (.ref iV)))
  (lj:FnE K "broken" "World.broken" xY iV)
  (lm:bc K (.ref iV)=AS)
  (oh:K.lookup og=AQ #[d1_gone,d2_gone,.seq #[.int 4000 mZ] d3_gone,d4_gone])
  (nz:K.lookup nj=AQ #[d1_unmet,d2_unmet,.seq #[.int 4000 ow] d3_unmet,d4_unmet])
  (fiR_init:ah K (.ref gz) "__init__" = AQ (AQ (.ref iM)))
  (fiR_weight:ah K (.ref gz) "weight" = AQ (AQ (.ref ip)))
  (fiR_rank:ah K (.ref gz) "rank" = AQ (AQ (.ref iN)))
  (fiR_before:ah K (.ref gz) "before" = AQ (AQ (.ref iq)))
  (b0:av K so "len" = AQ AR)
  (b1:av K so "range" = AQ AR)
  (b2:av K so "isinstance" = AQ AR)
  (b3:av K so "str" = AQ AR)
  (b4:av K so "int" = AQ AR)
  (b5:av K so "tuple" = AQ AR)
  (b6:av K so "list" = AQ AR)
  (b7:av K so "bool" = AQ AR)
  (b8:av K so "enumerate" = AQ AR)
  (b9:av K so "all" = AQ AR)
  (b10:av K so "ValueError" = AQ AR)
  (b11:av K so "max" = AQ AR)
  (b12:av K so "reversed" = AQ AR)
  (b13:av K so "zip" = AQ AR)
  (b14:av K so "sum" = AQ AR)
  (b15:av K so "sorted" = AQ AR)
  : ∃fd:tM,(∀(s:sy) (v:sw),An s fd #[[v],[]] [("_law_script",v)])/\∀base:sV,K.In base->base.Ns so mg->base.BuiltinsAt mg TB->PySem.W.CodeHd base cc TB->FnOk l.prog w K mg base CX0 12 fa fd ["_law_script"] (WF K TB):=by
 have e:=hfa.symm.trans (aK X G a64);cases e;have B:Bt mg:=#[aN X G b0,aN X G b1,aN X G b2,aN X G b3,aN X G b4,aN X G b5,aN X G b6,aN X G b7,aN X G b8,aN X G b9,aN X G b10,aN X G b11,aN X G b12,aN X G b13,aN X G b14,aN X G b15];let#[M1,p1,_,F1]:=a1.mk X G;have B1:=F1.binds (ps:=["text"]) nofun;have F6:FunD K "gone" "gone" vL (.ref og) f6 (bC "gone" "gone" (yV vL) (yj vL) (zi vL) (.ref og) kV6 dc6 pm6 an6 cd6 ct6):=⟨#[_,_,_,_,_,_,_,_,_,rfl,l6,k6]⟩;have M6:=aK X G a6;have F12:=fun_mk (st:=yK) l12 k12 p12;have M12:=aK X G a12;have F32:FunD K "unmet" "unmet" xT (.ref nj) f32 (bC "unmet" "unmet" (yV xT) (yj xT) (zi xT) (.ref nj) kV32 dc32 pm32 an32 cd32 ct32):=⟨#[_,_,_,_,_,_,_,_,_,rfl,l32,k32]⟩;have M32:=aK X G a32;have F64:=fun_mk (st:=kC) l64 k64 p64;have B64:=F64.binds (ps:=["_law_script"]) nofun;have M64:=aK X G a64
 have HCC:cd12=.ref cc:=by
  let#[ai,oi,fdi,m1,m2,m3,m4]:=hlam;have e1:=m1.symm.trans (aK X G a12);cases e1;have e2:=m2.symm.trans (X _ _ l12);cases e2;cases m3;exact m4
 refine#[bC "law" "law" (yV kC) (yj kC) (zi kC) .none kV64 dc64 pm64 an64 cd64 ct64,λs v=>.of_eq rfl,λbase Z Z HBT HCH=>?_];have TL:zgw K mg gG:=#[XIl,xi,aK X G g_NoLetters,t6,aK X G most];have TO:TOrd K mg gA gz gA:=#[#[nk,nq,nv,nw],#[mC,mD,mE,mF],#[nk,nq,nv,nw],aK X G g_Order,aK X G g_FromRight,ny,mI,ny];have TNt:TNT K mg gC:=#[XIt,aK X G g_NotTurned,nn];have FI:=fun_mk (st:=yc) lI kI pI;have BI:=FI.binds (ps:=["self","number"]) nofun;have TD:DNT l.prog w K mg base gC:=#[TNt,_,_,ini,fnI,uX TNt FI,BI];have TS:zd9 K mg gD:=#[#[nU,nV,nW,nX],aK X G g_System,no_System,nr_System];have TWi:zgW mg:=#[t8,aK X G win];have TNu:TNU K mg gP:=#[XIu,aK X G g_NoUse,ua];have FU:=fun_mk (st:=yM) lU kU pU;have BU:=FU.binds (ps:=["self","at"]) nofun;have TUd:DNU l.prog w K mg base gP:=#[TNu,_,_,iniU,fnU,ZN TNu FU,BU];have TF:zby K mg gF:=#[XIf,vi,aK X G g_TooFar];have TNw:zdI K mg gL:=#[XIq,nwi,aK X G g_NoWorld,t9,aK X G mostr];have CLw:zbe K mg gB:=#[#[oF,oG,oH,oJ],aK X G g_World,oN,nt_World];have TM:Kx K mg gM:=#[XIm,wi,aK X G g_TooMany,tmt,aK X G mostt];have TMk:TMo mg:=#[#[tmu,aK X G mou],#[tms,aK X G mos],#[tmd,aK X G mod_],#[tmp,aK X G mop]];have TMcc:TMc mg:=#[#[tcu,aK X G mcu],#[tce,aK X G mce],#[tcd,aK X G mcd],#[tcp,aK X G mcp]];have TMjj:TMj mg:=#[#[tju,aK X G mju],#[tjs,aK X G mjs]];have d:=λ{x st f CX k ps sp}(q:FnA K x st f) H hb=>FnA.df l.prog w base (CX:=CX) (k:=k) (ps:=ps) (sp:=sp) q X G H hb;have D0:=d a0 (λF=>Kt F) nofun;have D1:=dfm l.prog w base (ZK B TL F1 D0) M1 p1 B1;have D2:=d a2 (λF=>YM B F) nofun;have D3:=d a3 (λF=>zdK B TUd F D2) nofun;let#[_,iQ]:=lT;have rY:=iQ.kp;have nG:=iQ.binds (ps:=["self","letters"]) nofun;have pK:DMk l.prog w K mg base CX0 3 gA ["self","letters"] (Zv K):=#[_,_,#[oB,lS,iO,oE],ui B iQ D1,nG];let#[_,iw]:=iX;have mQ:=iw.kp;have mS:=iw.binds (ps:=["self","word"]) nofun;have oV:DM l.prog w K mg base CX0 1 gA "weight" ["self","word"] Z7:=#[_,_,#[iW,ir,mQ],wQ B iw,mS];let#[_,mj]:=lX;have pL:=mj.kp;have pM:=mj.binds (ps:=["self","word"]) nofun;have pN:DM l.prog w K mg base CX0 1 gA "seen" ["self","word"] Js:=#[_,_,#[lV,lY,pL],ZZ B mj,pM];let#[_,iK]:=iI;have ol:=iK.kp;have om:=iK.binds (ps:=["self","word"]) nofun;have oo:DM l.prog w K mg base CX0 1 gz "seen" ["self","word"] Xr:=#[_,_,#[iH,iJ,ol],qg B iK,om];have TT:TWS l.prog w K mg base gA gz gA:=#[TO,pK,#[_,_,#[mG,fiR_init,iO,mH],ui B iQ D1,nG],oV,#[_,_,#[fiR_weight,ir,mQ],wQ B iw,mS],pN,oo];let#[_,iR]:=md;have nH:=iR.kp;have nI:=iR.binds (ps:=["self","word"]) nofun;have nJ:DM l.prog w K mg base CX0 2 gA "rank" ["self","word"] (jN gA gz gA):=#[_,_,#[lZ,iP,nH],ug B TT iR,nI];have DRk:DR l.prog w K mg base gA gz gA:=⟨λC h=>by rcases h with e | e | e; (rw[e];exact#[TO.cO,nJ]); (rw[e];exact#[TO.cR,#[_,_,#[fiR_rank,iP,nH],ug B TT iR,nI]]); (rw[e];exact#[TO.cO,nJ])⟩;let#[_,iA]:=iZ;have mT:=iA.kp;have mU:=iA.binds (ps:=["self","one","other"]) nofun;have mV:DM l.prog w K mg base CX0 3 gA "before" ["self","one","other"] (U8 gA gz gA):=#[_,_,#[iY,iu,mT],va B DRk iA,mU];have DBk:DB l.prog w K mg base gA gz gA:=⟨λC h=>by rcases h with e | e | e; (rw[e];exact#[TO.cO,mV]); (rw[e];exact#[TO.cR,#[_,_,#[fiR_before,iu,mT],va B DRk iA,mU]]); (rw[e];exact#[TO.cO,mV])⟩;have D4:=d a4 (λF=>jx B F) nofun;have D5:=d a5 (λF=>Ya B TWi F D4) nofun;have O6:=zck (P:=l.prog) (w:=w) (base:=base) B TF TUd F6 D5 D3;have D6:Df l.prog w K mg base (CXx l.prog w) 4 "gone" ["rules","word","most"] [] (xX K gF):=#[_,_,O6,M6,p6,λs us hK hl=>by let#[_,_,_,rfl]:=kr (us:=us) ↥hl;exact BindsTo.of_defaults rfl (hK _ _ oh) rfl rfl rfl];have D6d:Df l.prog w K mg base (CXx l.prog w) 4 "gone" ["rules","word","most"] [.int 4000 mZ] (xX K gF):=#[_,_,O6,M6,p6,λs us hK hl=>by let#[_,_,rfl]:=vt (us:=us) ↥hl;exact BindsTo.of_defaults rfl (hK _ _ oh) rfl rfl rfl];have D7:=d a7 (λF=>zcH B F) nofun;have D8:=d a8 (λF=>KT B F) nofun;have D9:=d a9 (λF=>Xx B F D8 D7) nofun;have D10:=d a10 (λF=>Xw B F) nofun;have D11:=d a11 (λF=>VV B DBk F D7) nofun;have D12:=dfm l.prog w base (XU B DRk (aN X G nsorted) HCH HBT hgT F12 HCC D11) M12 p12 (F12.binds nofun);have D13:=d a13 (λF=>jk B TMk F D10 D6 D6d D9 D7) nofun;have D14:=d a14 (λF=>qB B TF TMk F) nofun;have D15:=d a15 (λF=>ZX B F D13 D14 D11) nofun;have D16:=d a16 (λF=>Ub B TF TMk F D12 D15 D10) nofun;have D17:=d a17 (λF=>zbw B F) nofun;have D18:=d a18 (λF=>Ko B F) nofun;have D19:=d a19 (λF=>Ue B F D18) nofun;have D20:=d a20 (λF=>zb9 B F) nofun;have D21:=d a21 (λF=>J8 B #[ki,kb] F) nofun;have D22:=d a22 (λF=>zax B #[kl,kt,kbb] F D21) nofun;have D23:=d a23 (λF=>zcY B F) nofun;have D24:=d a24 (λF=>zbE B F D23) nofun;have D25:=d a25 (λF=>KZ B F D24 D23 D18) nofun;have D26:=d a26 (λF=>zd6 B F D23) nofun;let#[_,lJ]:=lD;have rX:=lJ.kp;have pq:=lJ.binds (ps:=["self","order","rules"]) nofun;have pA:DMk l.prog w K mg base (CXx l.prog w) 5 gD ["self","order","rules"] (qZ K gA gz gA gC gD):=#[_,_,#[nY,lC,lE,nZ],kh B TD TS DBk lJ,pq];have MS:MkS l.prog w K mg base gA gz gA gC gD:=pA;have D27:=d a27 (λF=>K3 B F) nofun;have D28:=d a28 (λF=>Xt B F D27) nofun;have D29:=d a29 (λF=>zcV B F D3) nofun;have D30:=d a30 (λF=>Uh B F D6 D6d) nofun;have D31:=d a31 (λF=>UF B F D29 D30) nofun;let#[_,il]:=ij;have nA:=il.kp;have nB:=il.binds (ps:=["self"]) nofun;have nC:DM l.prog w K mg base CX0 1 gD "rules_told" ["self"] (Zx K gD):=#[_,_,#[ig,ik,nA],vG B TS il,nB];have O32:=zab (P:=l.prog) (w:=w) (base:=base) B TS F32 D28 D31 nC;have D32:Df l.prog w K mg base (CXx l.prog w) 7 "unmet" ["system","most"] [] (uJ K gD gF):=#[_,_,O32,M32,p32,λs us hK hl=>by let#[_,_,rfl]:=vt (us:=us) ↥hl;exact BindsTo.of_defaults rfl (hK _ _ nz) rfl rfl rfl];have D32d:Df l.prog w K mg base (CXx l.prog w) 7 "unmet" ["system","most"] [.int 4000 ow] (uJ K gD gF):=#[_,_,O32,M32,p32,λs us hK hl=>by let#[_,rfl]:=Ye (us:=us) ↥hl;exact BindsTo.of_defaults rfl (hK _ _ nz) rfl rfl rfl];have D33:=d a33 (λF=>Yl B TS MS F D10) nofun;have D34:=d a34 (λF=>qE B F) nofun;have D35:=d a35 (λF=>YN B (aN X G nany) TMcc F) nofun;have D36:=d a36 (λF=>uU B TF ⟨sFF⟩ F D16 D35) nofun;have D37:=d a37 (λF=>jF B TF ⟨sFF⟩ TMcc F D32 D32d D33) nofun;have D38:=d a38 (λF=>Wm B F D29 D9 D10) nofun;have D39:=d a39 (λF=>Xa B TMcc F D34 D36 D37 D38) nofun;have D40:=d a40 (λF=>Xz B TNw F) nofun;let#[_,ml]:=mh;have rZ:=ml.kp;have pO:=ml.binds (ps:=["self","letters","table"]) nofun;have pP:DMk l.prog w K mg base (CXx l.prog w) 4 gB ["self","letters","table"] (uq gB):=#[_,_,#[oK,mf,mi,oM],Zl B CLw ml D1 D40,pO];let#[_,lK]:=lG;have pB:=lK.kp;have pC:=lK.binds (ps:=["self"]) nofun;have pD:DM l.prog w K mg base CX0 1 gB "rooms" ["self"] (qU gB):=#[_,_,#[lF,lH,pB],ko B CLw lK,pC];let#[_,mM]:=mK;have rd:=mM.kp;have re:=mM.binds (ps:=["self","room","word"]) nofun;have oa:DM l.prog w K mg base CX0 1 gB "led" ["self","room","word"] (j3 gB):=#[_,_,#[mJ,mL,rd],Xg B CLw mM,re];let#[_,ln]:=lg;have oW:=ln.kp;have oX:=ln.binds (ps:=["self","one","other"]) nofun;have oY:DM l.prog w K mg base CX0 2 gB "parted" ["self","one","other"] (vA gB):=#[_,_,#[lc,lh,oW],jo B CLw ln pD oa,oX];let#[_,lr]:=lj;have oZ:=lr.kp;have pb:=lr.binds (ps:=["self","pacts"]) nofun;have pc:DM l.prog w K mg base CX0 3 gB "broken" ["self","pacts"] (qc K gB):=#[_,_,#[li,lm,oZ],j1 B CLw lr oY,pb];have D41:=d a41 (λF=>kj B F) nofun;have D42:=d a42 (λF=>qD B TM F D41) nofun;have D43:=d a43 (λF=>Wo B F) nofun;have D44:=d a44 (λF=>kd B CLw F oa pc) nofun;have D45:=d a45 (λF=>ke B TM CLw F D42 D41 D43 D44 pP) nofun;have D46:=d a46 (λF=>kz B TF ⟨sFF⟩ TMjj F D6 D6d D10) nofun;have D47:=d a47 (λF=>uA B TMjj F D46 D9 D7) nofun;have D48:=d a48 (λF=>ud B F D45) nofun;have D49:=d a49 (λF=>Qa B TO TM F D39 D47 D42 D48) nofun;have D50:=d a50 (λF=>VL B #[kl,kt,kbb] ⟨ks⟩ F D22) nofun;have D51:=d a51 (λF=>XW B #[kl,kt,kbb] F D21) nofun;have D52:=d a52 (λF=>Jr B #[kt,ks] F D22 D51 D50) nofun;have D53:=d a53 (λF=>zc3 B ⟨(aN X G nmin)⟩ F) nofun;have D54:=d a54 (λF=>zcT B ⟨(aN X G nmin)⟩ F D53) nofun;have D55:=d a55 (λF=>UN B F D18) nofun;have D56:=d a56 (λF=>Kw B F) nofun;have D57:=d a57 (λF=>K4 B F D17 D56 D18 D20) nofun;have D58:=d a58 (λF=>zaq B (aN X G nsorted) F) nofun;have D59:=d a59 (λF=>Ql B F) nofun;have D60:=d a60 (λF=>zeq B F) nofun;have D61:=d a61 (λF=>K7 B F D60) nofun;have D62:=d a62 (λF=>km B F D59 D60 D61) nofun;have D63:=d a63 (λF=>zav B F D53 D62 D26) nofun;exact zeh B TT F64 D17 D19 D58 D55 D54 D49 D63 D57 D20 D26 D52 D18 D25
def walk{l:PySem.W.OpenLaw}{q:sH}{loose:List sF}{XP:(sF->Option sw)->sV->Prop}{YP:sM->sV->Prop}{d:DefRec}{K:Params->su}(hn:l.most=AQ 63)(hdf:d.params.defaults=[])(hY:∀(w:sM) (h:sV),YP w h->(K w.params).In h) (hj:((PyProof.Rows.recsOf q).find? λr=>r.name ==("in_order" : sF)).isSome=AS) (hno:∀w:sM,zcO (K w.params)=AS)(F:∀(w:sM) (mg:sF->Option sw) (fa:sv) (h:sV) (cc T:sv),(K w.params).In h->h.Ns so mg->mg d.name=AQ (.ref fa)->(∃a o fd,mg "in_order" = AQ (.ref a)/\h.get? a=AQ o/\o.data=.func fd/\fd.code=.ref cc)->so≠T ->
   ∃fd:tM,(∀(s:sy) (u:sw),An s fd #[[u],[]] [("_law_script",u)])/\∀base:sV,(K w.params).In base->base.Ns so mg->base.BuiltinsAt mg T->PySem.W.CodeHd base cc T->FnOk l.prog w (K w.params) mg base CX0 12 fa fd ["_law_script"] (WF (K w.params) T)) :
  PySem.W.WalkO q loose XP YP l.row.toRowW d [] (λf vs=>fS f vs):=by
 let#[din,hd]:=Bk.mp hj;have hnm:din.name="in_order":=by simpa using dZ hd
 exact L3.walk_ofT (n:=63) (k:=12) (x:="_law_script") (CX:=λZ=>CX0) (din:=din) (sp:=λw T=>WF (K w.params) T) hn ∅ hdf #[rfl,∅,∅] (eV hd) hY hno (λw mg fa h cc T a b c e g=>F w mg fa h cc T a b c (by rw[hnm]at e;exact e) g) (λZ Z a ns T hl hB hT hS=>#[a,ns,rfl,hS,hB,hT,λZ=>rfl]) λZ Z Z Z Z z=>z
end LL
namespace PySem.W.Fast
local macro_rules | `(#print $s:str)=>do let c:=s.getString.toList;let d<-(List.range (c.length/10)).mapM λi=>`(def $(mkIdent (.mkSimple s!"tw{((c.drop (10*i)).take 10).foldl (λa x=>let n:=x.toNat;a*86+(n-36-if n>92 then 5 else if n>64 then 3 else if n>47 then 2 else if n>45 then 1 else 0)) 0}")):ident:=Nat);return Lean.mkNullNode d.toArray
#print "'U_ADi4X*pa_qg)&%hu<S{m03yhY=jLhb9.<CSr{Y+^,)z>j$T(c5a9n4MB}d:ip.b}&aV0S`EwfuFH;6NoTYK]Enja`:NO{(&|6K81)fjnDkOL):2v4*p?Kh;qy(qBdF6ALmjq'v;I32T)Yu_yhws_3Y.FlPgwpk+;N4PGY:E*=d=A=*L5GBL%mTu*bOFCqXG3l?JGyolC&FGwk4H&FE.BMD&jhJ(c$&|yE)5B'Z'?pzkr16Kw&pps]6*MGGx6?.L}&5^h5|60JU,aGS2M:L>ZW%lT9'xGVF|)2]5br]]KM,6%I+yQ~G;A$I;|x&=:y0tc}A<DH)'f;28:1IDOv_:}_:nZg$.Scw$AV*41aQ{Sb,t_1)9dPH%wk*6~.K%P1hw0++3Q^ca?+W4b|=x]N8FvqlDm*0v&dSfdg%xE9PRcL=HFOPT1H7gb%VcOrH*e<40h4'`Mhjxf7$bYH:r>;MWWP4~7dcELh+%Ao<~~0+d]v<z3.+%'V(<mX^U<qspJ>(g}=ZOhXB0znNQT0sw0GQ(|10Oa?354Z(05Q2SgZ`A62LYn'9_My|eV8,t?3nIJ5Apen%PnaB'xx$n8f2gMrXBa3Y<qoE<bPz)%&%*e{n,Z;'YV%|Gh=sGBj1}wLpK%13&&rl+g3nRa3:{2IPqE+]07,davOY*.lT'9;xNmXeEi`u},:F<0*.hn8YrtK5]xGAZ|gYn.0D25lCz*_;.`7}4PBA(B37I9'1O'xhC>?v~}}|_lA~QuJ~>96)r'n_K}mc]ellQIAmiD%3E$ckkT%^GZ*Mj2f=^'U=N^]MW1?Qs?7<griwnXTPXhMMe~_b)*+JoGT;<%L`1}``3y4_XHqD;taUB5H47*X?Z0k(a;J:BZ6_iY??mg3G;'x{0R'x,WD+YRD6%z~tF8]w,Va$L83D?V,n|cFV>R*a<g3cvB|w6B_:w|q9N:XU.``Xy<`X>=]`>Ex%oQ>W1C.0oQxX,*t?wOAQQkxyoTT+<V<BkQ]jjj~7+ti(CT;`Xg~l;|;g{pse&0sro2DJKYQ_k0}$V'u~CIcK=nz0S>&El8oba'h{]y0.ZiMjuRy?ZN7Co)0sSu9ktk3qKmdyscUiAu{roT0:4O?n<SYNVRc_;V9%6M8YH+GDdxC6cY30U<KHvp>d+8`pV8]v=pGaBnK,fJX|n(ljF}oI_rub~}k.VukyVibb9%'G^:c(aW3]qvxjfU:)7Bs_s8FZ)xOx*c:91h:>>yj+*es>}'&igqDb9FfqHvwaj*PNqEjdKfyG.pBjRCujFcv;'639bZ)=;DXi>ss}>+%1jupRf:~_PCe;k_{_+J?CV<C2HLqkNY+Y_bqRzgdcPltmlcg~E:Wq5aNsKmsk+pMsN8gRiFC|IOJ`g|R)33cI71,yQcsj=VJr=WHJ69<?xFzPmS5,'Nj>PcwLj:xI4)AR5mV?c2q3E~kcHZn+$C%?T=O`oHcrU8o6Q5)=ZDnp)b]=p~rM,Sh]I`o0(<<Q]mp:;?m.L0^Ej;&;Rl*lmM(laF*{U]8Lt3c{y3%{I>gu(kE,s39'nHF%Mi<UB'eBGAb?w.K8%h.e8N$qV%g$3XP>LixI1,pH4G3%2A<8Y4OPSu8=F]Dat9x7~6`;r{bR8:~eDZHR8UHo5^^TUi:w*?>cead`O)_tzNJ{9l<tq185gf{bNodM&WM'z$]3>)$3xQaQ.sYOb.UgD>:Pc3BBQBrLcDSAqo>Y>%gUX7Af])cqVU6&dm,=SL];v4^ij4x$b1cC]2Yb}by&z3c&|%(GU~O1nRh:~vAutYM,j$XwH.|,R(|kWLT{ZNT5JarRue+7+_uXid&~'w7(bZH?IM,CD+FJBn;|bOlRx}&)vngi'2FyJ2q+RSIEmY)H$4g)*`+D%pLD(*cWz'NTv9vuu`Ym%_Obz)?pFt?51*cC5Pfn+$.5;^f*&a3gimNP=7zU,jymQA0%PCkRS_`ion^dh&u~r{Q={dlheDy|M'6mA+uI*DTc}dXgx_r0o;B^s>5^c&Ol>JNdy>=x+C+H;%qYO;FbPO))IR26~hoP>.=+L9K90O&_USwmtSMX7x^Piwk?<Yw`%z:ay'v2w9<Cgm]niabpOnpsX4hNb4VyD=jFQ`1H]zCVtOT9,8E~,igo|9hn`X4^HXx3Ud:S0a|OfBj27KU{SV.MrEEuIs$:nQ=OIqv;$&=`7OWRz{UeOrsO;x~2sIrx8U${A+IMw:.XO}Z8M+RP:Y3N,s,U02yLU5T^VgZRz<bw9cM4:D}bYc>L%ALDdu,V%i57.CLF_~9w(I{onhjDSzTLpH1JR9luR91Hypu(;u~6w,}qFmKIdA~w9'FwwJg&0]*M`JfFGMzwQaP:00j%}Nm1{W*69>$8SNIRY9;jb0<7ns)TgN%bZVi2MnB%6)*y]I7vy%J;>bK88z>n`l.$<zMC<)p='EAr>o`h35h$&kK]D.;~|>|d,X;E5hc'MW0gTmcegBE+Y)B*pTJiq(|Lwn8P$+i6mimLxEOYHn=a64ZTM&iUAEadv)t69P^zKI0Tmyu.Zw},a~5>6WKkwodx&1qiNe&_muUn?%Tak5$h<wR1%EZMqnh^bU4kh1ZoG4Nq8Iv932aJ+OAQBeP+:UX4u]nfl8Fo~HWZp.aKas6=,4Z9{JuW+e3tJ.~c}v16Q~~g5iI`JK*wz0E306:6_QfFLpowR.c{Egw&.(unOMo&=q^brQ35yDK)}r33YZ.9A98L%(roNf(md2gztL^SVQ0_)l+`E)%*JA(I(J>b96Qp8C%zo&V_IH=Bb1nf%w,h`p}WSG1=1)(fS=(E+g*b'2UyHc:pyF,5I%(%^2P9{^3g%3:*jL^JV>s&=^r_yXw:gD{5sUx2t}6Q3iOI'G{_tSiHGRMCyni>_RNs({$qLk4.VP*NowPWuTQ&P<fZk2g+bzPEY()denHVeNzM,ZL$.8<TxKl9qeH6EXHD=1l32_zv:]hbs?<6Qn&cRG_6Uv9lh7=SnV,h~ByLXaFx%_IfT*Kc]r*}b_i8Ac_=zn=&.Q6HOgFg.}'Rqf0d4>TDIg])~'zu|sx|B3qx2GaG,%6A_$HFqw={6L.hhTmhNCPjID<f9uXo|>}UAeB:&&3FlKqme{xk40?kLT~%BrtB)IxA{51EEgpu~9v>'R$:^^E>u*ylH<`96B0$3a8`A}THXaT&s?)|cKyy,r1.(:*(LI6;d_y`4<+8zS2W2OMheYHAUl]ftIAF'gbj?rsNMlUoAVE9cUcfR~4&_0^.2;|gD%u']Q22F^d;yJ;9Ts^2T$4y?jfvURY,5vUmwhYyu)QC;(Jk(X|fz?;b54Qe%=UM_oCWv}XOiU`6RK7;J&|^0o&2p*Q]`j}<|*U%GMvP+wVye;7=dy3'nP^HgeSdyYBK5`S>^AihV1F^UAIqHZYVoh7%c6g>']+>t=BfYtAiVE$klR%DhYr$0>fKIXj%nHVGzdY^1s3>C]Y}wOWlG:6Ak2_`zAtOMbfX::xJf:nG,$iOl'UNa=6}lO0]yt8PtGh^rSjml^_89KcDGIkbv)h?_BW6h(KLPI=uVg'PIW20Eh4N:^HA_tejz2hNT4Cz{NymGd~QpG~xR$.'LTY%y_*jxNYt9wmr{H~oYtEQwyBe>GTv|f7m*(|TbNNF}jzE]('cY0.hcR0P:,7?.Z8DpW.:KgLw$)f(09;9WK'$nT^Z:7HK]T+&*]4WTeB^Ug}2LTo+M8z*(f=7Ez)u1>&clq]$oqqjdM,Z{$c.++5cw3NOPa{]O280sg~^(:g4]gQ*}Q<LsMPE^rP(43e'aG{e%nl%'%Z(HNTj995mG_=EGfo+4}Ha3^zeTTSk)4n]lv$6+cp|3Pa~PPL_*C`OYg]PYde)%Sk=5`UCShENj,.F+x{Zqqw'L;'`V0d|;}z1%n`b<q,(^M`Q=]{4(xDNh=f95W%xp)]r~ZnBglVVB*1bkj~{e':o:;00Uu$nR*REa<gaGn'tKma_3I}B:T:]u|y|SAlJ9$VL)'jd1;NuleL~ZasIZQ:djNrI6ofIGL1l+jp`1Rp&8j_iEs)G&|e^FpS0e>3QoH]5MPx6sHsaxR;]6cxQ3*+^)$cQ?;Srd3=P*?2SxB?)c1XRjD0Zg5pu:D{}4Jr>D%H%|35`Q>aAAJo1i9U%5WYa6c%S.7HVS3<WnxB%xM`gw_08AA]48F'OnDfQbdafjGJY..qoMOd%94&m4KS:QJFAxH*5e<C7o2m5aypL]QhayG$gZ^GPTNc9q<YVG{<G|.&&8B8}K%3:9<g8RIZa]j)~O9pON>C2WyRZlM5raYppM]=jTe?'fosBy)sd7OYG,Vmuq4ggqQy=?'kS+:+.lkp0<>S=<.9y136DDakQQEg1%EJ$<C&~e+h_(U`*KOsI4Nw)fJy+:5}2L.9kgDj`rNz1IE~Z8N~S|k7zW`rZWc0`*heo|$%h=VO9;g%KaaemW<OIA,ShV?rL$lx3rjTe7|dO~b.+Y<hi.w7m4Gp.`$]?~ZR6UgX'07c3~1UhA5vqkz%1{>NW8DHLJiQ_AQN,QL=1U:QyCMt5U8(A:V*0wr?cu'()NLl.oxd:cgD_A'S&O'G)+1M}<gMF=Z(S]Mzal,hrjz0QUgLYzmt9?0YfdS91Am90,IBZg7X>8Gp;<+:T'X))$`lceSelAh(5FSja?=jw*oG7Xx(|ff+`+Nf]_hZDFVR'^TxkW0%lC6`O.H`V{J8S~b1wKPZ2e,=qrA.0uxU$e0ccM8;KFBB_hUd<cu<(Nr)}OWqKUkFzcGYfB}_'I^UgzIGPCB3FW~{Aw]O5{A+U4*'}opS{|z~Zk~<^y?KUIl+L?E5yhn(f_*4V:)H:E.c{6_|=Hgs|MOSM=6D2mp3f,A)0z6,W<%KM~mP8M&|RtTP&~lQ`OqU3q0gkQhVrPBm24O7IV3(Lqag^&O3+zAzB3UpKZdSeHHyHEkDprP29{]lcha;WAWvNzneROF+sY},:3qEds&asa;&f|0D11zapq1Lf)WcFaVcwn3eFft'NiLw5+S;yH)Lf&odVE`bm?8R>_1sS6y4JETLjVsmtJNhKgJZuX&Y(.S,zevm~Ypt^?UQQl%Q]*%aHw%%<Hx%5ZH'|h%,hC7]=zCzZA7<0MW:~uV.Dx:_5xrfw'|()5,_4m<`;qOQwX?,YKv'<3r:f9Mh:E:e`NXcuqhnY>2Xt?CF2G^VW=|MKN{]k$zsfO6.tt4o|t3{528Oh3?G}mg%)SOnBt)v_])r4.,?4w9^s:XRx%_'^C$0S}o3Ym1.Vs]kw1'f>`&~Pm('bUl&Hm+|CT|}P4irb(d>pv?fJk5uAKsKxYLYUEt'kEbHJ*?i>;pYFN9Qe8>N0758gk+jHh6(SrbuO<NQ<q7c;<;n8c}arGf|.)}rL2wQz9Q`r17D?$?:^:8}OnDKcnO}%15{dJ(tL~^F8YK|QqXM6;vTu%dm4zOfL^Q2m~CUXK&U]urv1B}~Swu`ph&TT1%piE$vAKp$ou&m<8X6J'J.&rf`ATeL<=sL|mcGnAwnYT~_1lbeKr1mf{Tv;hWfP|fSjecnr|:I]MYFyUHJkza<JjeBD0~9`Jn^1.3y4q_5FqmYDQ>9JX^6JS3Y9&pklAt*:C+R{7.N&bv31UozN92?{+d4jcC?p:wO%mxpM<?tsdHMrgcL|}%,joXKb7Ev)]Y6f51thI$XRr}f%x)QQ3e9mJbSmO&P'?='],5~]2LYj7=}ycJ1DJlo*2Z2<2+6?2P&48P~gg{K6n+]{)|X?HD'|,okxE{1){HK]B;6h2Q'T=JH<Shb34NW$m&|:DHOqYK`I&z)a4;lrPW09LV1vAjPUKyE*?z^Y6'wlFmst(4QKJn.f,Cjm*HkVkOon|qkV~F=JGwwo>Y?'7`:U?,^c27;.Z0^wKxX]8k5]rW?znRT](qaDZur_Z2<>vfT(S)?C1]Pv&5E?$g_WuBp^ArN$*0Kan{.L^%X?zgEwsl<dGL5;3&_Lbe):Mcs|'ze))9QoxI5T<Exk(U8c`B8%Ch6.q?RaepZ$%TR$5HzeY<YR0,q~{'pgBJf)IGi>M.6S}4j7O'mZk6O6tB?fT9y,h1V~,Cg_)|]9;7idWk*I5Y86g]JP(pnx1(_O1%UjQ?5&Xl:(*B^Tj8qD.wMt1rFQg;>U,ZFbUJnjQ3V5q8geZb}jGQE}KtE%N$+8J+M9k7dM8%hV;Sk0]d1CL.GFAjRMN5Gi?i|*M)E9D25yxQr$Y5r^K^eY?pH%EQN4NV1uq,i|T6kW^7EbMt5Wlg:gWG%=<5J8m=?1l:)d)EaeA;aE^e7)|KBW`avSt1R7GP|5%AdD}EZdH:pT_2f&]*hAfp`3<hL5'Yrj}djD8^HFb~tkd99|3UTFj.58Z{:oZ(lQFng;R6|*1.toi;Om'gSH0+lZXWlj:;Spbcp`z2KG'13Cll6F(?7kD:HXzcQBHDRX%4^we&&RvgszD1n3Nw9,KQR*x$OdAhlAs`iJR{NkqX?,4>+,dg?Bs_M'bD|fdw1`]CH<4|^M^DT0RJ|Y(czVD^=2mHj2|DYUS^`VH'0zr1P)0}K(HoV%yTMr8vOy6Vi{}Nogq*C&0D0CN;J=}X~._i),^7x>8Btx&qA*'^.*+.ML~aij4T8`(L`]Sos:$7O]QJpnazA=d2J{xO+zQco_*fcJ6k8`1a~Z,$YFW1*N4=thf}5M&imxTZtvXzVV.{G(oG(rA]]Dx,R)qc%?N9tB&TCeJHXd?PQq?r7'T,y5'$PhTOH<LF2N{<FLe|uKWNPZ>s$xO1XO~^rbvp)bbO`,PNGs',MCCYWsNuBpXL*+3yb(9O+ei2;o=R7$tK.)r>:G955s?6w*%T+?q=}'+kat]Z':)kjlH{Znc+MTY;^yn3:d>]xO;={p*uip(0Zh%D=YaV5oR3$p$wI{jN91).($+)6'}I:Fg+Ke^A5q,mIL(3~MTvukG3Xi8q0E)C??y_]1ABN7]X*?`'Mwf`XJ8BJIIvK5rXbC16'8XcH??iu4{Cn<'%mvAm86>S:~RDk?sA^CrF`ut]|Iq'^L6SRq1]4dEHpojMCz}C5XfPPyzd:)zK(|{G{v]krkIblu&4wVl'S77W=ynO26c,%a|PeSsf8vDzHkcD]4egGfzSV3mGZ{fL<yz4q;19b9pVEY<S7rT?G7|Wcd(1GYD=EQ0W`Ek]w;k6Fkv.|TM;w$o&s6A(Gl&5]l)Xn?ps>h,$c_V~?j&JUmFVq;&{?*ke$0z~=~xDvYWSeC]>n"
end PySem.W.Fast
open PySem PySem.W PyProof.Rows
set_option maxRecDepth 100000 in
set_option maxHeartbeats 0 in
theorem PySem.Challenge.cw_letterlaw_k90_whole_thin_lists_judged_holds : PySem.Challenge.rw_letterlaw_k90_whole_thin_lists_judged.Holds := by
 w_on;o_law;k_head; (case hw=>w_witness2)
 k_fill
 refine LL.walk (l:=PySem.Challenge.rw_letterlaw_k90_whole_thin_lists_judged) rfl rfl (λw h Y=>PySem.W.km_in_of Y) ?hJJ ?hNN ?hFF
 case hJJ=>first | kernel_rfl | rfl | decide +kernel
 case hNN=>intro w;first | kernel_rfl | rfl
 case hFF =>
  intro w mg fa h cc T KX G hmg hlam hgT
  refine' LL.all_mk KX G hmg hlam hgT ?a0 ?a1 ?a2 ?a3 ?a4 ?a5 ?a6 ?l6 ?k6 ?p6 ?a7 ?a8 ?a9 ?a10 ?a11 ?a12 ?l12 ?k12 ?p12 ?a13 ?a14 ?a15 ?a16 ?a17 ?a18 ?a19 ?a20 ?a21 ?a22 ?a23 ?a24 ?a25 ?a26 ?a27 ?a28 ?a29 ?a30 ?a31 ?a32 ?l32 ?k32 ?p32 ?a33 ?a34 ?a35 ?a36 ?a37 ?a38 ?a39 ?a40 ?a41 ?a42 ?a43 ?a44 ?a45 ?a46 ?a47 ?a48 ?a49 ?a50 ?a51 ?a52 ?a53 ?a54 ?a55 ?a56 ?a57 ?a58 ?a59 ?a60 ?a61 ?a62 ?a63 ?a64 ?l64 ?k64 ?p64 ?g_LetterError ?g_NoLetters ?g_Order ?g_FromRight ?g_NotTurned ?g_System ?g_NoUse ?g_TooFar ?g_NoWorld ?g_World ?g_TooMany ?kbb ?kt ?ki ?kb ?kl ?XIl ?xi ?most ?nk ?nq ?nv ?nw ?oB ?oE ?ny ?pY ?pZ ?rb ?mC ?mD ?mE ?mF ?mG ?mH ?mI ?nQ ?nR ?nS ?win ?XIt ?nn ?ini ?lI ?kI ?pI ?fnI ?nU ?nV ?nW ?nX ?nY ?nZ ?no_System ?nr_System ?XIu ?ua ?iniU ?lU ?kU ?pU ?fnU ?XIf ?vi ?sFF ?XIq ?nwi ?mostr ?oF ?oG ?oH ?oJ ?oK ?oM ?oN ?nt_World ?XIm ?wi ?mostt ?ks ?nmin ?nany ?nsorted ?mou ?mos ?mod_ ?mop ?mcu ?mce ?mcd ?mcp ?mju ?mjs ?lS ?lT ?iO ?iW ?iX ?ir ?lV ?lX ?lY ?iH ?iI ?iJ ?lZ ?md ?iP ?iY ?iZ ?iu ?lC ?lD ?lE ?ig ?ij ?ik ?mf ?mh ?mi ?lF ?lG ?lH ?mJ ?mK ?mL ?lc ?lg ?lh ?li ?lj ?lm ?oh ?nz ?fiR_init ?fiR_weight ?fiR_rank ?fiR_before ?b0 ?b1 ?b2 ?b3 ?b4 ?b5 ?b6 ?b7 ?b8 ?b9 ?b10 ?b11 ?b12 ?b13 ?b14 ?b15
  (case a0|a1|a2|a3|a4|a5=>exact#[by k_is,_,L2.fun_mk (by k_is) (by k_is) (by k_is)])
  case a6|l6|k6|p6=>k_is
  (case a7|a8|a9|a10|a11=>exact#[by k_is,_,L2.fun_mk (by k_is) (by k_is) (by k_is)])
  case a12|l12|k12|p12=>k_is
  (case a13|a14|a15|a16|a17|a18|a19|a20|a21|a22|a23|a24|a25|a26|a27|a28|a29|a30|a31=>exact#[by k_is,_,L2.fun_mk (by k_is) (by k_is) (by k_is)])
  case a32|l32|k32|p32=>k_is
  (case a33|a34|a35|a36|a37|a38|a39|a40|a41|a42|a43|a44|a45|a46|a47|a48|a49|a50|a51|a52|a53|a54|a55|a56|a57|a58|a59|a60|a61|a62|a63=>exact#[by k_is,_,L2.fun_mk (by k_is) (by k_is) (by k_is)])
  case a64|l64|k64|p64|g_LetterError|g_NoLetters|g_Order|g_FromRight|g_NotTurned|g_System|g_NoUse|g_TooFar|g_NoWorld|g_World|g_TooMany|xi|most|nw|oE|ny|pZ|rb|mF|mH|mI|nR|nS|win|nn|ini|lI|kI|pI|nX|nZ|no_System|nr_System|ua|iniU|lU|kU|pU|vi|sFF|nwi|mostr|oJ|oM|oN|nt_World|wi|mostt|nmin|nany|nsorted|mou|mos|mod_|mop|mcu|mce|mcd|mcp|mju|mjs|lS|iW|lV|iH|lZ|iY|lC|ig|mf|lF|mJ|lc|li=>k_is
  (case XIl|XIt|XIu|XIf|XIq|XIm=>exact#[#[by first | kernel_rfl | rfl | k_is | decide +kernel,by k_is,by k_is,by k_is,by k_is],by k_is,by k_is,by k_is,by k_is])
  case oh|nz|fiR_init|fiR_weight|fiR_rank|fiR_before|b0|b1|b2|b3|b4|b5|b6|b7|b8|b9|b10|b11|b12|b13|b14|b15=>k_is
  (case lT|iX|lX|iI|md|iZ|lD|ij|mh|lG|mK|lg|lj=>exact#[_,L2.fun_mk (by k_is) (by k_is) (by k_is)])
  (case kbb|kt|ki|kb|kl|pY|nQ|ks=>first | kernel_rfl | rfl)
  (case nk|nv|oB|mC|mE|mG|nU|nW|nY|oF|oH|oK=>first | kernel_rfl | rfl | k_is | decide +kernel)
  (case nq|mD|fnI|nV|fnU|oG|iO|ir|lY|iJ|iP|iu|lE|ik|mi|lH|mL|lh|lm=>first | kernel_rfl | rfl | k_is)
#print axioms PySem.Challenge.cw_letterlaw_k90_whole_thin_lists_judged_holds
