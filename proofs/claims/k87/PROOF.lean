import PyProof.Rows.All
import Wide.All
import OpenK.AllK
import Wide.FinOn
import PyProof.EqAt
import PyProof.EqKinds
import PyProof.NeKinds
import PyProof.TupleCall
import KE.KRevIter
import PyProof.ZipIter
import PyProof.Rows.SetFrom
import PyProof.StrWalks
import PyProof.DictStraight
import PyProof.DictDisplay
import PyProof.StrLawsFrom
import PyProof.Rows.StrNews2
import KE.KMinBuiltin
import PyProof.Rows.CallKwBuiltin
import PyProof.Rows.SortShell
import KE.KSortTup
import KE.KBoundM
import KE.KLam
import KE.KDictLaws
import PyProof.DictWalks
import Lean
import PySem.Challenge.RW_letterlaw_k87_papers_looked_at
set_option compiler.extract_closed false
open Lean(mkIdent)
set_option tactic.hygienic false
def zzP(s:Lean.Syntax):Lean.MacroM Lean.Syntax:=s.rewriteBottomUpM λs=>do if s.isIdent then `(rcasesPat| $(⟨s⟩):ident) else if s[0].getAtomVal=="#[" then `(rcasesPat| ⟨$(←s[1].getSepArgs.mapM λp=>`(Lean.Parser.Tactic.rcasesPatLo| $(⟨p⟩):rcasesPat)),*⟩) else if s[0].getAtomVal=="_" then `(rcasesPat| _) else return s
local macro_rules | `(tactic| let#[$a,*]:=$e)=>do `(tactic| obtain $(⟨←zzP (←`(#[$a,*]))⟩):rcasesPat:=$e)
local macro_rules | `(⇑$a)=>`(.str ($(mkIdent `tx) $a))
local macro_rules | `(tactic| rintro $p* : 0)=>`(tactic| (rintro $p* : _;right))
local macro_rules | `(↥$a)=>`(by simpa using $a)
local macro_rules | `(%[$a,*|$n:num])=>do let x<-`(none);`([$(a.getElems++Array.replicate n.getNat x),*])
open Lean in
local macro_rules | `(mutual $c* end)=>if c[0]!.raw.isOfKind ``Parser.Command.section then do let m<-`(noncomputable def x:=0);return mkNullNode (<-(c.drop 1).mapM λx=>do let y<-x.raw.rewriteBottomUpM λx=>pure (x.setInfo .none);return if y[0].getArgs.all (·.getNumArgs==0)&&(["def","abbrev"].contains y[1][0].getAtomVal||y[1][1].getAtomVal=="instance")then y.setArg 0 m.raw[0] else y) else Macro.throwUnsupported
def zzA(h:True:=by first | rfl | exact .inl rfl | exact .inr rfl | exact .inr (.inl rfl) | exact .inr (.inr rfl) | decide | assumption | (intro _;rfl) | exact ⟨rfl,rfl⟩):=h
local macro_rules | `(‹$t›)=>`(autoParam $t $(mkIdent `zzA._auto_1))
local macro_rules | `(end in $d)=>do let m<-`(noncomputable def x:=0);return d.raw.setArg 0 m.raw[0]
local macro_rules | `(!0)=>`(by decide +kernel)
local macro_rules | `(!-$i)=>`($(mkIdent `zi) $(mkIdent `r9) ($(mkIdent `pv) $i) $(mkIdent `zb))
local macro_rules | `(tactic| exists $t)=>`(tactic| refine $t (λvs H Q E h=>by repeat (first | (obtain⟨e,_⟩:=h;subst e;rfl) | obtain⟨_,h⟩:=h)) (λ$(mkIdent `cdv) $(mkIdent `A) $(mkIdent `outer) $(mkIdent `s) $(mkIdent `H) $(mkIdent `vs) $(mkIdent `Q) $(mkIdent `E) $(mkIdent `hr) $(mkIdent `h)=>?_))
local macro_rules | `(tactic| exists $t,0)=>`(tactic| refine $t (λvs H Q E h=>by repeat (first | (obtain⟨e,_⟩:=h;subst e;rfl) | obtain⟨_,h⟩:=h)) (λ$(mkIdent `cdv) $(mkIdent `A) $(mkIdent `outer) $(mkIdent `s) $(mkIdent `H) $(mkIdent `vs) $(mkIdent `Q) $(mkIdent `E) $(mkIdent `hr) $(mkIdent `hx) $(mkIdent `h)=>?_))
local macro_rules | `(tactic| rintro $p* : _)=>`(tactic| rintro $(mkIdent `Gz):ident $(mkIdent `hGz):ident $p*)
local macro_rules | `(tactic| right)=>`(tactic| subst $(mkIdent `hGz))
local macro_rules | `($s⁻¹)=>`(($s).heap.objs.size)
def sizL{n:Nat}(h:n.ble 9=true):n<=PySem.sizeLine:=Nat.le_trans (Nat.le_of_ble_eq_true h) (by decide)
local macro_rules | `(⋯)=>`(by first | exact $(mkIdent `sizL) rfl | lia)
local macro_rules | `(∅)=>`(by decide)
local macro_rules | `(tactic| erw [$[$a:term],*] $[$l:location]?)=>`(tactic| simp only [$[$a:term],*] $[$l:location]?)
local macro_rules | `(())=>`(List Nat)
local macro_rules | `(#[$a,*])=>if a.getElems.size>1 then `(⟨$a,*⟩) else Lean.Macro.throwUnsupported
open List renaming toArray→r8
open PySem.Value renaming ref→r6
open PySem.Value renaming none→p9
open PySem.PassesOwn renaming never→p8
open PySem.Builtin.Str renaming strSliceIndices→p7
open List renaming getElem?_eq_some_iff→AJ,mem_append→AK,mem_singleton→AL,mem_cons→AM,mem_map→AN,all_eq_true→AQ,mem_range→AR,mem_flatMap→AT,mem_filter→AU,nodup_cons→AV,length_pos_iff→AW,mem_reverse→AX,mem_iff_getElem?→AY,all_eq_false→Ba,mem_filterMap→Bb,any_eq_true→Bc,find?_eq_none→Bd,nodup_iff_count→Be,pairwise_append→Bf,pairwise_cons→Bg,mem_replicate→Bh
open Option renaming map_eq_some_iff→AO,isSome_iff_exists→AS,isNone_iff_eq_none→AZ
local macro_rules | `(tactic| symm)=>`(tactic| decide +kernel)
local macro_rules | `(tactic| nofun)=>`(tactic| exact⟨rfl,rfl,rfl,by decide +kernel,rfl,by decide +kernel,by decide +kernel⟩)
open List renaming length_map→aa,mem_of_getElem?→af,length_append→ag,size_toArray→aj,getElem?_eq_getElem→ak,map_append→al,getD_eq_getElem?_getD→am,length_cons→au,length_take→av,map_cons→aw,getElem?_map→ax,mem_cons_of_mem→aA,take_length→aD,length_drop→aG,mem_cons_self→aH,replicate→aK,map_nil→aL,getElem?_append_right→aN,length_nil→aO,range→aQ,append_nil→aR,set_cons_zero→aU,set_cons_succ→aV,getElem?_append_left→aW,drop_eq_getElem_cons→aY,lookup_cons→aZ,cons_append→ba,append_assoc→bb,take_of_length_le→bc,mem_append_right→bf,length_replicate→bi,lookup→bn,sum_cons→bp,drop_of_length_le→bw,take_append_drop→bH,take_append_of_le_length→bI,idxOf_lt_length_of_mem→bR,getElem?_take_of_lt→bU,mem_cons→bX,getElem?_cons_succ→bY,replicate_succ→bZ,length_reverse→cb,not_mem_nil→ci,take_zero→cj,mem_of_find?_eq_some→cD,mem_of_mem_take→cE,map_congr_left→cG,getElem?_cons_zero→cH,countP_cons_of_pos→cI,of_mem_zip→cK,contains_cons→cM,nil_append→cP,find?_some→cQ,range_succ→cS,mem_of_mem_drop→df,all_cons→dg,take_succ_cons→dk,count_cons→dm,getElem?_drop→dv,countP_cons_of_neg→dw,flatten_cons→dz,count_append→dA,length_range→dB,range_succ_eq_map→dD,map_take→dI,flatten_replicate_singleton→dL,mem_append_left→dN,forIn_cons→dP,idxOf_cons→dQ,eq_nil_of_length_eq_zero→dU,drop_append_of_le_length→dW,filterMap_cons→dX,replicate_zero→dZ,flatMap_append→d4,map_drop→ei,extract_eq_drop_take→eD,all_map→eE,mem_nil_iff→eI,getElem?_replicate→eO,getElem?_set_self→eV,length_singleton→e7,drop_zero→e8,getElem?_reverse→fg,getElem?_eq_none→fh,drop_drop→fj,length_filter_le→fo,mem_range→fq,drop_left→ft,singleton_append→fw,getElem?_set_ne→fz,count_le_length→fA,count_replicate→fB,take_nil→fE,find?_eq_none→fL,zip_cons_cons→fM,filter_append→fN,getElem_range→fO,length→fV
open PySem.Heap renaming get?_push_of_some→ac,lt_size→ao,get?_update_other→ar,get?_push_size→aB,get?_update_self→bj,size_push→bA,size_update→cZ
open PySem.W renaming findIn→ae,nsIn→aC,keepIn→aE,mg_of→aI,mg_none_of→aM,isFn→aP,callWith_K→aT,kitOne→aX,fnOf→be,kia_one→bh,emptyDict→bz,codeIn→bB,mroIn→bE,plainGet→bK,subIn→bL,kla_fn→bN,hasDictIn→bO,instObj→bP,methodCall_KW→bT,plainOver→bW,makesIn→cp,specialIn→cz,looks_findIn→cB,cellsFrom_some→cU,takesIn→dO,plainGet_of→dY,lookIn→d7,codeRec_of→ee,methodObj→ej,kitx_list→em,envX→eJ,takerIn→eP,bind_fn→eQ,callWith_K0→fG,kitx_tuple→fH,set_plain→fR,kitx_dict→fS,handedIn→fX,findObj→fZ,readsIn→gb,findCls→gc
open Nat renaming le_refl→ah,lt_of_lt_of_le→aq,ne_of_lt→ay,zero_le→aJ,le_trans→aS,not_lt_zero→bv,ne_of_gt→bJ,le_succ→bS,min_eq_left→bV,min_eq_right→cf,lt_irrefl→cw,le_of_not_lt→cF,lt_of_le_of_lt→cN,lt_succ_of_lt→cX,lt_succ_self→cY,le_add_right→de,le_of_lt→dq,succ_mul→dr,mul_le_mul→d8,lt_trichotomy→eC,min_self→eF,lt_or_ge→eG,sub_self→eM,lt_trans→fK,zero_add→fP,le_total→fQ
open Bool renaming false_ne_true→az,and_false→bM,and_eq_true→ce,and_true→cy,not_eq_false→cA,eq_iff_iff→cJ,false_eq_true→cL,true_and→di,or_true→du,eq_false_iff→dC,false_and→d6,not_eq_true'→et,or_eq_true→eR,not_false→e9,beq_comm→fD
open Int renaming toNat_natCast→aF,natCast_nonneg→bC,eq_ofNat_of_zero_le→bD,emod_nonneg→cu,emod_lt_of_pos→cT,natCast_add→eU,le_refl→fW
open PySem.F renaming plainAttrs_str→bd,slot_list_append→bq,type_list_append→br,plainAttrs_list→bu,plain_max_loop→bF,plain_min_loop→bG,slot_str_find→cq,type_str_find→cr,entry_max_loop→dF,entry_min_loop→dH,excBase_ValueError→eh,slot_str_count→eW,type_str_count→eX,slot_str_index→eY,type_str_index→eZ
open PySem renaming mem_of_lookup→bx,strKind→dh,frameOf→ef,passOn→fJ,call→gd
open PyProof.Rows renaming callWith_type1→bQ,boot_all→dM,recsOf→d5,boot_sum→fk,boot_min→fu
open PySem.Str renaming ofString→ck,empty→d9
open Decidable renaming byContradiction→cC
open Array renaming toList_append→dj,length_toList→fF
open Option renaming bind_some→dJ,join_some→eK,join_none→eL,getD_some→eN,getD_none→fY
open PySem renaming wpAny_bind→rK,wpAny_pure→rL,mainGlobals→rM,starEach→rN,sizeLine→rO
open PySem.W renaming Frag→rP
open PySem renaming Addr→rQ,Value→rR,Shared→rS,wpAny→rT,Str→rV,FuncData→rW,Program→rX,wpAny_Call_Name_kw→rY,compareOp→rZ,backTo→sf,Stmt→si,wpAny_noRaise→sj,World→sk,Heap→sq,wpAny_field→sr,wpAny_truthy_bool→su,wpAny_loadPart_at→sv,keywordEach→sw,wpAny_standAt→sx,strIterType→sy,wpAny_seqItems→sB,wpAny_holding→sC,Around→sD,codeAny_mono→sE,Expr→sG,codeAny_builtin→sI,wpAny_call→sJ,wpAny_tryCatch→sK,wpAny_setField→sL,backToKw→sM,bootBuiltins→sN,codeAny→sP,IsPair→sQ,wpAny_passesOwn→sS,wpAny_letGo→sU,wpAny_isSubtype_exc→sV,wpAny_execs_cons→sX,wpAny_setField_rec→sY,wpAny_updateSeq→sZ,wpAny_execs_nil→tj,wpAny_newFunctionEnv_cells→tm,wpAny_mono→tq,Obj→tw,sizeLine_eq→tz,wpAny_pyIter_list→tB,wpAny_newObj_type→tD,plainObj_wpAny_Assign_Attribute→tE,codeAny_call_function→tF,codeAny_call_builtin→tH,NameKind→tI,wpAny_pyIter_tuple→tJ,recursionLimit→tK,Scope→tL,IsZip→tM,BindsTo→tN,wpAny_comprehension_free→tO,wpAny_attempt→tP,wpAny_getItem_str_slice→tQ,wpAny_call_entry→tR,wpAny_Call_method_late→tS,codeAny_handlers_suite→tU,codeAny_handlers_test→tV,wpAny_updateSeq_pair→tW,wpAny_newFunctionEnv→tX,wpAny_loadPart→tY,wpAny_loadName_local→tZ,wpAny_Compare1→Aa,excClassObj→Ab,TriplesOk→Ac,Tok→Ad,Keyword→Ae,wpAny_handleBy_cons→Af,wpAny_onRaise→Ag,wpAny_rule→Aj,wpAny_Name→Ak,Env→Am,wpAny_pyIter_enum→An,wpAny_assign_Name→Ao,wpAny_Return_some→Ap,codeAny_func→Aq,CmpOp→As,wpAny_pyIter_zip→Au,wpAny_lookBehind→Av,wpAny_Try_except→Aw,Arguments→Ax,isCodeTable→Ay,Pos→Az,Paired→AB
open PyProof.Rows renaming envOfC→tu,AllBare→tG,subscriptTail_builtinR→tT,subscriptTail→Ah,Constant_none→Ai,Subscript_→Al,IntsAre→Ar,seqObj→AA
open Option renaming some→AC,none→AD
open Bool renaming true→AE,false→AF
open PySem PySem.Spec PyProof.Rows
local macro_rules | `(tactic| change $t:term)=>`(tactic| refine $(mkIdent `zj) (λ$(mkIdent `σ) $(mkIdent `H')=>$t) ?_ ?_)
local macro_rules | `(tactic| intros $xs*)=>`(tactic| (intro $(mkIdent `AG):ident $(mkIdent `s):ident $(mkIdent `σ):ident $(mkIdent `H):ident;intro $[$(xs.map λx=>(⟨x.raw⟩:Lean.TSyntax `term))]*))
def y9:=@if_neg
def y6:=@if_pos
def y4:=@absurd
def y3:=@decide_eq_false
def u9:=@decide_eq_true
def u6:=@of_decide_eq_true
set_option Elab.async false
set_option linter.all false
set_option maxRecDepth 100000
set_option maxHeartbeats 0
set_option compiler.extract_closed false
namespace L2
mutual section
abbrev Key:=Sum Int rV
def zbL:Key->rR->Bool
 | .inl k,v=>Value.isInt k v
 | .inr x,v=>Value.isStrOf x v
def zeX(w:sk):Key->Int
 | .inl k=>hashInt k
 | .inr x=>hashStr w x
theorem yp:∀{k:Key} {v:rR},zbL k v=AE->(∃i t,k=Sum.inl i/\v=Value.int i t)\/(∃x t,k=Sum.inr x/\v=Value.str x t)
 | .inl i,v,h=>by
  let#[t,e]:=Value.isInt_shape (k:=i) (v:=v) h;exact .inl #[i,t,rfl,e]
 | .inr x,v,h=>by
  let#[t,e]:=Value.isStrOf_shape (x:=x) (v:=v) h;exact .inr #[x,t,rfl,e]
def zcv(a b:Int):decide ((Sum.inl a:Key)=Sum.inl b)=(a == b):=by
 by_cases e:a=b
 ·subst e;simp
 ·have h:¬ (Sum.inl a:Key)=Sum.inl b:=λq=>e (Sum.inl.inj q);rw[y3 h];exact (beq_eq_false_iff_ne.mpr e).symm
def zbC(a b:rV):decide ((Sum.inr a:Key)=Sum.inr b)=decide (a=b):=by
 by_cases e:a=b
 ·subst e;simp
 ·have h:¬ (Sum.inr a:Key)=Sum.inr b:=λq=>e (Sum.inr.inj q);rw[y3 h,y3 e]
def zbs(a:Int)(b:rV):decide ((Sum.inl a:Key)=Sum.inr b)=AF:=y3 (λq=>nomatch q)
def zbi(a:rV)(b:Int):decide ((Sum.inr a:Key)=Sum.inl b)=AF:=y3 (λq=>nomatch q)
def YU(prog:rX)(w:sk):PySem.KeyKind prog w Key where
 is:=zbL
 hash:=zeX w
 inj:=λv a b ha hb=>by
  rcases yp ha with ⟨i,t,rfl,rfl⟩ | ⟨x,t,rfl,rfl⟩
  ·rcases yp hb with ⟨j,u,rfl,e⟩ | ⟨y,u,rfl,e⟩
   ·injection e with e1 _;rw[e1]
   ·exact nomatch e
  ·rcases yp hb with ⟨j,u,rfl,e⟩ | ⟨y,u,rfl,e⟩
   ·exact nomatch e
   ·injection e with e1 _;rw[e1]
 byValue:=λk v h=>by
  rcases yp h with ⟨i,t,rfl,rfl⟩ | ⟨x,t,rfl,rfl⟩ <;> rfl
 pyHash:=λhv h=>by
  rcases yp hv with ⟨i,t,rfl,rfl⟩ | ⟨x,t,rfl,rfl⟩
  ·exact wpAny_pyHash_int h
  ·exact wpAny_pyHash_str h
 eqBool:=λhu hv h=>by
  rcases yp hu with ⟨i,t,rfl,rfl⟩ | ⟨x,t,rfl,rfl⟩
  ·rcases yp hv with ⟨j,u,rfl,rfl⟩ | ⟨y,u,rfl,rfl⟩
   ·rw[zcv]at h;exact wpAny_eqBool_int h
   ·rw[zbs]at h;exact SeqAt.EqAt.int_str i t y u _ _ _ _ h
  ·rcases yp hv with ⟨j,u,rfl,rfl⟩ | ⟨y,u,rfl,rfl⟩
   ·rw[zbi]at h;exact SeqAt.EqAt.str_int x t j u _ _ _ _ h
   ·rw[zbC]at h;exact wpAny_eqBool_str h
 «strs»:=λk x t v h=>by
  rcases yp h with ⟨i,u,rfl,e⟩ | ⟨y,u,rfl,e⟩
  ·exact nomatch e
  ·injection e with e1 _;subst e1;cases v <;> rfl
inductive V where
 | non | bl (b:Bool) | int (i:Int) | str (x:rV) | byt (b:Array UInt8) | flt (b:UInt64) | ref (a:rQ) | ty (n:String)
 deriving DecidableEq
def RelV:V->rR->Prop
 | .non,u=>u=p9
 | .bl b,u=>u=Value.bool b
 | .int i,u=>∃t,u=Value.int i t
 | .str x,u=>∃t,u=Value.str x t
 | .byt b,u=>∃t,u=Value.bytes b t
 | .flt b,u=>∃t,u=Value.float b t
 | .ref a,u=>u=r6 a
 | .ty n,u=>u=Value.type n
abbrev Vals:List V->List rR->Prop:=AB RelV
def Vals.length(r:Vals xs us):xs.length=us.length:=Paired.length r
theorem Vals.get:∀{xs:List V} {us:List rR} {i:Nat} {x:V},Vals xs us->xs[i]? = AC x->∃u,us[i]? = AC u/\RelV x u
 | _,_,_,_,.nil,e=>by simp at e
 | _,_,0,_,.cons r _,e=>by simp at e;subst e;exact#[_,rfl,r]
 | _,_,i+1,x,.cons _ t,e=>by
  let#[u,h1,h2]:=Vals.get (i:=i) (x:=x) t ↥e;exact#[u,by simpa using h1,h2]
theorem Vals.set(r:RelV x u):∀{xs:List V} {us:List rR} (i:Nat),Vals xs us->Vals (xs.set i x) (us.set i u)
 | _,_,_,.nil=>.nil
 | _,_,0,.cons _ t=>.cons r t
 | _,_,i+1,.cons q t=>.cons q (Vals.set r i t)
theorem Vals.append(h:Vals xs us)(s:Vals ys ws):Vals (xs ++ ys) (us ++ ws):=by
 induction h with
 | nil=>exact s
 | cons r t ih=>exact .cons r ih
theorem Vals.take:∀{xs:List V} {us:List rR} (n:Nat),Vals xs us->Vals (xs.take n) (us.take n)
 | _,_,0,_=>.nil
 | _,_,_+1,.nil=>.nil
 | _,_,n+1,.cons r t=>.cons r (Vals.take n t)
theorem Vals.drop:∀{xs:List V} {us:List rR} (n:Nat),Vals xs us->Vals (xs.drop n) (us.drop n)
 | _,_,0,r=>r
 | _,_,_+1,.nil=>.nil
 | _,_,n+1,.cons _ t=>Vals.drop n t
def RelO:Option V->Option rR->Prop
 | some v,AC u=>RelV v u
 | none,AD=>True
 | _,_=>False
def KV{κ:Type}:List (κ × V)->List (κ × rR)->Prop:=AB λ(p:κ × V) (q:κ × rR)=>p.1=q.1/\RelV p.2 q.2
def kV:Key->V
 | .inl i=>.int i
 | .inr x=>.str x
inductive HO where
  | lst (xs:List V)
  | tup (xs:List V)
  | dK (kvs:List (Key × V)) | dT (kvs:List (List Key × V))
  | set (S:Int->Bool) (n:Nat)
  | ins (C dx:rQ) (fs:List (rV × V))
  | own (x:rQ)
  | xd (fs:List (rV × V))
  | met (f x:rQ)
  | rng (lo hi:Int)
  | frz (o:tw) (u:HO)
  | tbl (ps:Array rR)
  | ext (φ:sq->Prop)
abbrev Hp:=rQ->Option HO
def upd(H:Hp)(a:rQ)(o:HO):Hp:=λb=>if b=a then AC o else H b
def zc : upd H a o a=AC o:=by unfold upd;rw[y6 rfl]
def zk(h:b≠a):upd H a o b=H b:=by unfold upd;rw[y9 h]
def QT{H:Hp}(h:H a=AC o)(h':H b=AC u)(d:o≠u):a≠b:=by intro e;subst e;rw[h]at h';exact d (Option.some.inj h')
def zD{H:Hp}(h:H a=AC o)(h':H b=AD):a≠b:=by intro e;subst e;rw[h]at h';cases h'
end
section
variable(P:rX)(w:sk)
def ObjOk(H:Hp)(h:sq)(a:rQ):HO->Prop
 | .lst xs=>xs.length<=rO/\∃(its:List rR) (n:Nat),Vals xs its/\h.get? a=AC { cls:=.type "list",data:=.seq its.toArray n }
 | .tup xs=>xs.length<=rO/\∃its:List rR,Vals xs its/\IsTup h a its.toArray
 | .dK kvs=>kvs.length<=rO/\(a == sysModules)=AF/\∃vs,KV kvs vs/\h.DictOf (YU P w) a vs
 | .dT kvs=>kvs.length<=rO/\(a == sysModules)=AF/\∃xs:List (List Key × rQ × rR),
   AB (λ(p:List Key × V) (q:List Key × rQ × rR)=>p.1=q.1/\H q.2.1=AC (.tup (p.1.map kV))/\RelV p.2 q.2.2) kvs xs /\
   ∃o es ep,h.get? a=AC o/\o.ExactDict/\o.data=.dict es ep/\es.toList=xs.map (entryOfKey (tupleKind (YU P w)))/\(xs.map (·.1)).Nodup
 | .set S n=>h.SetOf (intKind P w) a S n
 | .ins C dx fs=>H dx=AC (.own a)/\fs.length<=1000/\dx≠a/\h.get? a=AC (bP C dx) /\
   ∃mA,h.Ns1 dx mA/\(∀f,RelO (fs.lookup f) (mA f))/\PySem.Within mA (fs.map (·.1))
 | .own _=>∃o,h.get? a=AC o
 | .xd fs=>∃mA,h.Ns1 a mA/\∀f,RelO (fs.lookup f) (mA f)
 | .rng lo hi=>∃t u v,h.get? a=AC { cls:=.type "range",data:=.fields (r8 [.int lo t,.int hi u,.int 1 v]) }
 | .frz o u=>h.get? a=AC o/\ObjOk H h a u
 | .tbl ps=>h.get? a=AC { cls:=.none,data:=.fields ps }
 | .met f x=>h.get? a=AC (ej (.ref f) (.ref x))
 | .ext φ=>φ h/\(∃o,h.get? a=AC o)/\∀h1 h2:sq,φ h1->(∀o,h1.get? a=AC o->h2.get? a=AC o)->φ h2
def HOk(H:Hp)(h:sq):Prop:=∀a o,H a=AC o->ObjOk P w H h a o
end
mutual section
theorem ObjOk.lt(x:ObjOk P w H h a o):a<h.objs.size:=by
 cases o with
 | lst xs=>let#[_,_,_,_,e]:=x;exact ao e
 | tup xs=>let#[_,_,_,p]:=x;exact p.lt
 | dK kvs=>let#[_,_,_,_,o,_,_,e,_]:=x;exact ao e
 | dT kvs=>let#[_,_,_,_,o,_,_,e,_]:=x;exact ao e
 | set S n=>let#[o,_,_,_,e,_]:=x;exact ao e
 | ins C dx fs=>let#[_,_,_,e,_]:=x;exact ao e
 | own y=>let#[_,e]:=x;exact ao e
 | xd fs=>let#[_,#[_,_,_,e,_],_]:=x;exact ao e
 | rng lo hi=>let#[_,_,_,e]:=x;exact ao e
 | frz ob u=>let#[e,_]:=x;exact ao e
 | tbl ps=>exact ao (show h.get? a=AC _ from x)
 | met f y=>exact ao (show h.get? a=AC _ from x)
 | ext φ=>let#[_,#[_,e],_]:=x;exact ao e
theorem Paired.mapP(h:AB F l₁ l₂)(f:∀a b,F a b->G a b):AB G l₁ l₂:=by
 induction h with
 | nil=>exact .nil
 | cons r t ih=>exact .cons (f _ _ r) ih
theorem ObjOk.stay(x:ObjOk P w H h a o)(k:∀b u,(b=a\/H b=AC (.own a))->h.get? b=AC u->h'.get? b=AC u)(ho:∀b,H b=AC (.own a)->H' b=AC (.own a)) (ht:∀b xs,H b=AC (.tup xs)->H' b=AC (.tup xs)):ObjOk P w H' h' a o:=by
 induction o with
 | lst xs=>let#[z,its,n,r,e]:=x;exact#[z,its,n,r,k _ _ (.inl rfl) e]
 | tup xs=>let#[z,its,r,ob,e,c]:=x;exact#[z,its,r,ob,k _ _ (.inl rfl) e,c]
 | dK kvs=>let#[z,y,vs,r,ob,es,ep,e,c]:=x;exact#[z,y,vs,r,ob,es,ep,k _ _ (.inl rfl) e,c]
 | dT kvs =>
  let#[z,y,xs,r,ob,es,ep,e,c]:=x;exact#[z,y,xs,Paired.mapP r λp q z=>#[z.1,ht _ _ z.2.1,z.2.2],ob,es,ep,k _ _ (.inl rfl) e,c]
 | set S n=>let#[ob,es,ep,t,e,c]:=x;exact#[ob,es,ep,t,k _ _ (.inl rfl) e,c]
 | ins C dx fs =>
  let#[d,z,ne,e,mA,#[od,es,ep,e2,c],r]:=x;exact#[ho _ d,z,ne,k _ _ (.inl rfl) e,mA,#[od,es,ep,k _ _ (.inr d) e2,c],r]
 | own y=>let#[ob,e]:=x;exact#[ob,k _ _ (.inl rfl) e]
 | xd fs=>let#[mA,#[od,es,ep,e,c],r]:=x;exact#[mA,#[od,es,ep,k _ _ (.inl rfl) e,c],r]
 | rng lo hi=>let#[t,u,v,e]:=x;exact#[t,u,v,k _ _ (.inl rfl) e]
 | frz ob u ih=>let#[e,q]:=x;exact#[k _ _ (.inl rfl) e,ih q]
 | tbl ps =>
  have e:h.get? a=AC { cls:=.none,data:=.fields ps }:=x;show h'.get? a=AC { cls:=.none,data:=.fields ps };exact k a _ (.inl rfl) e
 | met f y =>
  have e:h.get? a=AC (ej (.ref f) (.ref y)):=x;show h'.get? a=AC (ej (.ref f) (.ref y));exact k a _ (.inl rfl) e
 | ext φ=>let#[p,#[o,e],st]:=x;exact#[st _ _ p λo q=>k _ _ (.inl rfl) q,#[o,k _ _ (.inl rfl) e],st]
def HOk.lt(x:HOk P w H h)(e:H a=AC o):a<h.objs.size:=(x a o e).lt
theorem HOk.fresh(x:HOk P w H h)(e:h.objs.size<=a):H a=AD:=by
 cases q:H a with
 | none=>rfl
 | some u=>exact y4 (aq (x.lt q) e) (cw _)
def HOk.kept(x:HOk P w H h)(k:∀b u,h.get? b=AC u->h'.get? b=AC u):HOk P w H h':=λa o e =>
 (x a o e).stay (λb u Z q=>k b u q) (λZ q=>q) λZ Z q=>q
def HOk.laid(x:HOk P w H h)(k:∀b u,h.get? b=AC u->h'.get? b=AC u)(hp:h.objs.size<=a)(new:ObjOk P w (upd H a o) h' a o):HOk P w (upd H a o) h':=λb u e=>by
 have hn:=x.fresh hp;by_cases hb:b=a
 ·subst hb;rw[zc]at e;cases e;exact new
 ·rw[zk hb]at e;exact (x b u e).stay (λc v Z q=>k c v q) (λc q=>by rw[zk (zD q hn)];exact q) λc xs q=>by rw[zk (zD q hn)];exact q
def Rd(H:Hp)(a:rQ)(u:HO):Prop:=H a=AC u\/∃o,H a=AC (.frz o u)
def Rd.ok(r:Rd H a u)(x:HOk P w H h):ObjOk P w H h a u:=by
 rcases r with r | ⟨o,r⟩
 ·exact x a u r
 ·let#[_,q]:=x a _ r;exact q
def Mut:Option HO->Prop
 | some (.lst _)=>True
 | some (.dK _)=>True
 | some (.dT _)=>True
 | some (.set _ _)=>True
 | some (.ins _ _ _)=>True
 | some (.ext _)=>True
 | _=>False
def HOk.write(ok:HOk P w H h)(mu:Mut (H x))(he:e=x\/H e=AC (.own x))(k:∀b u,b≠e->h.get? b=AC u->h'.get? b=AC u)(heo:∃u,h'.get? e=AC u)(new:ObjOk P w (upd H x o') h' x o'):HOk P w (upd H x o') h':=λb u q=>by
 have nown:∀c y,H c=AC (.own y)->c≠x:=λc y r z=>by subst z;rw[r]at mu;exact mu
 have ntup:∀c xs,H c=AC (.tup xs)->c≠x:=λc xs r z=>by subst z;rw[r]at mu;exact mu
 by_cases hb:b=x
 ·subst hb;rw[zc]at q;cases q;exact new
 ·rw[zk hb]at q;by_cases hbe:b=e
  ·have q':H b=AC (.own x):=by
    rcases he with z | z
    ·exact y4 (hbe.trans z) hb
    ·rw[hbe];exact z
   rw[q]at q';cases q';let#[v,hv]:=heo;exact#[v,by rw[hbe];exact hv]
  ·refine (ok b u q).stay (λc v hc r=>k c v ?_ r) (λc r=>by rw[zk (nown c b r)];exact r) λc xs r=>by rw[zk (ntup c xs r)];exact r
   rcases hc with rfl | hc
   ·exact hbe
   ·rintro rfl;rcases he with z | z
    ·exact nown c b hc z
    ·rw[hc]at z;cases z;exact hb rfl
structure Un(fs ex:List rQ)(H H':Hp)(h h':sq):Prop where
 keep:∀b o,h.get? b=AC o->H b=AD->b ∉ fs->b ∉ ex->h'.get? b=AC o
 slot:∀b o,h.get? b=AC o->H b=AD->b ∈ fs->b ∉ ex->∃sl,h'.get? b=AC { o with slots:=sl }
 free:∀b o,h.get? b=AC o->H b=AD->b ∉ ex->H' b=AD
 there:∀b o,h.get? b=AC o->b ∉ ex->∃o',h'.get? b=AC o'
 tups:∀b xs,H b=AC (.tup xs)->H' b=AC (.tup xs)
 frzs:∀b o u,H b=AC (.frz o u)->H' b=AC (.frz o u)
 tbls:∀b ps,H b=AC (.tbl ps)->∃more,H' b=AC (.tbl (ps ++ more))
def Un.any(u:Un fs ex H H1 h h1)(q:h.get? b=AC ob)(n:H b=AD)(hx:b ∉ ex):∃sl,h1.get? b=AC { ob with slots:=sl }:=by
 by_cases hb:b ∈ fs
 ·exact u.slot b ob q n hb hx
 ·exact#[ob.slots,u.keep b ob q n hb hx]
def Un.kept(k:∀b u,h.get? b=AC u->h'.get? b=AC u):Un fs ex H H h h' :=
 #[λb ob q Z Z Z=>k b ob q,λb ob q Z Z Z=>#[ob.slots,k b ob q],λZ Z Z n Z=>n,λb ob q Z=>#[ob,k b ob q],λZ Z q=>q,λZ Z Z q=>q,λZ ps q=>#[#[],by rw[q];simp]]
def Un.refl:Un fs ex H H h h:=Un.kept λZ Z q=>q
def Un.laid(k:∀b u,h.get? b=AC u->h'.get? b=AC u)(hp:h.objs.size<=a)(hn:H a=AD):Un fs ex H (upd H a o) h h' where
 keep:=λb u q Z Z Z=>k b u q
 slot:=λb u q Z Z Z=>#[u.slots,k b u q]
 free:=λb u q n Z=>by rw[zk (ay (aq (ao q) hp))];exact n
 there:=λb u q Z=>#[u,k b u q]
 tups:=λb xs q=>by rw[zk (zD q hn)];exact q
 frzs:=λb u xs q=>by rw[zk (zD q hn)];exact q
 tbls:=λb ps q=>#[#[],by rw[zk (zD q hn),q];simp]
def Un.write(mu:Mut (H x))(he:e=x\/H e=AC (.own x))(k:∀b u,b≠e->h.get? b=AC u->h'.get? b=AC u)(heo:∃u,h'.get? e=AC u):Un fs ex H (upd H x o) h h':=by
 have hx:∀b,H b=AD->b≠x:=λb n z=>by subst z;rw[n]at mu;exact mu
 have hb:∀b,H b=AD->b≠e:=λb n z=>by
  subst z;rcases he with r | r
  ·exact hx b n r
  ·rw[n]at r;cases r
 have hm:∀b u,H b=AC u->¬ Mut (AC u)->b≠x:=λb u q nm z=>by subst z;rw[q]at mu;exact nm mu
 refine#[λb u q n Z Z=>k b u (hb b n) q,λb u q n Z Z=>#[u.slots,k b u (hb b n) q],λb u q n Z=>by rw[zk (hx b n)];exact n,λb u q Z=>?_,
  λb xs q=>by rw[zk (hm b _ q λz=>z)];exact q,λb u xs q=>by rw[zk (hm b _ q λz=>z)];exact q,λb ps q=>#[#[],by rw[zk (hm b _ q λz=>z),q];simp]]
 by_cases hbe:b=e
 ·subst hbe;exact heo
 ·exact#[u,k b u hbe q]
def trk(h:sq)(H:Hp):List rQ:=(aQ h.objs.size).filter λa=>(H a).isSome
def W5(h:sq)(H:Hp):sq:=PySem.W.hideAll h (trk h H)
def VB(h:sq)(H:Hp):(W5 h H).objs.size=h.objs.size:=PySem.W.hideAll_size _ _
def Xw(e:h.get? b=AC o)(n:H b=AD):(W5 h H).get? b=AC o :=
 PySem.W.hideAll_get _ e λhm=>by
  have q:(H b).isSome=AE:=(AU.mp hm).2;rw[n]at q;simp at q
theorem zaX(e:(W5 h H).get? b=AC o):h.get? b=AC o/\H b=AD:=by
 have e':h.get? b=AC o:=PySem.W.of_hideAll (trk h H) e;refine#[e',?_]
 cases q:H b with
 | none=>rfl
 | some x =>
  have hm:b ∈ trk h H:=AU.mpr #[AR.mpr (ao e'),by simp [q]];have z:(W5 h H).get? b=AD:=PySem.W.hideAll_none (trk h H) hm;rw[z]at e;cases e
def zaf(g h:sq)(L:rQ):List (rQ × tw):=(aQ h.objs.size).filterMap λa=>if a=L\/(g.get? a).isSome=AE then AD else (h.get? a).map λo=>(a,o)
def rest(g h:sq)(L d:rQ):List (rQ × tw):=(zaf g h L).filter λp=>decide (p.1≠d)
structure Mod(K:rP)(mg:rV->Option rR)(base:sq):Prop where
 kin:K.In base
 glob:base.Ns rM mg
 blt:∃mb,base.Ns builtinsNs mb/\∀x:rV,x≠"__name__"->mb x=sN x
 nolimit:base.NoLimit
structure Cx where
 prog:rX
 w:sk
 K:rP
 mg:rV->Option rR
 base:sq
 A:sD
 N:List rV
 s₀:rS
 H₀:Hp
 env:Am
 outer:List Am
 stack:List Am
 ex:List rQ
 fn:rV->Bool
 calm:Bool
 pn:List (rQ × tw)
 xe:rR->rS->Prop
def frs(l:List Am):List rQ:=l.filterMap (·.frame)
abbrev Cx.fs(X:Cx):List rQ:=frs X.outer
def Vis(sc:tL)(x:rV):Prop:=sc.names.lookup x=AC .local\/sc.names.lookup x=AC .cell\/sc.names.lookup x=AC .free
def Loc(sc:tL)(x:rV):Prop:=sc.names.lookup x=AC .local\/sc.names.lookup x=AC .cell
def zeK(env:Am)(h:sq)(m:rV->Option rR)(x:rV)(u:rR):Prop :=
 (env.kindOf x=AC .local/\m x=AC u)\/((env.kindOf x=AC .cell\/env.kindOf x=AC .free)/\∃c,env.cells.lookup x=AC c/\h.IsCell c (AC u))
structure Cx.Ok(X:Cx):Prop where
 mod:Mod X.K X.mg X.base
 kind:X.env.scope.kind=.function
 glob:X.env.globals=rM
 blt:X.env.builtins=builtinsNs
 above:X.s₀.heap.objs.size<=X.env.locals
 inj:∀x y c,X.env.cells.lookup x=AC c->X.env.cells.lookup y=AC c->x=y
 has:∀x,(X.env.kindOf x=AC .cell\/X.env.kindOf x=AC .free)->∃c,X.env.cells.lookup x=AC c
 cab:∀x c,X.fn x=AE->X.env.cells.lookup x=AC c->X.s₀.heap.objs.size<=c
 hd:X.calm=AE->X.A.handled=AD
 frames:X.A.frames=AC X.stack
 stk:X.stack=X.outer\/(X.stack=X.env::X.outer/\X.env.frame=AC X.env.locals)
 exf:∀b ∈ X.ex,b≠X.env.locals/\∀x c,X.env.cells.lookup x=AC c->c≠b
 bs:∀b o,X.base.get? b=AC o->X.s₀.heap.get? b=AC o/\X.H₀ b=AD
 bsz:X.base.objs.size<=X.s₀.heap.objs.size
 noex:∀b o,X.base.get? b=AC o->b ∉ X.ex
 exfs:∀b ∈ X.ex,b ∉ X.fs
 funs:X.s₀.heap.FunFrames X.base X.outer
 frf:∀b ∈ X.fs,X.H₀ b=AD
structure Inv(X:Cx)(AG:List (rQ × tw))(σ:List (Option V))(H:Hp)(s:rS):Prop where
 ok:X.Ok
 os:s.os=X.s₀.os
 bare:tG s.gens
 base:Un X.fs X.ex X.H₀ H X.s₀.heap s.heap
 loc:∃m,s.heap.Ns X.env.locals m/\∀(i:Nat) (x:rV) (v:V),X.N[i]? = AC x->σ[i]? = AC (AC v)->Vis X.env.scope x->∃u,RelV v u/\zeK X.env s.heap m x u
 cell:∀x c,X.env.cells.lookup x=AC c->∃v,s.heap.IsCell c v
 free:H X.env.locals=AD
 freeC:∀x c,X.env.cells.lookup x=AC c->H c=AD
 pin:∀p ∈ X.pn ++ AG,s.heap.get? p.1=AC p.2/\H p.1=AD/\p.1≠X.env.locals/\p.1 ∉ X.fs/\∀v,p.2.data≠.cell v
 hok:HOk X.prog X.w H s.heap
 len:σ.length=X.N.length
def Cx.Ok.nofr{X:Cx}(ok:X.Ok)(e:X.base.get? b=AC o):b ∉ X.fs:=λhb=>by
 have:=(ok.funs.mem hb).1;rw[e]at this;cases this
def Inv.bs(I:Inv X AG σ H s):∀b o,X.base.get? b=AC o->s.heap.get? b=AC o/\H b=AD:=λb o e =>
 #[I.base.keep b o (I.ok.bs b o e).1 (I.ok.bs b o e).2 (I.ok.nofr e) (I.ok.noex b o e),I.base.free b o (I.ok.bs b o e).1 (I.ok.bs b o e).2 (I.ok.noex b o e)]
def Inv.bk(I:Inv X AG σ H s):∀b o,X.base.get? b=AC o->s.heap.get? b=AC o:=λb o e=>(I.bs b o e).1
def Inv.mod(I:Inv X AG σ H s):Mod X.K X.mg X.base:=I.ok.mod
def Inv.kIn(I:Inv X AG σ H s):X.K.In s.heap:=I.ok.mod.kin.keeps I.bk
def Inv.nolimit(I:Inv X AG σ H s):s.heap.NoLimit:=I.ok.mod.nolimit.keeps I.bk
def Inv.fr(I:Inv X AG σ H s):∃m,Fr X.base X.env.locals s.heap m :=
 let #[m,hn,_]:=I.loc
 #[m,hn,I.bk,aS I.ok.bsz I.ok.above]
def Inv.lt(I:Inv X AG σ H s):X.env.locals<s⁻¹:=let #[_,hn,_]:=I.loc;hn.lt
def Inv.sz(I:Inv X AG σ H s):X.s₀.heap.objs.size<=s⁻¹:=aS I.ok.above (dq I.lt)
def Inv.nofs(I:Inv X AG σ H s)(h:s⁻¹<=a):a ∉ X.fs:=λhb=>by
 let#[_,o,ho,_]:=I.ok.funs.mem hb;exact y4 (aq (ao ho) (aS I.sz h)) (cw _)
def Inv.cne(I:Inv X AG σ H s):∀x c,X.env.cells.lookup x=AC c->c≠X.env.locals:=λx c e z=>by
 let#[v,o,ho,hd]:=I.cell x c e;let#[m,#[o',es,ep,ho',hd',_],_]:=I.loc;rw[z,ho']at ho;cases ho;rw[hd']at hd;cases hd
def Inv.funs(I:Inv X AG σ H s):s.heap.FunFrames X.base X.outer:=by
 have all:∀(l:List Am),(∀b ∈ frs l,b ∈ X.fs)->X.s₀.heap.FunFrames X.base l->s.heap.FunFrames X.base l:=by
  intro l
  induction l with
  | nil=>intro _ _;trivial
  | cons env r ih =>
   intro hs hl;let#[hk,#[L,o,hf,hn,ho,hd],hr]:=hl;have hL:L ∈ X.fs:=hs L (by unfold frs;rw[dX,hf];exact aH);let#[sl,e]:=I.base.slot L o ho (I.ok.frf L hL) hL λz=>I.ok.exfs L z hL;exact#[hk,#[L,_,hf,hn,e,hd],ih (λb hb=>hs b (by unfold frs;rw[dX,hf];exact aA _ hb)) hr]
 exact all X.outer (λZ hb=>hb) I.ok.funs
def Inv.stack(I:Inv X AG σ H s):s.heap.FunFrames X.base X.stack:=by
 rcases I.ok.stk with e | ⟨e,hf⟩
 ·rw[e];exact I.funs
 ·rw[e];let#[m,hn,_]:=I.loc;refine .cons (by rw[I.ok.kind];decide) hf hn ?_ I.funs;exact Heap.get?_none_of_le (aS I.ok.bsz I.ok.above)
def Inv.stkSub(I:Inv X AG σ H s):∀b ∈ frs X.stack,b ∈ X.env.locals::X.fs:=λb hb=>by
 rcases I.ok.stk with e | ⟨e,hf⟩
 ·rw[e]at hb;exact aA _ hb
 ·rw[e]at hb;unfold frs at hb;rw[dX,hf]at hb;exact hb
def Inv.stkFree(I:Inv X AG σ H s):∀b ∈ frs X.stack,H b=AD:=λb hb=>by
 rcases AM.mp (I.stkSub b hb)with e | hb
 ·rw[e];exact I.free
 ·let#[_,o,ho,_]:=I.ok.funs.mem hb;exact I.base.free b o ho (I.ok.frf b hb) λz=>I.ok.exfs b z hb
def Inv.step{ch:List rQ}(I:Inv X AG σ H s)(hch:∀b ∈ ch,(b ∈ X.ex\/X.s₀.heap.objs.size<=b)/\b≠X.env.locals/\(∀x c,X.env.cells.lookup x=AC c->c≠b)/\∀p ∈ X.pn ++ AG,p.1≠b)(keep:∀b o,b≠X.env.locals->b ∉ X.fs->b ∉ ch->s.heap.get? b=AC o->H b=AD->h'.get? b=AC o)(slot:∀b o,b≠X.env.locals->b ∈ X.fs->b ∉ ch->s.heap.get? b=AC o->H b=AD->∃sl,h'.get? b=AC { o with slots:=sl })(free:∀b o,b ∉ ch->s.heap.get? b=AC o->H b=AD->H' b=AD)(there:∀b o,b ∉ ch->s.heap.get? b=AC o->∃o',h'.get? b=AC o')(tups:∀b xs,H b=AC (.tup xs)->H' b=AC (.tup xs))(frzs:∀b o u,H b=AC (.frz o u)->H' b=AC (.frz o u))(tbls:∀b ps,H b=AC (.tbl ps)->∃more,H' b=AC (.tbl (ps ++ more)))(ns:∀m,s.heap.Ns X.env.locals m->h'.Ns X.env.locals m)(hok:HOk X.prog X.w H' h')(hg:tG g') :
  Inv X AG σ H' { s with heap:=h',gens:=g',drawn:=d',toks:=t' }:=by
 have neL:∀b o,X.s₀.heap.get? b=AC o->b≠X.env.locals:=λb o e=>ay (aq (ao e) I.ok.above)
 have neC:∀b o,X.s₀.heap.get? b=AC o->b ∉ X.ex->b ∉ ch:=λb o e hx hb=>by
  rcases (hch b hb).1 with z | z
  ·exact hx z
  ·exact y4 (aq (ao e) z) (cw _)
 have cellK:∀x c,X.env.cells.lookup x=AC c->∀v,s.heap.IsCell c v->h'.IsCell c v:=λx c e v ⟨o,ho,hd⟩=>by
  have nch:c ∉ ch:=λz=>(hch c z).2.2.1 x c e rfl;by_cases hc:c ∈ X.fs
  ·let#[sl,q]:=slot c o (I.cne x c e) hc nch ho (I.freeC x c e);exact#[_,q,hd]
  ·exact#[o,keep c o (I.cne x c e) hc nch ho (I.freeC x c e),hd]
 refine#[I.ok,I.os,hg,#[λb o e n hb hx=>?_,λb o e n hb hx=>?_,λb o e n hx=>?_,λb o e hx=>?_,λb xs e=>tups b xs (I.base.tups b xs e),λb o xs e=>frzs b o xs (I.base.frzs b o xs e),λb ps e=>?_],?_,λx c e=>?_,?_,λx c e=>?_,λp hp=>?_,hok,I.len]
 ·exact keep b o (neL b o e) hb (neC b o e hx) (I.base.keep b o e n hb hx) (I.base.free b o e n hx)
 ·let#[sl,e1]:=I.base.slot b o e n hb hx;let#[sl',e2]:=slot b _ (neL b o e) hb (neC b o e hx) e1 (I.base.free b o e n hx);exact#[sl',e2]
 ·let#[o',e1]:=I.base.there b o e hx;exact free b o' (neC b o e hx) e1 (I.base.free b o e n hx)
 ·let#[o',e1]:=I.base.there b o e hx;exact there b o' (neC b o e hx) e1
 ·let#[m1,e1]:=I.base.tbls b ps e;let#[m2,e2]:=tbls b _ e1;exact#[m1 ++ m2,by rw[e2,Array.append_assoc]]
 ·let#[m,hn,hl]:=I.loc;refine#[m,ns m hn,λi x v e1 e2 e3=>?_];let#[u,r,l]:=hl i x v e1 e2 e3;refine#[u,r,?_];rcases l with l | ⟨k,c,e,z⟩
  ·exact .inl l
  ·exact .inr #[k,c,e,cellK x c e _ z]
 ·let#[v,z]:=I.cell x c e;exact#[v,cellK x c e v z]
 ·let#[m,#[o,_,_,ho,_],_]:=I.loc;exact free _ o (λz=>(hch _ z).2.1 rfl) ho I.free
 ·let#[v,o,ho,hd]:=I.cell x c e;exact free c o (λz=>(hch c z).2.2.1 x c e rfl) ho (I.freeC x c e)
 ·let#[e,n,ne,nf,d]:=I.pin p hp;have nch:p.1 ∉ ch:=λz=>(hch p.1 z).2.2.2 p hp rfl;exact#[keep p.1 p.2 ne nf nch e n,free p.1 p.2 nch e n,ne,nf,d]
def Inv.un(I:Inv X AG σ H s)(u:Un X.fs [] H H' s.heap h')(hok:HOk X.prog X.w H' h'):Inv X AG σ H' { s with heap:=h',toks:=t' }:=by
 let#[m,#[o,es,ep,ho,r],_]:=id I.loc;let#[sl,hL]:=u.any ho I.free (by simp)
 exact I.step (g':=s.gens) (d':=s.drawn) (ch:=[]) (λZ z=>nomatch z) (λb o Z hb Z e n=>u.keep b o e n hb (by simp)) (λb o Z hb Z e n=>u.slot b o e n hb (by simp)) (λb o Z e n=>u.free b o e n (by simp)) (λb o Z e=>u.there b o e (by simp)) u.tups u.frzs u.tbls (λm' hm=>by
  let#[o',es',ep',ho',r']:=hm;rw[ho]at ho';cases ho'
  exact#[_,es',ep',hL,r']) hok I.bare
def Inv.call(I:Inv X AG σ H s)(u:Un (frs X.stack) ch H H' s.heap h')(hok:HOk X.prog X.w H' h')(hg:tG g')(hch:∀b ∈ ch,(b ∈ X.ex\/X.s₀.heap.objs.size<=b)/\b≠X.env.locals/\(∀x c,X.env.cells.lookup x=AC c->c≠b)/\∀p ∈ X.pn ++ AG,p.1≠b) :
  Inv X AG σ H' { s with heap:=h',gens:=g',drawn:=d',toks:=t' }:=by
 let#[m,#[o,es,ep,ho,r],_]:=id I.loc;let#[sl,hL]:=u.any ho I.free λz=>(hch _ z).2.1 rfl
 exact I.step (ch:=ch) hch (λb o hL hb hc e n=>u.keep b o e n (λz=>(AM.mp (I.stkSub b z)).elim hL hb) hc) (λb o Z Z hc e n=>u.any e n hc) (λb o hc e n=>u.free b o e n hc) (λb o hc e=>u.there b o e hc) u.tups u.frzs u.tbls (λm' hm=>by
  let#[o',es',ep',ho',r']:=hm;rw[ho]at ho';cases ho'
  exact#[_,es',ep',hL,r']) hok hg
def Inv.turned(I:Inv X AG σ H s)(k:∀b o,b≠it->s.heap.get? b=AC o->h'.get? b=AC o)(hn:H it=AD)(hL:it≠X.env.locals)(h1:it ∈ X.ex\/X.s₀.heap.objs.size<=it)(h2:∀x c,X.env.cells.lookup x=AC c->c≠it)(h3:∀p ∈ X.pn ++ AG,p.1≠it):Inv X AG σ H { s with heap:=h',toks:=t' }:=by
 have nit:∀b u,H b=AC u->b≠it:=λb u e z=>by rw[z,hn]at e;cases e
 refine I.step (g':=s.gens) (d':=s.drawn) (ch:=[it]) (λb hb=>?_) (λb o Z Z hc e Z=>k b o (λz=>hc (by simp [z])) e) (λb o Z Z hc e Z=>#[o.slots,k b o (λz=>hc (by simp [z])) e]) (λZ Z Z Z n=>n)
  (λb o hc e=>#[o,k b o (λz=>hc (by simp [z])) e]) (λZ Z e=>e) (λZ Z Z e=>e) (λb ps e=>#[#[],by rw[e];simp]) (λm hm=>?_) (λb u e=>?_) I.bare
 ·have e:b=it:=by simpa using hb
  subst e;exact#[h1,hL,h2,h3]
 ·let#[o,es,ep,ho,r]:=hm;exact#[o,es,ep,k _ o (Ne.symm hL) ho,r]
 ·refine (I.hok b u e).stay (λc v hc q=>k c v ?_ q) (λZ q=>q) λZ Z q=>q;rcases hc with z | z
  ·rw[z];exact nit b u e
  ·exact nit c _ z
def Inv.tok(I:Inv X AG σ H s)(t:Nat):Inv X AG σ H { s with toks:=t }:=I.un (h':=s.heap) (t':=t) Un.refl I.hok
def Inv.kept(I:Inv X AG σ H s)(k:∀b u,s.heap.get? b=AC u->h'.get? b=AC u):Inv X AG σ H { s with heap:=h',toks:=t' }:=I.un (Un.kept k) (I.hok.kept k)
def Inv.laid(I:Inv X AG σ H s)(k:∀b u,s.heap.get? b=AC u->h'.get? b=AC u)(hp:s⁻¹<=a)(new:ObjOk X.prog X.w (upd H a o) h' a o) :
  Inv X AG σ (upd H a o) { s with heap:=h',toks:=t' }:=I.un (Un.laid k hp (I.hok.fresh hp)) (I.hok.laid k hp new)
def Inv.write(I:Inv X AG σ H s)(mu:Mut (H x))(he:e=x\/H e=AC (.own x))(k:∀b u,b≠e->s.heap.get? b=AC u->h'.get? b=AC u)(heo:∃u,h'.get? e=AC u)(new:ObjOk X.prog X.w (upd H x o) h' x o):Inv X AG σ (upd H x o) { s with heap:=h',toks:=t' }:=I.un (Un.write mu he k heo) (I.hok.write mu he k heo new)
def Inv.weak(I:Inv X AG σ H s)(hl:σ'.length=σ.length)(w:∀(i:Nat) v,σ'[i]? = AC (AC v)->σ[i]? = AC (AC v)):Inv X AG σ' H s :=
 #[I.ok,I.os,I.bare,I.base,let #[m,hn,hl']:=I.loc; #[m,hn,λi x v e1 e2 e3=>hl' i x v e1 (w i v e2) e3],I.cell,I.free,I.freeC,I.pin,I.hok,hl.trans I.len]
def Inv.pins_of(I:Inv X AG σ H s)(h:∀p ∈ pins',s.heap.get? p.1=AC p.2/\H p.1=AD/\p.1≠X.env.locals/\p.1 ∉ X.fs/\∀v,p.2.data≠.cell v):Inv X pins' σ H s :=
 #[I.ok,I.os,I.bare,I.base,I.loc,I.cell,I.free,I.freeC,λp hp=>(AK.mp hp).elim (λz=>I.pin p (dN _ z)) (h p),I.hok,I.len]
def Xq{N:List rV}(hN:N.Nodup){i j:Nat}(a:N[i]? = AC x)(b:N[j]? = AC x):i=j:=by let#[h1,e1]:=AJ.mp a;let#[h2,e2]:=AJ.mp b;exact (List.getElem_inj hN).mp (e1.trans e2.symm)
def Yn(I:Inv X AG σ H s)(hN:X.N.Nodup)(hi:X.N[i]? = AC x)(hx:Loc X.env.scope x)(r:RelV v u)(h:∀s',Inv X AG (σ.set i (AC v)) H s'->(∃a,Heap.SameBut a s.heap s'.heap/\(a=X.env.locals\/X.env.cells.lookup x=AC a))->Q Unit.unit s')(hf:‹X.fn x=AE\/X.env.scope.names.lookup x=AC .local›):rT M A (storeName X.env x u) Q E s:=by
 let#[m,hn,hl]:=id I.loc;have hcls:(X.env.scope.kind == .class || (X.env.scope.kind == .module && X.env.locals != X.env.globals))=AF:=by rw[I.ok.kind];rfl
 have hiσ:i<σ.length:=by rw[I.len];exact (AJ.mp hi).1
 have cne:=I.cne
 have tracked:∀{a:rQ} {h':sq},(∃o,s.heap.get? a=AC o/\H a=AD)->Heap.SameBut a s.heap h'->HOk X.prog X.w H h':=λ{a h'} ha hs b ob e=>by
  let#[_,_,hfree]:=ha;refine (I.hok b ob e).stay (λc w' hc q=>(hs.2 c ?_).trans q) (λZ q=>q) λZ Z q=>q;rintro rfl;rcases hc with rfl | hc
  ·rw[hfree]at e;cases e
  ·rw[hfree]at hc;cases hc
 rcases hx with hk | hk
 ·refine wpAny_storeName_local hk hn (λh' hn' hs=>?_) hcls;let#[oL,_,_,hoL,_]:=id hn;refine h _ #[I.ok,I.os,I.bare,#[λb o e n hb hx=>?_,λb o e n hb hx=>?_,I.base.free,λb o e hx=>?_,I.base.tups,I.base.frzs,I.base.tbls],#[_,hn',λj y v' e1 e2 e3=>?_],λy c e=>?_,I.free,I.freeC,λp hp=>?_,tracked #[oL,hoL,I.free] hs,by simpa using I.len] #[_,hs,.inl rfl]
  ·exact (hs.2 b (ay (aq (ao e) I.ok.above))).trans (I.base.keep b o e n hb hx)
  ·let#[sl,e1]:=I.base.slot b o e n hb hx;exact#[sl,(hs.2 b (ay (aq (ao e) I.ok.above))).trans e1]
  ·let#[o',e1]:=I.base.there b o e hx;exact#[o',(hs.2 b (ay (aq (ao e) I.ok.above))).trans e1]
  ·by_cases hj:j=i
   ·subst hj;rw[hi]at e1;cases e1;rw[eV hiσ]at e2;cases e2;exact#[u,r,.inl #[hk,by simp]]
   ·rw[fz (Ne.symm hj)]at e2;let#[u',r',q]:=hl j y v' e1 e2 e3;refine#[u',r',?_];rcases q with ⟨k,e⟩ | ⟨k,c,e,z⟩
    ·refine .inl #[k,?_];have:y≠x:=λe=>hj (Xq hN e1 (e ▸ hi));simp [this,e]
    ·exact .inr #[k,c,e,z.sameBut hs (cne y c e)]
  ·let#[w',z]:=I.cell y c e;exact#[w',z.sameBut hs (cne y c e)]
  ·let#[e,n,ne,nf,d]:=I.pin p hp;exact#[(hs.2 p.1 ne).trans e,n,ne,nf,d]
 ·have hfn:X.fn x=AE:=by
   rcases hf with z | z
   ·exact z
   ·rw[z]at hk;cases hk
  let#[c,hc]:=I.ok.has x (.inl hk);let#[w',z]:=I.cell x c hc;refine wpAny_storeName_cell I.ok.kind hk hc z (λh' hc' hs=>?_);let#[oc,hoc,hocd]:=id z;refine h { s with heap:=h' } #[I.ok,I.os,I.bare,#[λb o e n hb hx=>?_,λb o e n hb hx=>?_,I.base.free,λb o e hx=>?_,I.base.tups,I.base.frzs,I.base.tbls],#[m,hn.sameBut hs (Ne.symm (cne x c hc)),λj y v' e1 e2 e3=>?_],λy c' e=>?_,I.free,I.freeC,λp hp=>?_,tracked #[oc,hoc,I.freeC x c hc] hs,by simpa using I.len] #[c,hs,.inr hc]
  ·exact (hs.2 b (ay (aq (ao e) (I.ok.cab x c hfn hc)))).trans (I.base.keep b o e n hb hx)
  ·let#[sl,e1]:=I.base.slot b o e n hb hx;exact#[sl,(hs.2 b (ay (aq (ao e) (I.ok.cab x c hfn hc)))).trans e1]
  ·let#[o',e1]:=I.base.there b o e hx;exact#[o',(hs.2 b (ay (aq (ao e) (I.ok.cab x c hfn hc)))).trans e1]
  ·by_cases hj:j=i
   ·subst hj;rw[hi]at e1;cases e1;rw[eV hiσ]at e2;cases e2;exact#[u,r,.inr #[.inl hk,c,hc,hc']]
   ·rw[fz (Ne.symm hj)]at e2;let#[u',r',q]:=hl j y v' e1 e2 e3;refine#[u',r',?_];rcases q with q | ⟨k,c',e,z'⟩
    ·exact .inl q
    ·refine .inr #[k,c',e,z'.sameBut hs ?_];rintro rfl;exact hj (Xq hN e1 (I.ok.inj _ _ _ e hc ▸ hi))
  ·by_cases hcc:c'=c
   ·subst hcc;exact#[_,hc']
   ·let#[w2,z2]:=I.cell y c' e;exact#[w2,z2.sameBut hs hcc]
  ·let#[e,n,ne,nf,d]:=I.pin p hp;refine#[(hs.2 p.1 ?_).trans e,n,ne,nf,d];intro q;rw[q,hoc]at e;have q':oc=p.2:=Option.some.inj e;exact d w' (by rw[<- q'];exact hocd)
def X3(I:Inv X AG σ H s)(hN:X.N.Nodup)(hi:X.N[i]? = AC x)(hx:Loc X.env.scope x)(r:RelV v u)(h:∀s',Inv X AG (σ.set i (AC v)) H s'->Q Unit.unit s')(hf:‹X.fn x=AE\/X.env.scope.names.lookup x=AC .local›):rT M A (storeName X.env x u) Q E s :=
 Yn I hN hi hx r (λs' I' Z=>h s' I') hf
def Inv.call'(I:Inv X AG σ H s)(ho:s'.os=s.os)(u:Un (frs X.stack) ch H H' s.heap s'.heap)(hok:HOk X.prog X.w H' s'.heap)(hg:tG s'.gens)(hch:∀b ∈ ch,(b ∈ X.ex\/X.s₀.heap.objs.size<=b)/\b≠X.env.locals/\(∀x c,X.env.cells.lookup x=AC c->c≠b)/\∀p ∈ X.pn ++ AG,p.1≠b):Inv X AG σ H' s':=by let#[h',g',d',t',o']:=s';have e:o'=s.os:=ho;subst e;exact I.call (g':=g') (t':=t') (d':=d') u hok hg hch
abbrev XK:=rR->Option rQ->Hp->Prop
abbrev St:=List (Option V)
abbrev VK:=V->Hp->Prop
abbrev TE:=St->Hp->VK->Prop
abbrev TT:=St->Hp->(Bool->Hp->Prop)->Prop
abbrev TA:=St->Hp->(List V->Hp->Prop)->Prop
structure Zn where
 nx:St->Hp->Prop
 rt:VK
 bk:St->Hp->Prop:=λZ Z=>False
 ct:St->Hp->Prop:=λZ Z=>False
abbrev TS:=Zn->St->Hp->Prop
def EP(X:Cx)(AG:List (rQ × tw))(σ:St)(Q:VK)(u:rR)(s':rS):Prop:=∃v H',Inv X AG σ H' s'/\RelV v u/\Q v H'
def TP(X:Cx)(AG:List (rQ × tw))(σ:St)(Q:Bool->Hp->Prop)(b:Bool)(s':rS):Prop:=∃H',Inv X AG σ H' s'/\Q b H'
def AP(X:Cx)(AG:List (rQ × tw))(σ:St)(Q:List V->Hp->Prop)(us:List rR)(s':rS):Prop:=∃vs H',Inv X AG σ H' s'/\Vals vs us/\Q vs H'
def SP(X:Cx)(AG:List (rQ × tw))(D:Zn)(f:Flow)(s':rS):Prop :=
 match f with
 | .next=>∃σ' H',Inv X AG σ' H' s'/\D.nx σ' H'
 | .brk=>∃σ' H',Inv X AG σ' H' s'/\D.bk σ' H'
 | .cont=>∃σ' H',Inv X AG σ' H' s'/\D.ct σ' H'
 | .ret u=>∃v σ' H',Inv X AG σ' H' s'/\RelV v u/\D.rt v H'
def PE(X:Cx)(e:sG)(t:TE):Prop :=
 ∀(AG:List (rQ × tw)) (s:rS) (σ:St) (H:Hp) (Q:VK),Inv X AG σ H s->t σ H Q->rT (model X.prog X.w) X.A (eval e X.env) (EP X AG σ Q) X.xe s
def PT(X:Cx)(e:sG)(t:TT):Prop :=
 ∀(AG:List (rQ × tw)) (s:rS) (σ:St) (H:Hp) (Q:Bool->Hp->Prop),Inv X AG σ H s->t σ H Q->rT (model X.prog X.w) X.A (isTrue e X.env (eval e X.env)) (TP X AG σ Q) X.xe s
def PW(X:Cx)(e:sG)(t:TT):Prop :=
 ∀(whole:Sem rR) (AG:List (rQ × tw)) (s:rS) (σ:St) (H:Hp) (Q:Bool->Hp->Prop),Inv X AG σ H s->t σ H Q->rT (model X.prog X.w) X.A (isTrue e X.env whole) (TP X AG σ Q) X.xe s
def PW.pt(h:PW X e t):PT X e t:=h _
def PA(X:Cx)(es:List sG)(t:TA):Prop :=
 ∀(pos:Az) (AG:List (rQ × tw)) (s:rS) (σ:St) (H:Hp) (Q:List V->Hp->Prop),Inv X AG σ H s->t σ H Q->rT (model X.prog X.w) X.A (spliced (sf pos (rN es X.env))) (AP X AG σ Q) X.xe s
def PS(X:Cx)(st:si)(t:TS):Prop :=
 ∀(AG:List (rQ × tw)) (s:rS) (σ:St) (H:Hp) (D:Zn),Inv X AG σ H s->t D σ H->rT (model X.prog X.w) X.A (exec st X.env) (SP X AG D) X.xe s
def PSs(X:Cx)(st:List si)(t:TS):Prop :=
 ∀(AG:List (rQ × tw)) (s:rS) (σ:St) (H:Hp) (D:Zn),Inv X AG σ H s->t D σ H->rT (model X.prog X.w) X.A (execs st X.env) (SP X AG D) X.xe s
def thn(h:rT M A t Q E s)(hQ:∀a s,Q a s->Q' a s):rT M A t Q' E s:=tq h hQ λZ Z x=>x
def el5{α β:Type}{a b c:α->β->Prop}{C:Prop}(f:∀x y,a x y->b x y->c x y->C):(∃x y,a x y/\b x y/\c x y)->C:=λh=>Exists.elim h λx h=>Exists.elim h λy h=>f x y h.1 h.2.1 h.2.2
def el3{α:Type}{a b:α->Prop}{C:Prop}(f:∀x,a x->b x->C):(∃x,a x/\b x)->C:=λh=>Exists.elim h λx h=>f x h.1 h.2
def ua2{a b C:Prop}(f:a->b->C):a/\b->C:=λh=>f h.1 h.2
end
section
mutual section
variable{X:Cx}
def onSl(σ:St)(i:Nat)(p:V->Prop):Prop:=match σ[i]? with | some (AC v)=>p v | _=>False
theorem onSl.of(h:onSl σ i p):∃v,σ[i]? = AC (AC v)/\p v:=by
 unfold onSl at h;split at h
 ·exact#[_,by assumption,h]
 ·exact h.elim
def onInt(x:V)(p:Int->Prop):Prop:=match x with | .int k=>p k | _=>False
def onInt.of(h:onInt x p):∃k,x=.int k/\p k:=by cases x <;> first | exact#[_,rfl,h] | exact h.elim
def onInt.to(h:∃k,x=.int k/\p k):onInt x p:=by let#[k,rfl,h]:=h;exact h
def onStr(x:V)(p:rV->Prop):Prop:=match x with | .str k=>p k | _=>False
def onStr.of(h:onStr x p):∃k,x=.str k/\p k:=by cases x <;> first | exact#[_,rfl,h] | exact h.elim
def onStr.to(h:∃k,x=.str k/\p k):onStr x p:=by let#[k,rfl,h]:=h;exact h
def onBl(x:V)(p:Bool->Prop):Prop:=match x with | .bl k=>p k | _=>False
def onBl.of(h:onBl x p):∃k,x=.bl k/\p k:=by cases x <;> first | exact#[_,rfl,h] | exact h.elim
def onBl.to(h:∃k,x=.bl k/\p k):onBl x p:=by let#[k,rfl,h]:=h;exact h
def onRef(x:V)(p:rQ->Prop):Prop:=match x with | .ref k=>p k | _=>False
def onRef.of(h:onRef x p):∃k,x=.ref k/\p k:=by cases x <;> first | exact#[_,rfl,h] | exact h.elim
def onRef.to(h:∃k,x=.ref k/\p k):onRef x p:=by let#[k,rfl,h]:=h;exact h
def zV(i:Nat):TE:=λσ H Q=>onSl σ i λv=>Q v H
def tC(v:V):TE:=λZ H Q=>Q v H
def zbu(hN:X.N[i]? = AC x)(hv:Vis X.env.scope x)(hd:‹(x ==("__debug__" : rV))=AF›)(hcd:‹(x ==("__classdict__" : rV))=AF›):PE X (.Name x pos) (zV i):=by
 intros Q I h;let#[v,e,h]:=onSl.of h;let#[m,hn,hl]:=I.loc;let#[u,r,l]:=hl i x v hN e hv;have fin:EP X AG σ Q u s:=#[v,H,I,r,h];rcases l with ⟨hk,hm⟩ | ⟨hk,c,hc,hcell⟩
 ·exact Ak (tZ I.ok.kind hk hn hm fin) hd
 ·rcases hk with hk | hk
  ·exact Ak (wpAny_loadName_cell I.ok.kind hk hc hcell fin) hd
  ·exact Ak (wpAny_loadName_free I.ok.kind hk hc hcell fin hcd) hd
def zb{i j pos}:PE X (.Constant (.int i) j pos) (tC (.int i)):=λZ Z Z H Z I h=>wpAny_Constant_int #[.int i,H,I.tok _,#[_,rfl],h]
def yw{b j pos}:PE X (.Constant (.bool b) j pos) (tC (.bl b)):=λZ Z Z H Z I h=>Constant_bool #[.bl b,H,I,rfl,h]
def vx{j pos}:PE X (.Constant .none j pos) (tC .non):=λZ Z Z H Z I h=>Ai #[.non,H,I,rfl,h]
def z8{x j pos}:PE X (.Constant (.str x) j pos) (tC (.str x)):=λZ Z Z H Z I h=>Calls.Constant_str #[.str x,H,I.tok _,#[_,rfl],h]
def Gl(X:Cx)(x:rV):Prop:=X.env.kindOf x=AC .globalImplicit
def yS(I:Inv X AG σ H s)(hg:Gl X x)(hm:X.mg x=AC u)(h:Q u s)(hd:‹(x ==("__debug__" : rV))=AF›):rT (model X.prog X.w) X.A (eval (.Name x pos) X.env) Q E s :=
 Calls.Name_function_global I.ok.kind hg (Calls.loadGlobal_global (by rw[I.ok.glob];exact I.mod.glob.keeps I.bk) hm h) hd
def uP(I:Inv X AG σ H s)(hg:Gl X x)(hm:X.mg x=AD)(hv:sN x=AC u)(h:Q u s)(hn:‹x≠"__name__"›)(hd:‹(x ==("__debug__" : rV))=AF›):rT (model X.prog X.w) X.A (eval (.Name x pos) X.env) Q E s:=by let#[mb,h1,h2]:=I.mod.blt;exact Calls.Name_function_global I.ok.kind hg (Calls.loadGlobal_builtin (by rw[I.ok.glob];exact I.mod.glob.keeps I.bk) hm (by rw[I.ok.blt];exact h1.keeps I.bk) ((h2 x hn).trans hv) h) hd
def ug(hg:Gl X x)(hm:X.mg x=AC u)(r:RelV v u)(hd:‹(x ==("__debug__" : rV))=AF›):PE X (.Name x pos) (tC v) :=
 λZ Z Z H Z I h=>yS I hg hm #[v,H,I,r,h] hd
def zaa(hg:Gl X x)(hm:X.mg x=AD)(hv:sN x=AC u)(r:RelV v u)(hn:‹x≠"__name__"›)(hd:‹(x ==("__debug__" : rV))=AF›):PE X (.Name x pos) (tC v) :=
 λZ Z Z H Z I h=>uP I hg hm hv #[v,H,I,r,h] hn hd
variable{a b:sG}{ta tb:TE}{pos:Az}
def PC(X:Cx)(op:As)(a b:sG)(t:TE):Prop :=
 ∀(AG:List (rQ × tw)) (s:rS) (σ:St) (H:Hp) (Q:VK),Inv X AG σ H s->t σ H Q ->
  rT (model X.prog X.w) X.A (eval a X.env) (λv s₁=>rT (model X.prog X.w) X.A (eval b X.env) (λu s₂=>rT (model X.prog X.w) X.A (rZ op v u) (EP X AG σ Q) X.xe s₂) X.xe s₁) X.xe s
def Xv(b:sG)(h:op≠.In)(h2:op≠.NotIn):behindInMarks op b=AF:=by
 have e1:(op == CmpOp.In)=AF:=by cases op <;> first | rfl | exact y4 rfl h
 have e2:(op == CmpOp.NotIn)=AF:=by cases op <;> first | rfl | exact y4 rfl h2
 cases b <;> simp [behindInMarks,e1,e2]
def yO(h:PC X op a b t)(h1:behindInMarks op b=AF:=by first | exact Xv _ ∅ ∅ | rfl):PE X (.Compare a [op] [b] pos) t:=λAG s σ H Q I hw=>Aa (h AG s σ H Q I hw) h1
variable{tA tB':TT}{rest:List sG}
def zcF(t u:TT):TT:=λσ H Q=>t σ H λc H1=>if c=AE then u σ H1 Q else Q AF H1
def tOr(t u:TT):TT:=λσ H Q=>t σ H λc H1=>if c=AE then Q AE H1 else u σ H1 Q
def zcI(t:TT):TT:=λσ H Q=>t σ H λc H1=>Q (!c) H1
theorem kQ(ha:PT X a tA):PW X (.BoolOp .And [a] pos) tA:=by
 intro wh AG s σ H Q I h;refine isTrue_and (thn (ha AG s σ H Q I h) λc s1 e=>?_)
 cases c with
 | true=>exact isTrue_and_nil e
 | false=>exact e
theorem qV(ha:PT X a tA):PW X (.BoolOp .Or [a] pos) tA:=by
 intro wh AG s σ H Q I h;refine isTrue_or (thn (ha AG s σ H Q I h) λc s1 e=>?_)
 cases c with
 | false=>exact isTrue_or_nil e
 | true=>exact e
theorem Xr(ha:PT X a tA)(hb:PW X (.BoolOp .And (b::rest) pos) tB'):PW X (.BoolOp .And (a::b::rest) pos) (zcF tA tB'):=by
 intro wh AG s σ H Q I h;refine isTrue_and (thn (ha AG s σ H _ I h) λc s1=>el3 λH1 I1 q1=>?_)
 cases c with
 | true=>exact hb wh AG s1 σ H1 Q I1 q1
 | false=>exact#[H1,I1,q1]
theorem kX(ha:PT X a tA)(hb:PW X (.BoolOp .Or (b::rest) pos) tB'):PW X (.BoolOp .Or (a::b::rest) pos) (tOr tA tB'):=by
 intro wh AG s σ H Q I h;refine isTrue_or (thn (ha AG s σ H _ I h) λc s1=>el3 λH1 I1 q1=>?_)
 cases c with
 | true=>exact#[H1,I1,q1]
 | false=>exact hb wh AG s1 σ H1 Q I1 q1
def yv(ha:PT X a tA):PT X (.UnaryOp .Not a pos) (zcI tA):=by intros Q I h;exact isTrue_not (ha AG s σ H (λc H1=>Q (!c) H1) I h)
def V4(ta tb:TE):TE:=λσ H Q=>ta σ H λx H1=>onBl x λc=>if c=AE then tb σ H1 Q else Q (.bl AF) H1
def Qy(ta:TE):TE:=λσ H Q=>ta σ H λx H1=>onBl x λc=>Q (.bl (!c)) H1
def jY{op}(h:PE X a t):PE X (.BoolOp op [a] pos) t:=λAG s σ H Q I hw=>BoolOp_one (h AG s σ H Q I hw)
theorem jS(ha:PE X a ta)(hb:PE X (.BoolOp .And (b::rest) pos) tb):PE X (.BoolOp .And (a::b::rest) pos) (V4 ta tb):=by
 intros Q I h;refine BoolOp_and (thn (ha AG s σ H _ I h) λv s1=>el5 λx H1 I1 r1 q1=>?_);let#[c,rfl,q1]:=onBl.of q1;cases r1;refine su ?_
 cases c with
 | true=>exact hb AG s1 σ H1 Q I1 q1
 | false=>exact#[.bl AF,H1,I1,rfl,q1]
def zbr(ha:PE X a ta):PE X (.UnaryOp .Not a pos) (Qy ta):=by intros Q I h;refine UnaryOp_ (thn (ha AG s σ H _ I h) λv s1=>el5 λx H1 I1 r1 q1=>?_);let#[c,rfl,q1]:=onBl.of q1;cases r1;exact not_of (su #[.bl (!c),H1,I1,rfl,q1])
def tIf(t:TT)(ta tb:TE):TE:=λσ H Q=>t σ H λc H1=>if c=AE then ta σ H1 Q else tb σ H1 Q
theorem kz(hc:PT X c tA)(ha:PE X a ta)(hb:PE X b tb):PE X (.IfExp c a b pos) (tIf tA ta tb):=by
 intros Q I h;refine wpAny_IfExp (thn (hc AG s σ H _ I h) λd s1=>el3 λH1 I1 q1=>?_)
 cases d with
 | true=>exact ha AG s1 σ H1 Q I1 q1
 | false=>exact hb AG s1 σ H1 Q I1 q1
end
end
mutual section
def SqL(K:rP)(H:Hp)(a:rQ)(xs:List V):Prop :=
 Rd H a (.lst xs) \/
  ∃(o:tw) (its:Array rR) (n:Nat),K.lookup a=AC o/\o.cls=.type "list"/\o.dict=AD/\o.data=.seq its n/\its.size<=rO/\Vals xs its.toList
def SqT(K:rP)(H:Hp)(a:rQ)(xs:List V):Prop :=
 Rd H a (.tup xs) \/
  ∃(o:tw) (its:Array rR) (n:Nat),K.lookup a=AC o/\o.cls=.type "tuple"/\o.data=.seq its n/\its.size<=rO/\Vals xs its.toList
def zeR:rR->Option V
 | .none=>AC .non
 | .bool b=>AC (.bl b)
 | .int i _=>AC (.int i)
 | .str x _=>AC (.str x)
 | .bytes b _=>AC (.byt b)
 | .float b _=>AC (.flt b)
 | .ref a=>AC (.ref a)
 | .type n=>AC (.ty n)
 | _=>AD
theorem RelV.abs(r:RelV x u):zeR u=AC x:=by
 cases x with
 | non=>cases r;rfl
 | bl _=>cases r;rfl
 | int _=>let#[t,rfl]:=r;rfl
 | str _=>let#[t,rfl]:=r;rfl
 | byt _=>let#[t,rfl]:=r;rfl
 | flt _=>let#[t,rfl]:=r;rfl
 | ref _=>cases r;rfl
 | ty _=>cases r;rfl
def RelV.inj(r:RelV x u)(q:RelV y u):x=y:=Option.some.inj (r.abs.symm.trans q.abs)
theorem Vals.inj(h:Vals xs us)(h':Vals ys us):xs=ys:=by
 induction h generalizing ys with
 | nil =>
  cases h';rfl
 | cons r t ih =>
  cases h' with
  | cons r' t'=>rw[r.inj r',ih t']
def SqL.of{K:rP}(h:H a=AC (.lst xs)):SqL K H a xs:=.inl (.inl h)
def SqT.of{K:rP}(h:H a=AC (.tup xs)):SqT K H a xs:=.inl (.inl h)
def Inv.list(I:Inv X AG σ H s)(h:SqL X.K H a xs):∃its:List rR,Vals xs its/\PlainL s.heap a its.toArray/\xs.length<=rO:=by
 rcases h with h | ⟨o,its,n,hk,hc,hd,hs,hz,r⟩
 ·let#[z,its,n,r,e]:=h.ok I.hok;exact#[its,r,#[_,n,e,rfl,rfl,rfl],z]
 ·refine#[its.toList,r,#[o,n,I.kIn a o hk,hc,hd,by simpa using hs],?_];have e:=r.length
  erw[fF]at e
  lia
def Inv.tuple(I:Inv X AG σ H s)(h:SqT X.K H a xs):∃its:List rR,Vals xs its/\IsTup s.heap a its.toArray/\xs.length<=rO:=by
 rcases h with h | ⟨o,its,n,hk,hc,hs,hz,r⟩
 ·let#[z,its,r,p]:=h.ok I.hok;exact#[its,r,p,z]
 ·refine#[its.toList,r,#[o,I.kIn a o hk,hc,n,by simpa using hs],?_];have e:=r.length
  erw[fF]at e
  lia
def Inv.list_inj(I:Inv X AG σ H s)(h:SqL X.K H a xs)(h':SqL X.K H a ys):xs=ys:=by
 let#[its,r,#[o,n,e,_,_,d],_]:=I.list h;let#[its',r',#[o',n',e',_,_,d'],_]:=I.list h';rw[e]at e';cases e';rw[d]at d';injection d' with d1 _;have:its=its':=by simpa using congrArg Array.toList d1
 subst this;exact r.inj r'
def Inv.tuple_inj(I:Inv X AG σ H s)(h:SqT X.K H a xs)(h':SqT X.K H a ys):xs=ys:=by
 let#[its,r,#[o,e,_,n,d],_]:=I.tuple h;let#[its',r',#[o',e',_,n',d'],_]:=I.tuple h';rw[e]at e';cases e';rw[d]at d';injection d' with d1 _;have:its=its':=by simpa using congrArg Array.toList d1
 subst this;exact r.inj r'
abbrev Cx.wish(X:Cx)(E:rR->rS->Prop):Cx:={ X with xe:=E }
abbrev Cx.nox(X:Cx):Cx:=X.wish λZ Z=>False
def Cx.Ok.wish{X:Cx}(ok:X.Ok)(E:rR->rS->Prop):(X.wish E).Ok :=
 #[ok.mod,ok.kind,ok.glob,ok.blt,ok.above,ok.inj,ok.has,ok.cab,ok.hd,ok.frames,ok.stk,ok.exf,ok.bs,ok.bsz,ok.noex,ok.exfs,ok.funs,ok.frf]
def Cx.Ok.unwish{X:Cx}(ok:(X.wish E).Ok):X.Ok :=
 #[ok.mod,ok.kind,ok.glob,ok.blt,ok.above,ok.inj,ok.has,ok.cab,ok.hd,ok.frames,ok.stk,ok.exf,ok.bs,ok.bsz,ok.noex,ok.exfs,ok.funs,ok.frf]
def Inv.wish(I:Inv X AG σ H s)(E:rR->rS->Prop):Inv (X.wish E) AG σ H s:=#[I.ok.wish E,I.os,I.bare,I.base,I.loc,I.cell,I.free,I.freeC,I.pin,I.hok,I.len]
def Inv.unwish(I:Inv (X.wish E) AG σ H s):Inv X AG σ H s:=#[I.ok.unwish,I.os,I.bare,I.base,I.loc,I.cell,I.free,I.freeC,I.pin,I.hok,I.len]
theorem SP.unwish(h:SP (X.wish E) AG D f s'):SP X AG D f s':=by
 cases f with
 | next=>let#[σ',H',I,q]:=h;exact#[σ',H',I.unwish,q]
 | brk=>let#[σ',H',I,q]:=h;exact#[σ',H',I.unwish,q]
 | cont=>let#[σ',H',I,q]:=h;exact#[σ',H',I.unwish,q]
 | ret u=>let#[v,σ',H',I,r,q]:=h;exact#[v,σ',H',I.unwish,r,q]
def PSs.nox{st:List si}(h:PSs X.nox st t):PSs X st t:=λAG s σ H D I hw =>
 tq (h AG s σ H D (I.wish _) hw) (λZ Z q=>q.unwish) λZ Z z=>False.elim z
def Jk:TS:=λD σ H=>D.nx σ H
def zcB(t u:TS):TS:=λD σ H=>t { D with nx:=u D } σ H
def zo:PSs X [] Jk:=λZ Z σ H Z I h=>tj #[σ,H,I,h]
theorem zx{X:Cx}{st:si}{rest:List si}{t:TS}{u:TS}(h1:PS X st t)(h2:PSs X rest u):PSs X (st::rest) (zcB t u):=by
 intros D I h;refine sX (thn (h1 AG s σ H { D with nx:=u D } I h) λf s1 q=>?_)
 cases f with
 | next =>
  let#[σ',H',I',q]:=q;exact h2 AG s1 σ' H' D I' q
 | ret v=>exact q
 | brk=>exact q
 | cont=>exact q
theorem zf{X:Cx}{st:si}{t:TS}(h1:PS X st t):PSs X [st] t:=by
 intros D I h;refine sX (thn (h1 AG s σ H D I h) λf s1 q=>?_)
 cases f with
 | next=>exact tj q
 | ret v=>exact q
 | brk=>exact q
 | cont=>exact q
def Inv.quiet(I:Inv X AG σ H s):interactive X.env=AF:=by simp [interactive,I.ok.kind]
def QQ(te:TE):TS:=λD σ H=>te σ H λZ H1=>D.nx σ H1
def wQ(he:PE X e te)(hs:‹swapsWith e AD pos.line X.env=pure AF›):PS X (.Expr e pos) (QQ te):=by intros D I h;exact wpAny_Expr_any (thn (he AG s σ H _ I h) λv s1=>el5 λx H1 I1 r1 q1=>#[σ,H1,I1,q1]) I.quiet hs
def KL(te:TE):TS:=λD σ H=>te σ H D.rt
def zm(he:PE X e te):PS X (.Return (AC e) pos) (KL te):=by intros D I h;exact Ap (thn (he AG s σ H _ I h) λv s1=>el5 λx H1 I1 r1 q1=>#[x,σ,H1,I1,r1,q1])
def zcK(c:TT)(t u:TS):TS:=λD σ H=>c σ H λb H1=>if b=AE then t D σ H1 else u D σ H1
theorem zI(hc:PT X c tc)(ha:PSs X a t)(hb:PSs X b u):PS X (.If c a b pos) (zcK tc t u):=by
 intros D I h;refine wpAny_If (thn (hc AG s σ H _ I h) λd s1=>el3 λH1 I1 q1=>?_)
 cases d with
 | true=>exact ha AG s1 σ H1 D I1 q1
 | false=>exact hb AG s1 σ H1 D I1 q1
abbrev TG:=V->St->Hp->(St->Hp->Prop)->Prop
abbrev TGs:=List V->St->Hp->(St->Hp->Prop)->Prop
def PG(X:Cx)(target:sG)(t:TG):Prop :=
 ∀(AG:List (rQ × tw)) (s:rS) (σ:St) (H:Hp) (v:V) (u:rR) (Q:St->Hp->Prop),Inv X AG σ H s->RelV v u->t v σ H Q ->
  rT (model X.prog X.w) X.A (assign target X.env u) (λZ s'=>∃σ' H',Inv X AG σ' H' s'/\Q σ' H') X.xe s
def PGs(X:Cx)(ts:List sG)(t:TGs):Prop :=
 ∀(AG:List (rQ × tw)) (s:rS) (σ:St) (H:Hp) (vs:List V) (us:List rR) (Q:St->Hp->Prop),Inv X AG σ H s->Vals vs us->t vs σ H Q ->
  rT (model X.prog X.w) X.A (assignInOrder ((assignEach ts X.env).map (·.2)) us) (λZ s'=>∃σ' H',Inv X AG σ' H' s'/\Q σ' H') X.xe s
abbrev zeB:=V->V->V->Hp->(Hp->Prop)->Prop
def zc4(X:Cx)(t:zeB):Prop :=
 ∀(AG:List (rQ × tw)) (s:rS) (σ:St) (H:Hp) (o i v:V) (ov iv u:rR) (Q:Hp->Prop),Inv X AG σ H s->RelV o ov->RelV i iv->RelV v u->t o i v H Q ->
  rT (model X.prog X.w) X.A (setItem ov iv u) (λZ s'=>∃H',Inv X AG σ H' s'/\Q H') X.xe s
def yZ(i:Nat):TG:=λv σ H Q=>Q (σ.set i (AC v)) H
def zq(hN:X.N.Nodup)(hi:X.N[i]? = AC x)(hx:Loc X.env.scope x)(hf:‹X.fn x=AE\/X.env.scope.names.lookup x=AC .local›):PG X (.Name x pos) (yZ i):=by intros v u Q I r h;exact Ao (X3 I hN hi hx r (λs' I'=>#[_,H,I',h]) hf)
def za5:TGs:=λvs σ H Q=>vs=[]/\Q σ H
def Z1(t:TG)(u:TGs):TGs:=λvs σ H Q=>∃v r,vs=v::r/\t v σ H λσ' H'=>u r σ' H' Q
def y8:PGs X [] za5:=by intros vs us Q I r h;let#[e,h]:=h;subst e;cases r;exact assignInOrder_nil #[σ,H,I,h]
theorem zR(h1:PG X e t)(h2:PGs X es u)(hs:‹(assignEach (e::es) X.env).map (·.2)=assign e X.env::(assignEach es X.env).map (·.2)›):PGs X (e::es) (Z1 t u):=by
 intros vs us Q I r h;let#[v,vr,e1,h]:=h;subst e1
 cases r with
 | cons r rr =>
  rw[hs];refine assignInOrder_cons (thn (h1 AG s σ H _ _ _ I r h) λ_ s1 ⟨σ1,H1,I1,q1⟩=>?_);exact h2 AG s1 σ1 H1 _ _ Q I1 rr q1
def za7(K:rP)(n:Nat)(t:TGs):TG:=λv σ H Q=>∃a xs,v=.ref a/\SqT K H a xs/\xs.length=n/\t xs σ H Q
def xS(hc:X.calm=AE)(h:PGs X es t)(hn:‹(assignEach es X.env).length=n›)(hst:‹(assignEach es X.env).findIdx? (·.1)=AD›):PG X (.Tuple es k pos) (za7 X.K n t):=by intros v u Q I r hw;let#[a,xs,e1,hq,hl,hw]:=hw;subst e1;cases r;let#[its,rv,ht,hz]:=I.tuple hq;refine assign_Tuple_tuple (I.ok.hd hc) ht (by simp [hn,<- hl,rv.length]) hst λh' hx=>?_;have I1:Inv X AG σ H { s with heap:=h' }:=I.kept (t':=s.toks) λb o e=>hx b o (ay (ao e)) e;exact h AG _ σ H xs _ Q I1 ↥rv hw
def zbQ(to ti:TE)(t:zeB):TG:=λv σ H Q=>to σ H λo H1=>ti σ H1 λi H2=>t o i v H2 λH3=>Q σ H3
def Ut(ho:PE X o to)(hi:PE X i ti)(hs:zc4 X t)(ha:∀v,assign (.Subscript o i pos) X.env v=(do
   let ov <- holding [v] (eval o X.env)
   let iv <- holding [v,ov] (eval i X.env)
   standAt pos
   holding [v,ov,iv] (setItem ov iv v)
   release [v,ov,iv] []):=by intro _;rfl):PG X (.Subscript o i pos) (zbQ to ti t):=by intros v u Q I r h;rw[ha];refine rK (sC (thn (ho AG s σ H _ I h) λov s1=>el5 λx H1 I1 r1 q1=>?_));refine rK (sC (thn (hi AG s1 σ H1 _ I1 q1) λiv s2=>el5 λy H2 I2 r2 q2=>?_));refine rK (sx (rK (sC (thn (hs AG s2 σ H2 x y v ov iv u _ I2 r1 r2 r q2) λZ s3=>el3 λH3 I3 q3=>?_))));exact wpAny_release #[σ,H3,I3,q3]
def za6(te:TE)(g:TG):TS:=λD σ H=>te σ H λx H1=>g x σ H1 D.nx
def Um(he:PE X e te)(hg:PG X tg g)(hs:‹swapsWithSole [tg] e pos.line X.env=pure AF›)(hw:‹swappedStores [tg] e X.env=pure AD›)(h1:‹(assignEach [tg] X.env).map (·.2)=[assign tg X.env]›):PS X (.Assign [tg] e pos) (za6 te g):=by intros D I h;refine wpAny_Assign_stores (thn (he AG s σ H _ I h) λv s1=>el5 λx H1 I1 r1 q1=>?_) hs hw;rw[h1];exact thn (hg AG s1 σ H1 x v _ I1 r1 q1) λZ s2 q=>q
def uL(hN:X.N.Nodup)(hi:X.N[i]? = AC x)(hx:Loc X.env.scope x)(he:PE X e te)(hs:‹swapsWith e (AC (.Name x pos')) pos.line X.env=pure AF›)(hf:‹X.fn x=AE\/X.env.scope.names.lookup x=AC .local›) :
  PS X (.Assign [.Name x pos'] e pos) (za6 te (yZ i)):=by intros D I h;refine wpAny_Assign_Name (thn (he AG s σ H _ I h) λv s1=>el5 λy H1 I1 r1 q1=>?_) hs;exact X3 I1 hN hi hx r1 (λs2 I2=>#[_,H1,I2,q1]) hf
def Wb(c:TT)(tb:TS):TS:=λD σ H=>∃W:Nat->St->Hp->Prop,(∃m,W m σ H)/\∀m σ H,W m σ H ->
 c σ H λb H1=>if b=AE then ∃N:St->Hp->Prop,(∀σ' H',N σ' H'->∃m',m'<m/\W m' σ' H')/\tb { D with nx:=N,ct:=N,bk:=D.nx } σ H1 else D.nx σ H1
theorem j4(hp:PassesOwn (model X.prog X.w) X.A X.env X.xe)(hc:PT X c tc)(hb:PSs X body tb):PS X (.While c body [] pos) (Wb tc tb):=by
 intros D I h;let#[W,#[m0,w0],turn]:=h;refine wpAny_While (codeAny_whileLoop (λn s'=>∃σ' H',Inv X AG σ' H' s'/\W n σ' H') ?_ m0 #[σ,H,I,w0]);rintro n s1 ⟨σ1,H1,I1,w1⟩;refine sS hp (thn (hc AG s1 σ1 H1 _ I1 (turn n σ1 H1 w1)) λb s2=>el3 λH2 I2 q2=>?_)
 cases b with
 | true =>
  let#[N,hN,q2]:=q2;rw[y6 rfl];refine sS hp (thn (hb AG s2 σ1 H2 _ I2 q2) λf s3 q3=>?_)
  cases f with
  | next =>
   let#[σ3,H3,I3,n3]:=q3;let#[m',hm,w3]:=hN σ3 H3 n3;exact#[m',hm,σ3,H3,I3,w3]
  | cont =>
   let#[σ3,H3,I3,n3]:=q3;let#[m',hm,w3]:=hN σ3 H3 n3;exact#[m',hm,σ3,H3,I3,w3]
  | brk=>exact q3
  | ret v=>exact q3
 | false =>
  rw[y9 az];exact tj #[σ1,H2,I2,q2]
structure It where
 go:Nat->Hp->Prop
 yld:Nat->Hp->V->Hp->Prop
 stop:Nat->Hp->Prop
def wo(X:Cx)(AG:List (rQ × tw))(H:Hp)(b:rQ):Prop :=
 H b=AD/\b≠X.env.locals/\b ∉ X.fs/\(b ∈ X.ex\/X.s₀.heap.objs.size<=b)/\(∀x c,X.env.cells.lookup x=AC c->c≠b)/\∀p ∈ X.pn ++ AG,p.1≠b
def Inv.fpOk(I:Inv X AG σ H s)(hb:s⁻¹<=b)(hn:H' b=AD):wo X AG H' b:=by
 refine#[hn,bJ (aq I.lt hb),I.nofs hb,.inr (aS I.sz hb),λx c e z=>?_,λp hp z=>?_]
 ·let#[v,q]:=I.cell x c e;exact y4 (aq q.lt (by rw[z];exact hb)) (cw _)
 ·exact y4 (aq (ao (I.pin p hp).1) (by rw[z];exact hb)) (cw _)
structure JY(P:rX)(w:sk)(K:rP)(tg:sG)(J:It)(fp:List rQ)(it:rQ)(tn:Nat->sq->Prop):Prop where
 mem:it ∈ fp
 obj:∀i h,tn i h->∀b ∈ fp,∃o,h.get? b=AC o/\∀v,o.data≠.cell v
 keep:∀i h h',tn i h->(∀b ∈ fp,∀o,h.get? b=AC o->h'.get? b=AC o)->tn i h'
 item:∀(X:Cx),X.prog=P->X.w=w->X.K=K->X.calm=AE->∀(i:Nat) (AG:List (rQ × tw)) (s:rS) (σ:St) (H:Hp) (E:rR->rS->Prop),Inv X AG σ H s->(∀b ∈ fp,wo X AG H b)->tn i s.heap->J.go i H ->
  rT (model P w) X.A (pyNext (.ref it)) (λr s1=>∃u,r=AC u /\
   rT (model P w) X.A (letOwnedTupleGo tg (.ref it) u) (λZ s2=>∃x H',Inv X AG σ H' s2/\RelV x u/\J.yld i H x H'/\tn (i+1) s2.heap/\∀b ∈ fp,H' b=AD) E s1) E s
 done:∀(X:Cx),X.prog=P->X.w=w->X.K=K->X.calm=AE->∀(i:Nat) (AG:List (rQ × tw)) (s:rS) (σ:St) (H:Hp) (E:rR->rS->Prop),Inv X AG σ H s->(∀b ∈ fp,wo X AG H b)->tn i s.heap->J.stop i H ->
  rT (model P w) X.A (pyNext (.ref it)) (λr s1=>r=AD/\Inv X AG σ H s1) E s
 self:∀(A:sD) (i:Nat) (s:rS) (Q:rR->rS->Prop) (E:rR->rS->Prop),tn i s.heap->Q (.ref it) s->rT (model P w) A (pyIter (.ref it)) Q E s
abbrev TI:=St->Hp->(It->Hp->Prop)->Prop
def PIE(X:Cx)(AG:List (rQ × tw))(σ:St)(tg:sG)(R:It->Hp->Prop)(itv:rR)(s2:rS):Prop :=
 ∃(it:rQ) (fp:List rQ) (tn:Nat->sq->Prop) (J:It) (H':Hp),itv=.ref it/\Inv X AG σ H' s2/\JY X.prog X.w X.K tg J fp it tn/\tn 0 s2.heap/\(∀b ∈ fp,wo X AG H' b)/\R J H'
def PI(X:Cx)(tg iter:sG)(wi:TI):Prop :=
 ∀(AG:List (rQ × tw)) (s:rS) (σ:St) (H:Hp) (R:It->Hp->Prop),Inv X AG σ H s->wi σ H R ->
  rT (model X.prog X.w) X.A (eval iter X.env) (λv s1=>rT (model X.prog X.w) X.A (pyIter v) (PIE X AG σ tg R) X.xe s1) X.xe s
def QL(ho:s.heap.get? it=AC o)(hc:o.cls=.type n)(hd:o.data=.fields vs)(hn:["enumerate","zip","dict_itemiterator","dict_reverseitemiterator","odict_iterator","itertools.zip_longest","itertools.pairwise"].contains n=AF)(hQ:Q Unit.unit s):rT M A (letOwnedTupleGo tg (.ref it) u) Q E s:=by
  unfold letOwnedTupleGo
  cases tg <;> first
    | exact rL hQ
    | (cases u <;> first
        | exact rL hQ
        | (refine rK (wpAny_load ho ?_)
           rw[hc,hd];show rT M A (if (["enumerate","zip","dict_itemiterator","dict_reverseitemiterator","odict_iterator","itertools.zip_longest","itertools.pairwise"].contains n && vs[0]? == AC (rawInt _))=AE then _ else _) Q E s;rw[y9 (by intro h;rw[hn,d6]at h;cases h)]
           exact rL hQ))
def Itl(K:rP)(a:rQ):It :=
 #[λi H=>∃xs x,SqL K H a xs/\xs[i]? = AC x,λi H x H'=>H'=H/\∀xs,SqL K H a xs->xs[i]? = AC x,λi H=>∃xs,SqL K H a xs/\xs.length<=i]
def Itt(K:rP)(a:rQ):It :=
 #[λi H=>∃xs x,SqT K H a xs/\xs[i]? = AC x,λi H x H'=>H'=H/\∀xs,SqT K H a xs->xs[i]? = AC x,λi H=>∃xs,SqT K H a xs/\xs.length<=i]
def Itr(lo:Int)(n:Nat):It:=#[λi Z=>i<n,λi H x H'=>H'=H/\x=.int (lo+i),λi Z=>n<=i]
def U1{K:rP}(a it:rQ):JY P w K tg (Itl K a) [it] it (λi h=>h.IsListIter it a i) where
 mem:=by simp
 obj:=λi h st b hb=>by
  have e:b=it:=by simpa using hb
  subst e;let#[o,e,c,d]:=st;exact#[o,e,λv z=>by rw[d]at z;cases z]
 keep:=λi h h' st k=>st.at λo e=>k it (by simp) o e
 item:=by
  intro X hP hw hK hc i AG s σ H E I hf st hg;subst hP hw hK;let#[xs,x,hq,hx]:=hg;let#[its,rv,p,hz]:=I.list hq;let#[u,hu,ru]:=rv.get hx;let#[f0,f1,f2,f3,f4,f5]:=hf it (by simp);refine wpAny_pyNext_list_item st p.isList (x:=u) ↥hu λh' st' sb=>?_;have I1:Inv X AG σ H { s with heap:=h' }:=I.turned (t':=s.toks) (λb o hb e=>(sb.2 b hb).trans e) f0 f1 f3 f4 f5;let#[o,e,c,d]:=id st';exact#[u,rfl,QL (s:={ s with heap:=h' }) e c d ∅ #[x,H,I1,ru,#[rfl,λys hy=>by rw[I.list_inj hy hq];exact hx],st',λb hb=>(hf b hb).1]]
 done:=by
  intro X hP hw hK hc i AG s σ H E I hf st hg;subst hP hw hK;let#[xs,hq,hx]:=hg;let#[its,rv,p,hz]:=I.list hq;let#[f0,f1,f2,f3,f4,f5]:=hf it (by simp);have hl:=rv.length;exact wpAny_pyNext_list_end (I.ok.hd hc) st p.isList (by simp;lia) λh' eb=>#[rfl,I.turned (t':=s.toks) (λb o hb e=>eb b o hb e) f0 f1 f3 f4 f5]
 self:=λZ Z Z Z Z st h=>wpAny_pyIter_listiter st h
def WC{K:rP}(a it:rQ):JY P w K tg (Itt K a) [it] it (λi h=>h.IsTupleIter it a i) where
 mem:=by simp
 obj:=λi h st b hb=>by
  have e:b=it:=by simpa using hb
  subst e;let#[o,e,c,d]:=st;exact#[o,e,λv z=>by rw[d]at z;cases z]
 keep:=λi h h' st k=>st.at λo e=>k it (by simp) o e
 item:=by
  intro X hP hw hK hc i AG s σ H E I hf st hg;subst hP hw hK;let#[xs,x,hq,hx]:=hg;let#[its,rv,p,hz]:=I.tuple hq;let#[u,hu,ru]:=rv.get hx;let#[f0,f1,f2,f3,f4,f5]:=hf it (by simp);refine wpAny_pyNext_tuple_item st (show s.heap.IsTuple a its.toArray from p) (x:=u) ↥hu λh' st' sb=>?_;have I1:Inv X AG σ H { s with heap:=h' }:=I.turned (t':=s.toks) (λb o hb e=>(sb.2 b hb).trans e) f0 f1 f3 f4 f5;let#[o,e,c,d]:=id st';exact#[u,rfl,QL (s:={ s with heap:=h' }) e c d ∅ #[x,H,I1,ru,#[rfl,λys hy=>by rw[I.tuple_inj hy hq];exact hx],st',λb hb=>(hf b hb).1]]
 done:=by
  intro X hP hw hK hc i AG s σ H E I hf st hg;subst hP hw hK;let#[xs,hq,hx]:=hg;let#[its,rv,p,hz]:=I.tuple hq;let#[f0,f1,f2,f3,f4,f5]:=hf it (by simp);have hl:=rv.length;exact wpAny_pyNext_tuple_end (I.ok.hd hc) st (show s.heap.IsTuple a its.toArray from p) (by simp;lia) λh' eb=>#[rfl,I.turned (t':=s.toks) (λb o hb e=>eb b o hb e) f0 f1 f3 f4 f5]
 self:=λZ Z Z Z Z st h=>wpAny_pyIter_tupleiter st h
def WW{K:rP}(it:rQ)(lo:Int)(n:Nat):JY P w K tg (Itr lo n) [it] it (λi h=>IsRangeIter h it (lo+(i:Nat) * 1) ((n:Int) - (i:Nat)) 1) where
 mem:=by simp
 obj:=λi h st b hb=>by
  have e:b=it:=by simpa using hb
  subst e
  exact#[_,st,λv z=>by
   have z':Data.fields _=Data.cell v:=z
   cases z']
 keep:=λi h h' st k=>k it (by simp) _ st
 item:=by
  intro X hP hw hK hc i AG s σ H E I hf st hg;subst hP hw hK;let#[f0,f1,f2,f3,f4,f5]:=hf it (by simp);have W:=Walks.range (prog:=X.prog) (w:=X.w) (I.ok.hd hc) it lo 1 n;refine W.item i s _ _ hg st λv h' tk hv st' kk=>?_;let#[t,rfl]:=hv;have I1:Inv X AG σ H { s with heap:=h',toks:=tk }:=I.turned (λb o hb e=>kk b o ↥hb e) f0 f1 f3 f4 f5;refine#[_,rfl,QL (s:={ s with heap:=h',toks:=tk }) (n:="range_iterator") st' rfl rfl ∅ #[.int (lo+i),H,I1,#[t,?_],#[rfl,rfl],st',λb hb=>(hf b hb).1]];rw[Int.mul_one]
 done:=by
  intro X hP hw hK hc i AG s σ H E I hf st hg;subst hP hw hK;let#[f0,f1,f2,f3,f4,f5]:=hf it (by simp);exact wpAny_pyNext_range_end (I.ok.hd hc) st (by have:n<=i:=hg;lia) λh' eb=>#[rfl,I.turned (t':=s.toks) (λb o hb e=>eb b o hb e) f0 f1 f3 f4 f5]
 self:=λZ Z Z Z Z st h=>wpAny_pyIter_rangeiter st h
def KD(K:rP)(tl:TE):TI:=λσ H R=>tl σ H λx H1=>∃a,x=.ref a/\(∃xs,SqL K H1 a xs)/\R (Itl K a) H1
def zc9(K:rP)(tl:TE):TI:=λσ H R=>tl σ H λx H1=>∃a,x=.ref a/\(∃xs,SqT K H1 a xs)/\R (Itt K a) H1
def ya(hl:PE X l tl):PI X tg l (KD X.K tl):=by
 intros R I h;refine thn (hl AG s σ H _ I h) λv s1=>el5 λx H1 I1 r1 q1=>?_;let#[a,e,#[xs,hq],q]:=q1;subst e;cases r1;let#[its,rv,p,hz]:=I1.list hq;refine tB p.isList ?_;refine#[s1⁻¹,[s1⁻¹],_,_,H1,rfl,I1.kept (t':=s1.toks) λb o e=>ac _ e,U1 a _,#[_,aB _ rfl,rfl,rfl],λb hb=>?_,q];have e:b=s1⁻¹:=by simpa using hb
 subst e;exact I1.fpOk (ah _) (I1.hok.fresh (ah _))
def XR(hl:PE X l tl):PI X tg l (zc9 X.K tl):=by
 intros R I h;refine thn (hl AG s σ H _ I h) λv s1=>el5 λx H1 I1 r1 q1=>?_;let#[a,e,#[xs,hq],q]:=q1;subst e;cases r1;let#[its,rv,p,hz]:=I1.tuple hq;refine tJ (show s1.heap.IsTuple a its.toArray from p) ?_;refine#[s1⁻¹,[s1⁻¹],_,_,H1,rfl,I1.kept (t':=s1.toks) λb o e=>ac _ e,WC a _,#[_,aB _ rfl,rfl,rfl],λb hb=>?_,q];have e:b=s1⁻¹:=by simpa using hb
 subst e;exact I1.fpOk (ah _) (I1.hok.fresh (ah _))
def XF{lo hi:Int}(I:Inv X AG σ H s)(h1:-(2 ^ 62)<=lo)(h2:lo<2 ^ 62)(h3:-(2 ^ 62)<=hi)(h4:hi<2 ^ 62)(q:R (Itr lo (hi - lo).toNat) H):rT (model X.prog X.w) X.A (pyIter (.ref s⁻¹)) (PIE X AG σ tg R) E { s with heap:=s.heap.push { cls:=.type "range",data:=.fields (r8 [.int lo t,.int hi u,.int 1 v]) },toks:=tk }:=by
 refine wpAny_pyIter_range (IsRange.new ..) (small_one h1 h2 h3 h4) ?_;have I1:Inv X AG σ H { s with heap:=s.heap.push { cls:=.type "range",data:=.fields (r8 [.int lo t,.int hi u,.int 1 v]) },toks:=tk }:=I.kept λb o e=>ac _ e
 refine#[(s.heap.push { cls:=.type "range",data:=.fields (r8 [.int lo t,.int hi u,.int 1 v]) }).objs.size,[(s.heap.push { cls:=.type "range",data:=.fields (r8 [.int lo t,.int hi u,.int 1 v]) }).objs.size],_,_,H,rfl,
  I1.kept (t':=tk) λb o e=>ac _ e,WW _ lo (hi - lo).toNat,?_,λb hb=>?_,q]
 ·have e1:lo+((0:Nat):Int) * 1=lo:=by simp
  have e2:(((hi - lo).toNat:Nat):Int) - ((0:Nat):Int)=Builtin.Range.rangeSize lo hi 1:=by rw[rangeSize_one];split <;> lia
  show IsRangeIter _ _ (lo+((0:Nat):Int) * 1) ((((hi - lo).toNat:Nat):Int) - ((0:Nat):Int)) 1;rw[e1,e2];exact aB _ rfl
 ·have e:b=(s.heap.push { cls:=.type "range",data:=.fields (r8 [.int lo t,.int hi u,.int 1 v]) }).objs.size:=by simpa using hb
  subst e;exact I1.fpOk (ah _) (I1.hok.fresh (ah _))
def zaC(ta:TA):TI:=λσ H R=>ta σ H λvs H1=>∃j:Int,vs=[.int j]/\-(2 ^ 62)<=j/\j<2 ^ 62/\R (Itr 0 j.toNat) H1
def zav(ta:TA):TI:=λσ H R=>ta σ H λvs H1=>∃i j:Int,vs=[.int i,.int j]/\(-(2 ^ 62)<=i/\i<2 ^ 62/\-(2 ^ 62)<=j/\j<2 ^ 62)/\R (Itr i (j - i).toNat) H1
theorem yB(hg:Gl X "range")(hm:X.mg "range" = AD)(ha:PA X [a] ta)(hs:‹rN [a] X.env=[(AF,eval a X.env)]›):PI X tg (.Call (.Name "range" p) [a] [] pos) (zaC ta):=by
 intros R I h;refine Call_ (uP I hg hm boot_range (bQ (thn (ha pos AG s σ H _ I h) λus s1=>el5 λvs H1 I1 r1 q1=>?_) hs rfl));let#[j,e,q1,q2,q]:=q1;subst e
 cases r1 with
 | cons r rr =>
  cases rr;let#[t,rfl]:=r;exact call_range_1 (XF I1 ⋯ ⋯ q1 q2 ↥q)
theorem ZC(hg:Gl X "range")(hm:X.mg "range" = AD)(ha:PA X [a,b] ta)(hs:‹rN [a,b] X.env=[(AF,eval a X.env),(AF,eval b X.env)]›)(hs2:‹rN [b] X.env=[(AF,eval b X.env)]›) :
  PI X tg (.Call (.Name "range" p) [a,b] [] pos) (zav ta):=by
 intros R I h;refine Call_ (uP I hg hm boot_range (bQ (thn (ha pos AG s σ H _ I h) λus s1=>el5 λvs H1 I1 r1 q1=>?_) (by rw[hs,hs2]) (by rw[hs2];rfl)));let#[i,j,e,#[q1,q2,q3,q4],q]:=q1;subst e
 cases r1 with
 | cons r rr =>
  cases rr with
  | cons r' rr =>
   cases rr;let#[t,rfl]:=r;let#[t',rfl]:=r';exact call_range_2 (XF I1 q1 q2 q3 q4 q)
def QH(wi:TI)(g:TG)(tb:TS):TS:=λD σ H=>wi σ H λJ H1=>∃W:Nat->Nat->St->Hp->Prop,(∃m,W 0 m σ H1)/\∀i m σ H,W i m σ H ->
 (J.stop i H/\D.nx σ H)\/(J.go i H/\∃N:St->Hp->Prop,(∀σ' H',N σ' H'->∃m',m'<m/\W (i+1) m' σ' H')/\∀x H',J.yld i H x H'->g x σ H' λσ2 H2=>tb { D with nx:=N,ct:=N,bk:=D.nx } σ2 H2)
def Yf(fp:List rQ)(h:sq):List (rQ × tw):=fp.filterMap λb=>(h.get? b).map λo=>(b,o)
def vd(hb:b ∈ fp)(e:h.get? b=AC o):(b,o) ∈ Yf fp h:=Bb.mpr #[b,hb,by rw[e];rfl]
theorem VL(hp:p ∈ Yf fp h):p.1 ∈ fp/\h.get? p.1=AC p.2:=by
 let#[b,hb,e]:=Bb.mp hp
 cases q:h.get? b with
 | none=>rw[q]at e;cases e
 | some o =>
  rw[q]at e;have e':(b,o)=p:=Option.some.inj e;subst e';exact#[hb,q]
def Inv.pinned(I:Inv X AG σ H s)(hf:∀b ∈ fp,wo X AG H b)(ho:∀b ∈ fp,∃o,s.heap.get? b=AC o/\∀v,o.data≠.cell v):Inv X (AG ++ Yf fp s.heap) σ H s :=
 I.pins_of λp hp=>(AK.mp hp).elim (λz=>I.pin p (bf _ z)) λz=>by
  let#[hb,e]:=VL z;let#[f0,f1,f2,_]:=hf p.1 hb;let#[o,e',d]:=ho p.1 hb;rw[e]at e';cases e';exact#[e,f0,f1,f2,d]
def Inv.unpinned(I:Inv X (AG ++ pl) σ H s):Inv X AG σ H s:=I.pins_of λp hp=>I.pin p (bf _ (dN _ hp))
def zX(hp:PassesOwn (model X.prog X.w) X.A X.env X.xe)(hc:X.calm=AE)(hi:PI X tg iter wi)(hg:PG X tg g)(hb:PSs X body tb)(hs:‹∀x,foldedSetIterable iter X.env x=pure x›):PS X (.For tg iter body [] pos) (QH wi g tb):=by
 intros D I h;refine wpAny_For (thn (hi AG s σ H _ I h) λv s1 h1=>thn h1 λitv s2 h2=>?_) hs;let#[it,fp,tn,J,H2,e,I2,T,st2,f2,W,#[m0,w0],turn]:=h2;subst e;have stat:∀{H':Hp},(∀b ∈ fp,H' b=AD)->∀b ∈ fp,wo X AG H' b:=λhn b hb=>#[hn b hb,(f2 b hb).2];refine codeAny_forLoop_any (λn s'=>∃i σ' H',Inv X AG σ' H' s'/\tn i s'.heap/\(∀b ∈ fp,H' b=AD)/\W i n σ' H') ?_ m0 #[0,σ,H2,I2,st2,λb hb=>(f2 b hb).1,w0];rintro n s3 ⟨i,σ3,H3,I3,st3,fr3,w3⟩;rcases turn i n σ3 H3 w3 with ⟨stop,qn⟩ | ⟨go,N,hN,step⟩
 ·refine sS hp (thn (T.done X rfl rfl rfl hc i AG s3 σ3 H3 X.xe I3 (stat fr3) st3 stop) λr s4 ⟨hr,I4⟩=>?_);subst hr;exact tj #[σ3,H3,I4,qn]
 ·refine sS hp (thn (T.item X rfl rfl rfl hc i AG s3 σ3 H3 X.xe I3 (stat fr3) st3 go) λr s4 ⟨u,hr,h4⟩=>?_);subst hr;refine sS hp (thn h4 λZ s5=>el5 λx H5 I5 r5 q_z=>?_);let#[y5,st5,fr5]:=q_z;have I5':=I5.pinned (stat fr5) (T.obj _ _ st5);refine sS hp (thn (hg _ s5 σ3 H5 x u _ I5' r5 (step x H5 y5)) λ_ s6 ⟨σ6,H6,I6,q6⟩=>?_);refine sS hp (thn (hb _ s6 σ6 H6 _ I6 q6) λf s7 q7=>?_)
  have again:∀{σ7:St} {H7:Hp},Inv X (AG ++ Yf fp s5.heap) σ7 H7 s7->N σ7 H7->∃m,m<n/\∃i σ' H',Inv X AG σ' H' s7/\tn i s7.heap/\(∀b ∈ fp,H' b=AD)/\W i m σ' H':=λ{σ7 H7} I7 n7=>by
   let#[m',hm,w7]:=hN σ7 H7 n7;refine#[m',hm,i+1,σ7,H7,I7.unpinned,T.keep _ _ _ st5 λb hb o e=>(I7.pin (b,o) (bf _ (bf _ (vd hb e)))).1,λb hb=>?_,w7];let#[o,e,d]:=T.obj _ _ st5 b hb;exact (I7.pin (b,o) (bf _ (bf _ (vd hb e)))).2.1
  cases f with
  | next=>let#[σ7,H7,I7,n7]:=q7;exact again I7 n7
  | cont=>let#[σ7,H7,I7,n7]:=q7;exact again I7 n7
  | brk=>let#[σ7,H7,I7,q7]:=q7;exact#[σ7,H7,I7.unpinned,q7]
  | ret v=>let#[x7,σ7,H7,I7,r7,q7]:=q7;exact#[x7,σ7,H7,I7.unpinned,r7,q7]
def QV{K:rP}{g:TG}{tb:TS}{D:Zn}(Pv:Nat->St->Hp->Prop)(h0:Pv 0 σ H)(hl:∀i σ H,i<=xs.length->Pv i σ H->SqL K H a xs)(hs:∀i x σ H,xs[i]? = AC x->Pv i σ H->g x σ H λσ2 H2=>tb { D with nx:=Pv (i+1),ct:=Pv (i+1),bk:=D.nx } σ2 H2)(hd:∀σ H,Pv xs.length σ H->D.nx σ H) :
  ∃W:Nat->Nat->St->Hp->Prop,(∃m,W 0 m σ H)/\∀i m σ H,W i m σ H ->
   ((Itl K a).stop i H/\D.nx σ H)\/((Itl K a).go i H/\∃N:St->Hp->Prop,(∀σ' H',N σ' H'->∃m',m'<m/\W (i+1) m' σ' H')/\∀x H',(Itl K a).yld i H x H'->g x σ H' λσ2 H2=>tb { D with nx:=N,ct:=N,bk:=D.nx } σ2 H2):=by
 refine#[λi m σ H=>m=xs.length - i/\i<=xs.length/\Pv i σ H,#[xs.length,by simp,aJ _,h0],?_];rintro i m σ H ⟨rfl,hi,p⟩;have q:=hl i σ H hi p;by_cases hlt:i<xs.length
 ·refine .inr #[#[xs,xs[i],q,by simp [hlt]],Pv (i+1),λσ' H' p'=>#[xs.length - (i+1),⋯,rfl,hlt,p'],λx H' y=>?_];let#[e,y]:=y;subst e;exact hs i x σ _ (y xs q) p
 ·have e:i=xs.length:=⋯;subst e;exact .inl #[#[xs,q,ah _],hd σ H p]
def K9{K:rP}{g:TG}{tb:TS}{D:Zn}(Pv:Nat->St->Hp->Prop)(h0:Pv 0 σ H)(hl:∀i σ H,i<=xs.length->Pv i σ H->SqT K H a xs)(hs:∀i x σ H,xs[i]? = AC x->Pv i σ H->g x σ H λσ2 H2=>tb { D with nx:=Pv (i+1),ct:=Pv (i+1),bk:=D.nx } σ2 H2)(hd:∀σ H,Pv xs.length σ H->D.nx σ H) :
  ∃W:Nat->Nat->St->Hp->Prop,(∃m,W 0 m σ H)/\∀i m σ H,W i m σ H ->
   ((Itt K a).stop i H/\D.nx σ H)\/((Itt K a).go i H/\∃N:St->Hp->Prop,(∀σ' H',N σ' H'->∃m',m'<m/\W (i+1) m' σ' H')/\∀x H',(Itt K a).yld i H x H'->g x σ H' λσ2 H2=>tb { D with nx:=N,ct:=N,bk:=D.nx } σ2 H2):=by
 refine#[λi m σ H=>m=xs.length - i/\i<=xs.length/\Pv i σ H,#[xs.length,by simp,aJ _,h0],?_];rintro i m σ H ⟨rfl,hi,p⟩;have q:=hl i σ H hi p;by_cases hlt:i<xs.length
 ·refine .inr #[#[xs,xs[i],q,by simp [hlt]],Pv (i+1),λσ' H' p'=>#[xs.length - (i+1),⋯,rfl,hlt,p'],λx H' y=>?_];let#[e,y]:=y;subst e;exact hs i x σ _ (y xs q) p
 ·have e:i=xs.length:=⋯;subst e;exact .inl #[#[xs,q,ah _],hd σ H p]
def VZ{lo:Int}{g:TG}{tb:TS}{D:Zn}(Pv:Nat->St->Hp->Prop)(h0:Pv 0 σ H)(hs:∀i σ H,i<n->Pv i σ H->g (.int (lo+i)) σ H λσ2 H2=>tb { D with nx:=Pv (i+1),ct:=Pv (i+1),bk:=D.nx } σ2 H2)(hd:∀σ H,Pv n σ H->D.nx σ H) :
  ∃W:Nat->Nat->St->Hp->Prop,(∃m,W 0 m σ H)/\∀i m σ H,W i m σ H ->
   ((Itr lo n).stop i H/\D.nx σ H)\/((Itr lo n).go i H/\∃N:St->Hp->Prop,(∀σ' H',N σ' H'->∃m',m'<m/\W (i+1) m' σ' H')/\∀x H',(Itr lo n).yld i H x H'->g x σ H' λσ2 H2=>tb { D with nx:=N,ct:=N,bk:=D.nx } σ2 H2):=by
 refine#[λi m σ H=>m=n - i/\i<=n/\Pv i σ H,#[n,by simp,aJ _,h0],?_];rintro i m σ H ⟨rfl,hi,p⟩;by_cases hlt:i<n
 ·refine .inr #[hlt,Pv (i+1),λσ' H' p'=>#[n - (i+1),⋯,rfl,hlt,p'],λx H' y=>?_];let#[e,y]:=y;subst e y;exact hs i σ _ hlt p
 ·have e:i=n:=⋯;subst e;exact .inl #[ah _,hd σ H p]
abbrev R2:=V->V->Hp->VK->Prop
def OpR(X:Cx)(f:rR->rR->Sem rR)(r:R2):Prop :=
 ∀(AG:List (rQ × tw)) (s:rS) (σ:St) (H:Hp) (x y:V) (v u:rR) (Q:VK),Inv X AG σ H s->RelV x v->RelV y u->r x y H Q ->
  rT (model X.prog X.w) X.A (f v u) (EP X AG σ Q) X.xe s
def UnR(X:Cx)(f:rR->Sem rR)(r:V->Hp->VK->Prop):Prop :=
 ∀(AG:List (rQ × tw)) (s:rS) (σ:St) (H:Hp) (x:V) (v:rR) (Q:VK),Inv X AG σ H s->RelV x v->r x H Q ->
  rT (model X.prog X.w) X.A (f v) (EP X AG σ Q) X.xe s
def ww(X:Cx)(f:rR)(r:List V->Hp->VK->Prop):Prop :=
 ∀(AG:List (rQ × tw)) (s:rS) (σ:St) (H:Hp) (xs:List V) (us:List rR) (Q:VK),Inv X AG σ H s->Vals xs us->r xs H Q ->
  rT (model X.prog X.w) X.A (call f us) (EP X AG σ Q) X.xe s
def zeG(X:Cx)(r:V->Hp->(Bool->Hp->Prop)->Prop):Prop :=
 ∀(AG:List (rQ × tw)) (s:rS) (σ:St) (H:Hp) (x:V) (v:rR) (Q:Bool->Hp->Prop),Inv X AG σ H s->RelV x v->r x H Q ->
  rT (model X.prog X.w) X.A (truthy v) (TP X AG σ Q) X.xe s
def tOp(r:R2)(ta tb:TE):TE:=λσ H Q=>ta σ H λx H1=>tb σ H1 λy H2=>r x y H2 Q
def tUn(r:V->Hp->VK->Prop)(ta:TE):TE:=λσ H Q=>ta σ H λx H1=>r x H1 Q
def rI(C:Int->Int->Prop)(g:Int->Int->V):R2:=λx y H Q=>onInt x λi=>onInt y λj=>C i j/\Q (g i j) H
def rI0(g:Int->Int->V):R2:=λx y H Q=>onInt x λi=>onInt y λj=>Q (g i j) H
def rU(g:Int->V):V->Hp->VK->Prop:=λx H Q=>onInt x λi=>Q (g i) H
def zd9(ha:PE X a ta)(hb:PE X b tb){R:V->V->Hp->Prop}(I:Inv X AG σ H s)(h:ta σ H λx H1=>tb σ H1 λy H2=>R x y H2){f:rR->rR->Sem rR}(hf:∀v u s2 x y H2,Inv X AG σ H2 s2->RelV x v->RelV y u->R x y H2->rT (model X.prog X.w) X.A (f v u) Q X.xe s2) :
  rT (model X.prog X.w) X.A (eval a X.env) (λv s₁=>rT (model X.prog X.w) X.A (eval b X.env) (λu s₂=>rT (model X.prog X.w) X.A (f v u) Q X.xe s₂) X.xe s₁) X.xe s:=by refine thn (ha AG s σ H _ I h) λv s1=>el5 λx H1 I1 r1 q1=>?_;refine thn (hb AG s1 σ H1 _ I1 q1) λu s2=>el5 λy H2 I2 r2 q2=>?_;exact hf v u s2 x y H2 I2 r1 r2 q2
def zv(ho:OpR X (binaryOp op) r)(ha:PE X a ta)(hb:PE X b tb):PE X (.BinOp a op b pos) (tOp r ta tb):=by intros Q I h;exact wpAny_BinOp (zd9 ha hb I h λv u s2 x y H2 I2 rx ry q=>ho AG s2 σ H2 x y v u Q I2 rx ry q)
def Uw(ho:UnR X (unaryOp op) r)(ha:PE X a ta):PE X (.UnaryOp op a pos) (tUn r ta):=by intros Q I h;exact UnaryOp_ (thn (ha AG s σ H _ I h) λv s1=>el5 λx H1 I1 r1 q1=>ho AG s1 σ H1 x v Q I1 r1 q1)
def opI{g:Int->Int->Int}(rule:∀(i j:Int) (t u:Ad) (s:rS) (Q:rR->rS->Prop) (E:rR->rS->Prop),C i j->Q (.int (g i j) s.toks) { s with toks:=s.toks+1 }->rT (model X.prog X.w) X.A (f (.int i t) (.int j u)) Q E s) :
  OpR X f (rI C λi j=>.int (g i j)):=by intros x y v u Q I rx ry h;let#[i,rfl,h2]:=onInt.of h;let#[j,rfl,hc,q]:=onInt.of h2;let#[t,rfl]:=rx;let#[t',rfl]:=ry;exact rule i j t t' s _ _ hc #[.int (g i j),H,I.tok _,#[_,rfl],q]
def zet{g:Int->Int->Int}(rule:∀(i j:Int) (t u:Ad) (s:rS) (Q:rR->rS->Prop) (E:rR->rS->Prop),Q (.int (g i j) s.toks) { s with toks:=s.toks+1 }->rT (model X.prog X.w) X.A (f (.int i t) (.int j u)) Q E s) :
  OpR X f (rI0 λi j=>.int (g i j)):=by intros x y v u Q I rx ry h;let#[i,rfl,h2]:=onInt.of h;let#[j,rfl,q]:=onInt.of h2;let#[t,rfl]:=rx;let#[t',rfl]:=ry;exact rule i j t t' s _ _ #[.int (g i j),H,I.tok _,#[_,rfl],q]
def zcE{g:Int->Int->Bool}(rule:∀(i j:Int) (t u:Ad) (s:rS) (Q:rR->rS->Prop) (E:rR->rS->Prop),Q (.bool (g i j)) s->rT (model X.prog X.w) X.A (f (.int i t) (.int j u)) Q E s) :
  OpR X f (rI0 λi j=>.bl (g i j)):=by intros x y v u Q I rx ry h;let#[i,rfl,h2]:=onInt.of h;let#[j,rfl,q]:=onInt.of h2;let#[t,rfl]:=rx;let#[t',rfl]:=ry;exact rule i j t t' s _ _ #[.bl (g i j),H,I,rfl,q]
def zen(i j:Int):Prop:=0<j/\j<1073741824
def CMul(i j:Int):Prop:=(-(2 ^ 64)<i/\i<2 ^ 64)\/(-(2 ^ 64)<j/\j<2 ^ 64)
def CMul.ok(h:CMul i j):IntMulOk i j:=by
 rcases h with ⟨h1,h2⟩ | ⟨h1,h2⟩
 ·exact .of_left (intBits_le_64 h1 h2)
 ·exact .of_right (intBits_le_64 h1 h2)
def yf:OpR X (binaryOp .Add) (rI0 λi j=>.int (i+j)):=zet λZ Z Z Z Z Z Z q=>add_int q
def wM:OpR X (binaryOp .Sub) (rI0 λi j=>.int (i - j)):=zet λZ Z Z Z Z Z Z q=>sub_int q
def jL:OpR X (binaryOp .Mult) (rI CMul λi j=>.int (i * j)):=opI λZ Z Z Z Z Z Z hc q=>mul_int q hc.ok
def xj:OpR X (binaryOp .FloorDiv) (rI zen λi j=>.int (i / j)):=opI λi j Z Z Z Z Z hc q=>by
 have h1:(0:Int)<j:=hc.1;have h2:j<1073741824:=hc.2;exact floordiv_int ⋯ (by rw[Int.fdiv_eq_ediv_of_nonneg i ⋯];exact q) (.inl (PyProof.noPylong_small ⋯))
def yb:OpR X (binaryOp .Mod) (rI (λZ j=>0<j) λi j=>.int (i % j)):=opI λi j Z Z Z Z Z hc q=>by
 have h1:(0:Int)<j:=hc;exact mod_int' ⋯ (by rw[Int.fmod_eq_emod_of_nonneg i ⋯];exact q)
def unI{g:Int->Int}(rule:∀(i:Int) (t:Ad) (s:rS) (Q:rR->rS->Prop) (E:rR->rS->Prop),Q (.int (g i) s.toks) { s with toks:=s.toks+1 }->rT (model X.prog X.w) X.A (f (.int i t)) Q E s) :
  UnR X f (rU λi=>.int (g i)):=by intros x v Q I rx h;let#[i,rfl,q]:=onInt.of h;let#[t,rfl]:=rx;exact rule i t s _ _ #[.int (g i),H,I.tok _,#[_,rfl],q]
def ZB:UnR X (unaryOp .USub) (rU λi=>.int (-i)):=unI λZ Z Z Z Z q=>neg_int q
def VE:V->V->Bool
 | .non,.non=>AE | .non,.int _=>AE | .int _,.non=>AE | .non,.bl _=>AE | .bl _,.non=>AE | .non,.str _=>AE | .str _,.non=>AE
 | .int _,.int _=>AE | .bl _,.bl _=>AE | .str _,.str _=>AE | .byt _,.byt _=>AE
 | .int _,.str _=>AE | .str _,.int _=>AE | .bl _,.str _=>AE | .str _,.bl _=>AE
 | _,_=>AF
def rEq:R2:=λx y H Q=>match x,y with | .int a,.int b=>Q (.bl (decide (a=b))) H | .str a,.str b=>Q (.bl (decide (a=b))) H | x,y=>VE x y=AE/\Q (.bl (decide (x=y))) H
def rEq_is : rEq x y H Q=(VE x y=AE/\Q (.bl (decide (x=y))) H):=by cases x <;> cases y <;> first | rfl | (show Q _ H=(AE=AE/\Q _ H);rw[eq_self,true_and];congr 2;exact decide_eq_decide.mpr #[λh=>by rw[h],λh=>by cases h;rfl])
def rNe:R2:=λx y H Q=>match x,y with | .int a,.int b=>Q (.bl (!decide (a=b))) H | .str a,.str b=>Q (.bl (!decide (a=b))) H | x,y=>VE x y=AE/\Q (.bl (!decide (x=y))) H
def rNe_is : rNe x y H Q=(VE x y=AE/\Q (.bl (!decide (x=y))) H):=by cases x <;> cases y <;> first | rfl | (show Q _ H=(AE=AE/\Q _ H);rw[eq_self,true_and];congr 2;congr 1;exact decide_eq_decide.mpr #[λh=>by rw[h],λh=>by cases h;rfl])
def Vz : decide (V.int i=V.int j)=(i == j):=by rw[cJ];simp
def Kg : decide (V.bl i=V.bl j)=(i == j):=by rw[cJ];simp
def UW : decide (V.str i=V.str j)=(i == j):=by rw[cJ];simp
def Vq : decide (V.byt i=V.byt j)=(i.toList == j.toList):=by rw[cJ];cases i;cases j;simp
def zY(I:Inv X AG σ H s)(q:Q (.bl k) H)(e:k=k'):EP X AG σ Q (.bool k') s:=by subst e;exact#[.bl k,H,I,rfl,q]
theorem yq:OpR X (rZ .Eq) rEq:=by
 intros x y v u Q I rx ry h;let#[hs,q]:=rEq_is.mp h
 cases x with
 | non =>
  cases rx
  cases y with
  | non=>cases ry;exact PySem.EqNone.eq_none_none (zY I q (by simp))
  | bl j=>cases ry;exact PySem.EqNone.eq_none_bool (zY I q (by simp))
  | int j=>let#[t',rfl]:=ry;exact PySem.EqNone.eq_none_int (zY I q (by simp))
  | str j=>let#[t',rfl]:=ry;exact PySem.EqNone.eq_none_str (zY I q (by simp))
  | _=>exact y4 (show AF=AE from hs) az
 | bl i =>
  cases rx
  cases y with
  | non=>cases ry;exact PySem.EqNone.eq_bool_none (zY I q (by simp))
  | bl j=>cases ry;exact eq_bool (zY I q Kg)
  | str j=>let#[t',rfl]:=ry;exact PySem.EqMixed.eq_bool_str (zY I q (by simp))
  | _=>exact y4 (show AF=AE from hs) az
 | int i =>
  let#[t,rfl]:=rx
  cases y with
  | non=>cases ry;exact PySem.EqNone.eq_int_none (zY I q (by simp))
  | int j=>let#[t',rfl]:=ry;exact eq_int (zY I q Vz)
  | str j=>let#[t',rfl]:=ry;exact PySem.EqMixed.eq_int_str (zY I q (by simp))
  | _=>exact y4 (show AF=AE from hs) az
 | str i =>
  let#[t,rfl]:=rx
  cases y with
  | non=>cases ry;exact PySem.EqNone.eq_str_none (zY I q (by simp))
  | bl j=>cases ry;exact PySem.EqMixed.eq_str_bool (zY I q (by simp))
  | int j=>let#[t',rfl]:=ry;exact PySem.EqMixed.eq_str_int (zY I q (by simp))
  | str j=>let#[t',rfl]:=ry;exact eq_str (zY I q UW)
  | _=>exact y4 (show AF=AE from hs) az
 | byt i =>
  let#[t,rfl]:=rx
  cases y with
  | byt j=>let#[t',rfl]:=ry;exact PySem.W.eq_bytes (zY I q Vq)
  | _=>exact y4 (show AF=AE from hs) az
 | _=>cases y <;> exact y4 (show AF=AE from hs) az
theorem uC:OpR X (rZ .NotEq) rNe:=by
 intros x y v u Q I rx ry h;let#[hs,q]:=rNe_is.mp h
 cases x with
 | non =>
  cases rx
  cases y with
  | non=>cases ry;exact PySem.EqNone.ne_none_none (zY I q (by simp))
  | bl j=>cases ry;exact PySem.EqNone.ne_none_bool (zY I q (by simp))
  | int j=>let#[t',rfl]:=ry;exact PySem.EqNone.ne_none_int (zY I q (by simp))
  | str j=>let#[t',rfl]:=ry;exact PySem.EqNone.ne_none_str (zY I q (by simp))
  | _=>exact y4 (show AF=AE from hs) az
 | bl i =>
  cases rx
  cases y with
  | non=>cases ry;exact PySem.EqNone.ne_bool_none (zY I q (by simp))
  | bl j=>cases ry;exact ne_bool (zY I q (congrArg not Kg))
  | str j=>let#[t',rfl]:=ry;exact PySem.EqMixed.ne_bool_str (zY I q (by simp))
  | _=>exact y4 (show AF=AE from hs) az
 | int i =>
  let#[t,rfl]:=rx
  cases y with
  | non=>cases ry;exact PySem.EqNone.ne_int_none (zY I q (by simp))
  | int j=>let#[t',rfl]:=ry;exact ne_int (zY I q (congrArg not Vz))
  | str j=>let#[t',rfl]:=ry;exact PySem.EqMixed.ne_int_str (zY I q (by simp))
  | _=>exact y4 (show AF=AE from hs) az
 | str i =>
  let#[t,rfl]:=rx
  cases y with
  | non=>cases ry;exact PySem.EqNone.ne_str_none (zY I q (by simp))
  | bl j=>cases ry;exact PySem.EqMixed.ne_str_bool (zY I q (by simp))
  | int j=>let#[t',rfl]:=ry;exact PySem.EqMixed.ne_str_int (zY I q (by simp))
  | str j=>let#[t',rfl]:=ry;exact ne_str (zY I q (congrArg not UW))
  | _=>exact y4 (show AF=AE from hs) az
 | byt i =>
  let#[t,rfl]:=rx
  cases y with
  | byt j=>let#[t',rfl]:=ry;exact PySem.W.ne_bytes (zY I q (congrArg not Vq))
  | _=>exact y4 (show AF=AE from hs) az
 | _=>cases y <;> exact y4 (show AF=AE from hs) az
def Zq:OpR X (rZ .Lt) (rI0 λi j=>.bl (decide (i<j))):=zcE λZ Z Z Z Z Z Z q=>lt_int q
def zbl:OpR X (rZ .LtE) (rI0 λi j=>.bl (decide (i<=j))):=zcE λZ Z Z Z Z Z Z q=>le_int q
def Y8:OpR X (rZ .Gt) (rI0 λi j=>.bl (decide (j<i))):=zcE λZ Z Z Z Z Z Z q=>gt_int q
def zdo:OpR X (rZ .GtE) (rI0 λi j=>.bl (decide (j<=i))):=zcE λZ Z Z Z Z Z Z q=>ge_int q
def Uj:OpR X (rZ .Lt) (λx y H Q=>∃i j,x=.str i/\y=.str j/\Q (.bl (decide (i.cps.toList<j.cps.toList))) H):=by intros x y v u Q I rx ry h;let#[i,j,rfl,rfl,q]:=h;let#[t,rfl]:=rx;let#[t',rfl]:=ry;exact lt_str (zY I q rfl)
def zbI:OpR X (rZ .Is) (λx y H Q=>y=.non/\Q (.bl (decide (x=.non))) H):=by
 intros x y v u Q I rx ry h;let#[rfl,q]:=h;cases ry;refine is_none_gen (zY I q ?_)
 cases x <;> first
  | (cases rx;rfl)
  | (let#[t,rfl]:=rx;rfl)
def KA:OpR X (rZ .IsNot) (λx y H Q=>y=.non/\Q (.bl (!decide (x=.non))) H):=by
 intros x y v u Q I rx ry h;let#[rfl,q]:=h;cases ry;refine isnot_none_gen (zY I q ?_)
 cases x <;> first
  | (cases rx;rfl)
  | (let#[t,rfl]:=rx;rfl)
def Yb:OpR X (rZ .NotIn) (λx y H Q=>∃i j,x=.str i/\y=.str j/\Q (.bl (!(!(Builtin.Str.occurrences j i 0 j.length 1).isEmpty))) H):=by intros x y v u Q I rx ry h;let#[i,j,rfl,rfl,q]:=h;let#[t,rfl]:=rx;let#[t',rfl]:=ry;exact notIn_str (zY I q rfl)
def zw(b:sG)(h:‹op≠.In›)(h2:‹op≠.NotIn›):behindInMarks op b=AF:=by
 have e1:(op == CmpOp.In)=AF:=by cases op <;> first | rfl | exact y4 rfl h
 have e2:(op == CmpOp.NotIn)=AF:=by cases op <;> first | rfl | exact y4 rfl h2
 cases b <;> simp [behindInMarks,e1,e2]
def yn(ho:OpR X (rZ op) r)(ha:PE X a ta)(hb:PE X b tb)(hm:behindInMarks op b=AF):PE X (.Compare a [op] [b] pos) (tOp r ta tb):=by intros Q I h;exact Aa (zd9 ha hb I h λv u s2 x y H2 I2 rx ry q=>ho AG s2 σ H2 x y v u Q I2 rx ry q) hm
def Y7(t:TE):TT:=λσ H Q=>t σ H λx H'=>onBl x λk=>Q k H'
def zu(ho:OpR X (rZ op) r)(ha:PE X a ta)(hb:PE X b tb)(hm:behindInMarks op b=AF):PT X (.Compare a [op] [b] pos) (Y7 (tOp r ta tb)):=by
 intros Q I h
 refine wpAny_isTrue_Compare1 (thn (ha AG s σ H _ I h) λv s1=>el5 λx H1 I1 r1 q1=>thn (hb AG s1 σ H1 _ I1 q1) λu s2=>el5 λy H2 I2 r2 q2 =>
  thn (ho AG s2 σ H2 x y v u _ I2 r1 r2 q2) λc s3=>el5 λz H3 I3 r3 q3=>?_) hm
 let#[k,rfl,q3]:=onBl.of q3;cases r3;exact su #[H3,I3,q3]
def jP(r r':R2)(ta tb tc:TE):TE:=λσ H Q=>ta σ H λx H1=>tb σ H1 λy H2=>r x y H2 λz H3=>onBl z λk =>
 (if k=AE then tc σ H3 λw' H4=>r' y w' H4 Q else Q (.bl AF) H3)
theorem Xo(ho:OpR X (rZ op) r)(ho':OpR X (rZ op') r')(ha:PE X a ta)(hb:PE X b tb)(hc:PE X c tc)(hm:lastMarks [op,op'] [b,c]=AF:=by with_unfolding_all rfl):PE X (.Compare a [op,op'] [b,c] pos) (jP r r' ta tb tc):=by
 intros Q I h
 refine Compare_chain (thn (ha AG s σ H _ I h) λv s1=>el5 λx H1 I1 r1 q1=>chain_link (thn (hb AG s1 σ H1 _ I1 q1) λu s2=>el5 λy H2 I2 r2 q2 =>
  thn (ho AG s2 σ H2 x y v u _ I2 r1 r2 q2) λd s3=>el5 λz H3 I3 r3 q3=>?_)) hm
 let#[k,rfl,q3]:=onBl.of q3;cases r3;refine su ?_
 cases k with
 | false=>exact ite_ff #[.bl AF,H3,I3,rfl,q3]
 | true=>exact ite_tt (chain_last (thn (hc AG s3 σ H3 _ I3 q3) λw' s4=>el5 λz' H4 I4 r4 q4=>ho' AG s4 σ H4 y z' u w' Q I4 r2 r4 q4))
theorem vj(ho:OpR X (rZ op) r)(ho':OpR X (rZ op') r')(ha:PE X a ta)(hb:PE X b tb)(hc:PE X c tc)(hm:lastMarks [op,op'] [b,c]=AF:=by with_unfolding_all rfl):PT X (.Compare a [op,op'] [b,c] pos) (Y7 (jP r r' ta tb tc)):=by
 intros Q I h
 refine isTrue_chain (thn (ha AG s σ H _ I h) λv s1=>el5 λx H1 I1 r1 q1=>test_link (thn (hb AG s1 σ H1 _ I1 q1) λu s2=>el5 λy H2 I2 r2 q2 =>
  thn (ho AG s2 σ H2 x y v u _ I2 r1 r2 q2) λd s3=>el5 λz H3 I3 r3 q3=>?_)) hm
 let#[k,rfl,q3]:=onBl.of q3;cases r3;refine su ?_
 cases k with
 | false =>
  exact ite_ff #[H3,I3,q3]
 | true =>
  refine ite_tt (test_last (thn (hc AG s3 σ H3 _ I3 q3) λw' s4=>el5 λz' H4 I4 r4 q4=>thn (ho' AG s4 σ H4 y z' u w' _ I4 r2 r4 q4) λd' s5=>el5 λz2 H5 I5 r5 q5=>?_));let#[k2,rfl,q5]:=onBl.of q5;cases r5;exact su #[H5,I5,q5]
def zbt(K:rP)(x:V)(H:Hp)(k:Bool):Prop :=
 match x with
 | .non=>k=AF
 | .bl b=>k=b
 | .int i=>k=(i != 0)
 | .str y=>y.length<=rO/\k=((y.length:Int) != 0)
 | .byt y=>y.size<=rO/\k=((y.size:Int) != 0)
 | .ref p=>(∃xs,SqL K H p xs/\k=!xs.isEmpty)\/(∃xs,SqT K H p xs/\k=!xs.isEmpty)\/∃kvs,H p=AC (.dK kvs)/\k=!kvs.isEmpty
 | _=>False
def WL(r:KV kvs vs):(!vs.isEmpty)=!kvs.isEmpty:=by cases r <;> rfl
def jR(r:Vals xs its):(!its.toArray.isEmpty)=!xs.isEmpty:=by cases r <;> simp
def jH:(rO:Nat)<2 ^ 63:=by rw[tz];decide
theorem JC:zeG X (λx H Q=>∃k,zbt X.K x H k/\Q k H):=by
 intros x v Q I rx h;let#[k,e,q]:=h;have hl:=jH;have hs:rO=16777216:=tz
 cases x with
 | non =>
  cases rx;have e':k=AF:=e;subst e';exact truthy_none #[H,I,q]
 | bl b =>
  cases rx;have e':k=b:=e;subst e';exact su #[H,I,q]
 | int i =>
  let#[t,rfl]:=rx;have e':k=(i != 0):=e;subst e';exact PySem.P.truthy_int #[H,I,q]
 | str y =>
  let#[t,rfl]:=rx;obtain⟨hy,e'⟩:y.length<=rO/\k=((y.length:Int) != 0):=e;subst e';exact PySem.P.truthy_str ⋯ #[H,I.tok _,q]
 | byt y =>
  let#[t,rfl]:=rx;obtain⟨hy,e'⟩:y.size<=rO/\k=((y.size:Int) != 0):=e;subst e';exact PySem.W.truthy_bytes ⋯ #[H,I.tok _,q]
 | ref p =>
  cases rx;have e':(∃xs,SqL X.K H p xs/\k=!xs.isEmpty)\/(∃xs,SqT X.K H p xs/\k=!xs.isEmpty)\/∃kvs,H p=AC (.dK kvs)/\k=!kvs.isEmpty:=e;rcases e' with ⟨xs,hx,e'⟩ | ⟨xs,hx,e'⟩ | ⟨kvs,hx,e'⟩
  ·subst e';let#[its,r,pl,hz]:=I.list hx;have hlen:=r.length;exact wpAny_truthy_list pl.isList (by erw[aj];lia) #[H,I.tok _,by rw[jR r];exact q]
  ·subst e';let#[its,r,pl,hz]:=I.tuple hx;have hlen:=r.length;exact truthy_tuple pl (by erw[aj];lia) #[H,I.tok _,by rw[jR r];exact q]
  ·subst e';obtain⟨hz,hS,vs,r,m⟩:kvs.length<=rO/\(p == sysModules)=AF/\∃vs,KV kvs vs/\s.heap.DictOf (YU X.prog X.w) p vs:=I.hok p _ hx;have hlen:kvs.length=vs.length:=Paired.length r;exact wpAny_truthy_dict hS m ⋯ #[H,I.tok _,by rw[WL r];exact q]
 | _=>exact (show False from e).elim
def Wt(ha:PE X a ta)(he:∀whole,isTrue a X.env whole=(do let v <- whole;standAt a.pos;holding [v] (truthy v))) :
  PT X a (λσ H Q=>ta σ H λx H'=>∃k,zbt X.K x H' k/\Q k H'):=by intros Q I h;exact isTrue_plain (thn (ha AG s σ H _ I h) λv s1=>el5 λx H1 I1 r1 q1=>JC AG s1 σ H1 x v Q I1 r1 q1) (he _)
def zU:OpR X (binaryOp .Add) (λx y H Q=>∃i j,x=.str i/\y=.str j/\i.length+j.length<=rO/\Q (.str (i ++ j)) H):=by intros x y v u Q I rx ry h;let#[i,j,rfl,rfl,hz,q]:=h;let#[t,rfl]:=rx;let#[t',rfl]:=ry;exact add_str (λt' tk=>#[.str (i ++ j),H,I.tok _,#[_,rfl],q]) hz
theorem wY(r:Vals [x] us):∃u,us=[u]/\RelV x u:=by
 cases r with
 | cons r1 r2=>cases r2;exact#[_,rfl,r1]
theorem YH(r:Vals [x,y] us):∃u w',us=[u,w']/\RelV x u/\RelV y w':=by
 cases r with
 | cons r1 r2 =>
  cases r2 with
  | cons r3 r4=>cases r4;exact#[_,_,rfl,r1,r3]
def W8(hc:X.calm=AE):ww X (.builtin "max") (λxs H Q=>∃i j,xs=[.int i,.int j]/\Q (.int (if j > i then j else i)) H):=by
 intros xs us Q I r h;let#[i,j,rfl,q]:=h;let#[u,w',rfl,#[t,rfl],#[t',rfl]]:=YH r;refine max_two_ints (I.ok.hd hc) λh' tk k=>#[_,H,I.kept k,?_,q];by_cases hj:j > i
 ·rw[y6 hj,y6 hj];exact#[_,rfl]
 ·rw[y9 hj,y9 hj];exact#[_,rfl]
def VF(hc:X.calm=AE):ww X (.builtin "min") (λxs H Q=>∃i j,xs=[.int i,.int j]/\Q (.int (if j<i then j else i)) H):=by
 intros xs us Q I r h;let#[i,j,rfl,q]:=h;let#[u,w',rfl,#[t,rfl],#[t',rfl]]:=YH r;refine min_two_ints (I.ok.hd hc) λh' tk k=>#[_,H,I.kept k,?_,q];by_cases hj:j<i
 ·rw[y6 hj,y6 hj];exact#[_,rfl]
 ·rw[y9 hj,y9 hj];exact#[_,rfl]
def VT:ww X (.type "int") (λxs H Q=>(∃i,xs=[.int i]/\Q (.int i) H)\/∃k,xs=[.bl k]/\Q (.int (if k then 1 else 0)) H):=by
 intros xs us Q I r h;rcases h with ⟨i,rfl,q⟩ | ⟨k,rfl,q⟩
 ·let#[u,rfl,t,rfl]:=wY r;exact call_int_int #[.int i,H,I,#[_,rfl],q]
 ·let#[u,rfl,r1]:=wY r;cases r1;exact call_int_bool #[.int (if k then 1 else 0),H,I.tok _,#[_,rfl],q]
def zby(K:rP)(x:V)(H:Hp)(n:Nat):Prop :=
 match x with
 | .str y=>y.length<=rO/\n=y.length
 | .byt y=>y.size<=rO/\n=y.size
 | .ref p=>(∃xs,SqL K H p xs/\n=xs.length)\/∃xs,SqT K H p xs/\n=xs.length
 | _=>False
theorem QG:ww X (.builtin "len") (λxs H Q=>∃x n,xs=[x]/\zby X.K x H n/\Q (.int n) H):=by
 intros xs us Q I r h;let#[x,n,rfl,e,q]:=h;let#[u,rfl,rx]:=wY r;have hl:=jH;have hs:rO=16777216:=tz
 cases x with
 | str y =>
  let#[t,rfl]:=rx;obtain⟨hy,e'⟩:y.length<=rO/\n=y.length:=e;subst e';exact len_str ⋯ #[.int _,H,I.tok _,#[_,rfl],q]
 | byt y =>
  let#[t,rfl]:=rx;obtain⟨hy,e'⟩:y.size<=rO/\n=y.size:=e;subst e';exact PySem.W.len_bytes ⋯ #[.int _,H,I.tok _,#[_,rfl],q]
 | ref p =>
  cases rx;have e':(∃xs,SqL X.K H p xs/\n=xs.length)\/∃xs,SqT X.K H p xs/\n=xs.length:=e;rcases e' with ⟨xs,hx,e'⟩ | ⟨xs,hx,e'⟩
  ·subst e';let#[its,r',pl,hz]:=I.list hx;have hlen:=r'.length;exact Calls.call_len_list pl.isList (by erw[aj];lia) #[.int xs.length,H,I.tok _,#[_,by erw[aj];rw[hlen]],q]
  ·subst e';let#[its,r',pl,hz]:=I.tuple hx;have hlen:=r'.length;exact len_tuple pl (by erw[aj];lia) #[.int xs.length,H,I.tok _,#[_,by erw[aj];rw[hlen]],q]
 | _=>exact (show False from e).elim
structure ObjM(h:sq)(x dx C:rQ)(mA:rV->Option rR):Prop where
 obj:h.get? x=AC (bP C dx)
 ns:h.Ns1 dx mA
 ne:dx≠x
end
set_option tactic.hygienic true in
def Uh{h:sq}(n:h.Ns1 dx mA):∃od,h.get? dx=AC od/\∀name,d7 name od=AC (mA name):=by
 let#[o,es,ep,ho,hd,hk,_,hm]:=n;refine#[o,ho,λname=>?_];have e:=hm name;unfold nsFind findBy at e;rw[<- Array.find?_toList]at e;unfold d7;rw[hd];dsimp only;split
 ·rename_i y q;rw[q]at e;exact congrArg AC e
 ·rename_i q;rw[q]at e
  have a:es.toList.any (·.refKey)=AF:=by
   rw[List.any_eq_false];intro y hy;let#[z,t,hkey]:=hk y (Array.mem_toList_iff.mp hy);simp [DictEntry.refKey,hkey]
  have a':¬ es.toList.any (·.refKey)=AE:=by rw[a];exact az
  rw[y9 a'];exact congrArg AC e
def ObjM.look(I:ObjM h x dx C mA):∃od,PySem.W.InstAt h x (bP C dx) C (AC od)/\∀name,d7 name od=AC (mA name) :=
 let #[od,ho,hl]:=Uh I.ns
 #[od,#[I.obj,rfl,rfl,ho],hl]
section
variable{prog:rX}{w:sk}{A:sD}{E:rR->rS->Prop}{s:rS}{K:rP}{x dx C f:rQ}{mA:rV->Option rR}{name:rV}{v:rR}
def Kl(X:K.In s.heap)(I:ObjM s.heap x dx C mA)(hg:bK K C name=AE)(hh:bO K C=AE)(ha:ae K (.ref C) name=AC AD)(hv:mA name=AC v)(hv':fX v=AE)(h:Q v { s with toks:=s.toks+1 }) :
  rT (model prog w) A (getAttr (.ref x) name expr) Q E s:=by let#[od,J,hl]:=I.look;exact PySem.W.get_value X J (dY hg).1 (PySem.W.findObj_own hh ha rfl (by rw[hl,hv])) hv' h
def QA(X:K.In s.heap)(I:ObjM s.heap x dx C mA)(hg:bK K C name=AE)(hf:ae K (.ref C) name=AC (AC (.ref f)))(ht:aP K (.ref f)=AE)(hv:mA name=AD)(h:Q (.ref f,[.ref x]) s) :
  rT (model prog w) A (getMethod (.ref x) name pl) Q E s:=by let#[od,J,hl]:=I.look;exact PySem.W.method_fn X J (dY hg).1 (dY hg).2 hf (beq_iff_eq.mp ht) (by show (d7 name od).map (·.isSome)=AC AF;rw[hl,hv];rfl) h
theorem zaZ(X:K.In s.heap)(I:ObjM s.heap x dx C mA)(hs:ae K (.ref C) "__setattr__" = AC (AC (.builtin "object.__setattr__")))(hp:bW K C=AE)(ht:eP K C name=AC AD)(hh:bO K C=AE)(hw:PySem.Within mA ns)(hsz:ns.length<=rO)(h:∀h',ObjM h' x dx C (λy=>if y=name then AC v else mA y)->Heap.SameBut dx s.heap h'->Q Unit.unit { s with heap:=h',toks:=s.toks+2 }) :
  rT (model prog w) A (setAttr (.ref x) name v) Q E s:=by let#[od,J,hl]:=I.look;refine fR X J hs (PySem.W.osa_open (s:={ s with toks:=s.toks+1 }) (r:=AD) X J hp ht λb=>?_);let#[cd,hc,hd']:=PySem.W.any_some hh;have hx:s.heap.get? x=AC #[.ref C,AC dx,.plain,#[]]:=I.obj;refine rK (rL (rK (rK (tY hx (rK (PySem.W.Looks.here (s:={ s with toks:=s.toks+1 }) (PySem.W.looks_clsIn X hc) ?_))))));rw[hd'];refine rL (a:=AC dx) (rK (rL (rK ?_)));refine wpAny_nsSet1 (s:={ s with toks:=s.toks+1 }) I.ns λh' hn2 hs2=>?_;let#[oD,esD,epD,hoD,hdD,hcD]:=hn2.count (PySem.Within.cons name v hw);refine rK (Av hoD (by rw[hdD];exact pastItsLine_dict (aS hcD (by rw[au];lia))) ?_);exact rL (h _ #[(hs2.2 _ (Ne.symm I.ne)).trans I.obj,hn2,I.ne] hs2)
def Wc(X:K.In s.heap)(hm:cp K C=AE)(hi:ae K (.ref C) "__init__" = AC (AC (.ref f)))(hf:PySem.W.typeIn K (.ref f)=AC (.type "function"))(h:sP (model prog w) (A.under (.builtin "type.__call__" #[.ref C::vs,kw])) (.call (.ref f) #[.ref (s⁻¹+1)::vs,kw]) (PySem.W.InitBack (s⁻¹+1) R)
   { s with heap:=(s.heap.push bz).push (bP C s⁻¹) }) :
  sP (model prog w) A (.call (.ref C) #[vs,kw]) R s:=by let#[hh,g,d,t,os]:=s;exact PySem.W.make_core (PySem.W.makes_of X hm) (cB X hi) (λself=>eQ X self hf) (.inl rfl) h
end
mutual section
def Zp(f:rV)(v:V):List (rV × V)->List (rV × V)
  | []=>[(f,v)]
  | (g,x)::r=>if g=f then (g,v)::r else (g,x)::Zp f v r
theorem qS(f g:rV)(v:V):∀fs:List (rV × V),(Zp f v fs).lookup g=if g=f then AC v else fs.lookup g
  | []=>by
    show bn g [(f,v)]=_;by_cases h:g=f
    . have hb:(g == f)=AE:=beq_iff_eq.mpr h
      erw[bn,hb,y6 h]
    . have hb:(g == f)=AF:=beq_eq_false_iff_ne.mpr h
      erw[bn,hb,y9 h]
  | (k,x)::r=>by
    have ih:=qS f g v r;rw[show Zp f v ((k,x)::r)=(if k=f then (k,v)::r else (k,x)::Zp f v r)from rfl];by_cases hk:k=f
    . rw[y6 hk]
      by_cases h:g=k
      . have hb:(g == k)=AE:=beq_iff_eq.mpr h
        erw[bn,hb,y6 (h.trans hk)]
      . have hb:(g == k)=AF:=beq_eq_false_iff_ne.mpr h
        erw[bn,hb,y9 (λe:g=f=>h (e.trans hk.symm))]
    . rw[y9 hk]
      by_cases h:g=k
      . have hb:(g == k)=AE:=beq_iff_eq.mpr h
        erw[bn,hb,y9 (λe:g=f=>hk (h.symm.trans e))]
      . have hb:(g == k)=AF:=beq_eq_false_iff_ne.mpr h
        erw[bn,hb]
        exact ih
theorem qz(f:rV)(v:V):∀fs:List (rV × V),f ∈ (Zp f v fs).map (·.1)/\∀g,g ∈ fs.map (·.1)->g ∈ (Zp f v fs).map (·.1)
  | []=>#[by simp [Zp],λg h=>by simp at h]
  | (k,x)::r=>by
    let#[i1,i2]:=qz f v r;rw[show Zp f v ((k,x)::r)=(if k=f then (k,v)::r else (k,x)::Zp f v r)from rfl];by_cases hk:k=f
    . rw[y6 hk]
      subst hk;exact#[by simp,λg h=>by simpa using h]
    . rw[y9 hk]
      refine#[?_,λg h=>?_]
      . rw[aw]
        exact aA _ i1
      . rw[aw]at h ⊢
        rcases AM.mp h with e | e
        . exact AM.mpr (.inl e)
        . exact aA _ (i2 g e)
theorem qU(f:rV)(v:V):∀fs:List (rV × V),(Zp f v fs).length<=fs.length+1
  | []=>by simp [Zp]
  | (k,x)::r=>by
    have ih:=qU f v r;rw[show Zp f v ((k,x)::r)=(if k=f then (k,v)::r else (k,x)::Zp f v r)from rfl];by_cases hk:k=f
    . rw[y6 hk,au,au];lia
    . rw[y9 hk,au,au];lia
theorem RelO.some_of(r:RelO (AC v) o):∃u,o=AC u/\RelV v u:=by
 cases o with
 | none=>exact (show False from r).elim
 | some u=>exact#[u,rfl,r]
theorem RelO.none_of(r:RelO AD o):o=AD:=by
 cases o with
 | none=>rfl
 | some u=>exact (show False from r).elim
theorem U6(r:RelV v u):fX u=AE:=by
 cases v with
 | non=>cases (show u=p9 from r);rfl
 | bl b=>cases (show u=Value.bool b from r);rfl
 | int i=>let#[t,e]:=(show ∃t,u=Value.int i t from r);cases e;rfl
 | str x=>let#[t,e]:=(show ∃t,u=Value.str x t from r);cases e;rfl
 | byt b=>let#[t,e]:=(show ∃t,u=Value.bytes b t from r);cases e;rfl
 | flt b=>let#[t,e]:=(show ∃t,u=Value.float b t from r);cases e;rfl
 | ref a=>cases (show u=r6 a from r);rfl
 | ty n=>cases (show u=Value.type n from r);rfl
def kB(hok:HOk P w H h)(e:H a=AC (.ins C dx fs)):∃mA,ObjM h a dx C mA/\(∀f,RelO (fs.lookup f) (mA f))/\PySem.Within mA (fs.map (·.1))/\fs.length<=1000/\H dx=AC (.own a):=by let#[d,z,ne,ob,mA,n,r,q]:=(show ObjOk P w H h a (.ins C dx fs)from hok a _ e);exact#[mA,#[ob,n,ne],r,q,z,d]
structure Cls(K:rP)(C:rQ):Prop where
 pg:bK K C d9=AE
 hd:bO K C=AE
 po:bW K C=AE
 sa:ae K (.ref C) "__setattr__" = AC (AC (.builtin "object.__setattr__"))
def Cls.get{K:rP}(c:Cls K C)(f:rV):bK K C f=AE:=c.pg
def NoAttr(K:rP)(C:rQ)(f:rV):Prop:=ae K (.ref C) f=AC AD
def NoAttr.taker{K:rP}(n:NoAttr K C f):eP K C f=AC AD:=by unfold eP;rw[show ae K (.ref C) f=AC AD from n];rfl
structure zbV(K:rP)(C:rQ)(m:rV)(f:rQ):Prop where
 at_:ae K (.ref C) m=AC (AC (.ref f))
 fn:aP K (.ref f)=AE
 kp:aE K (.ref f)=AE
def WG(I:Inv X AG σ H s)(e:H a=AC (.ins C dx fs))(c:Cls X.K C)(n:NoAttr X.K C f)(l:fs.lookup f=AC v)(h:∀u s',Inv X AG σ H s'->RelV v u->Q u s'):rT (model X.prog X.w) A (getAttr (.ref a) f b) Q E s:=by let#[mA,O,r,_,_,_]:=kB I.hok e;let#[u,hu,ru]:=RelO.some_of (v:=v) (o:=mA f) (by rw[<- l];exact r f);exact Kl I.kIn O (c.get f) c.hd n hu (U6 ru) (h u _ (I.tok _) ru)
def xT(I:Inv X AG σ H s)(e:H a=AC (.ins C dx fs))(c:Cls X.K C)(k:zbV X.K C m g)(l:fs.lookup m=AD)(h:Q (.ref g,[.ref a]) s):rT (model X.prog X.w) A (getMethod (.ref a) m pl) Q E s:=by let#[mA,O,r,_,_,_]:=kB I.hok e;have hn:mA m=AD:=RelO.none_of (by rw[<- l];exact r m);exact QA I.kIn O (c.get m) k.at_ k.fn hn h
def WX(I:Inv X AG σ H s)(e:H a=AC (.ins C dx fs))(c:Cls X.K C)(n:NoAttr X.K C f)(hl:fs.length<1000)(ry:RelV y u)(h:∀s',Inv X AG σ (upd H a (.ins C dx (Zp f y fs))) s'->Q Unit.unit s'):rT (model X.prog X.w) A (setAttr (.ref a) f u) Q E s:=by
 let#[mA,O,r,wi,_,ho]:=kB I.hok e;have hz:(fs.map (·.1)).length<=rO:=by rw[aa,tz];lia
 refine zaZ I.kIn O c.sa c.po n.taker c.hd wi hz λh' O' sb=>h _ ?_;have hd:∃o,h'.get? dx=AC o:=let #[o,_,_,e',_]:=O'.ns; #[o,e'];refine I.write (x:=a) (e:=dx) (by rw[e];exact True.intro) (.inr ho) (λb q hb z=>(sb.2 b hb).trans z) hd ?_;refine#[by rw[zk O.ne];exact ho,?_,O.ne,O'.obj,_,O'.ns,λg=>?_,λg hg=>?_]
 ·have:=qU f y fs;lia
 ·show RelO ((Zp f y fs).lookup g) (if g=f then AC u else mA g);rw[qS];by_cases q:g=f
  ·rw[y6 q,y6 q];exact ry
  ·rw[y9 q,y9 q];exact r g
 ·by_cases q:g=f
  ·rw[q];exact (qz f y fs).1
  ·refine (qz f y fs).2 g (wi g λz=>hg ?_);show (if g=f then AC u else mA g)=AD;rw[y9 q];exact z
def Inv.made(I:Inv X AG σ H s):Inv X AG σ (upd (upd H s⁻¹ (.own (s⁻¹+1))) (s⁻¹+1) (.ins C s⁻¹ [])) { s with heap:=(s.heap.push bz).push (bP C s⁻¹) }:=by
 have e1:(s.heap.push bz).get? s⁻¹=AC bz:=aB s.heap rfl
 have e2:((s.heap.push bz).push (bP C s⁻¹)).get? (s⁻¹+1)=AC (bP C s⁻¹):=by
  have:=aB (s.heap.push bz) (o:=bP C s⁻¹) rfl
  rwa [bA]at this
 have e3:(s.heap.push bz).Ns s⁻¹ (λZ=>AD):=#[bz,#[],_,e1,rfl,(λe he=>y4 he (by simp)),λZ=>rfl];have I1:=I.laid (a:=s⁻¹) (o:=.own (s⁻¹+1)) (h':=s.heap.push bz) (t':=s.toks) (λb u q=>ac _ q) (ah _) #[_,e1];refine I1.laid (a:=s⁻¹+1) (o:=.ins C s⁻¹ []) (t':=s.toks) (λb u q=>ac _ q) (Nat.le_of_eq (bA _ _)) ?_;have ne:s⁻¹≠s⁻¹+1:=ay (cY _);refine#[by rw[zk ne,zc],aJ _,ne,e2,λZ=>AD,(Heap.Ns1.of_empty e3).at λo q=>ac _ q,λZ=>True.intro,λy hy=>y4 rfl hy]
def zay(hb:attributeBase e f env (eval e env)=eval e env)(h:rT (model prog w) A (eval e env) (λo s₁=>rT (model prog w) A (getAttr o f AE) Q E s₁) E s):rT (model prog w) A (eval (.Attribute e f pos) env) Q E s :=
 Attribute_any_ h (by rw[arm_eval_Attribute,hb])
def za3(K:rP)(ta:TE)(f:rV):TE:=λσ H Q=>ta σ H λx H1=>∃a C dx fs v,x=.ref a/\H1 a=AC (.ins C dx fs)/\Cls K C/\NoAttr K C f/\fs.lookup f=AC v/\Q v H1
def zd2(K:rP)(ta tv:TE)(f:rV):TS:=λD σ H=>tv σ H λy H1=>ta σ H1 λx H2=>∃a C dx fs,x=.ref a/\H2 a=AC (.ins C dx fs)/\Cls K C/\NoAttr K C f/\fs.length<1000 /\
 D.nx σ (upd H2 a (.ins C dx (Zp f y fs)))
def vN(he:PE X e ta)(hb:attributeBase e f X.env (eval e X.env)=eval e X.env):PE X (.Attribute e f pos) (za3 X.K ta f):=by intros Q I h;refine zay hb (thn (he AG s σ H _ I h) λu s1=>el5 λx H1 I1 rx q_z=>?_);let#[a,C,dx,fs,v,ex,ea,c,n,l,q]:=q_z;subst ex;obtain rfl:u=r6 a:=rx;exact WG I1 ea c n l λu' s2 I2 ru=>#[v,H1,I2,ru,q]
def jN(ha:PE X o ta)(hv:PE X value tv)(hs:swapsWith value (AC (.Attribute o f pos')) pos.line X.env=pure AF):PS X (.Assign [.Attribute o f pos'] value pos) (zd2 X.K ta tv f):=by intros D I h;refine tE (thn (hv AG s σ H _ I h) λu s1=>el5 λy H1 I1 ry q=>thn (ha AG s1 σ H1 _ I1 q) λov s2=>el5 λx H2 I2 rx q_z=>?_) hs;let#[a,C,dx,fs,ex,ea,c,n,l,q2]:=q_z;subst ex;obtain rfl:ov=r6 a:=rx;exact WX I2 ea c n l ry λs3 I3=>#[σ,_,I3,q2]
def zaF(he:PE X e te)(I:Inv X AG σ H s)(h:te σ H λx H1=>∃a C dx fs g,x=.ref a/\H1 a=AC (.ins C dx fs)/\Cls X.K C/\zbV X.K C m g/\fs.lookup m=AD /\
      ∀s1,Inv X AG σ H1 s1->rT (model X.prog X.w) X.A (callWith pos (.ref g) [.ref a] (sf pos (rN args X.env)) (sM pos (sw [] X.env))) Q X.xe s1) (ht:eval (.Call (.Attribute e m apos) args [] pos) X.env=(do
      let ov <- eval e X.env
      standAt apos.atName
      let (f,first) <- holding [ov] (getMethod ov m pl)
      callWith pos f first (sf pos (rN args X.env)) (sM pos (sw [] X.env)))) :
    rT (model X.prog X.w) X.A (eval (.Call (.Attribute e m apos) args [] pos) X.env) Q X.xe s:=by refine bT (pl:=pl) (thn (he AG s σ H _ I h) λu s1=>el5 λx H1 I1 rx q_z=>?_) ht;let#[a,C,dx,fs,g,ex,ea,c,k,l,q]:=q_z;subst ex;obtain rfl:u=r6 a:=rx;exact xT I1 ea c k l (q s1 I1)
inductive XX(K:rP)(H:Hp):V->rR->Prop where
 | non:XX K H .non (.type "NoneType")
 | bl (x:Bool):XX K H (.bl x) (.type "bool")
 | int (i:Int):XX K H (.int i) (.type "int")
 | str (x:rV):XX K H (.str x) (.type "str")
 | flt (x:UInt64):XX K H (.flt x) (.type "float")
 | lst {a:rQ} {xs:List V} (e:H a=AC (.lst xs)):XX K H (.ref a) (.type "list")
 | frz {a:rQ} {o:tw} {xs:List V} (e:H a=AC (.frz o (.lst xs))):XX K H (.ref a) (.type "list")
 | tup {a:rQ} {xs:List V} (e:H a=AC (.tup xs)):XX K H (.ref a) (.type "tuple")
 | dK {a:rQ} {kvs:List (Key × V)} (e:H a=AC (.dK kvs)):XX K H (.ref a) (.type "dict")
 | dT {a:rQ} {kvs:List (List Key × V)} (e:H a=AC (.dT kvs)):XX K H (.ref a) (.type "dict")
 | ins {a C dx:rQ} {fs:List (rV × V)} (e:H a=AC (.ins C dx fs)) (cl:Cls K C) (ha:ae K (.ref C) "__class__" = AC (AC (.builtin "object.__class__")))
   (hn:cz K (.builtin "object.__class__") "__get__" = AC (AC (.builtin "getset_descriptor.__get__"))) (htk:dO K (.builtin "object.__class__")=AC AE)
   (hm:bE K C (.type "object")=AC AE):XX K H (.ref a) (.ref C)
theorem VR(I:Inv X AG σ H s)(rx:RelV x u)(ty:XX X.K H x t)(e:aX X.K t c=AC b)(h:∀tk,Q (.bool b) { s with toks:=tk }) :
  rT (model X.prog X.w) A (call (.builtin "isinstance") [u,c]) Q E s:=by
 cases ty with
 | non=>cases (show u=p9 from rx);exact bh PySem.W.kitx_none I.kIn True.intro e (λz=>nomatch z) h
 | bl y=>cases (show u=Value.bool y from rx);exact bh PySem.W.kitx_bool I.kIn True.intro e (λz=>nomatch z) h
 | int i=>let#[t,q]:=(show ∃t,u=Value.int i t from rx);cases q;exact bh PySem.W.kitx_int I.kIn True.intro e (λz=>nomatch z) h
 | str y=>let#[t,q]:=(show ∃t,u=Value.str y t from rx);cases q;exact bh PySem.W.kitx_str I.kIn True.intro e (λz=>nomatch z) h
 | flt y=>let#[t,q]:=(show ∃t,u=Value.float y t from rx);cases q;exact bh PySem.W.kitx_float I.kIn True.intro e (λz=>nomatch z) h
 | @lst a xs ea =>
  cases (show u=r6 a from rx);let#[_,_,n,_,h1]:=(show ObjOk X.prog X.w H s.heap a (.lst xs)from I.hok a _ ea);exact bh em I.kIn #[_,h1,rfl] e (λz=>nomatch z) h
 | @frz a ob xs ea =>
  cases (show u=r6 a from rx);let#[_,_,_,n,_,h1]:=(show ObjOk X.prog X.w H s.heap a (.frz ob (.lst xs))from I.hok a _ ea);exact bh em I.kIn #[_,h1,rfl] e (λz=>nomatch z) h
 | @tup a xs ea =>
  cases (show u=r6 a from rx);let#[_,_,_,p]:=(show ObjOk X.prog X.w H s.heap a (.tup xs)from I.hok a _ ea);let#[o,h1,h2,_]:=p;exact bh fH I.kIn #[o,h1,h2] e (λz=>nomatch z) h
 | @dK a kvs ea =>
  cases (show u=r6 a from rx);let#[_,_,vs,_,p]:=(show ObjOk X.prog X.w H s.heap a (.dK kvs)from I.hok a _ ea);let#[o,es,ep,h1,h2,_]:=p;exact bh fS I.kIn #[o,h1,h2.1] e (λz=>nomatch z) h
 | @dT a kvs ea =>
  cases (show u=r6 a from rx);let#[_,_,xs,_,o,es,ep,h1,h2,_]:=(show ObjOk X.prog X.w H s.heap a (.dT kvs)from I.hok a _ ea);exact bh fS I.kIn #[o,h1,h2.1] e (λz=>nomatch z) h
 | @ins a C dx fs ea cl ha hn htk hm =>
  cases (show u=r6 a from rx);let#[mA,O,_]:=kB I.hok ea;let#[od,J,_]:=O.look;exact bh (PySem.W.kitx_own (cl.get _) cl.hd ha hn htk hm) I.kIn J e (λz=>nomatch z) h
structure Room(k:Nat)(A:sD):Prop where
 hd:A.handled=AD
 dp:A.depth+3 * k+5<tK
 un:A.units+16 * k+200<cLine
def Room.mono(r:Room k A)(h:j<=k):Room j A:=#[r.hd,by have:=r.dp;lia,by have:=r.un;lia]
def Room.deeper(r:Room (k+1) A)(env:Am):Room k (A.deeper env) :=
 #[r.hd,by have:=r.dp;show A.depth+1+3 * k+5<_;lia,by have:=r.un;show A.units+3+16 * k+200<_;lia]
def Room.in1(r:Room (k+1) A):Room k A.in1 :=
 #[r.hd,by have:=r.dp;show A.depth+3 * k+5<_;lia,by have:=r.un;show A.units+1+16 * k+200<_;lia]
def WM{A:sD}:(A.under (.builtin "type.__call__" #[.ref C::us,kw])).depth=A.depth+1:=by first | rfl | simp [Around.under,Code.weight,Code.isCreation,Code.isGuard,Code.isCaller,Code.frames,Code.isFrame,guardIds]
def WA{A:sD}:(A.under (.builtin "type.__call__" #[.ref C::us,kw])).units=A.units+1:=by first | rfl | simp [Around.under,Code.cUnits,Code.frames,Code.isFrame]
def Room.make(r:Room (k+1) A)(C:rQ)(us:List rR)(kw:List (rV × rR)):Room k (A.under (.builtin "type.__call__" #[.ref C::us,kw])) :=
 #[r.hd,by have:=r.dp;rw[WM];lia,by have:=r.un;rw[WA];lia]
def Room.depth(r:Room k A):A.depth<tK:=by have:=r.dp;lia
def Room.units(r:Room k A):A.units+64<cLine:=by have:=r.un;lia
def yT:TA:=λZ H Q=>Q [] H
def zE(ta:TE)(tr:TA):TA:=λσ H Q=>ta σ H λx H1=>tr σ H1 λxs H2=>Q (x::xs) H2
def ze:PA X [] yT:=λZ Z Z Z H Q I h=>Calls.spliced_nil #[[],H,I,.nil,h]
def za(ha:PE X e te)(hr:PA X es t)(hs:‹rN (e::es) X.env=(AF,eval e X.env)::rN es X.env›):PA X (e::es) (zE te t):=by intro pos AG s σ H Q I h;rw[hs];show rT _ _ (spliced ((AF,eval e X.env)::sf pos (rN es X.env))) _ _ s;refine Calls.spliced_cons (thn (ha AG s σ H _ I h) λu s1=>el5 λx H1 I1 r1 q1=>?_);exact thn (hr pos AG s1 σ H1 _ I1 q1) λus s2=>el5 λxs H2 I2 r2 q2=>#[x::xs,H2,I2,.cons r1 r2,q2]
def WJ(t:TA):TE:=λσ H Q=>t σ H λxs H1=>xs.length<=rO/\∀p,H1 p=AD->Q (.ref p) (upd H1 p (.tup xs))
def zaS(t:TA):TE:=λσ H Q=>t σ H λxs H1=>xs.length<=rO/\∀p,H1 p=AD->Q (.ref p) (upd H1 p (.lst xs))
def zH{x1}(h:PA X es t):PE X (.Tuple es x1 pos) (WJ t):=by intros Q I hq;refine wpAny_Tuple_spliced (thn (h pos AG s σ H _ I hq) λus s1=>el5 λxs H1 I1 r=>ua2 λz q=>#[by rw[<- r.length];exact z,?_]);have hf:H1 s1⁻¹=AD:=I1.hok.fresh (ah _);refine#[.ref s1⁻¹,upd H1 s1⁻¹ (.tup xs),I1.laid (t':=s1.toks) (λb u e=>ac _ e) (ah _) ?_,rfl,q _ hf];exact#[z,us,r,#[_,aB _ rfl,rfl,_,rfl]]
def yM(h:PA X es t):PE X (.List es pos) (zaS t):=by intros Q I hq;refine wpAny_List_spliced (thn (h pos AG s σ H _ I hq) λus s1=>el5 λxs H1 I1 r=>ua2 λz q=>#[by rw[<- r.length];exact z,?_]);have hf:H1 s1⁻¹=AD:=I1.hok.fresh (ah _);refine#[.ref s1⁻¹,upd H1 s1⁻¹ (.lst xs),I1.laid (t':=s1.toks) (λb u e=>ac _ e) (ah _) ?_,rfl,q _ hf];exact#[z,us,0,r,aB _ rfl]
abbrev Sp:=List V->Hp->VK->XK->Prop
abbrev CXT:=List Am->Hp->rS->XK->rR->rS->Prop
structure Env0(P:rX)(w:sk)(K:rP)(mg:rV->Option rR)(base:sq)(A:sD)(outer:List Am)(s:rS)(H:Hp):Prop where
 frames:A.frames=AC outer
 mod:Mod K mg base
 bs:∀b o,base.get? b=AC o->s.heap.get? b=AC o/\H b=AD
 bsz:base.objs.size<=s⁻¹
 funs:s.heap.FunFrames base outer
 frf:∀b ∈ frs outer,H b=AD
 hok:HOk P w H s.heap
 bare:tG s.gens
def CE(outer:List Am)(P:rX)(w:sk)(H:Hp)(s:rS)(Q:VK)(u:rR)(s':rS):Prop :=
 ∃v H',s'.os=s.os/\tG s'.gens/\Un (frs outer) [] H H' s.heap s'.heap/\HOk P w H' s'.heap/\RelV v u/\Q v H'
def CR(CX:CXT)(outer:List Am)(P:rX)(w:sk)(H:Hp)(s:rS)(Q:VK)(E:XK)(r:Result)(s':rS):Prop :=
 match r with
 | .ok (.ret u)=>CE outer P w H s Q u s'
 | .ok _=>False
 | .error e=>CX outer H s E e s'
structure FnOk(P:rX)(w:sk)(K:rP)(mg:rV->Option rR)(base:sq)(CX:CXT)(k:Nat)(f:rQ)(fd:rW)(ps:List rV)(sp:Sp):Prop where
 len:∀vs H Q E,sp vs H Q E->vs.length=ps.length
 run:∀(A:sD) (outer:List Am) (s:rS) (H:Hp) (args:Args) (us:List rR) (vs:List V) (Q:VK) (E:XK),Room k A->Env0 P w K mg base A outer s H->tN s fd args (ps.zip us)->Vals vs us->sp vs H Q E ->
  sP (model P w) A (.call (.ref f) args) (CR CX outer P w H s Q E) s
def FnOk.imp{K:rP}(F:FnOk P w K mg base CX k f fd ps sp)(h:∀vs H Q E,sp' vs H Q E->sp vs H Q E):FnOk P w K mg base CX k f fd ps sp' :=
 #[λvs H Q E q=>F.len vs H Q E (h _ _ _ _ q),λA outer s H args us vs Q E hr he hb hv hs=>F.run A outer s H args us vs Q E hr he hb hv (h _ _ _ _ hs)]
def Env0.make{K:rP}(e:Env0 P w K mg base A outer s H)(C:rQ)(us:List rR)(kw:List (rV × rR)) :
  Env0 P w K mg base (A.under (.builtin "type.__call__" #[.ref C::us,kw])) outer s H:=#[by first | exact e.frames | (simpa [Around.under,Code.envs,Code.isFrame,pushEnvs] using e.frames),e.mod,e.bs,e.bsz,e.funs,e.frf,e.hok,e.bare]
def Env0.in1{K:rP}(e:Env0 P w K mg base A outer s H) :
  Env0 P w K mg base A.in1 outer s H:=#[e.frames,e.mod,e.bs,e.bsz,e.funs,e.frf,e.hok,e.bare]
def Inv.env0(I:Inv X AG σ H s):Env0 X.prog X.w X.K X.mg X.base X.A X.stack s H :=
 #[I.ok.frames,I.ok.mod,I.bs,aS I.ok.bsz I.sz,I.stack,I.stkFree,I.hok,I.bare]
def Inv.after(I:Inv X AG σ H s)(h:CE X.stack X.prog X.w H s Q u s'):EP X AG σ Q u s':=by let#[v,H',os,bare,un,hok,r,q]:=h;let#[hh,g,d,t,os']:=s';obtain rfl:os'=s.os:=os;exact#[v,H',I.call (h':=hh) (g':=g) (d':=d) (t':=t) (ch:=[]) un hok bare (λb z=>y4 z (by simp)),r,q]
def xt(sp:Sp)(dvs:List V)(E:XK)(t:TA):TE:=λσ H Q=>t σ H λvs H1=>sp (vs ++ dvs) H1 Q E
def jn(C:rQ)(m:rV)(sp:Sp)(dvs:List V)(E:XK)(ta:TE)(t:TA):TE:=λσ H Q=>ta σ H λx H1=>∃a dx fs,x=.ref a/\H1 a=AC (.ins C dx fs)/\fs.lookup m=AD /\
 t σ H1 λvs H2=>sp (x::(vs ++ dvs)) H2 Q E
def Vl(C:rQ)(sp:Sp)(dvs:List V)(E:XK)(t:TA):TE:=λσ H Q=>t σ H λvs H1=>∀x dx,H1 x=AD->H1 dx=AD->dx≠x ->
 sp (.ref x::(vs ++ dvs)) (upd (upd H1 dx (.own x)) x (.ins C dx [])) (λv H2=>v=.non/\Q (.ref x) H2) E
def Binds(K:rP)(fd:rW)(ps:List rV)(ds:List rR):Prop :=
 ∀(s:rS) (us:List rR),K.In s.heap->(us ++ ds).length=ps.length->tN s fd #[us,[]] (ps.zip (us ++ ds))
def Binds.all{K:rP}(h:∀us:List rR,us.length=ps.length->bindArgs fd #[us,[]]=pure (ps.zip us)):Binds K fd ps []:=λs us Z hl=>by
 rw[aR]at hl ⊢;exact .of_eq (h us hl)
def uT(CX:CXT)(X:Cx)(E:XK):Prop:=∀(AG:List (rQ × tw)) (σ:St) (H:Hp) (s:rS) (e:rR) (s':rS),Inv X AG σ H s->CX X.stack H s E e s'->X.xe e s'
theorem qy(F:FnOk X.prog X.w X.K X.mg X.base CX k f fd ps sp)(hr:Room k X.A)(hb:Binds X.K fd ps ds)(hd:Vals dvs ds)(hx:uT CX X E)(I:Inv X AG σ H s)(r:Vals vs us)(h:sp (vs ++ dvs) H Q E):rT (model X.prog X.w) X.A (call (.ref f) us) (EP X AG σ Q) X.xe s:=by
 have r2:Vals (vs ++ dvs) (us ++ ds):=r.append hd;have hl:(us ++ ds).length=ps.length:=by rw[<- r2.length];exact F.len _ _ _ _ h
 refine sJ (sE (F.run X.A X.stack s H #[us,[]] (us ++ ds) (vs ++ dvs) Q E hr I.env0 (hb s us I.kIn hl) r2 h) λr s' hq=>?_)
 cases r with
 | error e=>exact hx AG σ H s e s' I hq
 | ok fl =>
  cases fl with
  | ret u=>exact I.after hq
  | next=>exact False.elim hq
  | brk=>exact False.elim hq
  | cont=>exact False.elim hq
def Vs(F:FnOk X.prog X.w X.K X.mg X.base CX k f fd ps sp)(hr:Room k X.A)(hg:Gl X x)(hm:X.mg x=AC (.ref f))(hk:aE X.K (.ref f)=AE)(hb:Binds X.K fd ps ds)(hd:Vals dvs ds)(hx:uT CX X E)(ha:PA X (e::es) t) (hdb:‹(x ==("__debug__" : rV))=AF›) (he:‹rN (e::es) X.env=(AF,eval e X.env)::rN es X.env›) (hpl:‹(sf pos (rN es X.env)).any (·.1)=AF›) :
  PE X (.Call (.Name x p) (e::es) [] pos) (xt sp dvs E t):=by intros Q I h;refine rY (yS I hg hm ?_ hdb);refine aT (h₀:=X.base) I.ok.mod.kin hk (thn (ha pos AG s σ H _ I h) λus s1=>el5 λvs H1 I1 r q=>#[I1.kIn,?_]) he hpl;exact qy F hr hb hd hx I1 r q
def Uq(he:PE X o ta)(c:Cls X.K C)(hm:zbV X.K C m f)(F:FnOk X.prog X.w X.K X.mg X.base CX k f fd ps sp)(hr:Room k X.A)(hb:Binds X.K fd ps ds)(hd:Vals dvs ds)(hx:uT CX X E)(ha:PA X (e::es) t)(hst:‹rN (e::es) X.env=(AF,eval e X.env)::rN es X.env›)(hpl:‹(sf pos (rN es X.env)).any (·.1)=AF›)(ht:eval (.Call (.Attribute o m apos) (e::es) [] pos) X.env=(do
      let ov <- eval o X.env
      standAt apos.atName
      let (f,first) <- holding [ov] (getMethod ov m pl)
      callWith pos f first (sf pos (rN (e::es) X.env)) (sM pos (sw [] X.env))):=by rfl) :
    PE X (.Call (.Attribute o m apos) (e::es) [] pos) (jn C m sp dvs E ta t):=by intros Q I h;refine bT (pl:=pl) (thn (he AG s σ H _ I h) λu s1=>el5 λx H1 I1 rx q_z=>?_) ht;let#[a,dx,fs,ex,ea,l,q]:=q_z;subst ex;obtain rfl:u=r6 a:=rx;refine xT I1 ea c hm l ?_;refine aT (first:=[.ref a]) (h₀:=X.base) I.ok.mod.kin hm.kp (thn (ha pos AG s1 σ H1 _ I1 q) λus s2=>el5 λvs H2 I2 r q2=>#[I2.kIn,?_]) hst hpl;exact qy (us:=.ref a::us) (vs:=.ref a::vs) F hr hb hd hx I2 (.cons rfl r) q2
def Q0(he:PE X o ta)(c:Cls X.K C)(hm:zbV X.K C m f)(F:FnOk X.prog X.w X.K X.mg X.base CX k f fd ps sp)(hr:Room k X.A)(hb:Binds X.K fd ps ds)(hd:Vals dvs ds)(hx:uT CX X E)(ht:eval (.Call (.Attribute o m apos) [] [] pos) X.env=(do
      let ov <- eval o X.env
      standAt apos.atName
      let (f,first) <- holding [ov] (getMethod ov m pl)
      callWith pos f first (sf pos (rN [] X.env)) (sM pos (sw [] X.env))):=by rfl) :
    PE X (.Call (.Attribute o m apos) [] [] pos) (jn C m sp dvs E ta yT):=by intros Q I h;refine bT (pl:=pl) (thn (he AG s σ H _ I h) λu s1=>el5 λx H1 I1 rx q_z=>?_) ht;let#[a,dx,fs,ex,ea,l,q]:=q_z;subst ex;obtain rfl:u=r6 a:=rx;refine xT I1 ea c hm l ?_;exact fG (first:=[.ref a]) I1.kIn hm.kp (qy (us:=[.ref a]) (vs:=[.ref a]) F hr hb hd hx I1 (.cons rfl .nil) q)
structure Mk(K:rP)(C f:rQ):Prop where
 makes:cp K C=AE
 init:ae K (.ref C) "__init__" = AC (AC (.ref f))
 fn:aP K (.ref f)=AE
 kp:aE K (.ref C)=AE
theorem QJ(M:Mk X.K C f)(F:FnOk X.prog X.w X.K X.mg X.base CX k f fd ps sp)(hr:Room (k+1) X.A)(hb:Binds X.K fd ps ds)(hd:Vals dvs ds)(hx:uT CX X E)(I:Inv X AG σ H s)(r:Vals vs us)(h:∀x dx,H x=AD->H dx=AD->dx≠x->sp (.ref x::(vs ++ dvs)) (upd (upd H dx (.own x)) x (.ins C dx [])) (λv H2=>v=.non/\Q (.ref x) H2) E) :
  rT (model X.prog X.w) X.A (call (.ref C) us) (EP X AG σ Q) X.xe s:=by
 have hq:=h (s⁻¹+1) s⁻¹ (I.hok.fresh (bS _)) (I.hok.fresh (ah _)) (ay (cY _));have I2:=Inv.made (C:=C) I;have r2:Vals (V.ref (s⁻¹+1)::(vs ++ dvs)) (r6 (s⁻¹+1)::(us ++ ds)):=.cons rfl (r.append hd)
 have hl:(r6 (s⁻¹+1)::us ++ ds).length=ps.length:=by
  have e:=r2.length;rw[F.len _ _ _ _ hq]at e;exact e.symm
 refine sJ (Wc (f:=f) I.kIn M.makes M.init (beq_iff_eq.mp M.fn) (sE (F.run _ X.stack _ _ #[r6 (s⁻¹+1)::us,[]] (r6 (s⁻¹+1)::(us ++ ds)) _ _ E (hr.make C us [])
  (I2.env0.make C us []) (hb _ (r6 (s⁻¹+1)::us) I2.kIn hl) r2 hq) λr s' hq'=>?_))
 cases r with
 | error e=>exact hx AG σ _ _ e s' I2 hq'
 | ok fl =>
  cases fl with
  | ret u =>
   let#[v,H',I3,rv,ev,q3]:=I2.after hq';subst ev;exact#[rv,#[V.ref (s⁻¹+1),H',I3,rfl,q3]]
  | next=>exact False.elim hq'
  | brk=>exact False.elim hq'
  | cont=>exact False.elim hq'
def UG(M:Mk X.K C f)(F:FnOk X.prog X.w X.K X.mg X.base CX k f fd ps sp)(hr:Room (k+1) X.A)(hg:Gl X x)(hm:X.mg x=AC (.ref C))(hb:Binds X.K fd ps ds)(hd:Vals dvs ds)(hx:uT CX X E)(ha:PA X (e::es) t) (hdb:‹(x ==("__debug__" : rV))=AF›) (he:‹rN (e::es) X.env=(AF,eval e X.env)::rN es X.env›) (hpl:‹(sf pos (rN es X.env)).any (·.1)=AF›) :
  PE X (.Call (.Name x p) (e::es) [] pos) (Vl C sp dvs E t):=by intros Q I h;refine rY (yS I hg hm ?_ hdb);refine aT (h₀:=X.base) I.ok.mod.kin M.kp (thn (ha pos AG s σ H _ I h) λus s1=>el5 λvs H1 I1 r q=>#[I1.kIn,?_]) he hpl;exact QJ M F hr hb hd hx I1 r q
def PK(X:Cx)(kws:List Ae)(t:TA):Prop :=
 ∀(pos:Az) (AG:List (rQ × tw)) (s:rS) (σ:St) (H:Hp) (Q:List V->Hp->Prop),Inv X AG σ H s->t σ H Q->rT (model X.prog X.w) X.A (evalAll ((sM pos (sw kws X.env)).map (·.2))) (AP X AG σ Q) X.xe s
end
section
variable{X:Cx}{CX:CXT}{k:Nat}{f C:rQ}{fd:rW}{ps ks:List rV}{sp:Sp}{E:XK}{x m:rV}{p pos apos kpos:Az}{e o:sG}{es:List sG}{kws:List Ae}{te ta:TE}{t tk:TA}{nm:Option rV}
def zb0:PK X [] yT:=λZ Z Z Z H Q I h=>wpAny_evalAll_nil #[[],H,I,.nil,h]
def Ko(ha:PE X e te)(hr:PK X kws t):PK X (#[nm,e,kpos]::kws) (zE te t):=by intro pos AG s σ H Q I h;show rT _ _ (evalAll ((do let v <- eval e X.env;standAt pos;pure v)::(sM pos (sw kws X.env)).map (·.2))) _ _ s;refine wpAny_evalAll_cons (rK (thn (ha AG s σ H _ I h) λu s1=>el5 λx H1 I1 r1 q1=>rK (sx (rL ?_))));exact thn (hr pos AG s1 σ H1 _ I1 q1) λus s2=>el5 λxs H2 I2 r2 q2=>#[x::xs,H2,I2,.cons r1 r2,q2]
variable{g:List rR->List rR->List rR}{gV:List V->List V->List V}
end
mutual section
structure zl(N P:List rV)(sc:tL):Prop where
 kind:sc.kind=.function
 co:sc.isCoroutine=AF
 gen:sc.isGenerator=AF
 nd:N.Nodup
 pre:N.take P.length=P
 par:∀x ∈ P,sc.names.lookup x=AC .local\/sc.names.lookup x=AC .cell
 nofree:∀y ∈ sc.names,y.2≠.free
theorem ZR{kindOf:rV->Option tI}:∀{binds:List (rV × rR)} {m:rV->Option rR},(∀v,(x,v) ∉ binds)->bindL kindOf binds m x=m x
  | [],_,_=>rfl
  | (n,v)::r,m,h=>by
    unfold bindL;rw[ZR λw hw=>h w (aA _ hw)];split
    . have:x≠n:=by rintro rfl;exact h v aH
      simp [this]
    . rfl
theorem ZO{kindOf:rV->Option tI}:∀{binds:List (rV × rR)} {m:rV->Option rR},(∀v,(x,v) ∉ binds)->bindC kindOf binds m x=m x
  | [],_,_=>rfl
  | (n,v)::r,m,h=>by
    unfold bindC;rw[ZO λw hw=>h w (aA _ hw)];split
    . rfl
    . have:x≠n:=by rintro rfl;exact h v aH
      simp [this]
theorem Zw{kindOf:rV->Option tI}:∀{P:List rV} {vs:List rR} {i:Nat} {m:rV->Option rR},P.Nodup->P[i]? = AC x->vs[i]? = AC v->kindOf x=AC .local ->
  bindL kindOf (P.zip vs) m x=AC v
 | [],_,_,_,_,h,_,_=>by simp at h
 | _::_,[],_,_,_,_,h,_=>by simp at h
 | p::P,w::vs,0,m,nd,h1,h2,hk=>by
  simp at h1 h2;subst h1;subst h2;show bindL kindOf ((p,w)::P.zip vs) m p=_;unfold bindL;rw[ZR λv hv=>(AV.mp nd).1 (cK hv).1,y6 hk];simp
 | p::P,w::vs,i+1,m,nd,h1,h2,hk=>by
  show bindL kindOf ((p,w)::P.zip vs) m x=_;unfold bindL;exact Zw (i:=i) (AV.mp nd).2 ↥h1 ↥h2 hk
theorem ZW{kindOf:rV->Option tI}:∀{P:List rV} {vs:List rR} {i:Nat} {m:rV->Option rR},P.Nodup->P[i]? = AC x->vs[i]? = AC v->kindOf x≠AC .local ->
  bindC kindOf (P.zip vs) m x=AC v
 | [],_,_,_,_,h,_,_=>by simp at h
 | _::_,[],_,_,_,_,h,_=>by simp at h
 | p::P,w::vs,0,m,nd,h1,h2,hk=>by
  simp at h1 h2;subst h1;subst h2;show bindC kindOf ((p,w)::P.zip vs) m p=_;unfold bindC;rw[ZO λv hv=>(AV.mp nd).1 (cK hv).1,y9 hk];simp
 | p::P,w::vs,i+1,m,nd,h1,h2,hk=>by
  show bindC kindOf ((p,w)::P.zip vs) m x=_;unfold bindC;exact ZW (i:=i) (AV.mp nd).2 ↥h1 ↥h2 hk
def start(N:List rV)(vs:List V):St:=vs.map AC ++ aK (N.length - vs.length) AD
def wb(CX:CXT)(P:rX)(w:sk)(K:rP)(mg:rV->Option rR)(base:sq)(N:List rV)(qual:rV)(scope:tL)(f:rQ)(cd:rR)(A:sD)(outer:List Am)(s:rS)(H:Hp)(E:XK):Cx where
 prog:=P
 w:=w
 K:=K
 mg:=mg
 base:=base
 A:=A.deeper (tu qual scope s⁻¹ f cd)
 N:=N
 s₀:=s
 H₀:=H
 env:=tu qual scope s⁻¹ f cd
 outer:=outer
 stack:=tu qual scope s⁻¹ f cd::outer
 ex:=[]
 calm:=AE
 fn:=λZ=>AE
 pn:=[]
 xe:=λe s'=>rT (model P w) (A.deeper (tu qual scope s⁻¹ f cd)) (leaving (tu qual scope s⁻¹ f cd) e) (λZ s''=>CX outer H s E e s'') (λe' s''=>CX outer H s E e' s'') s'
def XD{sc:tL}(h:sc.names.lookup x=AC .cell):∃c,(cellsFrom n sc.names []).lookup x=AC c:=by have q:=cU sc.names n [] (.inl h);exact AS.mp q
def jc{K:rP}(S:zl N ps scope)(hd:A.handled=AD)(e0:Env0 P w K mg base A outer s H)(hl:vs.length=ps.length)(r:Vals vs us)(x:InCallC s s⁻¹ (bindL (tu qual scope s⁻¹ f cd).kindOf (ps.zip us) λZ=>AD) (cellsFrom (s⁻¹+1) scope.names []) (bindC (tu qual scope s⁻¹ f cd).kindOf (ps.zip us) λZ=>AD) s1) :
  Inv (wb CX P w K mg base N qual scope f cd A outer s H E) [] (start N vs) H s1:=by
 have hpl:ps.length<=N.length:=by have:=congrArg fV S.pre;rw[av]at this;lia
 let#[h1,tk,rfl,hk]:=x.done;have noA:∀b:rQ,b ∉ (wb CX P w K mg base N qual scope f cd A outer s H E).ex:=λb z=>y4 (show b ∈ ([]:List rQ)from z) (by simp)
 refine#[#[e0.mod,S.kind,rfl,rfl,ah _,λy z c h1 h2=>?_,λy hy=>?_,λy c Z h=>?_,λZ=>hd,Around.frames_deeper e0.frames,.inr #[rfl,rfl],λb z=>y4 z (noA b),e0.bs,e0.bsz,λb Z Z=>noA b,λb z=>y4 z (noA b),e0.funs,e0.frf],
  rfl,e0.bare,Un.kept hk,#[_,x.toInCall.ns,λi y v h1 h2 h3=>?_],λy c h=>#[_,x.cell y c h],e0.hok.fresh (ah _),λy c h=>?_,λp hp=>y4 (show p ∈ ([]:List (rQ × tw))from hp) (by simp),e0.hok.kept hk,?_]
 ·exact name_of_addr x.apart (bx h1) (bx h2)
 ·have hy:scope.names.lookup y=AC .cell\/scope.names.lookup y=AC .free:=hy;rcases hy with hy | hy
  ·exact XD hy
  ·exact y4 rfl (S.nofree _ (bx hy))
 ·exact dq (x.above y c (bx h))
 ·have hi:i<vs.length:=by
   unfold start at h2;by_cases hi:i<vs.length
   ·exact hi
   ·rw[aN ↥hi]at h2;rw[eO]at h2;split at h2 <;> cases h2
  have ha:vs[i]? = AC v:=by
   unfold start at h2;rw[aW ↥hi,ax]at h2
   cases e:vs[i]? with
   | none=>rw[e]at h2;cases h2
   | some a=>rw[e]at h2;cases h2;rfl
  let#[u,hu,rv]:=r.get ha
  have hp:ps[i]? = AC y:=by
   rw[<- S.pre,bU ⋯];exact h1
  have ndP:ps.Nodup:=by rw[<- S.pre];exact S.nd.sublist (List.take_sublist _ _)
  refine#[u,rv,?_];rcases S.par y (af hp)with k | k
  ·exact .inl #[k,Zw ndP hp hu k]
  ·let#[c,e]:=XD (n:=s⁻¹+1) k;refine .inr #[.inl k,c,e,?_];have q:=x.cell y c e;rw[ZW ndP hp hu (by show scope.names.lookup y≠_;rw[k];decide)]at q;exact q
 ·exact e0.hok.fresh (dq (x.above y c (bx h)))
 ·unfold start;show _=N.length;rw[ag,aa,bi];lia
theorem Ue{K:rP}{dV kV doc pm cdv ct oc:rR}(lk:K.lookup f=AC #[oc,od,.func (be name qual params body scope dV kV doc pm an cdv ct),osl])(hcd:bB K cdv qual=AE)(S:zl N ps scope)(len:∀vs H Q E,sp vs H Q E->vs.length=ps.length)(hbody:∀(A:sD) (outer:List Am) (s:rS) (H:Hp) (vs:List V) (Q:VK) (E:XK),Room k (A.deeper (tu qual scope s⁻¹ f cdv))->sp vs H Q E ->
   ∃t,PSs (wb CX P w K mg base N qual scope f cdv A outer s H E) body t/\t { nx:=λZ H'=>Q .non H',rt:=Q } (start N vs) H) :
  FnOk P w K mg base CX (k+1) f (be name qual params body scope dV kV doc pm an cdv ct) ps sp:=by
 refine#[len,λA outer s H args us vs Q E hr e0 hb r hsp=>?_];have hl:=len _ _ _ _ hsp;have KX:K.In s.heap:=e0.mod.kin.keeps λb o e=>(e0.bs b o e).1;have lim:s.heap.NoLimit:=e0.mod.nolimit.keeps λb o e=>(e0.bs b o e).1
 have hkind:∀y ∈ ps.zip us,scope.names.lookup y.1=AC .local\/(scope.names.lookup y.1=AC .cell/\((cellsFrom (s⁻¹+1) scope.names []).lookup y.1).isSome=AE):=λ⟨n,v⟩ hy=>by
  rcases S.par n (cK hy).1 with q | q
  ·exact .inl q
  ·exact .inr #[q,cU _ _ _ (.inl q)]
 refine tF hr.depth (KX _ _ lk) rfl S.co S.gen rfl (ee KX hcd) (hb _ _ _ _ ?_);refine tm S.kind hkind λenv he s1 x=>?_;subst he;refine#[lim.keeps x.toInCall.keep,Aq ?_];let#[t,ht,hq]:=hbody A outer s H vs Q E (hr.deeper _) hsp;have I:Inv (wb CX P w K mg base N qual scope f cdv A outer s H E) [] (start N vs) H s1:=jc S hr.hd e0 hl r x;refine tq (ht [] s1 (start N vs) H _ I hq) (λfl s' hs=>?_) λe s' hs=>hs
 have fin:∀{σ':St} {H':Hp} {v:V} {u:rR},Inv (wb CX P w K mg base N qual scope f cdv A outer s H E) [] σ' H' s'->RelV v u->Q v H'->CE outer P w H s Q u s' :=
  λ{σ' H' v u} J rv q=>#[v,H',J.os,J.bare,J.base,J.hok,rv,q]
 cases fl with
 | ret u =>
  let#[v,σ',H',J,rv,q]:=hs;exact fin J rv q
 | next =>
  let#[σ',H',J,q]:=hs;exact fin (v:=V.non) (u:=p9) J rfl q
 | brk =>
  let#[_,_,_,q]:=hs;exact False.elim q
 | cont =>
  let#[_,_,_,q]:=hs;exact False.elim q
def tCB(r:List V->Hp->VK->Prop)(t:TA):TE:=λσ H Q=>t σ H λvs H1=>r vs H1 Q
def yQ{X:Cx}{x:rV}{p:Az}{pos:Az}{e:sG}{es:List sG}{t:TA}{id:String}{r:List V->Hp->VK->Prop}(hc:ww X (.builtin id) r)(hg:Gl X x)(hm:X.mg x=AD)(hv:sN x=AC (.builtin id))(ha:PA X (e::es) t)(hn:‹x≠"__name__"›)(hdb:‹(x ==("__debug__" : rV))=AF›)(he:‹rN (e::es) X.env=(AF,eval e X.env)::rN es X.env›) (hpl:‹(sf pos (rN es X.env)).any (·.1)=AF›):PE X (.Call (.Name x p) (e::es) [] pos) (tCB r t):=by intros Q I h;refine rY (uP I hg hm hv ?_ hn hdb);exact PyProof.Rows.callWith_builtin1 (thn (ha pos AG s σ H _ I h) λus s1=>el5 λvs H1 I1 r1 q1=>hc AG s1 σ H1 vs us Q I1 r1 q1) he hpl
def yA(hc:ww X (.type T) r)(hg:Gl X x)(hm:X.mg x=AD)(hv:sN x=AC (.type T))(ha:PA X (e::es) t)(hn:‹x≠"__name__"›)(hdb:‹(x ==("__debug__" : rV))=AF›)(he:‹rN (e::es) X.env=(AF,eval e X.env)::rN es X.env›) (hpl:‹(sf pos (rN es X.env)).any (·.1)=AF›):PE X (.Call (.Name x p) (e::es) [] pos) (tCB r t):=by intros Q I h;refine rY (uP I hg hm hv ?_ hn hdb);exact bQ (thn (ha pos AG s σ H _ I h) λus s1=>el5 λvs H1 I1 r1 q1=>hc AG s1 σ H1 vs us Q I1 r1 q1) he hpl
end
end L2
namespace HT
open PySem PyProof.Rows
section
open PySem.SeqAt
open PySem.AutoSeq1 (wpAny_loadPart')
open PySem.MeetsSeq PySem.MeetsSeq2 PySem.MeetsSeq3
end
end in def sIx(n d:Nat):Option Int->Nat
 | none=>d
 | some v=>if v<0 then (v+(n:Int)).toNat else min v.toNat n
def sIx_none(n d:Nat):sIx n d AD=d:=rfl
def sIx_nat(n d k:Nat):sIx n d (AC (k:Int))=min k n:=by show (if (k:Int)<0 then ((k:Int)+(n:Int)).toNat else min (k:Int).toNat n)=min k n;rw[y9 ⋯,aF]
theorem sIx_le(n d:Nat)(hd:d<=n)(o:Option Int):sIx n d o<=n:=by
 cases o with
 | none=>exact hd
 | some v =>
  show (if v<0 then (v+(n:Int)).toNat else min v.toNat n)<=n;by_cases hv:v<0
  ·rw[y6 hv];lia
  ·rw[y9 hv];exact Nat.min_le_right _ _
end HT
namespace L2
end in abbrev TO:=St->Hp->(Option Int->Hp->Prop)->Prop
def PO(X:Cx)(e:Option sG)(t:TO):Prop :=
 ∀(AG:List (rQ × tw)) (s:rS) (σ:St) (H:Hp) (Q:Option Int->Hp->Prop),Inv X AG σ H s->t σ H Q ->
  rT (model X.prog X.w) X.A (evalPart e X.env) (λu s'=>∃o H',Inv X AG σ H' s'/\IsPart u o/\Q o H') X.xe s
def qZ:TO:=λZ H Q=>Q AD H
def Ve(t:TE):TO:=λσ H Q=>t σ H λx H1=>onInt x λi=>Q (AC i) H1
section
variable{X:Cx}{e:sG}{te:TE}{lo hi:Option sG}{tl th:TO}{pos p2:Az}
def yc:PO X AD qZ:=by intros Q I h;rw[evalPart_none];exact rL #[AD,H,I,.none,h]
def zS(h:PE X e te):PO X (AC e) (Ve te):=by intros Q I hw;rw[evalPart_some];refine thn (h AG s σ H _ I hw) λu s1=>el5 λx H1 I1 r1 q1=>?_;let#[i,rfl,q]:=onInt.of q1;let#[t,rfl]:=r1;exact#[AC i,H1,I1,.int i t,q]
def SlR(X:Cx)(r:V->Option Int->Option Int->Hp->VK->Prop):Prop :=
 ∀(AG:List (rQ × tw)) (s:rS) (σ:St) (H:Hp) (x:V) (v vl vu:rR) (lo hi:Option Int) (sl:rQ) (Q:VK),Inv X AG σ H s->RelV x v->s.heap.IsSliceOf sl vl vu .none->IsPart vl lo->IsPart vu hi->r x lo hi H Q ->
  ∃T id,typeLookup (.type T) "__getitem__" = pure (AC (.builtin id))/\s.TypeIs v T/\rT (model X.prog X.w) X.A (getItem v (.ref sl)) (EP X AG σ Q) X.xe s
def tSl(r:V->Option Int->Option Int->Hp->VK->Prop)(te:TE)(tl th:TO):TE:=λσ H Q=>te σ H λx H1=>tl σ H1 λl H2=>th σ H2 λu H3=>r x l u H3 Q
def zO(hr:SlR X r)(he:PE X e te)(hl:PO X lo tl)(hu:PO X hi th):PE X (.Subscript e (.Slice lo hi AD p2) pos) (tSl r te tl th):=by intros Q I h;refine Al (thn (he AG s σ H _ I h) λv s1=>el5 λx H1 I1 r1 q1=>?_);refine wpAny_Slice (thn (hl AG s1 σ H1 _ I1 q1) λvl s2=>el5 λl H2 I2 pl q2=>thn (hu AG s2 σ H2 _ I2 q2) λvu s3=>el5 λu H3 I3 pu q3=>?_);rw[evalPart_none];refine rL ?_;have I4:Inv X AG σ H3 { s3 with heap:=s3.heap.push { cls:=.type "slice",data:=.fields (r8 [vl,vu,.none]) } }:=I3.kept (t':=s3.toks) λb ob q=>ac _ q;let#[T,id,hT,ht,hg]:=hr AG { s3 with heap:=s3.heap.push { cls:=.type "slice",data:=.fields (r8 [vl,vu,.none]) } } σ H3 x v vl vu l u s3⁻¹ Q I4 r1 (Heap.IsSliceOf.new ..) pl pu q3;show rT (model X.prog X.w) X.A (Ah e (.Slice lo hi AD p2) v (.ref s3⁻¹)) (EP X AG σ Q) X.xe { s3 with heap:=s3.heap.push { cls:=.type "slice",data:=.fields (r8 [vl,vu,.none]) } };exact tail_any (ops:=[.ref s3⁻¹,v]) ht hT hg (by with_unfolding_all rfl)
end in def Xu(xs:List V)(lo hi:Option Int):List V:=(xs.drop (HT.sIx xs.length 0 lo)).take (HT.sIx xs.length xs.length hi - HT.sIx xs.length 0 lo)
theorem YM(xs:List V)(lo hi:Option Int):(Xu xs lo hi).length<=xs.length:=by unfold Xu;rw[av,aG];lia
end
end in def ixN(n:Nat)(i:Int):Option Nat:=if 0<=i then (if i<n then AC i.toNat else AD)else if -(n:Int)<=i then AC (i+n).toNat else AD
end in def atI{α:Type}(xs:List α)(i:Int):Option α:=(ixN xs.length i).bind λj=>xs[j]?
def V6(h:ixN n i=AC j):seqIndex? i n=AC j/\j<n/\-(n:Int)<=i/\i<n:=by
 unfold ixN at h;by_cases h0:0<=i
 ·rw[y6 h0]at h;by_cases h1:i<n
  ·rw[y6 h1]at h;have e:i.toNat=j:=Option.some.inj h;exact#[by rw[seqIndex_of h0 h1,e],⋯,⋯,h1]
  ·rw[y9 h1]at h;cases h
 ·rw[y9 h0]at h;by_cases h1:-(n:Int)<=i
  ·rw[y6 h1]at h;have e:(i+n).toNat=j:=Option.some.inj h;exact#[by rw[seqIndex_neg ⋯ h1,e],⋯,h1,⋯]
  ·rw[y9 h1]at h;cases h
theorem Xf(h:atI xs i=AC v):∃j,seqIndex? i xs.length=AC j/\xs[j]? = AC v/\j<xs.length/\-(xs.length:Int)<=i/\i<xs.length:=by
 unfold atI at h
 cases e:ixN xs.length i with
 | none=>rw[e]at h;cases h
 | some j =>
  rw[e]at h;let#[h1,h2,h3,h4]:=V6 e;exact#[j,h1,h,h2,h3,h4]
def wF{xs:List α}{j:Nat}{v:α}(h:xs[j]? = AC v):atI xs (j:Int)=AC v:=by
 have hj:j<xs.length:=(AJ.mp h).1
 have e:ixN xs.length (j:Int)=AC j:=by
  unfold ixN;rw[y6 ⋯,y6 ⋯];simp
 unfold atI;rw[e];exact h
def XS(xs:List α)(v:α):atI (xs ++ [v]) (-1)=AC v:=by
 have hl:(xs ++ [v]).length=xs.length+1:=by simp
 have e:ixN (xs ++ [v]).length (-1)=AC xs.length:=by
  unfold ixN;rw[hl,y9 ∅,y6 ⋯];congr 1;lia
 unfold atI;rw[e];show (xs ++ [v])[xs.length]? = AC v;simp
def Xi(b:sG):Prop:=∀o i,subscripted b AF o i=operate [o,i] (getItem o i)
def IxR(X:Cx)(r:R2):Prop :=
 ∀(value slice:sG) (AG:List (rQ × tw)) (s:rS) (σ:St) (H:Hp) (x y:V) (v u:rR) (Q:VK),Inv X AG σ H s->RelV x v->RelV y u->r x y H Q ->
  subscripted slice AF v u=operate [v,u] (getItem v u)->rT (model X.prog X.w) X.A (Ah value slice v u) (EP X AG σ Q) X.xe s
def MtR(X:Cx)(id:String)(r:V->List V->Hp->VK->Prop):Prop :=
 ∀(AG:List (rQ × tw)) (s:rS) (σ:St) (H:Hp) (x:V) (xs:List V) (v:rR) (us:List rR) (Q:VK),Inv X AG σ H s->RelV x v->Vals xs us->r x xs H Q ->
  rT (model X.prog X.w) X.A (call (.builtin id) (v::us)) (EP X AG σ Q) X.xe s
section
mutual section
variable{X:Cx}{a b:sG}{ta tb:TE}{pos:Az}
def IxR.or(h:IxR X r)(h':IxR X r'):IxR X (λx y H Q=>r x y H Q\/r' x y H Q):=by
 intro value slice AG s σ H x y v u Q I rx ry q hs;rcases q with q | q
 ·exact h value slice AG s σ H x y v u Q I rx ry q hs
 ·exact h' value slice AG s σ H x y v u Q I rx ry q hs
def zc8(hr:IxR X r)(ha:PE X a ta)(hb:PE X b tb)(hs:Xi b):PE X (.Subscript a b pos) (tOp r ta tb):=by intros Q I h;exact Al (zd9 ha hb I h λv u s2 x y H2 I2 rx ry q=>hr a b AG s2 σ H2 x y v u Q I2 rx ry q (hs _ _))
def zbc(K:rP):R2:=λx y H Q=>onRef x λp=>onInt y λi=>∃xs,SqL K H p xs/\∃v,atI xs i=AC v/\Q v H
def xN(K:rP):R2:=λx y H Q=>onRef x λp=>onInt y λi=>∃xs,SqT K H p xs/\∃v,atI xs i=AC v/\Q v H
def Km:R2:=λx y H Q=>onStr x λz=>onInt y λi=>z.length<=rO/\∃c,atI z.cps.toList i=AC c/\Q (.str ⟨#[c]⟩) H
theorem ix_list:IxR X (zbc X.K):=by
 intro value slice AG s σ H x y v u Q I rx ry h hs;let#[p,rfl,h2]:=onRef.of h;let#[i,rfl,xs,hq,z,he,q]:=onInt.of h2;cases rx;let#[t,rfl]:=ry;let#[its,r,pl,hz]:=I.list hq;let#[j,h1,h2,h3,h4,h5]:=Xf he;let#[w,ew,rw']:=r.get h2;have hl:=r.length;have hn:=jH;have fin:EP X AG σ Q w s:=#[z,H,I,rw',q];by_cases h0:0<=i
 ·have hj:i.toNat=j:=by
   rw[seqIndex_of h0 h5]at h1;exact Option.some.inj h1
  exact item_listR pl.isList h0 ⋯ (by rw[hj];simpa using ew) fin hs
 ·have hj:(i+(its.toArray.size:Int)).toNat=j:=by
   rw[seqIndex_neg ⋯ h4]at h1;rw[aj,<- hl];exact Option.some.inj h1
  exact tT (x:=w) pl.isList.typeIs slot_list_getitem.lookup
   (wpAny_getItem_list_neg (Q:=λr s'=>r=w/\EP X AG σ Q r s') pl.isList ⋯ (by rw[aj] <;> lia) ⋯ (by rw[hj];simpa using ew) #[rfl,fin]) hs
theorem r9:IxR X (xN X.K):=by
 intro value slice AG s σ H x y v u Q I rx ry h hs;let#[p,rfl,h2]:=onRef.of h;let#[i,rfl,xs,hq,z,he,q]:=onInt.of h2;cases rx;let#[t,rfl]:=ry;let#[its,r,pl,hz]:=I.tuple hq;let#[j,h1,h2,h3,h4,h5]:=Xf he;let#[w,ew,rw']:=r.get h2;have hl:=r.length;have hn:=jH;have fin:EP X AG σ Q w s:=#[z,H,I,rw',q]
 exact tT (x:=w) pl.typeIs slot_tuple_getitem.lookup
  (getItem_tuple (j:=j) (Q:=λr s'=>r=w/\EP X AG σ Q r s') pl ⋯ ⋯ (by rw[aj,<- hl];exact h1) ↥ew #[rfl,fin]) hs
theorem ZP:IxR X Km:=by
 intro value slice AG s σ H x y v u Q I rx ry h hs;let#[z,rfl,h2]:=onStr.of h;let#[i,rfl,hz,c,he,q]:=onInt.of h2;let#[t,rfl]:=rx;let#[t',rfl]:=ry;let#[j,h1,h2,h3,h4,h5]:=Xf he;have hl:z.cps.toList.length=z.length:=by simp [Str.length]
 rw[hl]at h1 h4 h5;have hn:=jH
 exact tail_any (typeIs_str s z t) slot_str_getitem.lookup (getItem_str (c:=c) (by
  have e1:decide (i < -(2 ^ 63:Int))=AF:=y3 ⋯;have e2:decide (i ≥ 2 ^ 63)=AF:=y3 ⋯
  rw[e1,e2,Bool.or_false]) (by rw[h1];simpa using h2) #[.str ⟨#[c]⟩,H,I.tok _,#[_,rfl],q]) hs
def rIx(K:rP):R2:=λx y H Q=>match x with | .ref p=>onInt y λi=>(∃xs,SqL K H p xs/\∃v,atI xs i=AC v/\Q v H)\/∃xs,SqT K H p xs/\∃v,atI xs i=AC v/\Q v H | .str z=>Km (.str z) y H Q | _=>False
def rIx.of{K:rP}(h:rIx K x y H Q):zbc K x y H Q\/xN K x y H Q\/Km x y H Q:=by unfold rIx at h;cases x <;> first | exact .inr (.inr h) | (let#[i,rfl,h]:=onInt.of h;exact h.elim .inl λh=>.inr (.inl h)) | exact h.elim
def VU:IxR X (rIx X.K):=λa b AG s σ H x y v u Q I rx ry h hs=>(ix_list.or (r9.or ZP)) a b AG s σ H x y v u Q I rx ry h.of hs
def WS(its:List rR)(n j:Nat)(u:rR):Obj.mapSeq (·.setIfInBounds j u) { cls:=.type "list",data:=.seq its.toArray n }={ cls:=.type "list",data:=.seq (its.set j u).toArray n }:=by simp [Obj.mapSeq]
def Inv.lst{AG:List (rQ × tw)}{σ:St}{H:Hp}{s:rS}{p:rQ}{xs:List V}(I:Inv X AG σ H s)(h:H p=AC (.lst xs)) :
  ∃(its:List rR) (n:Nat),Vals xs its/\s.heap.get? p=AC { cls:=.type "list",data:=.seq its.toArray n }/\xs.length<=rO:=by let#[z,its,n,r,e]:=I.hok p _ h;exact#[its,n,r,e,z]
def Inv.lstUpd{its its':List rR}(I:Inv X AG σ H s)(h:H p=AC (.lst xs))(ho:s.heap.get? p=AC { cls:=.type "list",data:=.seq its.toArray n })(hf:f { cls:=.type "list",data:=.seq its.toArray n }={ cls:=.type "list",data:=.seq its'.toArray n' })(r:Vals ys its')(hz:ys.length<=rO)(t:Nat) :
  Inv X AG σ (upd H p (.lst ys)) { s with heap:=s.heap.update p f,toks:=t }:=by
 have e:(s.heap.update p f).get? p=AC { cls:=.type "list",data:=.seq its'.toArray n' }:=by
  rw[bj f ho (by rw[hf] <;> rfl),hf]
 refine I.write (x:=p) (e:=p) (by rw[h];trivial) (.inl rfl) (λb u hb q=>(ar _ _ (Ne.symm hb)).trans q) #[_,e] ?_;exact#[hz,its',n',r,e]
def zb4:V->V->V->Hp->(Hp->Prop)->Prop:=λo i v H Q=>∃p xs k j,o=.ref p/\i=.int k/\H p=AC (.lst xs)/\ixN xs.length k=AC j/\Q (upd H p (.lst (xs.set j v)))
theorem X9:zc4 X zb4:=by
 intros o i v ov iv u Q I ro ri rv h;let#[p,xs,k,j,rfl,rfl,hp,hj,q]:=h;cases ro;let#[t,rfl]:=ri;let#[its,n,r,ho,hz]:=I.lst hp;let#[h1,h2,h3,h4]:=V6 hj;have hl:=r.length;have hn:=jH
 have I':Inv X AG σ (upd H p (.lst (xs.set j v))) { s with heap:=s.heap.update p (Obj.mapSeq (·.setIfInBounds j u)) } :=
  I.lstUpd hp ho (WS its n j u) (r.set rv j) (by rw[List.length_set];exact hz) s.toks
 by_cases h0:0<=k
 ·have hk:k.toNat=j:=by
   rw[seqIndex_of h0 h4]at h1;exact Option.some.inj h1
  exact PySem.W.ki_setAt ho h0 ⋯ (by rw[aj,<- hl];exact h4) (by rw[hk];exact#[_,I',q])
 ·have hk:(k+(its.toArray.size:Int)).toNat=j:=by
   rw[seqIndex_neg ⋯ h3]at h1;rw[aj,<- hl];exact Option.some.inj h1
  exact PySem.W.ki_setBack ho ⋯ (by rw[aj,<- hl];exact h3) ⋯ (by rw[hk];exact#[_,I',q])
theorem Yc(lo hi:Option Int)(n:Nat):(sliceBounds lo hi AD n).1=((HT.sIx n 0 lo:Nat):Int)/\(sliceBounds lo hi AD n).2.1=((HT.sIx n n hi:Nat):Int)/\(sliceBounds lo hi AD n).2.2=1:=by
 refine#[?_,?_,rfl]
 ·cases lo with
  | none=>simp [sliceBounds,HT.sIx]
  | some i =>
   erw[sliceBounds,HT.sIx,fY,show (1:Int) > 0 by decide,if_true]
   by_cases h:i<0
   ·erw[h,if_true] <;> lia
   ·erw[h,if_false] <;> lia
 ·cases hi with
  | none=>simp [sliceBounds,HT.sIx]
  | some i =>
   erw[sliceBounds,HT.sIx,fY,show (1:Int) > 0 by decide,if_true]
   by_cases h:i<0
   ·erw[h,if_true] <;> lia
   ·erw[h,if_false] <;> lia
def Zm(its:List rR)(lo hi:Option Int):slicePick its.toArray lo hi AD=((its.drop (HT.sIx its.length 0 lo)).take (HT.sIx its.length its.length hi - HT.sIx its.length 0 lo)).toArray:=by
 let#[h1,h2,h3]:=Yc lo hi its.toArray.size;unfold slicePick;rw[h1,h2,h3]
 erw[sliceRange_one,pick_run,aj] <;> rfl
def za4(K:rP):V->Option Int->Option Int->Hp->VK->Prop:=λx lo hi H Q=>onRef x λa=>∃xs,SqL K H a xs/\∀p,H p=AD->Q (.ref p) (upd H p (.lst (Xu xs lo hi)))
theorem uj:SlR X (za4 X.K):=by intros x v vl vu lo hi sl Q I rx hs pl pu h;let#[a,rfl,xs,hx,q]:=onRef.of h;cases rx;let#[its,r,ht,hz]:=I.list hx;have hlen:=r.length;refine#["list",_,slot_list_getitem.lookup,ht.isList.typeIs,?_];refine wpAny_getItem_list_slice ht.isList hs pl pu .none (by simp) ?_ (by rw[aj] <;> lia);rw[Zm,<- hlen];refine#[.ref s⁻¹,_,I.laid (t':=s.toks) (o:=.lst (Xu xs lo hi)) (λb ob q=>ac _ q) (ah _) ?_,rfl,q _ (I.hok.fresh (ah _))];exact#[aS (YM xs lo hi) hz,_,0,(r.drop (HT.sIx xs.length 0 lo)).take (HT.sIx xs.length xs.length hi - HT.sIx xs.length 0 lo),aB _ rfl]
def zbB:V->Bool
 | .non=>AE
 | .bl _=>AE
 | .int _=>AE
 | .str _=>AE
 | _=>AF
def eqV:V->V->Bool
 | .non,.non=>AE
 | .bl a,.bl b=>a == b
 | .bl a,.int b=>(if a then 1 else 0) == b
 | .int a,.bl b=>a ==(if b then 1 else 0)
 | .int a,.int b=>a == b
 | .str a,.str b=>a == b
 | _,_=>AF
theorem Xj(ry:RelV y u)(rx:RelV x v)(fy:zbB y=AE)(fx:zbB x=AE):SeqAt.EqAt A s u v (eqV y x):=by
 cases y with
 | non =>
  cases ry
  cases x with
  | non=>cases rx;exact SeqAt.EqAt.same _
  | bl b=>cases rx;exact SeqAt.EqAt.none_bool b
  | int b=>let#[t,rfl]:=rx;exact SeqAt.EqAt.none_int b t
  | str b=>let#[t,rfl]:=rx;exact SeqAt.EqAt.none_str b t
  | _=>exact y4 (show AF=AE from fx) az
 | bl a =>
  cases ry
  cases x with
  | non=>cases rx;exact SeqAt.EqAt.bool_none a
  | bl b=>cases rx;exact SeqAt.EqAt.bool_bool a b
  | int b=>let#[t,rfl]:=rx;exact SeqAt.EqAt.bool_int a b t
  | str b=>let#[t,rfl]:=rx;exact SeqAt.EqAt.bool_str a b t
  | _=>exact y4 (show AF=AE from fx) az
 | int a =>
  let#[t',rfl]:=ry
  cases x with
  | non=>cases rx;exact SeqAt.EqAt.int_none a t'
  | bl b=>cases rx;exact SeqAt.EqAt.int_bool a t' b
  | int b=>let#[t,rfl]:=rx;exact SeqAt.EqAt.int_int a t' b t
  | str b=>let#[t,rfl]:=rx;exact SeqAt.EqAt.int_str a t' b t
  | _=>exact y4 (show AF=AE from fx) az
 | str a =>
  let#[t',rfl]:=ry
  cases x with
  | non=>cases rx;exact SeqAt.EqAt.str_none a t'
  | bl b=>cases rx;exact SeqAt.EqAt.str_bool a t' b
  | int b=>let#[t,rfl]:=rx;exact SeqAt.EqAt.str_int a t' b t
  | str b=>let#[t,rfl]:=rx;exact SeqAt.EqAt.str_str a t' b t
  | _=>exact y4 (show AF=AE from fx) az
 | _=>exact y4 (show AF=AE from fy) az
theorem ym:ww X (.type "list") (λxs H Q=>∃p ys,xs=[.ref p]/\(SqL X.K H p ys\/SqT X.K H p ys)/\∀l,H l=AD->Q (.ref l) (upd H l (.lst ys))):=by
 intros xs us Q I r h;let#[p,ys,rfl,hq,q]:=h;let#[u,rfl,rx]:=wY r;cases rx
 have fin:∀(its:List rR),Vals ys its->ys.length<=rO->∀(h':sq) (c':Nat),(∀b o',s.heap.get? b=AC o'->h'.get? b=AC o') ->
   h'.get? s⁻¹=AC { cls:=.type "list",dict:=AD,data:=.seq its.toArray c',slots:=#[] }->EP X AG σ Q (.ref s⁻¹) { s with heap:=h' }:=λits r' hz h' c' kp e =>
  #[.ref s⁻¹,_,I.laid (t':=s.toks) kp (ah _) (show ObjOk X.prog X.w _ h' _ (.lst ys)from #[hz,its,c',r',e]),rfl,q _ (I.hok.fresh (ah _))]
 rcases hq with hq | hq
 ·let#[its,r',pl,hz]:=I.list hq;have hlen:=r'.length;let#[o,ho,hc,n,hd]:=pl.isList;exact call_list_seq p (.inl rfl) ho hc hd (λh' c' kp e=>fin its r' hz h' c' kp e) (by erw[aj] <;> lia)
 ·let#[its,r',pl,hz]:=I.tuple hq;have hlen:=r'.length;let#[o,ho,hc,n,hd]:=pl;exact call_list_seq p (.inr rfl) ho hc hd (λh' c' kp e=>fin its r' hz h' c' kp e) (by erw[aj] <;> lia)
theorem Zl:ww X (.type "tuple") (λxs H Q=>∃p ys,xs=[.ref p]/\((SqL X.K H p ys/\∀l,H l=AD->Q (.ref l) (upd H l (.tup ys)))\/(SqT X.K H p ys/\Q (.ref p) H))):=by
 intros xs us Q I r h;let#[p,ys,rfl,h]:=h;let#[u,rfl,rx]:=wY r;cases rx;rcases h with ⟨hq,q⟩ | ⟨hq,q⟩
 ·let#[its,r',pl,hz]:=I.list hq;have hlen:=r'.length;refine call_tuple_list pl.isList (λh' kp=>?_) (by erw[aj] <;> lia);have I1:Inv X AG σ H { s with heap:=h' }:=I.kept (t':=s.toks) kp
  have I2:Inv X AG σ (upd H h'.objs.size (.tup ys)) { s with heap:=h'.push { cls:=.type "tuple",data:=.seq its.toArray } } :=
   I1.laid (t':=s.toks) (λb o e=>ac _ e) (ah _) (show ObjOk X.prog X.w _ _ _ (.tup ys)from #[hz,its,r',IsTup.new _ _])
  exact#[.ref h'.objs.size,_,I2,rfl,q _ (I1.hok.fresh (ah _))]
 ·let#[its,r',pl,hz]:=I.tuple hq;exact call_tuple_same pl #[.ref p,H,I,rfl,q]
def tyV(K:rP)(T:String)(x:V)(H:Hp):Prop:=match x with
 | .str _=>T="str"
 | .int _=>T="int"
 | .ref p=>(T="list"/\∃xs,SqL K H p xs)\/(T="tuple"/\∃o,K.lookup p=AC o/\o.cls=.type "tuple"/\o.dict=AD) \/
   (T="dict"/\((∃kvs,H p=AC (.dK kvs))\/∃kvs,H p=AC (.dT kvs)))\/(T="set"/\∃S n,H p=AC (.set S n))
 | _=>False
theorem Kh(I:Inv X AG σ H s)(r:RelV x v)(ty:tyV X.K T x H) :
  s.TypeIs v T/\∀a,v=.ref a->∃ob,s.heap.get? a=AC ob/\ob.dict=AD:=by
 cases x with
 | str z =>
  let#[t,rfl]:=r;cases (show T="str" from ty);exact#[typeIs_str s z t,λZ e=>nomatch e]
 | int i =>
  let#[t,rfl]:=r;cases (show T="int" from ty);exact#[typeIs_int s i t,λZ e=>nomatch e]
 | ref p =>
  cases r;rcases ty with ⟨rfl,xs,hq⟩ | ⟨rfl,o,hk,hc,hd⟩ | ⟨rfl,hk⟩ | ⟨rfl,S,n,hk⟩
  ·let#[its,_,pl,_]:=I.list hq;refine#[pl.isList.typeIs,λa e=>?_];cases e;let#[o,n,e,c,hd,_]:=pl;exact#[o,e,hd]
  ·refine#[#[o,I.kIn p o hk,hc],λa e=>?_];cases e;exact#[o,I.kIn _ o hk,hd]
  ·have z:∃o,s.heap.get? p=AC o/\o.ExactDict:=by
    rcases hk with ⟨kvs,hk⟩ | ⟨kvs,hk⟩
    ·let#[_,_,_,_,o,_,_,e,ex,_]:=I.hok p _ hk;exact#[o,e,ex]
    ·let#[_,_,_,_,o,_,_,e,ex,_]:=I.hok p _ hk;exact#[o,e,ex]
   let#[o,e,ex]:=z;refine#[#[o,e,ex.1],λa e2=>?_];cases e2;exact#[o,e,ex.2.1]
  ·let#[o,_,_,_,e,ex,_]:=I.hok p _ hk;refine#[#[o,e,ex.1],λa e2=>?_];cases e2;exact#[o,e,ex.2.1]
 | _=>exact False.elim ty
def tBM(K:rP)(T:String)(r:V->List V->Hp->VK->Prop)(to:TE)(t:TA):TE:=λσ H Q=>to σ H λx H1=>tyV K T x H1/\t σ H1 λxs H2=>r x xs H2 Q
variable{o e:sG}{es:List sG}{to:TE}{t:TA}{name:rV}{apos cpos:Az}{T id:String}{r:V->List V->Hp->VK->Prop}
def wV(pa:PlainAttrs T)(slot:Slot T name id)(hty:typeOf (.builtin id)=pure (.type "method_descriptor"))(hm:MtR X id r)(ho:PE X o to)(ha:PA X (e::es) t)(hbase:‹attributeBase o name X.env (eval o X.env)=eval o X.env›)(hfew:((sf cpos (rN (e::es) X.env)).all (λx=>!x.1) && (sM cpos (sw [] X.env)).all (λx=>x.1.isSome)
   && decide ((e::es).length+([]:List Ae).length+(if ([]:List Ae).isEmpty then 0 else 1)<30))=AE:=by rfl)(hline:‹(apos.endLine == cpos.line)=AE›) (hs:‹rN (e::es) X.env=(AF,eval e X.env)::rN es X.env›) (hplain:‹(sf cpos (rN es X.env)).any (·.1)=AF›) :
  PE X (.Call (.Attribute o name apos) (e::es) [] cpos) (tBM X.K T r to t):=by intros Q I h;refine tS hbase hfew hline rfl (thn (ho AG s σ H _ I h) λv s1=>el5 λx H1 I1 r1=>ua2 λty q1=>?_);let#[h1,h2]:=Kh I1 r1 ty;refine#[T,id,pa,slot,hty,h1,h2,?_];have hA:=ha cpos AG s1 σ H1 _ I1 q1;rw[hs]at hA ⊢;refine Calls.callWith_builtin (by show (AF || (sf cpos (rN es X.env)).any (·.1))=AF;rw[hplain] <;> rfl) (Calls.evalArgs_plain ?_);exact thn hA λus s2=>el5 λvs H2 I2 r2 q2=>hm AG s2 σ H2 x vs v us Q I2 r1 r2 q2
/- xs.append(e),list.index on a module's tuple .. are MtR facts of 06m -/
end
end
mutual section
def MtM(X:Cx)(id:String)(r:V->List V->Hp->VK->Prop):Prop :=
 ∀(AG:List (rQ × tw)) (s:rS) (σ:St) (H:Hp) (x:V) (xs:List V) (v:rR) (us:List rR) (Q:VK),Inv X AG σ H s->RelV x v->Vals xs us->r x xs H Q ->
  rT (model X.prog X.w) X.A (call (.builtin id) (v::us)) (EP X AG σ Q) X.xe s
theorem Vals.one(h:Vals [x] us):∃u,us=[u]/\RelV x u:=by
 cases h with
 | cons r t =>
  cases t;exact#[_,rfl,r]
theorem Vals.two(h:Vals [x,y] us):∃u v,us=[u,v]/\RelV x u/\RelV y v:=by
 cases h with
 | cons r t =>
  let#[u,rfl,q]:=Vals.one t;exact#[_,_,rfl,r,q]
theorem Vals.zero:∀{us:List rR},Vals [] us->us=[]
 | _,.nil=>rfl
theorem Vals.reverse(h:Vals xs us):Vals xs.reverse us.reverse:=by
 induction h with
 | nil=>exact .nil
 | cons r t ih=>rw[List.reverse_cons,List.reverse_cons];exact Vals.append ih (.cons r .nil)
def Inv.lset{its its':List rR}(I:Inv X AG σ H s)(hH:H l=AC (.lst xs))(e:s.heap.get? l=AC { cls:=.type "list",data:=.seq its.toArray n })(hf:f its.toArray=its'.toArray)(hv:Vals ys its')(hz:ys.length<=rO) :
  Inv X AG σ (upd H l (.lst ys)) { s with heap:=s.heap.update l (Obj.mapSeq f),toks:=t' }:=by have q:=PySem.IsL.update e f;rw[hf]at q;refine I.write (x:=l) (e:=l) (by rw[hH];exact trivial) (.inl rfl) (λb' u hb hu=>(ar s.heap (Obj.mapSeq f) (Ne.symm hb)).trans hu) #[_,q] ?_;exact#[hz,its',_,hv,q]
def Inv.lnew(I:Inv X AG σ H s)(hv:Vals ys its)(hz:ys.length<=rO) :
  Inv X AG σ (upd H s⁻¹ (.lst ys)) { s with heap:=s.heap.push { cls:=.type "list",data:=.seq its.toArray },toks:=t' } :=
 I.laid (λZ Z q=>ac _ q) (ah _) #[hz,its,0,hv,aB _ rfl]
def Inv.fresh(I:Inv X AG σ H s):H s⁻¹=AD:=I.hok.fresh (ah _)
def Inv.lstM(I:Inv X AG σ H s)(hH:H l=AC (.lst xs)):xs.length<=rO/\∃(its:List rR) (n:Nat),Vals xs its/\xs.length=its.length/\s.heap.get? l=AC { cls:=.type "list",data:=.seq its.toArray n }:=by let#[z,its,n,r,e]:=I.hok l _ hH;exact#[z,its,n,r,r.length,e]
def Jb(h:n<=rO):Builtin.List.listTooLong n=AF:=by unfold Builtin.List.listTooLong;exact y3 ⋯
def V9:V->List V->Hp->VK->Prop:=λx vs H Q=>onRef x λl=>match vs with | [y]=>∃xs,H l=AC (.lst xs)/\xs.length<rO/\Q .non (upd H l (.lst (xs ++ [y]))) | _=>False
def yR:MtM X "list.append" V9:=by
 intros x vs v us Q I rx rv h;let#[l,rfl,h2]:=onRef.of h
 obtain⟨y,rfl,xs,hH,hz,q⟩:∃y,vs=[y]/\∃xs,H l=AC (.lst xs)/\xs.length<rO/\Q .non (upd H l (.lst (xs ++ [y]))):=by
  split at h2
  ·exact#[_,rfl,h2]
  ·exact h2.elim
 cases rx;let#[u,rfl,ru]:=rv.one;let#[z,its,n,r,hl,e]:=I.lstM hH;refine call_meets F.slot_list_append #[_,e,rfl] F.entry_list_append (F.args_list_append_2 _ _) (PySem.list_append l its.toArray n u (by rw[aj];lia)) #[e,?_];refine#[.non,_,I.lset (its':=its ++ [u]) hH e (by simp) (r.append (.cons ru .nil)) ?_,rfl,q];rw[ag,e7];lia
def Kt:V->List V->Hp->VK->Prop:=λx vs H Q=>∃l b xs zs,x=.ref l/\vs=[.ref b]/\H l=AC (.lst xs)/\H b=AC (.lst zs)/\xs.length+zs.length<=rO/\Q .non (upd H l (.lst (xs ++ zs)))
def zb6:MtM X "list.extend" Kt:=by
 intros x vs v us Q I rx rv h;let#[l,b,xs,zs,rfl,rfl,hH,hB,hz,q]:=h;cases rx;let#[u,rfl,ru]:=rv.one;cases ru;let#[z,its,n,r,hl,e]:=I.lstM hH;let#[z2,its2,n2,r2,hl2,e2]:=I.lstM hB;have hsz:its.toArray.size+its2.toArray.size<=rO:=by rw[aj,aj];lia
 have hlong:¬ (!its.toArray.isEmpty && Builtin.List.listTooLong (its.toArray.size+its2.toArray.size))=AE:=by
  rw[Jb hsz,bM];exact az
 refine call_meets F.slot_list_extend #[_,e,rfl] F.entry_list_extend (F.args_list_extend_2 _ _)
  (AutoSeq1.list_extend_list_list_0 l its.toArray n b its2.toArray n2 hlong (by rw[aj];lia) ⋯) #[e,e2,?_]
 refine#[.non,_,I.lset (its':=its ++ its2) hH e (by simp) (r.append r2) ?_,rfl,q];rw[ag];lia
def zbe:R2:=λx y H Q=>onRef x λl=>onRef y λb=>∃xs,H l=AC (.lst xs)/\∃zs,H b=AC (.lst zs)/\xs.length+zs.length<=rO/\∀p,H p=AD->Q (.ref p) (upd H p (.lst (xs ++ zs)))
def Xm:OpR X (binaryOp .Add) zbe:=by
 intros x y v u Q I rx ry h;let#[l,rfl,h2]:=onRef.of h;let#[b,rfl,xs,hH,zs,hB,hz,q]:=onRef.of h2;cases rx;cases ry;let#[z,its,n,r,hl,e]:=I.lstM hH;let#[z2,its2,n2,r2,hl2,e2]:=I.lstM hB;refine PySem.P.add_list e e2 ?_ (by rw[aj,aj];lia);have ea:its.toArray ++ its2.toArray=(its ++ its2).toArray:=by simp
 rw[ea];exact#[.ref _,_,I.lnew (t':=s.toks) (r.append r2) (by rw[ag];lia),rfl,q _ I.fresh]
theorem len_rep{α:Type}(xs:List α)(k:Nat):(aK k xs).flatten.length=k * xs.length:=by
 induction k with
 | zero=>simp
 | succ k ih=>rw[bZ,dz,ag,ih,dr,Nat.add_comm]
end
end L2
namespace Att
open PySem PySem.W PySem.Calls PyProof.Rows
theorem qx : ∀(ns:List Int) (vs:List rR),WellAll P h vs (ns.map WData.int)->Ar vs ns:=by
 intro ns
 induction ns with
 | nil =>
  intro vs w;rw[aL]at w;cases w;exact .nil
 | cons n ns ih =>
  intro vs w;rw[aw]at w
  cases w with
  | cons a b =>
   cases a;exact .cons _ _ (ih _ b)
theorem script_of{l:OpenLaw}(hn:l.most=AC n)(hpre:l.row.toRowW.claim.pre args=AE)(hwl:WellAll P h vals args) :
  ∃a vs ns,vals=[r6 a]/\args=[WData.list (ns.map WData.int)]/\h.get? a=AC { cls:=.type "list",data:=.seq vs.toArray }/\Ar vs ns/\ns.length<=n:=by
 have hsh:WShape.hasAll [] args [.list .int]=AE:=(pre_splitW hpre).1;have hc:l.pre.holds [] { args:=args }=AE:=(pre_splitW hpre).2;let#[d,r,rfl,h1,h2]:=hasAllW_cons hsh;obtain rfl:=hasAllW_nil h2;let#[xs,rfl,h3]:=hasW_list h1;let#[ns,rfl]:=items_int h3
 have hlen:ns.length<=n:=by
  unfold OpenLaw.pre at hc
  have h4:(WTm.not (.lt (.lit (.int (n:Int))) (.len (.arg 0)))).holds [] { args:=[.list (ns.map .int)] }=AE:=by
   have h4:=(holds_andW hc).1;rw[hn]at h4;exact h4
  have h5:=condW_of h4 (w_not (w_lt w_lit (w_len_list (w_arg rfl))));rw[aa]at h5;refine cF λq=>?_;have q':(n:Int)<((ns.length:Nat):Int):=⋯
  first
   | (rw[u9 q']at h5;exact y4 h5 ∅)
   | (simp at h5;lia)
 cases hwl with
 | cons w1 w2 =>
  cases w2
  cases w1 with
  | list ho hall=>exact#[_,_,ns,rfl,rfl,ho,qx ns _ hall,hlen]
def post_true(l:OpenLaw)(args:List WData):l.row.toRowW.claim.post args (.bool AE) args=AE :=
 postW_of (r:=l.row.toRowW) (X:=(AE == AE))
  (show WShape.has [] (.bool AE) .bool=AE by first | rfl | decide | simp [WShape.has,WShape.arms,WShape.armsAll])
  (show (WTm.eq .res (.lit (.bool AE))).value [] { args:=args,res:=AC (.bool AE),after:=args }=AC (.bool (AE == AE))from w_eq_bool (w_res rfl) w_lit) rfl
end in def zek(h:sq)(L d:rQ):List (rQ × tw):=(aQ h.objs.size).filterMap λa=>if a=L\/a=d then AD else (h.get? a).map λo=>(a,o)
end Att
namespace L2
theorem ZG:∀{vs:List rR} {ns:List Int},Ar vs ns->Vals (ns.map V.int) vs
 | _,_,.nil=>.nil
 | _,_,.cons n t h=>.cons #[t,rfl] (ZG h)
end in def yr(s:si)(j:Nat):si:=match s with
 | .ClassDef _ _ _ body _ _ _ _ _ _ _=>body.getD j (.Pass #[0,0,0,0])
 | _=>.Pass #[0,0,0,0]
end in def yG(s:si):Ax:=match s with
 | .FunctionDef _ a _ _ _ _ _ _ _ _=>a
 | _=>{ posonlyargs:=[],args:=[],vararg:=AD,kwonlyargs:=[],kw_defaults:=[],kwarg:=AD,defaults:=[] }
end in def zZ(s:si):List si:=match s with
 | .FunctionDef _ _ b _ _ _ _ _ _ _=>b
 | _=>[]
end in def zg(s:si):tL:=match s with
 | .FunctionDef _ _ _ _ _ _ sc _ _ _=>sc
 | _=>{ kind:=.function,names:=[],isGenerator:=AF,isCoroutine:=AF }
abbrev CX0:CXT:=λZ Z Z Z Z Z=>False
end in abbrev E0:XK:=λZ Z Z=>False
def kW : uT CX0 X E0:=λZ Z Z Z Z Z Z h=>h.elim
structure Fun(K:rP)(x qual:rV)(st:si)(f:rQ)(fd:rW):Prop where
 ex:∃(oc:rR) (od:Option rQ) (kV doc pm:rR) (an:Option rQ) (cdv ct:rR) (osl:Array (Option rR)),
  fd=be x qual (yG st) (zZ st) (zg st) .none kV doc pm an cdv ct/\K.lookup f=AC #[oc,od,.func fd,osl]/\bB K cdv qual=AE
 kp:aE K (.ref f)=AE
section
variable{P:rX}{w:sk}{K:rP}{mg:rV->Option rR}{base:sq}
def Fun.ok{st:si}(F:Fun K x qual st f fd)(S:zl N ps (zg st))(len:∀vs H Q E,sp vs H Q E->vs.length=ps.length)(hbody:∀(cdv:rR) (A:sD) (outer:List Am) (s:rS) (H:Hp) (vs:List V) (Q:VK) (E:XK),Room k (A.deeper (tu qual (zg st) s⁻¹ f cdv))->sp vs H Q E ->
   ∃t,PSs (wb CX0 P w K mg base N qual (zg st) f cdv A outer s H E).nox (zZ st) t/\t { nx:=λZ H'=>Q .non H',rt:=Q } (start N vs) H):FnOk P w K mg base CX0 (k+1) f fd ps sp:=by let#[oc,od,kV,doc,pm,an,cdv,ct,osl,rfl,lk,hcd]:=F.ex;refine Ue lk hcd S len λA outer s H vs Q E hr hsp=>?_;let#[t,h,q]:=hbody cdv A outer s H vs Q E hr hsp;exact#[t,h.nox,q]
def Fun.binds{x qual:rV}{st:si}{f:rQ}{fd:rW}{ps:List rV}(F:Fun K x qual st f fd)(h:∀(kV doc pm:rR) (an:Option rQ) (cdv ct:rR) (us:List rR),us.length=ps.length->bindArgs (be x qual (yG st) (zZ st) (zg st) .none kV doc pm an cdv ct) #[us,[]]=pure (ps.zip us)):Binds K fd ps []:=by let#[oc,od,kV,doc,pm,an,cdv,ct,osl,rfl,lk,hcd]:=F.ex;exact .all (h kV doc pm an cdv ct)
def fun_mk{st:si}{kV doc pm cdv ct:rR}(l:K.lookup f=AC #[oc,od,.func (be x qual (yG st) (zZ st) (zg st) .none kV doc pm an cdv ct),osl])(c:bB K cdv qual=AE)(k:aE K (.ref f)=AE):Fun K x qual st f (be x qual (yG st) (zZ st) (zg st) .none kV doc pm an cdv ct):=#[#[oc,od,kV,doc,pm,an,cdv,ct,osl,rfl,l,c],k]
end
def pv(i:Nat)(hN:‹X.N[i]? = AC x›)(hv:‹Vis X.env.scope x›)(hd:‹(x ==("__debug__" : rV))=AF›)(hcd:‹(x ==("__classdict__" : rV))=AF›):PE X (.Name x pos) (zV i):=zbu hN hv hd hcd
def zdt{A B:Prop}(h:B):if AF=AE then A else B:=by rw[y9 az];exact h
def zcS{A B:Prop}(h:A):if AE=AE then A else B:=by rw[y6 rfl];exact h
def yl{c A B:Prop}[Decidable c](h1:c->A)(h2:¬ c->B):if c then A else B:=by
 by_cases h:c
 ·rw[y6 h];exact h1 h
 ·rw[y9 h];exact h2 h
def Same(H H':Hp):Prop:=∀b o,H b=AC o->H' b=AC o
def Same.refl(H:Hp):Same H H:=λZ Z h=>h
def Same.trans(a:Same H H1)(b:Same H1 H2):Same H H2:=λc o h=>b c o (a c o h)
theorem Same.free(e:Same H H')(h:H' l=Option.none):H l=Option.none:=by
 cases q:H l with
 | none=>rfl
 | some o =>
  rw[e l o q]at h;cases h
def Same.seq{K:rP}(e:Same H H')(h:SqL K H a xs):SqL K H' a xs:=by
 rcases h with (h | ⟨o,h⟩) | h
 ·exact .inl (.inl (e _ _ h))
 ·exact .inl (.inr #[o,e _ _ h])
 ·exact .inr h
end L2
open L2
namespace L3
mutual section
abbrev St:=L2.St
abbrev cs(x:rV):():=x.cps.toList
abbrev tx(l:()):rV:=⟨l.toArray⟩
def zbG(x:rV):tx (cs x)=x:=by cases x;rfl
def jh(l:()):cs (tx l)=l:=rfl
def X4(x:rV):x.length=(cs x).length:=by simp [Str.length,cs]
def zP(l:()):(tx l).length=l.length:=by simp [Str.length,tx]
def Yl(h:cs x=cs y):x=y:=by rw[<- zbG x,<- zbG y,h]
def xP(h:tx l=tx m):l=m:=by rw[<- jh l,<- jh m,h]
def zcq : tx l=tx m ↔ l=m:=#[xP,λh=>by rw[h]]
def yC(l m:()):tx l ++ tx m=tx (l ++ m):=by apply Yl;show (tx l ++ tx m).cps.toList=l ++ m;rw[Str.cps_append];simp
def cut{α:Type}(l:List α)(lo hi:Option Int):List α:=(l.drop (HT.sIx l.length 0 lo)).take (HT.sIx l.length l.length hi - HT.sIx l.length 0 lo)
def wI(l:List α)(lo hi:Option Int):(cut l lo hi).length<=l.length:=by unfold cut;rw[av,aG];lia
def Ug(a b:Nat):sliceRange (a:Int) (b:Int) 1=(aQ (b - a)).map (λk=>a+k):=by
 unfold sliceRange
 have e:(if (1:Int) > 0 then (if (a:Int)<b then ((b:Int) - a+1 - 1) / 1 else 0)else (if (a:Int) > b then ((a:Int) - b - 1 - 1) / (-1)else 0)).toNat=b - a:=by
  rw[y6 ∅];by_cases h:(a:Int)<b
  ·rw[y6 h,Int.ediv_one];lia
  ·rw[y9 h];lia
 show (aQ ((if (1:Int) > 0 then (if (a:Int)<b then ((b:Int) - a+1 - 1) / 1 else 0)else (if (a:Int) > b then ((a:Int) - b - 1 - 1) / (-1)else 0)).toNat)).map _=_;rw[e];refine cG λk Z=>?_;lia
theorem KU(lo hi:Option Int)(n:Nat):p7 lo hi 1 n=(aQ (HT.sIx n n hi - HT.sIx n 0 lo)).map (λk=>HT.sIx n 0 lo+k):=by
 rw[<- Ug]
 have clip:∀(v:Int) (d:Nat),max 0 (min (if v<0 then v+(n:Int)else v) (n:Int))=((HT.sIx n d (AC v):Nat):Int):=λv d=>by
  show _=(((if v<0 then (v+(n:Int)).toNat else min v.toNat n):Nat):Int);by_cases hv:v<0
  ·erw[y6 hv];lia
  ·erw[y9 hv];lia
 have h1:((1:Int) > 0)=True:=by simp
 unfold p7
 cases lo with
 | none =>
  cases hi with
  | none=>erw[h1,if_true];rfl
  | some j=>erw[h1,if_true,clip j n];rfl
 | some i =>
  cases hi with
  | none=>erw[h1,if_true,clip i 0];rfl
  | some j=>erw[h1,if_true,clip i 0,clip j n]
end
set_option tactic.hygienic true in
mutual section
def Qc(x:rV)(lo hi:Option Int):Txt.slice x lo hi=tx (cut (cs x) lo hi):=by
 have hn:x.length=x.cps.toList.length:=X4 x;have hj:HT.sIx x.length x.length hi<=x.length:=HT.sIx_le _ _ (ah _) hi;have hi0:HT.sIx x.length 0 lo<=x.length:=HT.sIx_le _ _ (aJ _) lo;unfold Txt.slice;rw[KU];split
 ·rename_i h;have h':HT.sIx x.length x.length hi - HT.sIx x.length 0 lo=x.length:=by simpa using h
  apply Yl;show x.cps.toList=cut x.cps.toList lo hi;unfold cut;rw[<- hn];by_cases z:x.length=0
  ·have:x.cps.toList=[]:=dU ⋯;rw[this];simp
  ·have e0:HT.sIx x.length 0 lo=0:=⋯;rw[e0]at h' ⊢;rw[h',e8,hn,aD]
 ·apply Yl;have h:=StrLaws.picks x.cps.toList (HT.sIx x.length x.length hi - HT.sIx x.length 0 lo) (HT.sIx x.length 0 lo) ⋯;show (List.filterMap (λk=>x.cps[k]?) _).toArray.toList=cut x.cps.toList lo hi;unfold cut;rw[<- hn];simpa using h
theorem VS(p:IsPart v o):∃l:Option (Int × Ad),v=partValue l/\l.map (·.1)=o:=by
 cases p with
 | none=>exact#[AD,rfl,rfl]
 | int i t=>exact#[AC (i,t),rfl,rfl]
def zcw:V->Option Int->Option Int->Hp->VK->Prop:=λx lo hi H Q=>onStr x λz=>z.length<=rO/\Q ⇑(cut (cs z) lo hi) H
def yK:SlR X zcw:=by
 intros x v vl vu lo hi sl Q I rx hs pl pu h;let#[z,rfl,hz,q]:=onStr.of h;let#[t,rfl]:=rx;let#[l,rfl,el]:=VS pl;let#[u,rfl,eu]:=VS pu;refine#["str",_,slot_str_getitem.lookup,typeIs_str s z t,?_];refine tQ (l:=l) (u:=u) (st:=AD) hs rfl ?_;have e:Txt.slice z lo hi=tx (cut (cs z) lo hi):=Qc z lo hi;have hl:(tx (cut (cs z) lo hi)).length<=rO:=by rw[zP];have:=wI (cs z) lo hi;rw[<- X4]at this;lia
 unfold sliceMade slicePicked;rw[el,eu];unfold Txt.slice at e;by_cases hc:((1:Int) == 1 && (p7 lo hi 1 z.length).length == z.length)=AE
 ·rw[y6 hc]at e;have hc':(((AD:Option (Int × Ad)).map (·.1)).getD 1 == 1 && (p7 lo hi (((AD:Option (Int × Ad)).map (·.1)).getD 1) z.length).length == z.length)=AE:=hc;rw[y6 hc'];exact#[⇑(cut (cs z) lo hi),H,I,#[t,by rw[<- e]],q]
 ·rw[y9 hc]at e;have hc':¬ (((AD:Option (Int × Ad)).map (·.1)).getD 1 == 1 && (p7 lo hi (((AD:Option (Int × Ad)).map (·.1)).getD 1) z.length).length == z.length)=AE:=hc;rw[y9 hc'];show (Str.mk ((p7 lo hi 1 z.length).filterMap (z.cps[·]?)).toArray).length<=rO/\_;rw[e];refine#[hl,?_]
  exact#[⇑(cut (cs z) lo hi),H,I.tok _,#[_,by
   show Value.str (Str.mk ((p7 lo hi 1 z.length).filterMap (z.cps[·]?)).toArray) _=_
   rw[e]],q]
theorem Xp(l:()):∀(k:Nat) (AI:Array Nat),((aK k l.toArray).foldl (· ++ ·) AI).toList=AI.toList ++ (aK k l).flatten
 | 0,AI=>by simp
 | k+1,AI=>by
  rw[bZ,List.foldl_cons,Xp l k,bZ,dz];simp
def Wz:OpR X (binaryOp .Mult) (λx y H Q=>∃z n,x=.str z/\y=.int n/\0<=n/\n<=1000/\z.length<=1000/\Q ⇑(aK n.toNat (cs z)).flatten H):=by
 intros x y v u Q I rx ry h;let#[z,n,rfl,rfl,h0,h1,hz,q]:=h;let#[t,rfl]:=rx;let#[t',rfl]:=ry;have hs:rO=16777216:=tz;have hmul:z.length * n.toNat<=1000 * 1000:=d8 hz ⋯;have fl:((aK n.toNat (cs z)).flatten).length=n.toNat * z.length:=by rw[L2.len_rep,<- X4]
 refine PySem.P.mul_str ?_ (λZ Z=>?_) (λZ Z=>?_) ?_
 ·rw[y3 ⋯,y3 ⋯];rfl
 ·have:(1000:Int)<=(2 ^ 63 - 1) / n:=by
   apply Int.le_ediv_of_mul_le ⋯;lia
  lia
 ·unfold Builtin.Str.tooLong;exact y3 ⋯
 ·by_cases c1:n<1
  ·rw[y6 c1];have e:n.toNat=0:=⋯;rw[e]at q;exact#[∅,⇑[],H,I.tok _,#[_,rfl],q]
  ·rw[y9 c1];by_cases c2:(n == 1 || z.length == 0)=AE
   ·rw[y6 c2]
    have e:tx (aK n.toNat (cs z)).flatten=z:=by
     rw[eR]at c2;rcases c2 with c | c
     ·have:n.toNat=1:=by have:=eq_of_beq c;lia
      rw[this]
      erw[List.replicate_one,List.flatten_singleton]
     ·have c0:z.length=0:=eq_of_beq c;have:cs z=[]:=dU (by rw[<- X4];exact c0);apply Yl;rw[this];show (aK n.toNat ([]:())).flatten=[]
      erw[List.flatten_replicate_nil]
    rw[e]at q;exact#[.str z,H,I,#[_,rfl],q]
   ·rw[y9 c2]
    have e:(⟨(aK n.toNat z.cps).foldl (· ++ ·) #[]⟩:rV)=tx (aK n.toNat (cs z)).flatten:=by
     apply Yl;have:=Xp (cs z) n.toNat #[];have e2:(cs z).toArray=z.cps:=by cases z;rfl
     rw[e2]at this;show (List.foldl (· ++ ·) #[] (aK n.toNat z.cps)).toList=(aK n.toNat (cs z)).flatten;rw[this];rfl
    rw[e];refine#[by rw[zP,fl,Nat.mul_comm];lia,.str _,H,I.tok _,#[_,rfl],q]
def V8:OpR X (rZ .LtE) (λx y H Q=>∃i j,x=.str i/\y=.str j/\Q (.bl (!(decide (cs j<cs i)))) H):=by intros x y v u Q I rx ry h;let#[i,j,rfl,rfl,q]:=h;let#[t,rfl]:=rx;let#[t',rfl]:=ry;exact PySem.P.le_str #[.bl _,H,I,rfl,q]
def op_lt_str':OpR X (rZ .Lt) (λx y H Q=>∃i j,x=.str i/\y=.str j/\Q (.bl (decide (cs i<cs j))) H):=Uj
def zcp(x:rV)(c:Nat):(!(Builtin.Str.occurrences x (tx [c]) 0 x.length 1).isEmpty)=decide (c ∈ cs x):=StrLaws.found_one x c
def QR:MtR X "str.count" (λx xs H Q=>∃z y,x=.str z/\xs=[.str y]/\Q (.int (Txt.count z y)) H):=by intros x xs v us Q I rx rv h;let#[z,y,rfl,rfl,q]:=h;let#[t,rfl]:=rx;let#[u,rfl,t',rfl]:=wY rv;exact PySem.SC.count #[.int _,H,I.tok _,#[_,rfl],q]
def VY:MtR X "str.find" (λx xs H Q=>∃z y,x=.str z/\xs=[.str y]/\Q (.int (Txt.find z y)) H):=by intros x xs v us Q I rx rv h;let#[z,y,rfl,rfl,q]:=h;let#[t,rfl]:=rx;let#[u,rfl,t',rfl]:=wY rv;exact PySem.SC.find #[.int _,H,I.tok _,#[_,rfl],q]
def Inv.turns{X:Cx}{AG:List (rQ × tw)}{σ:St}{H:Hp}{s:rS}{fp:List rQ}{h':sq}{t':Nat}(I:Inv X AG σ H s)(k:∀b o,b ∉ fp->s.heap.get? b=AC o->h'.get? b=AC o)(hf:∀b ∈ fp,wo X AG H b):Inv X AG σ H { s with heap:=h',toks:=t' }:=by
 have nit:∀b u,H b=AC u->b ∉ fp:=λb u e z=>by rw[(hf b z).1]at e;cases e
 refine I.step (g':=s.gens) (d':=s.drawn) (ch:=fp) (λb hb=>?_) (λb o Z Z hc e Z=>k b o hc e) (λb o Z Z hc e Z=>#[o.slots,k b o hc e]) (λZ Z Z Z n=>n)
  (λb o hc e=>#[o,k b o hc e]) (λZ Z e=>e) (λZ Z Z e=>e) (λb ps e=>#[#[],by rw[e];simp]) (λm hm=>?_) (λb u e=>?_) I.bare
 ·let#[_,a1,_,a3,a4,a5]:=hf b hb;exact#[a3,a1,a4,a5]
 ·let#[o,es,ep,ho,r]:=hm;exact#[o,es,ep,k _ o (λz=>(hf _ z).2.1 rfl) ho,r]
 ·refine (I.hok b u e).stay (λc v hc q=>k c v ?_ q) (λZ q=>q) λZ Z q=>q;rcases hc with z | z
  ·rw[z];exact nit b u e
  ·exact nit c _ z
def Inv.track(I:Inv X AG σ H s)(fa:wo X AG H a)(new:ObjOk X.prog X.w (upd H a o) s.heap a o):Inv X AG σ (upd H a o) s:=by
 let#[a0,a1,a2,a3,a4,a5]:=fa;have e:s={ s with heap:=s.heap,gens:=s.gens,drawn:=s.drawn,toks:=s.toks }:=rfl;rw[e]
 refine I.step (g':=s.gens) (d':=s.drawn) (ch:=[a]) (λb hb=>?_) (λb o Z Z Z e Z=>e) (λb o Z Z Z e Z=>#[o.slots,e]) (λb o hc Z n=>?_)
  (λb o Z e=>#[o,e]) (λb xs e=>?_) (λb u xs e=>?_) (λb ps e=>?_) (λm hm=>hm) (λb u e=>?_) I.bare
 ·have eb:b=a:=by simpa using hb
  subst eb;exact#[a3,a1,a4,a5]
 ·rw[zk ↥hc];exact n
 ·rw[zk (zD e a0)];exact e
 ·rw[zk (zD e a0)];exact e
 ·exact#[#[],by rw[zk (zD e a0),e];simp]
 ·by_cases hb:b=a
  ·subst hb;rw[zc]at e;cases e;exact new
  ·rw[zk hb]at e;exact (I.hok b u e).stay (λc v Z q=>q) (λc q=>by rw[zk (zD q a0)];exact q) λc xs q=>by rw[zk (zD q a0)];exact q
def Its(x:rV):It:=#[λi Z=>i<(cs x).length,λi H v H'=>H'=H/\∃c,(cs x)[i]? = AC c/\v=⇑[c],λi Z=>i=(cs x).length]
def Jm{K:rP}(hty:["enumerate","zip","dict_itemiterator","dict_reverseitemiterator","odict_iterator","itertools.zip_longest","itertools.pairwise"].contains ty=AF)(it:rQ)(x:rV)(t:Ad)(W:∀A:sD,A.handled=AD->Walks P w A it [it] [it] x.cps.size (SignAt x) λi h=>h.IsStrIter it ty x t i)(S:∀(A:sD) (i:Nat) (s:rS) (Q:rR->rS->Prop) (E:rR->rS->Prop),s.heap.IsStrIter it ty x t i->Q (.ref it) s->rT (model P w) A (pyIter (.ref it)) Q E s) :
  JY P w K tg (Its x) [it] it (λi h=>h.IsStrIter it ty x t i) where
 mem:=by simp
 obj:=λi h st b hb=>by
  have e:b=it:=by simpa using hb
  subst e;let#[o,e,c,d]:=st;exact#[o,e,λv z=>by rw[d]at z;cases z]
 keep:=λi h h' st k=>let #[o,e,r]:=st; #[o,k it (by simp) o e,r]
 item:=by
  intro X hP hw hK hc i AG s σ H E I hf st hg;subst hP hw hK;let#[f0,f1,f2,f3,f4,f5]:=hf it (by simp);have hg':i<x.cps.size:=by have:i<x.cps.toList.length:=hg;simpa using this
  refine (W X.A (I.ok.hd hc)).item i s _ _ hg' st λv h' tk hv st' kk=>?_;let#[c,u,hcc,rfl]:=hv;have I1:Inv X AG σ H { s with heap:=h',toks:=tk }:=I.turned (λb o hb e=>kk b o ↥hb e) f0 f1 f3 f4 f5;let#[o,e,cl,d]:=id st';refine#[_,rfl,QL (s:={ s with heap:=h',toks:=tk }) e cl d hty #[⇑[c],H,I1,#[u,rfl],#[rfl,c,?_,rfl],st',λb hb=>(hf b hb).1]];show x.cps.toList[i]? = AC c;simpa using hcc
 done:=by
  intro X hP hw hK hc i AG s σ H E I hf st hg;subst hP hw hK;let#[f0,f1,f2,f3,f4,f5]:=hf it (by simp);have hi:i=x.cps.size:=by have:i=x.cps.toList.length:=hg;simpa using this
  rw[hi]at st;exact (W X.A (I.ok.hd hc)).done s _ _ st λh' tk kk=>#[rfl,I.turned (λb o hb e=>kk b o ↥hb e) f0 f1 f3 f4 f5]
 self:=λA i s Q E st h=>S A i s Q E st h
def zdj(tl:TE):TI:=λσ H R=>tl σ H λv H1=>∃x,v=.str x/\R (Its x) H1
def qW(hl:PE X l tl):PI X tg l (zdj tl):=by
 intros R I h;refine thn (hl AG s σ H _ I h) λv s1=>el5 λy H1 I1 r1 q1=>?_;let#[x,e,q]:=q1;subst e;let#[t,rfl]:=r1
 have fin:∀(ty:String) (hty:["enumerate","zip","dict_itemiterator","dict_reverseitemiterator","odict_iterator","itertools.zip_longest","itertools.pairwise"].contains ty=AF)
   (W:∀A:sD,A.handled=AD->Walks X.prog X.w A s1⁻¹ [s1⁻¹] [s1⁻¹] x.cps.size (SignAt x) λi h=>h.IsStrIter s1⁻¹ ty x t i)
   (S:∀(A:sD) (i:Nat) (s:rS) (Q:rR->rS->Prop) (E:rR->rS->Prop),s.heap.IsStrIter s1⁻¹ ty x t i->Q (.ref s1⁻¹) s->rT (model X.prog X.w) A (pyIter (.ref s1⁻¹)) Q E s),
   PIE X AG σ tg R (.ref s1⁻¹) { s1 with heap:=s1.heap.push { cls:=.type ty,data:=.fields (r8 [.str x t,.int 0 0]) } }:=λty hty W S=>by
  refine#[s1⁻¹,[s1⁻¹],_,_,H1,rfl,I1.kept (t':=s1.toks) λb o e=>ac _ e,Jm hty _ x t W S,#[_,aB _ rfl,rfl,rfl],λb hb=>?_,q];have e:b=s1⁻¹:=by simpa using hb
  subst e;exact I1.fpOk (ah _) (I1.hok.fresh (ah _))
 cases ha:x.cps.all (· < 128)
 ·exact wpAny_pyIter_wide ha (fin "str_iterator" ∅ (λA hA=>Walks.strWide hA _ x t) λA i s Q E st h=>wpAny_pyIter_striter_wide st h)
 ·exact wpAny_pyIter_ascii ha (fin "str_ascii_iterator" ∅ (λA hA=>Walks.strAscii hA _ x t) λA i s Q E st h=>wpAny_pyIter_striter_ascii st h)
def K4{g:TG}{tb:TS}{D:Zn}(Pv:Nat->St->Hp->Prop)(h0:Pv 0 σ H)(hs:∀i c σ H,(cs x)[i]? = AC c->Pv i σ H->g ⇑[c] σ H λσ2 H2=>tb { D with nx:=Pv (i+1),ct:=Pv (i+1),bk:=D.nx } σ2 H2)(hd:∀σ H,Pv (cs x).length σ H->D.nx σ H) :
  ∃W:Nat->Nat->St->Hp->Prop,(∃m,W 0 m σ H)/\∀i m σ H,W i m σ H ->
   ((Its x).stop i H/\D.nx σ H)\/((Its x).go i H/\∃N:St->Hp->Prop,(∀σ' H',N σ' H'->∃m',m'<m/\W (i+1) m' σ' H')/\∀v H',(Its x).yld i H v H'->g v σ H' λσ2 H2=>tb { D with nx:=N,ct:=N,bk:=D.nx } σ2 H2):=by
 refine#[λi m σ H=>m=(cs x).length - i/\i<=(cs x).length/\Pv i σ H,#[(cs x).length,by simp,aJ _,h0],?_];rintro i m σ H ⟨rfl,hi,p⟩;by_cases hlt:i<(cs x).length
 ·refine .inr #[hlt,Pv (i+1),λσ' H' p'=>#[(cs x).length - (i+1),⋯,rfl,hlt,p'],λv H' y=>?_];let#[e,c,hc,ev]:=y;subst e ev;exact hs i c σ _ hc p
 ·have e:i=(cs x).length:=⋯;subst e;exact .inl #[rfl,hd σ H p]
def Ite(x:rV):It:=#[λi Z=>i<(cs x).length,λi H v H'=>∃p c,H p=AD/\(cs x)[i]? = AC c/\v=.ref p/\H'=upd H p (.tup [.int (i:Nat),⇑[c]]),λi Z=>i=(cs x).length]
def zdL(ta:TA):TI:=λσ H R=>ta σ H λvs H1=>∃x,vs=[.str x]/\R (Ite x) H1
theorem uI : ∀(names:List (rV × tI)) (AI:List (rV × rQ)),
    (∀y,(y,NameKind.free) ∈ names->∃c,env.cells.lookup y=AC c)->(∀y c,AI.lookup y=AC c->env.cells.lookup y=AC c) ->
    ∃cl,(forIn names AI λ(x:rV × tI) (cs:List (rV × rQ))=>if (x.2 == NameKind.free)=AE then (do let a <- cellOf env x.1;pure (ForInStep.yield ((x.1,a)::cs)))else pure (ForInStep.yield cs):Sem (List (rV × rQ)))=pure cl /\
      (∀y c,cl.lookup y=AC c->env.cells.lookup y=AC c)/\(∀y,(y,NameKind.free) ∈ names\/(AI.lookup y).isSome=AE->∃c,cl.lookup y=AC c)
  | [],AI,_,ha=>#[AI,rfl,ha,λy h=>by
      rcases h with h | h
      . cases h
      . exact AS.mp h]
  | (n,k)::r,AI,hn,ha=>by
    by_cases hk:k=NameKind.free
    . subst hk
      let#[c,hc]:=hn n (by simp)
      have ha':∀y d,((n,c)::AI).lookup y=AC d->env.cells.lookup y=AC d:=λy d e=>by
        rw[aZ]at e;by_cases hy:(y == n)=AE
        . rw[hy]at e
          have:y=n:=eq_of_beq hy;subst this;cases e;exact hc
        . have hy':(y == n)=AF:=by simpa using hy
          rw[hy']at e;exact ha y d e
      let#[cl,e,h1,h2]:=uI r ((n,c)::AI) (λy hy=>hn y (aA _ hy)) ha';refine#[cl,?_,h1,λy hy=>h2 y ?_]
      . rw[dP]
        have ec:cellOf env n=pure c:=by unfold cellOf;rw[hc]
        erw[beq_self_eq_true,if_true,ec,pure_bind]
        exact e
      . rcases hy with hy | hy
        . rcases AM.mp hy with q | q
          . cases q
            exact .inr (by simp)
          . exact .inl q
        . refine .inr ?_
          rw[aZ];by_cases hyn:(y == n)=AE
          . rw[hyn];rfl
          . have hy':(y == n)=AF:=by simpa using hyn
            rw[hy'];exact hy
    . let#[cl,e,h1,h2]:=uI r AI (λy hy=>hn y (aA _ hy)) ha
      refine#[cl,?_,h1,λy hy=>h2 y ?_]
      . rw[dP]
        have ek:(k == NameKind.free)=AF:=by simpa using hk
        erw[ek,cL,if_false,pure_bind]
        exact e
      . rcases hy with hy | hy
        . rcases AM.mp hy with q | q
          . cases q;exact y4 rfl hk
          . exact .inl q
        . exact .inr hy
def vU(hn:∀y,(y,NameKind.free) ∈ scope.names->∃c,env.cells.lookup y=AC c) :
  ∃cl,closureFor scope env=pure cl/\(∀y c,cl.lookup y=AC c->env.cells.lookup y=AC c)/\(∀y,(y,NameKind.free) ∈ scope.names->∃c,cl.lookup y=AC c):=by
 let#[cl,e,h1,h2]:=uI scope.names [] hn (λy c h=>by cases h);refine#[cl,?_,h1,λy hy=>h2 y (.inl hy)];unfold closureFor
 erw[bind_pure]
 exact e
abbrev Ul(ifs:List sG)(env:Am):Sem Bool :=
 forIn ifs AE λc r=>if r=AE then (do let ok <- isTrue c env (eval c env);pure (ForInStep.yield ok))else pure (ForInStep.yield r)
theorem U7(I:Nat->rS->Prop)(hEE:EE=notedBy (model prog w) A env λe s'=>R (.error e) s')(turn:∀n s,I n s->rT (model prog w) A (pyNext it) (λr s1=>match r with
   | none=>R (.ok .next) s1
   | some v=>rT (model prog w) A (letOwnedTupleGo tg it v) (λZ s2=>rT (model prog w) A (assign tg env v) (λ_ s3 =>
     rT (model prog w) A (Ul ifs env) (λok s4=>if ok=AE then
      rT (model prog w) A (eval elt env) (λx s5=>rT (model prog w) A (call (.builtin "list.append") [AI,x]) (λZ s6=>∃m,m<n/\I m s6) EE s5) EE s4
      else ∃m,m<n/\I m s4) EE s3) EE s2) EE s1) EE s) (n:Nat) (h:I n s) :
  sP (model prog w) A (.compLoop (.ListComp elt [#[tg,iter,ifs,0]] scope pos) 0 it AI env) R s:=by
 subst hEE;refine codeAny_loop rfl I (λn s hI=>?_) n h;show rT _ A ((compTurn (.ListComp elt [#[tg,iter,ifs,0]] scope pos) 0 it AI env).onRaise (λx=>do noteFrame x env;theTreesLotGoes x)) _ _ s;refine wpAny_noted ?_;rw[compTurn_list];refine rK (sx (rK (thn (turn n s hI) λr s1 h1=>?_)))
 cases r with
 | none=>exact rL h1
 | some v =>
  refine rK (thn h1 λZ s2 h2=>rK (thn h2 λZ s3 h3=>rK (thn h3 λok s4 h4=>?_)))
  cases ok with
  | false=>exact rL #[rfl,h4]
  | true=>exact rK (rK (thn h4 λx s5 h5=>rK (thn h5 λZ s6 h6=>rL (rL #[rfl,h6]))))
def yz(X:Cx)(scope:tL)(cl:List (rV × rQ))(C:rQ)(N:List rV)(AG:List (rQ × tw))(s3:rS)(H3:Hp)(fp:List rQ)(E:rR->rS->Prop):Cx :=
 { X with N:=N,s₀:=s3,H₀:=H3,env:=compEnvC scope cl C X.env,outer:=X.stack,ex:=fp,fn:=λZ=>AF,pn:=X.pn ++ AG,xe:=E }
def ue(σ:St)(own:Nat)(ix:()):St:=aK own AD ++ ix.map λi=>(σ[i]?).join
structure jV(X:Cx)(scope:tL)(own caps:List rV)(ix:()):Prop where
 kind:scope.kind=.function
 nocell:∀y ∈ scope.names,y.2≠.cell
 names:∀y ∈ scope.names,y.2=.local->scope.names.lookup y.1=AC .local
 free:∀y,(y,NameKind.free) ∈ scope.names->X.env.kindOf y=AC .cell\/X.env.kindOf y=AC .free
 hown:∀y ∈ own,scope.names.lookup y=AC .local
 hcaps:∀y ∈ caps,scope.names.lookup y=AC .free
 hix:ix.map (λi=>X.N[i]?)=caps.map AC
theorem xV{α β:Type}[BEq α][LawfulBEq α]{l:List (α × β)}{a:α}{b:β}(h:l.lookup a=AC b):(a,b) ∈ l:=by
 induction l with
 | nil=>cases h
 | cons p r ih =>
  let#[c,d]:=p;rw[aZ]at h;by_cases e:(a == c)=AE
  ·rw[e]at h;cases h;rw[eq_of_beq e];exact aH
  ·have e':(a == c)=AF:=by simpa using e
   rw[e']at h;exact aA _ (ih h)
theorem vp{scope:tL}{env:Am}(hf:env.scope.kind=.function):∀{names:List (rV × tI)} {x:rV} {k:tI},names.lookup x=AC k ->
    (names.map λ(n,k)=>if (k == NameKind.free && env.scope.kind == .function && env.kindOf n == AC .cell)then (n,NameKind.cell)else (n,k)).lookup x=AC (if (k == NameKind.free && env.scope.kind == .function && env.kindOf x == AC .cell)=AE then .cell else k)
  | [],_,_,h=>by simp at h
  | (n,k')::r,x,k,h=>by
    have ih:=@vp scope env hf r x k;show bn x ((if (k' == NameKind.free && env.scope.kind == .function && env.kindOf n == AC .cell)=AE then (n,NameKind.cell)else (n,k'))::_)=_;by_cases hx:(x == n)=AE
    . have hxn:x=n:=eq_of_beq hx
      subst hxn;rw[aZ,hx]at h;cases h;by_cases c:(k' == NameKind.free && env.scope.kind == .function && env.kindOf x == AC .cell)=AE
      . rw[y6 c,y6 c,aZ,hx]
      . rw[y9 c,y9 c,aZ,hx]
    . have hx':(x == n)=AF:=by simpa using hx
      rw[aZ,hx']at h;by_cases c:(k' == NameKind.free && env.scope.kind == .function && env.kindOf n == AC .cell)=AE
      . rw[y6 c,aZ,hx'];exact ih h
      . rw[y9 c,aZ,hx'];exact ih h
theorem uR{scope:tL}{env:Am}:∀{names:List (rV × tI)} {x:rV},names.lookup x=AD ->
    (names.map λ(n,k)=>if (k == NameKind.free && env.scope.kind == .function && env.kindOf n == AC .cell)then (n,NameKind.cell)else (n,k)).lookup x=AD
  | [],_,_=>rfl
  | (n,k')::r,x,h=>by
    have ih:=@uR scope env r x;show bn x ((if (k' == NameKind.free && env.scope.kind == .function && env.kindOf n == AC .cell)=AE then (n,NameKind.cell)else (n,k'))::_)=_;by_cases hx:(x == n)=AE
    . rw[aZ,hx]at h;cases h
    . have hx':(x == n)=AF:=by simpa using hx
      rw[aZ,hx']at h;by_cases c:(k' == NameKind.free && env.scope.kind == .function && env.kindOf n == AC .cell)=AE
      . rw[y6 c,aZ,hx'];exact ih h
      . rw[y9 c,aZ,hx'];exact ih h
def WU(S:jV X scope own caps ix)(hcl1:∀y c,cl.lookup y=AC c->X.env.cells.lookup y=AC c)(hcl2:∀y,(y,NameKind.free) ∈ scope.names->∃c,cl.lookup y=AC c)(I:Inv X AG σ H s)(hfp:∀b ∈ fp,wo X AG H b)(hlt:∀b ∈ fp,b<s⁻¹)(hn:h4.Ns s⁻¹ λZ=>AD)(hk:∀b o,s.heap.get? b=AC o->h4.get? b=AC o) :
  Inv (yz X scope cl s⁻¹ (own ++ caps) AG s H fp E) [] (ue σ own.length ix) H { s with heap:=h4,toks:=t4 }:=by
 have kf:X.env.scope.kind=.function:=I.ok.kind;have nofp:∀b ∈ fp,b≠s⁻¹:=λb hb=>ay (hlt b hb)
 have cellLt:∀x c,X.env.cells.lookup x=AC c->c<s⁻¹:=λx c e=>by
  let#[v,o,ho,_]:=I.cell x c e;exact ao ho
 have kinds:∀y k,scope.names.lookup y=AC k->(relabel scope X.env).names.lookup y=AC (if (k == NameKind.free && X.env.scope.kind == .function && X.env.kindOf y == AC .cell)=AE then .cell else k):=λy k e=>vp (scope:=scope) kf e
 have back:∀y k,(relabel scope X.env).names.lookup y=AC k->∃k',scope.names.lookup y=AC k'/\k=(if (k' == NameKind.free && X.env.scope.kind == .function && X.env.kindOf y == AC .cell)=AE then .cell else k'):=λy k e=>by
  cases q:scope.names.lookup y with
  | none =>
   have:=uR (scope:=scope) (env:=X.env) q;have e':(scope.names.map λ(n,k)=>if (k == NameKind.free && X.env.scope.kind == .function && X.env.kindOf n == AC .cell)then (n,NameKind.cell)else (n,k)).lookup y=AC k:=e;rw[this]at e';cases e'
  | some k' =>
   refine#[k',rfl,?_];have:=kinds y k' q;rw[e]at this;exact Option.some.inj this
 have isCell:∀y,scope.names.lookup y=AC .free->(relabel scope X.env).names.lookup y=AC .cell\/(relabel scope X.env).names.lookup y=AC .free:=λy e=>by
  have:=kinds y _ e;rcases S.free y (xV e)with q | q
  ·refine .inl ?_;rw[this,y6];rw[q,kf];rfl
  ·refine .inr ?_;rw[this,y9];rw[q];simp
 refine#[#[I.ok.mod,?_,I.ok.glob,I.ok.blt,ah _,?_,?_,?_,I.ok.hd,I.ok.frames,.inl rfl,?_,I.bs,aS I.ok.bsz I.sz,?_,?_,I.stack,I.stkFree],rfl,I.bare,Un.kept hk,#[_,hn,?_],?_,?_,?_,?_,I.hok.kept hk,?_]
 ·show (relabel scope X.env).kind=.function;exact S.kind
 ·intro x y c h1 h2;exact I.ok.inj x y c (hcl1 x c h1) (hcl1 y c h2)
 ·intro y hy;have hy':(relabel scope X.env).names.lookup y=AC .cell\/(relabel scope X.env).names.lookup y=AC .free:=hy
  have:scope.names.lookup y=AC .free:=by
   rcases hy' with q | q
   ·let#[k',e,ek]:=back y _ q;by_cases c:(k' == NameKind.free && X.env.scope.kind == .function && X.env.kindOf y == AC .cell)=AE
    ·rw[ce,ce]at c;rw[e,eq_of_beq c.1.1]
    ·rw[y9 c]at ek;exact y4 ek.symm (S.nocell _ (xV e))
   ·let#[k',e,ek]:=back y _ q;by_cases c:(k' == NameKind.free && X.env.scope.kind == .function && X.env.kindOf y == AC .cell)=AE
    ·rw[y6 c]at ek;cases ek
    ·rw[y9 c]at ek;rw[e,<- ek]
  exact hcl2 y (xV this)
 ·intro x c h _;exact y4 h (by simp [yz])
 ·intro b hb;refine#[nofp b hb,λx c e=>?_];exact (hfp b hb).2.2.2.2.1 x c (hcl1 x c e)
 ·intro b o e hb;let#[_,_,_,q,_]:=hfp b hb;rcases q with q | q
  ·exact I.ok.noex b o e q
  ·exact y4 (aq (ao e) (aS I.ok.bsz q)) (cw _)
 ·intro b hb z;rcases AM.mp (I.stkSub b z)with e | e
  ·exact (hfp b hb).2.1 e
  ·exact (hfp b hb).2.2.1 e
 ·intro i y v h1 h2 h3
  have hi:own.length<=i:=by
   refine cF λhlt'=>?_;unfold ue at h2;rw[aW (by rw[bi];exact hlt'),eO,y6 hlt']at h2;cases h2
  have h1':caps[i - own.length]? = AC y:=by
   have:(own ++ caps)[i]? = AC y:=h1;rw[aN hi]at this;exact this
  have h2':(ix.map λi=>(σ[i]?).join)[i - own.length]? = AC (AC v):=by
   unfold ue at h2;rw[aN (by rw[bi];exact hi),bi]at h2;exact h2
  rw[ax]at h2';have hx:=congrArg (λl=>l[i - own.length]?) S.hix
  erw[ax,h1',Option.map_some]at hx
  cases q:ix[i - own.length]? with
  | none=>rw[q]at h2';cases h2'
  | some j =>
   rw[q]at h2' hx;have hj:X.N[j]? = AC y:=Option.some.inj hx;have hv:(σ[j]?).join=AC v:=Option.some.inj h2'
   have hσ:σ[j]? = AC (AC v):=by
    cases r:σ[j]? with
    | none=>rw[r]at hv;cases hv
    | some z=>rw[r]at hv;cases z with
     | none=>cases hv
     | some z=>cases hv;rfl
   have hfree:scope.names.lookup y=AC .free:=S.hcaps y (af h1');have hkc:=S.free y (xV hfree);let#[m,hm,hl]:=I.loc;let#[u,ru,l]:=hl j y v hj hσ (.inr hkc);refine#[u,ru,.inr #[isCell y hfree,?_]];rcases l with ⟨k,_⟩ | ⟨_,c,e,z⟩
   ·have:X.env.kindOf y=AC .local:=k;rcases hkc with q' | q' <;> (rw[q']at this;cases this)
   ·let#[c',e']:=hcl2 y (xV hfree);have:=hcl1 y c' e';rw[e]at this;cases this;let#[o,ho,hd]:=z;exact#[c,e',o,hk c o ho,hd]
 ·intro x c e;let#[v,o,ho,hd]:=I.cell x c (hcl1 x c e);exact#[v,o,hk c o ho,hd]
 ·exact I.hok.fresh (ah _)
 ·intro x c e;exact I.freeC x c (hcl1 x c e)
 ·intro p hp
  have hp':p ∈ X.pn ++ AG:=by
   have:p ∈ (X.pn ++ AG) ++ []:=hp
   rwa [aR]at this
  let#[e,n,ne,nf,d]:=I.pin p hp';refine#[hk _ _ e,n,?_,λz=>?_,d]
  ·exact ay (ao e)
  ·rcases AM.mp (I.stkSub p.1 z)with q | q
   ·exact ne q
   ·exact nf q
 ·show (ue σ own.length ix).length=(own ++ caps).length;have:=congrArg fV S.hix;rw[aa,aa]at this;unfold ue;rw[ag,bi,aa,ag,this]
def xC(σ σ':St):Prop:=σ.length=σ'.length/\∀(i:Nat) v,σ[i]? = AC (AC v)->σ'[i]? = AC (AC v)
def PTs(X:Cx)(ifs:List sG)(t:TT):Prop :=
 ∀(AG:List (rQ × tw)) (s:rS) (σ:St) (H:Hp) (Q:Bool->Hp->Prop),Inv X AG σ H s->t σ H Q->rT (model X.prog X.w) X.A (Ul ifs X.env) (TP X AG σ Q) X.xe s
def yW:TT:=λZ H Q=>Q AE H
def z7 : PTs X [] yW:=λZ Z Z H Z I h=>rL #[H,I,h]
def jz(wi:TI)(g:TG)(tt:TT)(te:TE)(own:Nat)(ix:()):TE:=λσ H Q=>wi σ H λJ H1=>∀D,H1 D=AD->∃W:Nat->Nat->List V->Hp->Prop,(∃m,W 0 m [] (upd H1 D (.lst []))) /\
 ∀i m AI H',W i m AI H'->(J.stop i H'/\Q (.ref D) H')\/(J.go i H'/\∀x H2,J.yld i H' x H2->g x (ue σ own ix) H2 λσ3 H3=>xC (ue σ own ix) σ3/\tt σ3 H3 λb H4=>if b=AE then
  te σ3 H4 λv H5=>H5 D=AC (.lst AI)/\AI.length<rO/\∃m',m'<m/\W (i+1) m' (AI ++ [v]) (upd H5 D (.lst (AI ++ [v])))
  else ∃m',m'<m/\W (i+1) m' AI H4)
def Un.but(u:Un fs ex H H' h h1)(sb:Heap.SameBut a h1 h2)(ha:h.get? a=AD):Un fs ex H H' h h2:=by
 have ne:∀b o,h.get? b=AC o->b≠a:=λb o e z=>by subst z;rw[ha]at e;cases e
 refine#[λb o e n hb hx=>(sb.2 b (ne b o e)).trans (u.keep b o e n hb hx),λb o e n hb hx=>?_,u.free,λb o e hx=>?_,u.tups,u.frzs,u.tbls]
 ·let#[sl,q]:=u.slot b o e n hb hx;exact#[sl,(sb.2 b (ne b o e)).trans q]
 ·let#[o',q]:=u.there b o e hx;exact#[o',(sb.2 b (ne b o e)).trans q]
def HOk.but(ok:HOk P w H h1)(sb:Heap.SameBut a h1 h2)(ha:H a=AD):HOk P w H h2:=λb ob e=>by
 refine (ok b ob e).stay (λc u hc q=>(sb.2 c ?_).trans q) (λZ q=>q) λZ Z q=>q;rintro rfl;rcases hc with rfl | hc
 ·rw[ha]at e;cases e
 ·rw[ha]at hc;cases hc
def xm(i:Nat)(t:TE):TS:=λD σ H=>t σ H λx H1=>D.nx (σ.set i (AC x)) H1
def Y6:R2:=λx y H Q=>match x with | .int i=>onInt y λj=>Q (.int (i+j)) H | .str i=>onStr y λj=>i.length+j.length<=rO/\Q (.str (i ++ j)) H | .ref l=>zbe (.ref l) y H Q | _=>False
theorem yF:OpR X (binaryOp .Add) Y6:=by
 intros x y v u Q I rx ry h
 cases x with
 | int i=>exact yf AG s σ H (.int i) y v u Q I rx ry h
 | str i=>exact zU AG s σ H (.str i) y v u Q I rx ry (by let#[j,rfl,q]:=onStr.of h;exact#[i,j,rfl,rfl,q])
 | ref l=>exact Xm AG s σ H (.ref l) y v u Q I rx ry h
 | _=>exact h.elim
def QF:R2:=λx y H Q=>match x with | .int i=>onInt y λj=>CMul i j/\Q (.int (i * j)) H | .str z=>onInt y λn=>0<=n/\n<=1000/\z.length<=1000/\Q ⇑(aK n.toNat (cs z)).flatten H | _=>False
theorem wj:OpR X (binaryOp .Mult) QF:=by
 intros x y v u Q I rx ry h
 cases x with
 | int i=>exact jL AG s σ H (.int i) y v u Q I rx ry h
 | str z=>exact Wz AG s σ H (.str z) y v u Q I rx ry (by let#[n,rfl,q]:=onInt.of h;exact#[z,n,rfl,rfl,q])
 | _=>exact h.elim
def zcG:R2:=λx y H Q=>match x with | .int i=>onInt y λj=>Q (.bl (decide (i<j))) H | .str i=>onStr y λj=>Q (.bl (decide (cs i<cs j))) H | _=>False
theorem Uo:OpR X (rZ .Lt) zcG:=by
 intros x y v u Q I rx ry h
 cases x with
 | int i=>exact Zq AG s σ H (.int i) y v u Q I rx ry h
 | str i=>exact op_lt_str' AG s σ H (.str i) y v u Q I rx ry (by let#[j,rfl,q]:=onStr.of h;exact#[i,j,rfl,rfl,q])
 | _=>exact h.elim
def zcM:R2:=λx y H Q=>match x with | .int i=>onInt y λj=>Q (.bl (decide (i<=j))) H | .str i=>onStr y λj=>Q (.bl (!(decide (cs j<cs i)))) H | _=>False
theorem xX:OpR X (rZ .LtE) zcM:=by
 intros x y v u Q I rx ry h
 cases x with
 | int i=>exact zbl AG s σ H (.int i) y v u Q I rx ry h
 | str i=>exact V8 AG s σ H (.str i) y v u Q I rx ry (by let#[j,rfl,q]:=onStr.of h;exact#[i,j,rfl,rfl,q])
 | _=>exact h.elim
def UR:OpR X (rZ .Gt) (λx y H Q=>∃i j,x=.str i/\y=.str j/\Q (.bl (decide (cs j<cs i))) H):=by intros x y v u Q I rx ry h;let#[i,j,rfl,rfl,q]:=h;let#[t,rfl]:=rx;let#[t',rfl]:=ry;exact PySem.P.gt_str #[.bl _,H,I,rfl,q]
def zdN:R2:=λx y H Q=>match x with | .int i=>onInt y λj=>Q (.bl (decide (j<i))) H | .str i=>onStr y λj=>Q (.bl (decide (cs j<cs i))) H | _=>False
theorem JV:OpR X (rZ .Gt) zdN:=by
 intros x y v u Q I rx ry h
 cases x with
 | int i=>exact Y8 AG s σ H (.int i) y v u Q I rx ry h
 | str i=>exact UR AG s σ H (.str i) y v u Q I rx ry (by let#[j,rfl,q]:=onStr.of h;exact#[i,j,rfl,rfl,q])
 | _=>exact h.elim
def zds(K:rP):V->Option Int->Option Int->Hp->VK->Prop:=λx lo hi H Q=>match x with | .ref a=>za4 K (.ref a) lo hi H Q | .str z=>zcw (.str z) lo hi H Q | _=>False
theorem Uz:SlR X (zds X.K):=by
 intros x v vl vu lo hi sl Q I rx hs pl pu h
 cases x with
 | ref a=>exact uj AG s σ H (.ref a) v vl vu lo hi sl Q I rx hs pl pu h
 | str z=>exact yK AG s σ H (.str z) v vl vu lo hi sl Q I rx hs pl pu h
 | _=>exact h.elim
def cV:V->Option rR
 | .ty n=>AC (.type n)
 | .ref a=>AC (.ref a)
 | _=>AD
def Ju:ww X (.builtin "isinstance") (λxs H Q=>∃x c u t b,xs=[x,c]/\cV c=AC u/\XX X.K H x t/\aX X.K t u=AC b/\Q (.bl b) H):=by
 intros xs us Q I r h;let#[x,c,u,t,b,rfl,hc,ty,e,q]:=h;let#[v,w',rfl,rx,rc]:=YH r
 have:w'=u:=by
  cases c with
  | ty n=>cases hc;exact rc
  | ref a=>cases hc;exact rc
  | _=>cases hc
 subst this;exact VR I rx ty e λtk=>#[.bl b,H,I.tok tk,rfl,q]
def Iel(K:rP)(a:rQ):It:=#[λi H=>∃xs x,SqL K H a xs/\xs[i]? = AC x,λi H v H'=>∃p x,H p=AD/\(∀xs,SqL K H a xs->xs[i]? = AC x)/\v=.ref p/\H'=upd H p (.tup [.int (i:Nat),x]),λi H=>∃xs,SqL K H a xs/\i=xs.length]
def W1{K:rP}(e it a:rQ)(hei:e≠it) :
  JY P w K (.Tuple elts x1 tpos) (Iel K a) [e,it] e (λi h=>(∃old,IsEnum h e it i old)/\h.IsListIter it a i) where
 mem:=by simp
 obj:=λi h st b hb=>by
  let#[#[old,he],o,e2,c,d]:=st;rcases AM.mp hb with q | q
  ·subst q;exact#[_,he,λv z=>by have z':Data.fields _=Data.cell v:=z;cases z']
  ·have q':b=it:=by simpa using q
   subst q';exact#[o,e2,λv z=>by rw[d]at z;cases z]
 keep:=λi h h' st k=>by
  let#[#[old,he],st]:=st;exact#[#[old,k e (by simp) _ he],st.at λo q=>k it (by simp) o q]
 item:=by
  intro X hP hw hK hc i AG s σ H E I hf st hg;subst hP hw hK;let#[#[old,he],st]:=st;let#[xs,x,hq,hx]:=hg;let#[its,rv,p,hz]:=I.list hq;let#[u,hu,ru]:=rv.get hx;have hA:X.A.in1.handled=AD:=I.ok.hd hc;have pl:=p.isList
  have hai:a≠it:=λz=>by
   subst z;let#[o1,q1,c1,_]:=st;let#[o2,q2,c2,_]:=pl;rw[q1]at q2;cases q2;rw[c1]at c2;exact y4 (Value.type.inj c2) ∅
  have hea:e≠a:=λz=>by
   subst z;let#[o2,q2,c2,_]:=pl;rw[he]at q2;cases q2;exact y4 (Value.type.inj c2) ∅
  refine wpAny_pyNext_enum_itemD (Draws.list (A:=X.A.in1) hA it a hai its.toArray) he #[st,pl] (by rw[aj];exact (AJ.mp hu).1) hei (by simp [hei,hea]) λv h' tk hv ho st' hT hsz kk=>?_
  have ev:v=u:=by
   have hv':its.toArray[i]? = AC v:=hv;rw[List.getElem?_toArray,hu]at hv';exact (Option.some.inj hv').symm
  subst ev;refine#[_,rfl,wpAny_letOwnedTupleGo_enum ho λh2 he2 sb=>?_];have elt:e<s⁻¹:=ao he;have ilt:it<s⁻¹:=by let#[o,q,_]:=st;exact ao q
  have I1:Inv X AG σ H { s with heap:=h2,toks:=tk+1 }:=Inv.turns (fp:=[e,it]) I (λb o hb q=>by
   have hb':b≠e/\b≠it:=by simpa using hb
   exact (sb.2 b hb'.1).trans (kk b o hb'.1 hb'.2 q)) hf
  have hp:H s⁻¹=AD:=I.hok.fresh (ah _);have hT2:h2.get? s⁻¹=AC { cls:=.type "tuple",data:=.seq (r8 [.int (i:Nat) tk,v]) }:=(sb.2 _ (bJ elt)).trans hT
  have I2:Inv X AG σ (upd H s⁻¹ (.tup [.int (i:Nat),x])) { s with heap:=h2,toks:=tk+1 } :=
   Inv.track I1 (I.fpOk (ah _) hp) #[by show 2<=rO;decide,[.int (i:Nat) tk,v],.cons #[_,rfl] (.cons ru .nil),#[_,hT2,rfl,_,rfl]]
  refine#[.ref s⁻¹,_,I2,rfl,#[s⁻¹,x,hp,λys hy=>by rw[I.list_inj hy hq];exact hx,rfl,rfl],#[#[_,by simpa using he2],?_],λb hb=>?_]
  ·exact st'.1.at λo q=>(sb.2 it (Ne.symm hei)).trans q
  ·rw[zk]
   ·exact (hf b hb).1
   ·rcases AM.mp hb with q | q
    ·rw[q];exact ay elt
    ·have q':b=it:=by simpa using q
     rw[q'];exact ay ilt
 done:=by
  intro X hP hw hK hc i AG s σ H E I hf st hg;subst hP hw hK;let#[#[old,he],st]:=st;let#[xs,hq,hi]:=hg;let#[its,rv,p,hz]:=I.list hq;have pl:=p.isList
  have hai:a≠it:=λz=>by
   subst z;let#[o1,q1,c1,_]:=st;let#[o2,q2,c2,_]:=pl;rw[q1]at q2;cases q2;rw[c1]at c2;exact y4 (Value.type.inj c2) ∅
  have hA:X.A.in1.handled=AD:=I.ok.hd hc;have hi':i=its.toArray.size:=by rw[aj,<- rv.length];exact hi
  subst hi';refine wpAny_pyNext_enum_endD (Draws.list (A:=X.A.in1) hA it a hai its.toArray) he #[st,pl] λh' hx=>#[rfl,?_];exact Inv.turns (fp:=[e,it]) (t':=s.toks) I (λb o hb q=>hx b o (λz=>hb (by simp [z])) q) hf
 self:=λA i s Q E st h=>by
  let#[#[old,he],_]:=st;exact An he h
def JB(K:rP)(ta:TA):TI:=λσ H R=>ta σ H λvs H1=>∃a,vs=[.ref a]/\(∃xs,SqL K H1 a xs)/\R (Iel K a) H1
def yN(hg:Gl X "enumerate")(hm:X.mg "enumerate" = AD)(ha:PA X [a] ta)(hs:‹rN [a] X.env=[(AF,eval a X.env)]›) :
  PI X (.Tuple elts x1 tpos) (.Call (.Name "enumerate" p) [a] [] pos) (JB X.K ta):=by
 intros R I h;refine Call_ (uP I hg hm PyProof.Rows.boot_enumerate (bQ (thn (ha pos AG s σ H _ I h) λus s1=>el5 λvs H1 I1 r1 q1=>?_) hs rfl));let#[l,e,#[xs,hq],q]:=q1;subst e;let#[u,rfl,ru]:=wY r1;cases ru;let#[its,rv,pl,hz]:=I1.list hq;refine call_enumerate_list pl.isList λh' he hit hsz kk=>?_;have I2:Inv X AG σ H1 { s1 with heap:=h' }:=I1.kept (t':=s1.toks) kk;refine An (s:={ s1 with heap:=h' }) (i:=0) he ?_;refine#[s1⁻¹+1,[s1⁻¹+1,s1⁻¹],_,_,H1,rfl,I2,W1 _ _ l (Nat.succ_ne_self _),#[#[_,he],hit],λb hb=>?_,q]
 have hb':s1⁻¹<=b:=by
  rcases AM.mp hb with e | e
  ·rw[e];exact bS _
  ·have:b=s1⁻¹:=by simpa using e
   rw[this];exact ah _
 exact I1.fpOk hb' (I1.hok.fresh hb')
def ForEL(K:rP)(a:rQ)(g:TG)(tb:TS)(D:Zn)(σ:St)(H:Hp):Prop:=∃W:Nat->Nat->St->Hp->Prop,(∃m,W 0 m σ H)/\∀i m σ H,W i m σ H ->
 ((Iel K a).stop i H/\D.nx σ H)\/((Iel K a).go i H/\∃N:St->Hp->Prop,(∀σ' H',N σ' H'->∃m',m'<m/\W (i+1) m' σ' H')/\∀x H',(Iel K a).yld i H x H'->g x σ H' λσ2 H2=>tb { D with nx:=N,ct:=N,bk:=D.nx } σ2 H2)
def zbJ{K:rP}:QH (JB K ta) g tb D σ H=ta σ H λvs H1=>∃a,vs=[.ref a]/\(∃xs,SqL K H1 a xs)/\ForEL K a g tb D σ H1:=rfl
def ForEL.by{K:rP}(Pv:Nat->St->Hp->Prop)(h0:Pv 0 σ H)(hl:∀i σ H,i<=xs.length->Pv i σ H->SqL K H a xs)(hs:∀i x σ H p,xs[i]? = AC x->Pv i σ H->H p=AD->g (.ref p) σ (upd H p (.tup [.int (i:Nat),x])) λσ2 H2=>tb { D with nx:=Pv (i+1),ct:=Pv (i+1),bk:=D.nx } σ2 H2)(hd:∀σ H,Pv xs.length σ H->D.nx σ H):ForEL K a g tb D σ H:=by
 refine#[λi m σ H=>m=xs.length - i/\i<=xs.length/\Pv i σ H,#[xs.length,by simp,aJ _,h0],?_];rintro i m σ H ⟨rfl,hi,p⟩;have q:=hl i σ H hi p;by_cases hlt:i<xs.length
 ·refine .inr #[#[xs,xs[i],q,by simp [hlt]],Pv (i+1),λσ' H' p'=>#[xs.length - (i+1),⋯,rfl,hlt,p'],λv H' y=>?_];let#[p',x,hp,hx,ev,eH]:=y;subst ev eH;exact hs i x σ H p' (hx xs q) p hp
 ·have e:i=xs.length:=⋯;subst e;exact .inl #[#[xs,q,rfl],hd σ H p]
def ForT(K:rP)(a:rQ)(g:TG)(tb:TS)(D:Zn)(σ:St)(H:Hp):Prop:=∃W:Nat->Nat->St->Hp->Prop,(∃m,W 0 m σ H)/\∀i m σ H,W i m σ H ->
 ((Itt K a).stop i H/\D.nx σ H)\/((Itt K a).go i H/\∃N:St->Hp->Prop,(∀σ' H',N σ' H'->∃m',m'<m/\W (i+1) m' σ' H')/\∀x H',(Itt K a).yld i H x H'->g x σ H' λσ2 H2=>tb { D with nx:=N,ct:=N,bk:=D.nx } σ2 H2)
def zeg{K:rP}:QH (zc9 K tl) g tb D σ H=tl σ H λx H1=>∃a,x=.ref a/\(∃xs,SqT K H1 a xs)/\ForT K a g tb D σ H1:=rfl
def ForT.by{K:rP}(Pv:Nat->St->Hp->Prop)(h0:Pv 0 σ H)(hl:∀i σ H,i<=xs.length->Pv i σ H->SqT K H a xs)(hs:∀i x σ H,xs[i]? = AC x->Pv i σ H->g x σ H λσ2 H2=>tb { D with nx:=Pv (i+1),ct:=Pv (i+1),bk:=D.nx } σ2 H2)(hd:∀σ H,Pv xs.length σ H->D.nx σ H):ForT K a g tb D σ H:=K9 Pv h0 hl hs hd
def zdB(K:rP)(x:V)(H:Hp)(p:Bool->Prop):Prop:=match x with | .bl b=>p b | x=>∃k,zbt K x H k/\p k
def tTr(K:rP)(ta:TE):TT:=λσ H Q=>ta σ H λx H'=>zdB K x H' λk=>Q k H'
def zaO{K:rP}:tTr K ta σ H Q=ta σ H λx H'=>zdB K x H' λk=>Q k H':=rfl
def tBl(ta:TE):TT:=λσ H Q=>ta σ H λx H'=>onBl x λk=>Q k H'
def zaz : tBl ta σ H Q=ta σ H λx H'=>onBl x λk=>Q k H':=rfl
def xH(ha:PE X a ta)(he:∀whole,isTrue a X.env whole=(do let v <- whole;standAt a.pos;holding [v] (truthy v))):PT X a (tBl ta):=by intros Q I h;refine isTrue_plain (thn (ha AG s σ H _ I h) λv s1=>el5 λx H1 I1 r1 q1=>?_) (he _);let#[k,rfl,q1]:=onBl.of q1;exact JC AG s1 σ H1 (.bl k) v Q I1 r1 #[k,rfl,q1]
def Irv(K:rP)(a:rQ)(n:Nat):It:=#[λi H=>∃xs,SqL K H a xs/\xs.length=n/\i<n,λi H v H'=>H'=H/\∀xs,SqL K H a xs->xs.length=n->xs[n - 1 - i]? = AC v,λi H=>i=n]
def zeP(K:rP)(ta:TA):TI:=λσ H R=>ta σ H λvs H1=>∃a xs,vs=[.ref a]/\SqL K H1 a xs/\R (Irv K a xs.length) H1
def zd6(K:rP)(ta:TA):TE:=λσ H Q=>ta σ H λvs H1=>∃a xs,vs=[.ref a]/\SqL K H1 a xs/\∀l,H1 l=AD->Q (.ref l) (upd H1 l (.lst xs.reverse))
def Qf{K:rP}:zd6 K ta σ H Q=ta σ H λvs H1=>∃a xs,vs=[.ref a]/\SqL K H1 a xs/\∀l,H1 l=AD->Q (.ref l) (upd H1 l (.lst xs.reverse)):=rfl
def Izp(K:rP)(a b:rQ):It:=#[λi H=>∃xs ys x y,SqL K H a xs/\SqL K H b ys/\xs[i]? = AC x/\ys[i]? = AC y,λi H v H'=>∃p x y,H p=AD/\(∀xs,SqL K H a xs->xs[i]? = AC x)/\(∀ys,SqL K H b ys->ys[i]? = AC y)/\v=.ref p/\H'=upd H p (.tup [x,y]),λi H=>∃xs ys,SqL K H a xs/\SqL K H b ys/\(xs.length=i\/ys.length=i)/\i<=xs.length/\i<=ys.length]
def wZ{h:sq}(h1:h.get? a=AC o1)(c1:o1.cls=.type t)(h2:h.get? b=AC o2)(c2:o2.cls=.type u)(hne:t≠u):a≠b:=λz=>by
 rw[z,h2]at h1;cases h1;rw[c2]at c1;exact hne (Value.type.inj c1).symm
structure J5(z TI TO i1 i2:rQ):Prop where
 TIz:TI≠z
 TOz:TO≠z
 i1z:i1≠z
 i2z:i2≠z
 TITO:TI≠TO
 TIi1:TI≠i1
 TIi2:TI≠i2
 TOi1:TO≠i1
 TOi2:TO≠i2
 i12:i1≠i2
def ZipAt(z TI TO i1 i2 l1 l2:rQ)(i:Nat)(h:sq):Prop:=tM h z TI TO .none/\sQ h TI (.ref i1) (.ref i2)/\(∃a b,sQ h TO a b)/\h.IsListIter i1 l1 i/\h.IsListIter i2 l2 i
def ZipAt.apart{z TI TO i1 i2 l1 l2:rQ}(D:J5 z TI TO i1 i2)(st:ZipAt z TI TO i1 i2 l1 l2 i h)(h1:h.IsList l1 xs)(h2:h.IsList l2 ys):ZipApart z TI TO i1 i2 l1 l2:=by let#[hz,hTI,#[a,b,hTO],#[o1,e1,c1,_],#[o2,e2,c2,_]]:=st;let#[p1,q1,k1,_]:=h1;let#[p2,q2,k2,_]:=h2;exact#[D.TIz,D.TOz,D.i1z,D.i2z,D.TITO,D.TIi1,D.TIi2,D.TOi1,D.TOi2,D.i12,wZ q1 k1 hz rfl ∅,wZ q1 k1 hTO rfl ∅,wZ q1 k1 e1 c1 ∅,wZ q1 k1 e2 c2 ∅,wZ q2 k2 hz rfl ∅,wZ q2 k2 hTO rfl ∅,wZ q2 k2 e1 c1 ∅,wZ q2 k2 e2 c2 ∅]
def zeV(K:rP)(ta:TA):TI:=λσ H R=>ta σ H λvs H1=>∃a b,vs=[.ref a,.ref b]/\(∃xs,SqL K H1 a xs)/\(∃ys,SqL K H1 b ys)/\R (Izp K a b) H1
def zeS(K:rP)(a b:rQ)(g:TG)(tb:TS)(D:Zn)(σ:L2.St)(H:Hp):Prop:=∃W:Nat->Nat->L2.St->Hp->Prop,(∃m,W 0 m σ H)/\∀i m σ H,W i m σ H ->
 ((Izp K a b).stop i H/\D.nx σ H)\/((Izp K a b).go i H/\∃N:L2.St->Hp->Prop,(∀σ' H',N σ' H'->∃m',m'<m/\W (i+1) m' σ' H')/\∀x H',(Izp K a b).yld i H x H'->g x σ H' λσ2 H2=>tb { D with nx:=N,ct:=N,bk:=D.nx } σ2 H2)
def zei{K:rP}:QH (zeV K ta) g tb D σ H=ta σ H λvs H1=>∃a b,vs=[.ref a,.ref b]/\(∃xs,SqL K H1 a xs)/\(∃ys,SqL K H1 b ys)/\zeS K a b g tb D σ H1:=rfl
abbrev xob(C:rQ)(dx:Option rQ)(t:rQ)(tb:rR):tw:={ cls:=.ref C,dict:=dx,data:=.fields (r8 [.ref t,tb,.none,.none,.bool AF,.none]) }
abbrev xog(C:rQ)(dx:Option rQ)(t:rQ)(tb c:rR)(k:Bool):tw:={ cls:=.ref C,dict:=dx,data:=.fields (r8 [.ref t,tb,c,.none,.bool k,.none]) }
def Qv(h:sq)(x:rQ)(tb:rR):Prop:=tb=.none\/∃T oT ts,tb=.ref T/\T≠x/\h.get? T=AC oT/\oT.data=.fields ts/\3<ts.size
def ZX(h:env.frame=env0.frame):ef env=ef env0:=by unfold ef;rw[h]
def kq(hfr:A.frames=AC (env0::outer))(hl:s.heap.FunFrames base (env0::outer))(hf:env0.frame=AC L)(he:env.frame=AC L)(hx:s.heap.get? x=AC (xog C dx t tb cx kx))(h:∀h' oT ts,h'.get? x=AC (xog C dx t (.ref s⁻¹) cx kx)->s⁻¹≠x->h'.get? s⁻¹=AC oT->oT.data=.fields ts->3<ts.size ->
   (∀b o,b≠x->b ∉ frs (env0::outer)->s.heap.get? b=AC o->h'.get? b=AC o)->(∀b o,b≠x->s.heap.get? b=AC o->∃sl,h'.get? b=AC { o with slots:=sl })->Q Unit.unit { s with heap:=h' }) :
  rT M A (do let a <- ef env;let pl <- entryPlaceOf L hadNext;let b <- EntryCells.newEntry head a .none (rawInt L) .none pl;setField (.ref x) 1 b) Q E s:=by
 have hxf:x ∉ frs (env0::outer):=λhm=>by
  let#[_,o,ho,hnf]:=hl.mem hm;rw[hx]at ho;cases ho;exact hnf _ rfl
 rw[ZX (he.trans hf.symm)];refine rK (wpAny_frameOf_fun hfr hl hf λh1 hs1=>rK (wpAny_entryPlaceOf λpl hpl=>?_));unfold EntryCells.newEntry newFields;refine rK (tD ?_ (hpl.sizeOk5 _ _ _ _ _));have hz:h1.objs.size=s⁻¹:=hs1.1;have hx1:h1.get? x=AC (xog C dx t tb cx kx):=(hs1.2.1 x hxf).trans hx;generalize ho:({ cls:=.type "traceback",dict:=AD,data:=.fields ([head,.ref L,.none,rawInt L,.none] ++ (if pl.isEmpty then aK 6 p9 else pl)).toArray }:tw)=ob;have hx2:(h1.push ob).get? x=AC (xog C dx t tb cx kx):=ac _ hx1;refine sL hx2 rfl (by show 1<6;decide) ?_;have hne:h1.objs.size≠x:=bJ (ao hx1)
 have hx3:((h1.push ob).update x (Obj.mapFields (·.setIfInBounds 1 (r6 h1.objs.size)))).get? x=AC (xog C dx t (.ref h1.objs.size) cx kx) :=
  bj (Obj.mapFields (·.setIfInBounds 1 (r6 h1.objs.size))) hx2 rfl
 have hT:((h1.push ob).update x (Obj.mapFields (·.setIfInBounds 1 (r6 h1.objs.size)))).get? h1.objs.size=AC ob :=
  (ar _ _ (Ne.symm hne)).trans (aB h1 (by rw[<- ho];rfl))
 rw[hz]at hx3 hT hne
 have kp:∀b o,b≠x->h1.get? b=AC o->((h1.push ob).update x (Obj.mapFields (·.setIfInBounds 1 (r6 h1.objs.size)))).get? b=AC o:=λb o hb e =>
  (ar _ _ (Ne.symm hb)).trans (ac _ e)
 rw[hz]at kp ⊢;refine h _ ob _ hx3 hne hT (by rw[<- ho]) (by erw[aj,ag,au,aO] <;> lia) (λb o hb hbf e=>kp b o hb ((hs1.2.1 b hbf).trans e)) λb o hb e=>?_;let#[sl,q]:=hs1.2.2 b o e;exact#[sl,kp b _ hb q]
def kL(hfr:A.frames=AC (env0::outer))(hl:s.heap.FunFrames base (env0::outer))(hf:env0.frame=AC L)(he:env.frame=AC L)(hx:s.heap.get? x=AC (xog C dx t tb cx kx))(htb:Qv s.heap x tb)(h:∀h' T oT ts,h'.get? x=AC (xog C dx t (.ref T) cx kx)->T≠x->(tb=.ref T\/s⁻¹<=T)->h'.get? T=AC oT->oT.data=.fields ts->3<ts.size ->
   (∀b o,b≠x->tb≠.ref b->b ∉ frs (env0::outer)->s.heap.get? b=AC o->h'.get? b=AC o)->(∀b o,b≠x->tb≠.ref b->s.heap.get? b=AC o->∃sl,h'.get? b=AC { o with slots:=sl })->Q Unit.unit { s with heap:=h' }) :
  rT M A (noteFrame (.ref x) env) (λZ s1=>rT M A (setFlight (.ref x) AD) Q E s1) E s:=by
 have land:∀(h1:sq) (T:rQ) (oT:tw) (ts:Array rR),h1.get? x=AC (xog C dx t (.ref T) cx kx)->T≠x->(tb=.ref T\/s⁻¹<=T)->h1.get? T=AC oT->oT.data=.fields ts->3<ts.size ->
   (∀b o,b≠x->tb≠.ref b->b ∉ frs (env0::outer)->s.heap.get? b=AC o->h1.get? b=AC o)->(∀b o,b≠x->tb≠.ref b->s.heap.get? b=AC o->∃sl,h1.get? b=AC { o with slots:=sl }) ->
   rT M A (setFlight (.ref x) AD) Q E { s with heap:=h1 }:=λh1 T oT ts e1 nT oldT e2 d2 z2 k1 k2=>by
  unfold setFlight;refine rK (sr (s:={ s with heap:=h1 }) e1 rfl (x:=.ref T) rfl ?_);rw[y6 (show (r6 T != p9)=AE from by simp)];refine sL (s:={ s with heap:=h1 }) e2 d2 z2 ?_;have d3:=Obj.data_mapFields d2 (·.setIfInBounds 3 ((AD:Option rQ).elim p9 λf=>rawInt f))
  have nb:∀b,b≠x->tb≠.ref b->(∃o,s.heap.get? b=AC o)->b≠T:=λb hb hbt ⟨o,eo⟩ z=>by
   subst z;rcases oldT with q | q
   ·exact hbt q
   ·exact y4 (ao eo) (Nat.not_lt.mpr q)
  refine h _ T _ _ ((ar _ _ nT).trans e1) nT oldT (bj _ e2 (Obj.isFreed_of_fields d3)) d3 ↥z2 (λb o hb hbt hbf e=>?_) λb o hb hbt e=>?_
  ·exact (ar _ _ (Ne.symm (nb b hb hbt #[o,e]))).trans (k1 b o hb hbt hbf e)
  ·let#[sl,q]:=k2 b o hb hbt e;exact#[sl,(ar _ _ (Ne.symm (nb b hb hbt #[o,e]))).trans q]
 unfold noteFrame
 erw[he]
 refine rK (sr hx rfl (x:=tb) rfl ?_);rcases htb with rfl | ⟨T,oT,ts,rfl,nT,e2,d2,z2⟩
 ·rw[y9 ∅];refine kq hfr hl hf he hx λh' oT ts e1 ne e2 d2 z2 k1 k2=>land h' _ oT ts e1 ne (.inr (ah _)) e2 d2 z2 (λb o hb Z hbf e=>k1 b o hb hbf e) λb o hb Z e=>k2 b o hb e
 ·rw[y6 (show (r6 T != p9)=AE from by simp)];obtain⟨y,hy⟩:∃y,ts[3]? = AC y:=#[ts[3],by simp [z2]];refine rK (sr e2 d2 (x:=y) hy ?_);by_cases c:(y == rawInt L)=AE
  ·rw[y6 c];exact rL (land s.heap T oT ts hx nT (.inl rfl) e2 d2 z2 (λb o Z Z Z e=>e) λb o Z Z e=>#[o.slots,e])
  ·rw[y9 c];refine rK (sL e2 d2 z2 ?_);have oth:∀b,b≠T->(s.heap.update T (Obj.mapFields (·.setIfInBounds 3 p9))).get? b=s.heap.get? b:=λb hb=>ar _ _ (Ne.symm hb);have hl1:(s.heap.update T (Obj.mapFields (·.setIfInBounds 3 p9))).FunFrames base (env0::outer):=hl.of_keeps λb o hb hnf=>#[o,(oth b λq=>by rw[q,e2]at hb;cases hb;exact hnf ts d2).trans hb,rfl];have hsz:(s.heap.update T (Obj.mapFields (·.setIfInBounds 3 p9))).objs.size=s⁻¹:=cZ ..;refine kq (s:={ s with heap:=s.heap.update T (Obj.mapFields (·.setIfInBounds 3 p9)) }) hfr hl1 hf he ((oth x (Ne.symm nT)).trans hx) λh' oT' ts' e1 ne e2' d2' z2' k1 k2=>?_;refine land h' _ oT' ts' e1 ne (.inr (by rw[hsz];exact ah _)) e2' d2' z2' (λb o hb hbt hbf e=>k1 b o hb hbf ((oth b λq=>hbt (by rw[q])).trans e)) λb o hb hbt e=>k2 b o hb ((oth b λq=>hbt (by rw[q])).trans e)
def VX(hfr:A.frames=AC (env0::outer))(hl:s.heap.FunFrames base (env0::outer))(hf:env0.frame=AC L)(he:env.frame=AC L)(hx:s.heap.get? x=AC (xog C dx t tb cx kx))(htb:Qv s.heap x tb)(h:∀h' T oT ts,h'.get? x=AC (xog C dx t (.ref T) cx kx)->T≠x->(tb=.ref T\/s⁻¹<=T)->h'.get? T=AC oT->oT.data=.fields ts->3<ts.size ->
   (∀b o,b≠x->tb≠.ref b->b ∉ frs (env0::outer)->s.heap.get? b=AC o->h'.get? b=AC o)->(∀b o,b≠x->tb≠.ref b->s.heap.get? b=AC o->∃sl,h'.get? b=AC { o with slots:=sl })->Q Unit.unit { s with heap:=h' }) :
  rT M A (leaving env (.ref x)) Q E s:=rK (kL hfr hl hf he hx htb h)
def CXx(P:rX)(w:sk):CXT:=λouter H s E e s'=>∃(x C t:rQ) (dx:Option rQ) (tb:rR) (H':Hp),e=.ref x/\s'.os=s.os/\tG s'.gens/\Un (frs outer) [] H H' s.heap s'.heap/\HOk P w H' s'.heap /\
 s'.heap.get? x=AC (xob C dx t tb)/\Qv s'.heap x tb/\H' x=AD/\s⁻¹<=x/\(∀T,tb=.ref T->H' T=AD/\s⁻¹<=T)/\E (.ref C) dx H'
def zbW(X:Cx)(E:XK)(e:rR)(s:rS):Prop:=∃(AG:List (rQ × tw)) (σ:St) (H:Hp) (x C t:rQ) (dx:Option rQ) (tb:rR),e=.ref x/\Inv X AG σ H s /\
 s.heap.get? x=AC (xob C dx t tb)/\Qv s.heap x tb/\wo X AG H x/\(∀T,tb=.ref T->wo X AG H T)/\E (.ref C) dx H
def XE(X:Cx)(E:XK):Prop:=∀e s,zbW X E e s->X.xe e s
def kc(hx:XE X E):uT (CXx X.prog X.w) X E:=by intro AG σ H s e s' I h;let#[x,C,t,dx,tb,H',rfl,os,bare,un,hok,ob,tr,hn,hsz,hT,q]:=h;have I':Inv X AG σ H' s':=I.call' os un hok bare λb z=>y4 z (by simp);exact hx _ _ #[AG,σ,H',x,C,t,dx,tb,rfl,I',ob,tr,I.fpOk hsz hn,λT e=>I.fpOk (hT T e).2 (hT T e).1,q]
def zcc{K:rP} :
  XE (wb (CXx P w) P w K mg base N qual scope f cd A outer s H E) E:=by
 intro e s1 h;let#[AG,σ,H1,x,C,t,dx,tb,rfl,I,ob,tr,fx,fT,q]:=h;show rT _ _ (leaving _ (.ref x)) _ _ s1;have ff:=I.stack;refine VX (A:=(wb (CXx P w) P w K mg base N qual scope f cd A outer s H E).A) (env0:=tu qual scope s⁻¹ f cd) (outer:=outer) I.ok.frames ff rfl rfl ob tr λh' T oT ts e1 nT oldT e2 d2 z2 k1 k2=>?_;have szs:s⁻¹<=s1⁻¹:=I.sz
 have hxs:s⁻¹<=x:=by
  rcases fx.2.2.2.1 with z | z
  ·exact y4 z (by simp [wb])
  ·exact z
 have hTs:s⁻¹<=T/\H1 T=AD:=by
  rcases oldT with z | z
  ·let#[a0,_,_,a3,_]:=fT T z;rcases a3 with y | y
   ·exact y4 y (by simp [wb])
   ·exact#[y,a0]
  ·exact#[aS szs z,I.hok.fresh z]
 have tbs:∀b,tb=.ref b->s⁻¹<=b/\H1 b=AD:=λb hb=>by
  let#[a0,_,_,a3,_]:=fT b hb;rcases a3 with y | y
  ·exact y4 y (by simp [wb])
  ·exact#[y,a0]
 have old:∀b o,s.heap.get? b=AC o->b≠x/\tb≠.ref b:=λb o e=>by
  have hb:=ao e;refine#[ay (aq hb hxs),λz=>?_];exact y4 (aq hb (tbs b z).1) (cw _)
 have un:Un (frs outer) [] H H1 s.heap h':=by
  have B:=I.base;refine#[λb o e n hb Z=>?_,λb o e n hb Z=>?_,λb o e n Z=>B.free b o e n (by simp [wb]),λb o e Z=>?_,B.tups,B.frzs,B.tbls]
  ·have e1:=B.keep b o e n hb (by simp [wb]);refine k1 b o (old b o e).1 (old b o e).2 (λz=>?_) e1;have z':=I.stkSub b z;rcases AM.mp z' with q | q
   ·exact y4 q (ay (aq (ao e) I.ok.above))
   ·exact hb q
  ·let#[sl,e1]:=B.slot b o e n hb (by simp [wb]);let#[sl',e2]:=k2 b _ (old b o e).1 (old b o e).2 e1;exact#[sl',e2]
  ·let#[o',e1]:=B.there b o e (by simp [wb]);let#[sl',e2]:=k2 b _ (old b o e).1 (old b o e).2 e1;exact#[_,e2]
 have hok:HOk P w H1 h':=λb u e=>by
  refine (I.hok b u e).stay (λc v hc q=>k1 c v ?_ ?_ ?_ q) (λZ q=>q) λZ Z q=>q
  ·rintro rfl;rcases hc with rfl | hc
   ·rw[fx.1]at e;cases e
   ·rw[fx.1]at hc;cases hc
  ·intro z;have:=(tbs c z).2;rcases hc with rfl | hc
   ·rw[this]at e;cases e
   ·rw[this]at hc;cases hc
  ·intro z;have:=I.stkFree c z;rcases hc with rfl | hc
   ·rw[this]at e;cases e
   ·rw[this]at hc;cases hc
 exact#[x,C,t,dx,.ref T,H1,rfl,I.os,I.bare,un,hok,e1,.inr #[T,oT,ts,rfl,nT,e2,d2,z2],fx.1,hxs,λT' z=>by cases z;exact#[hTs.2,hTs.1],q]
def Fun.okX{K:rP}{st:si}(F:Fun K x qual st f fd)(S:zl N ps (zg st))(len:∀vs H Q E,sp vs H Q E->vs.length=ps.length)(hbody:∀(cdv:rR) (A:sD) (outer:List Am) (s:rS) (H:Hp) (vs:List V) (Q:VK) (E:XK),Room k (A.deeper (tu qual (zg st) s⁻¹ f cdv))->XE (wb (CXx P w) P w K mg base N qual (zg st) f cdv A outer s H E) E->sp vs H Q E ->
   ∃t,PSs (wb (CXx P w) P w K mg base N qual (zg st) f cdv A outer s H E) (zZ st) t/\t { nx:=λZ H'=>Q .non H',rt:=Q } (start N vs) H):FnOk P w K mg base (CXx P w) (k+1) f fd ps sp:=by let#[oc,od,kV,doc,pm,an,cdv,ct,osl,rfl,lk,hcd]:=F.ex;exact Ue lk hcd S len λA outer s H vs Q E hr hsp=>hbody cdv A outer s H vs Q E hr zcc hsp
def CXg(P:rX)(w:sk):CXT:=λouter H s E e s'=>∃(cx:rR) (kx:Bool) (x C t:rQ) (dx:Option rQ) (tb:rR) (H':Hp),e=.ref x/\s'.os=s.os/\tG s'.gens/\Un (frs outer) [] H H' s.heap s'.heap/\HOk P w H' s'.heap /\
 s'.heap.get? x=AC (xog C dx t tb cx kx)/\Qv s'.heap x tb/\H' x=AD/\s⁻¹<=x/\(∀T,tb=.ref T->H' T=AD/\s⁻¹<=T)/\E (.ref C) dx H'
def zbN(X:Cx)(E:XK)(e:rR)(s:rS):Prop:=∃(cx:rR) (kx:Bool) (AG:List (rQ × tw)) (σ:St) (H:Hp) (x C t:rQ) (dx:Option rQ) (tb:rR),e=.ref x/\Inv X AG σ H s /\
 s.heap.get? x=AC (xog C dx t tb cx kx)/\Qv s.heap x tb/\wo X AG H x/\(∀T,tb=.ref T->wo X AG H T)/\E (.ref C) dx H
def XEg(X:Cx)(E:XK):Prop:=∀e s,zbN X E e s->X.xe e s
def zd5{K:rP} :
  XEg (wb (CXg P w) P w K mg base N qual scope f cd A outer s H E) E:=by
 intro e s1 h;let#[cx,kx,AG,σ,H1,x,C,t,dx,tb,rfl,I,ob,tr,fx,fT,q]:=h;show rT _ _ (leaving _ (.ref x)) _ _ s1;have ff:=I.stack;refine VX (A:=(wb (CXg P w) P w K mg base N qual scope f cd A outer s H E).A) (env0:=tu qual scope s⁻¹ f cd) (outer:=outer) I.ok.frames ff rfl rfl ob tr λh' T oT ts e1 nT oldT e2 d2 z2 k1 k2=>?_;have szs:s⁻¹<=s1⁻¹:=I.sz
 have hxs:s⁻¹<=x:=by
  rcases fx.2.2.2.1 with z | z
  ·exact y4 z (by simp [wb])
  ·exact z
 have hTs:s⁻¹<=T/\H1 T=AD:=by
  rcases oldT with z | z
  ·let#[a0,_,_,a3,_]:=fT T z;rcases a3 with y | y
   ·exact y4 y (by simp [wb])
   ·exact#[y,a0]
  ·exact#[aS szs z,I.hok.fresh z]
 have tbs:∀b,tb=.ref b->s⁻¹<=b/\H1 b=AD:=λb hb=>by
  let#[a0,_,_,a3,_]:=fT b hb;rcases a3 with y | y
  ·exact y4 y (by simp [wb])
  ·exact#[y,a0]
 have old:∀b o,s.heap.get? b=AC o->b≠x/\tb≠.ref b:=λb o e=>by
  have hb:=ao e;refine#[ay (aq hb hxs),λz=>?_];exact y4 (aq hb (tbs b z).1) (cw _)
 have un:Un (frs outer) [] H H1 s.heap h':=by
  have B:=I.base;refine#[λb o e n hb Z=>?_,λb o e n hb Z=>?_,λb o e n Z=>B.free b o e n (by simp [wb]),λb o e Z=>?_,B.tups,B.frzs,B.tbls]
  ·have e1:=B.keep b o e n hb (by simp [wb]);refine k1 b o (old b o e).1 (old b o e).2 (λz=>?_) e1;have z':=I.stkSub b z;rcases AM.mp z' with q | q
   ·exact y4 q (ay (aq (ao e) I.ok.above))
   ·exact hb q
  ·let#[sl,e1]:=B.slot b o e n hb (by simp [wb]);let#[sl',e2]:=k2 b _ (old b o e).1 (old b o e).2 e1;exact#[sl',e2]
  ·let#[o',e1]:=B.there b o e (by simp [wb]);let#[sl',e2]:=k2 b _ (old b o e).1 (old b o e).2 e1;exact#[_,e2]
 have hok:HOk P w H1 h':=λb u e=>by
  refine (I.hok b u e).stay (λc v hc q=>k1 c v ?_ ?_ ?_ q) (λZ q=>q) λZ Z q=>q
  ·rintro rfl;rcases hc with rfl | hc
   ·rw[fx.1]at e;cases e
   ·rw[fx.1]at hc;cases hc
  ·intro z;have:=(tbs c z).2;rcases hc with rfl | hc
   ·rw[this]at e;cases e
   ·rw[this]at hc;cases hc
  ·intro z;have:=I.stkFree c z;rcases hc with rfl | hc
   ·rw[this]at e;cases e
   ·rw[this]at hc;cases hc
 exact#[cx,kx,x,C,t,dx,.ref T,H1,rfl,I.os,I.bare,un,hok,e1,.inr #[T,oT,ts,rfl,nT,e2,d2,z2],fx.1,hxs,λT' z=>by cases z;exact#[hTs.2,hTs.1],q]
def Fun.okG{K:rP}{st:si}(F:Fun K x qual st f fd)(S:zl N ps (zg st))(len:∀vs H Q E,sp vs H Q E->vs.length=ps.length)(hbody:∀(cdv:rR) (A:sD) (outer:List Am) (s:rS) (H:Hp) (vs:List V) (Q:VK) (E:XK),Room k (A.deeper (tu qual (zg st) s⁻¹ f cdv))->XEg (wb (CXg P w) P w K mg base N qual (zg st) f cdv A outer s H E) E->sp vs H Q E ->
   ∃t,PSs (wb (CXg P w) P w K mg base N qual (zg st) f cdv A outer s H E) (zZ st) t/\t { nx:=λZ H'=>Q .non H',rt:=Q } (start N vs) H):FnOk P w K mg base (CXg P w) (k+1) f fd ps sp:=by let#[oc,od,kV,doc,pm,an,cdv,ct,osl,rfl,lk,hcd]:=F.ex;exact Ue lk hcd S len λA outer s H vs Q E hr hsp=>hbody cdv A outer s H vs Q E hr zd5 hsp
structure RoomH(k:Nat)(A:sD):Prop where
 dp:A.depth+3 * k+5<tK
 un:A.units+16 * k+200<cLine
def RoomH.of(r:Room k A):RoomH k A:=#[r.dp,r.un]
def RoomH.mark(r:RoomH k A)(e:Option rR):RoomH k (A.mark e):=#[r.dp,r.un]
def RoomH.deeper(r:RoomH (k+1) A)(env:Am):RoomH k (A.deeper env) :=
 #[by have:=r.dp;show A.depth+1+3 * k+5<_;lia,by have:=r.un;show A.units+3+16 * k+200<_;lia]
def cxH(P:rX)(w:sk)(K:rP)(mg:rV->Option rR)(base:sq)(N:List rV)(qual:rV)(scope:tL)(f:rQ)(cd:rR)(A:sD)(outer:List Am)(s:rS)(H:Hp):Cx :=
 { wb CX0 P w K mg base N qual scope f cd A outer s H E0 with calm:=AF,xe:=λZ Z=>False }
structure U9(P:rX)(w:sk)(K:rP)(mg:rV->Option rR)(base:sq)(k:Nat)(f:rQ)(fd:rW)(ps:List rV)(sp:Sp):Prop where
 len:∀vs H Q E,sp vs H Q E->vs.length=ps.length
 run:∀(A:sD) (outer:List Am) (s:rS) (H:Hp) (args:Args) (us:List rR) (vs:List V) (Q:VK),RoomH k A->Env0 P w K mg base A outer s H->tN s fd args (ps.zip us)->Vals vs us->sp vs H Q E0 ->
  sP (model P w) A (.call (.ref f) args) (CR CX0 outer P w H s Q E0) s
theorem zb8{K:rP}{dV kV doc pm cdv ct oc:rR}(lk:K.lookup f=AC #[oc,od,.func (be name qual params body scope dV kV doc pm an cdv ct),osl])(hcd:bB K cdv qual=AE)(S:zl N ps scope)(len:∀vs H Q E,sp vs H Q E->vs.length=ps.length)(hbody:∀(A:sD) (outer:List Am) (s:rS) (H:Hp) (vs:List V) (Q:VK),RoomH k (A.deeper (tu qual scope s⁻¹ f cdv))->sp vs H Q E0 ->
   ∃t,PSs (cxH P w K mg base N qual scope f cdv A outer s H) body t/\t { nx:=λZ H'=>Q .non H',rt:=Q } (start N vs) H) :
  U9 P w K mg base (k+1) f (be name qual params body scope dV kV doc pm an cdv ct) ps sp:=by
 refine#[len,λA outer s H args us vs Q hr e0 hb r hsp=>?_];have hl:=len _ _ _ _ hsp;have KX:K.In s.heap:=e0.mod.kin.keeps λb o e=>(e0.bs b o e).1;have lim:s.heap.NoLimit:=e0.mod.nolimit.keeps λb o e=>(e0.bs b o e).1;have hdep:A.depth<tK:=by have:=hr.dp;lia
 have hkind:∀y ∈ ps.zip us,scope.names.lookup y.1=AC .local\/(scope.names.lookup y.1=AC .cell/\((cellsFrom (s⁻¹+1) scope.names []).lookup y.1).isSome=AE):=λ⟨n,v⟩ hy=>by
  rcases S.par n (cK hy).1 with q | q
  ·exact .inl q
  ·exact .inr #[q,cU _ _ _ (.inl q)]
 refine tF hdep (KX _ _ lk) rfl S.co S.gen rfl (ee KX hcd) (hb _ _ _ _ ?_);refine tm S.kind hkind λenv he s1 x=>?_;subst he;refine#[lim.keeps x.toInCall.keep,Aq ?_];let#[t,ht,hq]:=hbody A outer s H vs Q (hr.deeper _) hsp;have e0':Env0 P w K mg base { A with handled:=AD } outer s H:=#[e0.frames,e0.mod,e0.bs,e0.bsz,e0.funs,e0.frf,e0.hok,e0.bare];have I0:Inv (wb CX0 P w K mg base N qual scope f cdv { A with handled:=AD } outer s H E0) [] (start N vs) H s1:=jc S rfl e0' hl r x
 have I:Inv (cxH P w K mg base N qual scope f cdv A outer s H) [] (start N vs) H s1 :=
  #[#[I0.ok.mod,I0.ok.kind,I0.ok.glob,I0.ok.blt,I0.ok.above,I0.ok.inj,I0.ok.has,I0.ok.cab,λz=>y4 z (by simp [cxH]),Around.frames_deeper e0.frames,I0.ok.stk,I0.ok.exf,I0.ok.bs,I0.ok.bsz,I0.ok.noex,I0.ok.exfs,I0.ok.funs,I0.ok.frf],
   I0.os,I0.bare,I0.base,I0.loc,I0.cell,I0.free,I0.freeC,I0.pin,I0.hok,I0.len]
 refine tq (ht [] s1 (start N vs) H _ I hq) (λfl s' hs=>?_) λe s' hs=>False.elim hs
 have fin:∀{σ':St} {H':Hp} {v:V} {u:rR},Inv (cxH P w K mg base N qual scope f cdv A outer s H) [] σ' H' s'->RelV v u->Q v H'->CE outer P w H s Q u s' :=
  λ{σ' H' v u} J rv q=>#[v,H',J.os,J.bare,J.base,J.hok,rv,q]
 cases fl with
 | ret u =>
  let#[v,σ',H',J,rv,q]:=hs;exact fin J rv q
 | next =>
  let#[σ',H',J,q]:=hs;exact fin (v:=V.non) (u:=p9) J rfl q
 | brk =>
  let#[_,_,_,q]:=hs;exact False.elim q
 | cont =>
  let#[_,_,_,q]:=hs;exact False.elim q
def Fun.okH{K:rP}{st:si}(F:Fun K x qual st f fd)(S:zl N ps (zg st))(len:∀vs H Q E,sp vs H Q E->vs.length=ps.length)(hbody:∀(cdv:rR) (A:sD) (outer:List Am) (s:rS) (H:Hp) (vs:List V) (Q:VK),RoomH k (A.deeper (tu qual (zg st) s⁻¹ f cdv))->sp vs H Q E0 ->
   ∃t,PSs (cxH P w K mg base N qual (zg st) f cdv A outer s H) (zZ st) t/\t { nx:=λZ H'=>Q .non H',rt:=Q } (start N vs) H):U9 P w K mg base (k+1) f fd ps sp:=by let#[oc,od,kV,doc,pm,an,cdv,ct,osl,rfl,lk,hcd]:=F.ex;exact zb8 lk hcd S len λA outer s H vs Q hr hsp=>hbody cdv A outer s H vs Q hr hsp
abbrev bmV:List rR:=[.type "ValueError",.type "Exception",.type "BaseException",.type "object"]
def xcC(K:rP)(C:rQ)(o:tw)(cd:ClassData):Bool:=decide (cd.mro.head? = AC (.ref C)/\o.slots.size=6/\o.slots[4]? = AC (AC (.builtin "ValueError.__new__"))/\o.cls=.type "type"/\cd.hasDel=AF/\cd.hasDict=AE/\PySem.W.tailIn K bmV cd.mro.tail=AE)
def xcO(K:rP)(C:rQ)(o:tw):Data->Bool
 | .cls cd=>xcC K C o cd
 | _=>AF
def Zo(K:rP)(C:rQ):Bool:=(K.lookup C).any λo=>xcO K C o o.data
theorem zeL{α:Type}:∀{l:List α},l.length=6->∃a b c d e f,l=[a,b,c,d,e,f]
 | [a,b,c,d,e,f],_=>#[a,b,c,d,e,f,rfl]
theorem ju{K:rP}{G:Prop}(q:Zo K C=AE)(f:∀bm N nm qn bs sn sub ab col dd k0 k1 k2 k3 k5,K.lookup C=AC (Ab nm qn C N bs bm AE sn sub ab col dd k0 k1 k2 k3 k5 "ValueError.__new__")->(∀h:sq,K.In h->OwnTail h bmV bm)->G):G:=by
 let#[#[c,dd,da,sl],ho,h]:=(Option.any_eq_true _ _).mp q
 cases da with
 | cls cd =>
  let#[h1,h2,h3,h4,h5,h6,ht]:=u6 h;let#[nm,bs,mro,ns,qn,hd,sn,sub,ab,col,del]:=cd;let#[l]:=sl;let#[k0,k1,k2,k3,k,k5,e]:=zeL h2
  cases mro with
  | nil=>cases h1
  | cons v bm =>
   cases Option.some.inj h1;subst e;cases Option.some.inj h3;cases h4;cases h5;cases h6;exact f bm ns nm qn bs sn sub ab col dd k0 k1 k2 k3 k5 ho λh X=>PySem.W.tail_of_in X ht
 | _=>cases h
structure XC(K:rP)(C:rQ):Prop where
 ok:Zo K C=AE
 sa:ae K (.ref C) "__setattr__" = AC (AC (.builtin "object.__setattr__"))
 ga:ae K (.ref C) "__getattribute__" = AC (AC (.builtin "BaseException.__getattribute__"))
 gt:ae K (.ref C) "__getattr__" = AC AD
 kp:aE K (.ref C)=AE
def Zc{prog:rX}{w:sk}{A:sD}{R:Result->rS->Prop}{h:sq}{g:Array GenState}{d:Drawn}{t:Nat}{os:OsState}{K:rP}{C:rQ}{rest:List rR}(X:K.In h)(q:Zo K C=AE)(hi:ae K (.ref C) "__init__" = AC (AC init))(hb:∀self,PySem.W.Looks (model prog w) h (bindSpecial init self) (init,[self]))(hrest:rest.length<=rO)(hq:sP (model prog w) (A.under (.builtin "type.__call__" #[.ref C::rest,[]])) (.call init #[.ref (h.objs.size+1)::rest,[]]) (PySem.W.InitBack (h.objs.size+1) R) #[(h.push { cls:=.type "tuple",data:=.seq rest.toArray }).push (xob C AD h.objs.size .none),g,d,t,os]) :
  sP (model prog w) A (.call (.ref C) #[rest,[]]) R #[h,g,d,t,os]:=by
 refine ju (q) λbm N nm qn bs sn sub ab col dd k0 k1 k2 k3 k5 lk tl=>?_;have hC:=X _ _ lk;have T:=tl h X;have F:=eh;have f1:=tc_lookup;have f2:=tc_bind (.ref C);have hT:(#[h,g,d,t,os]:rS).TypeIs (.ref C) "type":=#[_,hC,rfl];refine codeAny_of_tree ?_;show rT _ _ (callAny (.ref C) _) _ _ _
 repeat (any_goals (first | assumption | with_reducible refine sv hC ?_ | wp_step))
 refine#[rfl,?_];refine codeAny_call_builtin_at (Code.quiet_builtin _ (!0)) entry_typeCall (wpAny_check_type_call_sub hC ?_)
 repeat (first | with_reducible refine sv hC ?_ | with_reducible refine wpAny_madeBy_exc hC ?_ | wp_step)
 refine codeAny_call_builtin_code (Code.quiet_builtin _ F.quiet) (wpAny_check_new_subT F T hC ?_);refine codeAny_exc_new_subT F T hC ?_ hrest;show rT _ _ _ _ _ _;have k:∀b o,h.get? b=AC o->((h.push { cls:=.type "tuple",data:=.seq rest.toArray }).push (xob C AD h.objs.size .none)).get? b=AC o:=λb o e=>ac _ (ac _ e);have hC1:=k _ _ hC;have hget:((h.push { cls:=.type "tuple",data:=.seq rest.toArray }).push (xob C AD h.objs.size .none)).get? (h.objs.size+1)=AC (xob C AD h.objs.size .none):=by heap_get
 have hcC:(r6 C::bm).contains (.ref C)=AE:=by simp
 unfold isInstance
 repeat (first | with_reducible refine sv hget ?_ | wp_step)
 refine sV (C:=C) hC1 ?_;rw[hcC]
 repeat wp_step
 show rT _ _ (typeLookup (.ref C) _) _ _ _;refine ((cB X hi).keeps k).at ?_;refine sC (rK (((hb _).keeps k).at ?_));refine rK (sJ (sE hq λr s' z=>?_));rcases r with e | (v | _ | _ | _) <;> first | exact z | exact z.elim | skip;let#[rfl,z]:=z;exact rL (rL z)
def XN(x C:rQ)(dx:Option rQ):HO:=.ext λh=>∃t,h.get? x=AC (xob C dx t .none)
def XT(x C:rQ)(dx:Option rQ):HO:=.ext λh=>∃t tb c k,h.get? x=AC (xog C dx t tb c k)
def XP(x C:rQ)(dx:Option rQ):HO:=.ext λh=>∃t tb,h.get? x=AC (xob C dx t tb)
def K6(e:h.get? x=AC (xob C dx t .none)):ObjOk P w H h x (XN x C dx) :=
 #[#[t,e],#[_,e],λh1 h2 ⟨t,q⟩ k=>#[t,k _ q]]
def zc3(e:h.get? x=AC (xog C dx t tb c k)):ObjOk P w H h x (XT x C dx) :=
 #[#[t,tb,c,k,e],#[_,e],λh1 h2 ⟨t,tb,c,k',q⟩ k=>#[t,tb,c,k',k _ q]]
def zdg(e:h.get? x=AC (xob C dx t tb)):ObjOk P w H h x (XP x C dx) :=
 #[#[t,tb,e],#[_,e],λh1 h2 ⟨t,tb,q⟩ k=>#[t,tb,k _ q]]
def Kw(o:ObjOk P w H h x (XN x C dx)):∃t,h.get? x=AC (xob C dx t .none):=o.1
def zdM(o:ObjOk P w H h x (XT x C dx)):∃t tb c k,h.get? x=AC (xog C dx t tb c k):=o.1
def zdX(o:ObjOk P w H h x (XP x C dx)):∃t tb,h.get? x=AC (xob C dx t tb):=o.1
def Z5{sub:List rR}(hC:h.get? C=AC (Ab nm q C N bs bm hdct sn sub ab col dd k0 k1 k2 k3 k5 newId))(base:rR):PySem.W.Looks M h (isSubtype (.ref C) base) ((r6 C::bm).contains base):=λA Q E s k z=>by
 let#[hp,g,d,t,os]:=s;exact sV (k _ _ hC) z
def UV{sub:List rR}(hC:h.get? C=AC (Ab nm q C N bs bm hdct sn sub ab col dd k0 k1 k2 k3 k5 newId)):PySem.W.Looks M h (mroOf (.ref C)) (.ref C::bm):=λA Q E s k z=>by
 let#[hp,g,d,t,os]:=s;exact wpAny_mroOf_exc (k _ _ hC) z
def Uk{sub:List rR}(hC:h.get? C=AC (Ab nm q C N bs bm hdct sn sub ab col dd k0 k1 k2 k3 k5 newId)):PySem.W.Looks M h (classData C) { name:=nm,bases:=bs,mro:=.ref C::bm,ns:=N,qualname:=q,hasDict:=hdct,slotNames:=sn,subclasses:=sub,abstract:=ab,collection:=col,hasDel:=AF }:=λA Q E s k z=>by
 unfold classData;exact rK (wpAny_load (k _ _ hC) (rL z))
theorem YV(T:OwnTail h bmB bm)(self:rR)(hp:refuseLoop self "__setattr__" bmB=pure Unit.unit):refuseLoop self "__setattr__" bm=pure Unit.unit:=by
 induction T with
 | base=>exact hp
 | own _ _ _ _ ih=>rw[refuseLoop_ref];exact ih
def KR(I:Inv X AG σ H s)(e:H x=AC (XN x C AD))(xc:XC X.K C)(n:NoAttr X.K C f)(ry:RelV y u)(h:∀s' dx,H dx=AD->Inv X AG σ (upd (upd H dx (.xd [(f,y)])) x (XN x C (AC dx))) s'->Q Unit.unit s'):rT (model X.prog X.w) A (setAttr (.ref x) f u) Q E s:=by
 let#[t,ob]:=Kw (I.hok x _ e);refine ju (xc.ok) λbm N nm qn bs sn sub ab col dd k0 k1 k2 k3 k5 lk tl=>?_;have hC:=I.kIn _ _ lk;have T:=tl _ I.kIn;have SF:=PySem.F.store_ValueError;have J:PySem.W.InstAt s.heap x (xob C AD t .none) C AD:=#[ob,rfl,rfl,trivial];have hob:(r6 C::bm).contains (.type "object")=AE:=by rw[cM,T.hasType (show bmV.contains (.type "object")=AE by symm),du]
 have isO:PySem.W.Looks (model X.prog X.w) s.heap (isInstance (.ref x) (.type "object")) AE:=J.type.andThen (by have:=Z5 (M:=model X.prog X.w) hC (.type "object");rw[hob]at this;exact this);refine fR I.kIn J xc.sa ?_;refine tH SF.slot.plain SF.entry (@PySem.W.check_slot (model X.prog X.w) _ _ { s with toks:=s.toks+1 } "object.__setattr__" "object" "__setattr__" (.ref x) [.str f s.toks,u] [] _ SF.kind SF.split isO (SF.args _ _ _) ?_);rw[PySem.W.osa_eq,refuse_eq];refine rK (rK (J.type.here (s:={ s with toks:=s.toks+1 }) (rK ((UV hC).here (s:={ s with toks:=s.toks+1 }) ?_))));rw[refuseLoop_ref,YV T _ (SF.passes _)];refine rL (rK (J.type.here (s:={ s with toks:=s.toks+1 }) (rK ((cB I.kIn n).here (s:={ s with toks:=s.toks+1 }) (rK (rL ?_))))));show rT _ _ (Builtin.ObjectAttr.storeInOwnDict (.ref x) (.ref C) (.str f s.toks) f u AF) _ _ _;have hx1:(s.heap.push { cls:=.type "dict",data:=.dict #[] }).get? x=AC (xob C AD t .none):=ac _ ob;have hxs:x≠s⁻¹:=ay (ao ob);refine rK (rL (rK (rK (tY ob (rK ((Uk hC).here (s:={ s with toks:=s.toks+1 }) ?_))))));rw[y9 (by simp)];show rT _ _ (if (!AE || !typeHasDict (.ref C))=AE then _ else _) _ _ _;rw[y9 (by simp [typeHasDict])]
 have hgd:((s.heap.push { cls:=.type "dict",data:=.dict #[] }).update x λo=>{ cls:=o.cls,dict:=AC s⁻¹,data:=o.data,slots:=o.slots }).get? s⁻¹=AC { cls:=.type "dict",data:=.dict #[] } :=
  (ar _ _ hxs).trans (Heap.get?_push_at rfl rfl)
 have hgx:((s.heap.push { cls:=.type "dict",data:=.dict #[] }).update x λo=>{ cls:=o.cls,dict:=AC s⁻¹,data:=o.data,slots:=o.slots }).get? x=AC (xob C (AC s⁻¹) t .none) :=
  bj _ hx1 rfl
 have hnd:((s.heap.push { cls:=.type "dict",data:=.dict #[] }).update x λo=>{ cls:=o.cls,dict:=AC s⁻¹,data:=o.data,slots:=o.slots }).Ns s⁻¹ (λZ=>AD) :=
  #[_,#[],_,hgd,rfl,λe he=>y4 he (by simp),λZ=>rfl]
 refine rK (wpAny_alloc' (rK (wpAny_update' hx1 (rL ?_))));show rT _ _ (Builtin.ObjectAttr.storeInDict s⁻¹ (.str f s.toks) f u) _ _ _;unfold Builtin.ObjectAttr.storeInDict Builtin.ObjectAttr.newKeyGuard;refine rK (rL (rK (wpAny_nsSet1 (Heap.Ns1.of_empty hnd) λh' hn' hs=>?_)));let#[oD,esD,epD,hoD,hdD,hcD]:=hn'.count (Within.cons f u Within.nil);refine rK (Av hoD (by rw[hdD];exact pastItsLine_dict (aS hcD (by rw[au,aO,tz];lia))) ?_);refine rL ?_;have hx2:h'.get? x=AC (xob C (AC s⁻¹) t .none):=(hs.2 x hxs).trans hgx;have hfr:H s⁻¹=AD:=I.hok.fresh (ah _);have hxe:x≠s⁻¹:=hxs;refine h _ s⁻¹ hfr ?_
 have k0:∀b o,b≠x->s.heap.get? b=AC o->h'.get? b=AC o:=λb o hb q =>
  (hs.2 b (ay (ao q))).trans ((ar _ _ (Ne.symm hb)).trans (ac _ q))
 have I1:Inv X AG σ (upd H x (XN x C (AC s⁻¹))) { s with heap:=h',toks:=s.toks+1+1 } :=
  I.write (x:=x) (e:=x) (by rw[e];exact True.intro) (.inl rfl) k0 ⟨_,hx2⟩ (K6 hx2)
 have hd2:ObjOk X.prog X.w (upd (upd H x (XN x C (AC s⁻¹))) s⁻¹ (.xd [(f,y)])) h' s⁻¹ (.xd [(f,y)]):=by
  refine#[_,hn',λg=>?_];show RelO (bn g [(f,y)]) (if g=f then AC u else AD);by_cases q:g=f
  ·subst q;rw[y6 rfl];simp [bn,RelO,ry]
  ·rw[y9 q];have q':(g == f)=AF:=by simpa using q
   simp [bn,q',RelO]
 have fd:wo X AG (upd H x (XN x C (AC s⁻¹))) s⁻¹:=I.fpOk (ah _) (by rw[zk (Ne.symm hxe)];exact hfr);have I2:=Inv.track I1 fd hd2
 have eH:upd (upd H x (XN x C (AC s⁻¹))) s⁻¹ (.xd [(f,y)])=upd (upd H s⁻¹ (.xd [(f,y)])) x (XN x C (AC s⁻¹)):=by
  funext b;unfold upd;by_cases b1:b=s⁻¹
  ·subst b1;rw[y6 rfl,y9 (Ne.symm hxe),y6 rfl]
  ·by_cases b2:b=x
   ·subst b2;rw[y9 b1,y6 rfl,y6 rfl]
   ·rw[y9 b1,y9 b2,y9 b2,y9 b1]
 rw[eH]at I2;exact I2
def Je(K:rP)(ta tv:TE)(f:rV):TS:=λD σ H=>tv σ H λy H1=>ta σ H1 λo H2=>∃x C,o=.ref x/\H2 x=AC (XN x C AD)/\XC K C/\NoAttr K C f/\∀dx,H2 dx=AD->D.nx σ (upd (upd H2 dx (.xd [(f,y)])) x (XN x C (AC dx)))
def Y9(ha:PE X o ta)(hv:PE X value tv)(hs:swapsWith value (AC (.Attribute o f pos')) pos.line X.env=pure AF):PS X (.Assign [.Attribute o f pos'] value pos) (Je X.K ta tv f):=by intros D I h;refine tE (thn (hv AG s σ H _ I h) λu s1=>el5 λy H1 I1 ry q=>thn (ha AG s1 σ H1 _ I1 q) λov s2=>el5 λx' H2 I2 rx q_z=>?_) hs;let#[x,C,ex,e,xc,n,q2]:=q_z;subst ex;obtain rfl:ov=r6 x:=rx;exact KR I2 e xc n ry λs3 dx hdx I3=>#[σ,_,I3,q2 dx hdx]
def Uy{K:rP}(hh:A.handled=AD)(h:rT M A x (λv s1=>∃e C t dx,v=.ref e/\K.In s1.heap/\Zo K C=AE/\s1.heap.get? e=AC (xob C dx t .none)/\E (.ref e) s1) E s):rT M A (raiseStmt env (AC x) AD) Q E s:=by
 unfold raiseStmt;refine rK (thn h λv s1 h1=>?_);let#[e,C,t,dx,rfl,X,hC,he,hE]:=h1;refine ju (hC) λbm N nm qn bs sn sub ab col dd k0 k1 k2 k3 k5 lk tl=>?_;have hCo:=X _ _ lk;have T:=tl _ X;have hcB:(r6 C::bm).contains (.type "BaseException")=AE:=by rw[cM,T.hasType (show bmV.contains (.type "BaseException")=AE by symm),du]
 let#[hp,g,d,tk,os]:=s1
 repeat (first | with_reducible refine sv he ?_ | with_reducible refine sv hCo ?_ | (with_reducible refine sV hCo ?_;rw[hcB]) | wp_step)
 exact wpAny_raiseNew_none hh hE
def UH{K:rP}(hh:A.handled=AD)(h:rT M A (eval e env) (λv s1=>∃a C t dx,v=.ref a/\K.In s1.heap/\Zo K C=AE/\s1.heap.get? a=AC (xob C dx t .none)/\E (.ref a) s1) E s):rT M A (exec (.Raise (AC e) AD pos) env) Q E s:=by
 rw[arm_exec_Raise]
 first
  | exact rK (sx (Uy hh (rK (thn h λv s1 h1=>rK (sx (rL h1))))))
  | (erw[evalOpt,Option.map];exact rK (sx (Uy hh (rK (thn h λv s1 h1=>rK (sx (rL h1)))))))
def del(H:Hp)(x:rQ):Hp:=λb=>if b=x then AD else H b
def XZ(h:b≠x):del H x b=H b:=y9 h
def Za : del H x x=AD:=y6 rfl
def Inv.untrack(I:Inv X AG σ H s)(e:H x=AC (.ext φ))(hs:X.s₀.heap.objs.size<=x):Inv X AG σ (del H x) s:=by
 have nx:∀b u,H b=AC u->(∀ψ,u≠.ext ψ)->b≠x:=λb u q nu z=>by subst z;rw[e]at q;cases q;exact nu _ rfl
 have hn:∀b,b≠x->del H x b=H b:=λb hb=>XZ hb;have es:s={ s with heap:=s.heap,gens:=s.gens,drawn:=s.drawn,toks:=s.toks }:=rfl;rw[es]
 refine I.step (g':=s.gens) (d':=s.drawn) (ch:=[x]) (λb hb=>?_) (λb o Z Z Z q Z=>q) (λb o Z Z Z q Z=>#[o.slots,q]) (λb o hc Z n=>?_)
  (λb o Z q=>#[o,q]) (λb xs q=>?_) (λb u xs q=>?_) (λb ps q=>?_) (λm hm=>hm) (λb u q=>?_) I.bare
 ·have eb:b=x:=by simpa using hb
  subst eb;refine#[.inr hs,λz=>?_,λy c q z=>?_,λp hp z=>?_]
  ·rw[z,I.free]at e;cases e
  ·have:=I.freeC y c q;rw[z,e]at this;cases this
  ·have:=(I.pin p hp).2.1;rw[z,e]at this;cases this
 ·rw[hn b ↥hc];exact n
 ·rw[hn b (nx b _ q λZ z=>by cases z)];exact q
 ·rw[hn b (nx b _ q λZ z=>by cases z)];exact q
 ·exact#[#[],by rw[hn b (nx b _ q λZ z=>by cases z),q];simp]
 ·by_cases hb:b=x
  ·subst hb;rw[Za]at q;cases q
  ·rw[hn b hb]at q;exact (I.hok b u q).stay (λc v Z z=>z) (λc z=>by rw[hn c (nx c _ z λZ y=>by cases y)];exact z) λc xs z=>by rw[hn c (nx c _ z λZ y=>by cases y)];exact z
def W0(I:Inv X AG σ H s)(xc:Zo X.K C=AE)(hi:ae X.K (.ref C) "__init__" = AC (AC (.builtin "ValueError.__init__")))(hl:us.length<=rO)(h:∀s' x t,s⁻¹<=x->Inv X AG σ H s'->s'.heap.get? x=AC (xob C AD t .none)->Q (.ref x) s'):rT (model X.prog X.w) X.A (call (.ref C) us) Q E s:=by
 have F:=eh;refine ju (xc) λbm N nm qn bs sn sub ab col dd k0 k1 k2 k3 k5 lk tl=>?_;have hC:=I.kIn _ _ lk;have T:=tl _ I.kIn;let#[hp,g,d,t,os]:=s;have k:∀b o,hp.get? b=AC o->((hp.push { cls:=.type "tuple",data:=.seq us.toArray }).push (xob C AD hp.objs.size .none)).get? b=AC o:=λb o e=>ac _ (ac _ e);refine sJ (Zc I.kIn xc hi (λself=>PySem.W.Looks.of_pure (F.init.bind self)) hl ?_);have hget:((hp.push { cls:=.type "tuple",data:=.seq us.toArray }).push (xob C AD hp.objs.size .none)).get? (hp.objs.size+1)=AC (xob C AD hp.objs.size .none):=by heap_get
 refine tH F.init.plain F.initEntry (wpAny_check_init_subT F (T.keeps k) (k _ _ hC) hget rfl ?_)
 wp_walk
 refine#[rfl,h _ (hp.objs.size+1) ((hp.push { cls:=.type "tuple",data:=.seq us.toArray }).push (xob C AD hp.objs.size .none)).objs.size (bS _) (I.kept (t':=t) λb o e=>?_) ?_]
 ·exact (ar _ _ (bJ (cX (ao e)))).trans (ac _ (k b o e))
 ·exact bj (Obj.mapFields λx=>x.setIfInBounds 0 (r6 ((hp.push { cls:=.type "tuple",data:=.seq us.toArray }).push (xob C AD hp.objs.size .none)).objs.size)) (ac _ hget) rfl
def YG(E:XK)(C:rQ)(t:TA):TS:=λZ σ H=>t σ H λvs H1=>vs.length<=rO/\E (.ref C) AD H1
def yP(hx:XE X E)(hc:X.calm=AE)(xc:XC X.K C)(hi:ae X.K (.ref C) "__init__" = AC (AC (.builtin "ValueError.__init__")))(hg:Gl X cn)(hm:X.mg cn=AC (.ref C))(ha:PA X (e::es) t)(hdb:‹(cn ==("__debug__" : rV))=AF›)(he:‹rN (e::es) X.env=(AF,eval e X.env)::rN es X.env›)(hpl:‹(sf cpos (rN es X.env)).any (·.1)=AF›) :
  PS X (.Raise (AC (.Call (.Name cn np) (e::es) [] cpos)) AD pos) (YG E C t):=by intros D I h;refine UH (K:=X.K) (I.ok.hd hc) (rY (yS I hg hm ?_ hdb));refine aT (h₀:=X.base) I.ok.mod.kin xc.kp (thn (ha cpos AG s σ H _ I h) λus s1=>el5 λvs H1 I1 r=>ua2 λz q=>#[I1.kIn,?_]) he hpl;refine W0 (us:=[] ++ us) I1 xc.ok hi (by show us.length<=rO;rw[<- r.length];exact z) λs2 x t hz I2 ob=>#[x,C,t,AD,rfl,I2.kIn,xc.ok,ob,?_];exact hx _ _ #[AG,σ,H1,x,C,t,AD,.none,rfl,I2,ob,.inl rfl,I1.fpOk hz (I1.hok.fresh hz),λT z=>(by cases z),q]
def UC(r:Room (k+1) A):Room k (A.under (.builtin "type.__call__" #[.ref C::us,[]])):=r.make C us []
def Yp(E:XK)(C:rQ)(sp:Sp)(t:TA):TS:=λZ σ H=>t σ H λvs H1=>vs.length<=rO/\∀x,H1 x=AD->sp (.ref x::vs) (upd H1 x (XN x C AD)) (λv H2=>v=.non/\∃dx,H2 x=AC (XN x C dx)/\E (.ref C) dx (del H2 x)) E0
theorem qI(hx:XE X E)(hc:X.calm=AE)(xc:XC X.K C)(hi:ae X.K (.ref C) "__init__" = AC (AC (.ref f)))(hfn:aP X.K (.ref f)=AE)(F:FnOk X.prog X.w X.K X.mg X.base CX0 k f fd ps sp)(hr:Room (k+1) X.A)(hb:Binds X.K fd ps [])(hg:Gl X cn)(hm:X.mg cn=AC (.ref C))(ha:PA X (e::es) t)(hdb:‹(cn ==("__debug__" : rV))=AF›)(he:‹rN (e::es) X.env=(AF,eval e X.env)::rN es X.env›)(hpl:‹(sf cpos (rN es X.env)).any (·.1)=AF›) :
  PS X (.Raise (AC (.Call (.Name cn np) (e::es) [] cpos)) AD pos) (Yp E C sp t):=by
 intros D I h;refine UH (K:=X.K) (I.ok.hd hc) (rY (yS I hg hm ?_ hdb));refine aT (h₀:=X.base) I.ok.mod.kin xc.kp (thn (ha cpos AG s σ H _ I h) λus s1=>el5 λvs H1 I1 r=>ua2 λz q=>#[I1.kIn,?_]) he hpl;have hl:us.length<=rO:=by rw[<- r.length];exact z
 have ob:((s1.heap.push { cls:=.type "tuple",data:=.seq us.toArray }).push (xob C AD s1⁻¹ .none)).get? (s1⁻¹+1)=AC (xob C AD s1⁻¹ .none):=by heap_get
 have hfr:H1 (s1⁻¹+1)=AD:=I1.hok.fresh (bS _)
 have I2:Inv X AG σ (upd H1 (s1⁻¹+1) (XN (s1⁻¹+1) C AD)) { s1 with heap:=(s1.heap.push { cls:=.type "tuple",data:=.seq us.toArray }).push (xob C AD s1⁻¹ .none) } :=
  I1.laid (t':=s1.toks) (λb o e=>ac _ (ac _ e)) (bS _) (K6 ob)
 have q1:=q _ hfr;have r2:Vals (V.ref (s1⁻¹+1)::vs) (r6 (s1⁻¹+1)::us):=.cons rfl r
 have hlen:(r6 (s1⁻¹+1)::us ++ ([]:List rR)).length=ps.length:=by
  rw[aR,<- r2.length];exact F.len _ _ _ _ q1
 have hb2:=hb { s1 with heap:=(s1.heap.push { cls:=.type "tuple",data:=.seq us.toArray }).push (xob C AD s1⁻¹ .none) } (r6 (s1⁻¹+1)::us) I2.kIn hlen;rw[aR]at hb2;have run:=F.run _ X.stack _ _ #[r6 (s1⁻¹+1)::us,[]] (r6 (s1⁻¹+1)::us) _ _ E0 (UC (C:=C) (us:=us) hr) (I2.env0.make C us []) hb2 r2 q1;have sz0:X.s₀.heap.objs.size<=s1⁻¹+1:=aS I1.sz (bS _);show rT (model X.prog X.w) X.A (call (.ref C) us) _ X.xe s1;refine sJ ?_;refine Zc (h:=s1.heap) (g:=s1.gens) (d:=s1.drawn) (t:=s1.toks) (os:=s1.os) (rest:=us) I1.kIn xc.ok hi (λself=>eQ I1.kIn self (beq_iff_eq.mp hfn)) hl (sE run λr s' hq=>?_)
 cases r with
 | error e=>exact False.elim hq
 | ok fl =>
  cases fl with
  | ret u =>
   let#[v,H',I3,rv,ev,dx,hx3,q3]:=I2.after hq;subst ev;refine#[rv,?_];let#[t,ob3]:=Kw (I3.hok _ _ hx3);have I4:=Inv.untrack I3 hx3 sz0;refine#[_,C,t,dx,rfl,I3.kIn,xc.ok,ob3,hx _ _ #[AG,σ,_,_,C,t,dx,.none,rfl,I4,ob3,.inl rfl,?_,λT z=>(by cases z),q3]];exact I1.fpOk (bS _) Za
  | next=>exact False.elim hq
  | brk=>exact False.elim hq
  | cont=>exact False.elim hq
def Yv(X:Cx)(AG:List (rQ × tw))(σ:St)(E:XK)(e:rR)(s:rS):Prop:=∃(cx:rR) (kx:Bool) (H:Hp) (x C t:rQ) (dx:Option rQ) (tb:rR),e=.ref x/\Inv X AG σ H s /\
 s.heap.get? x=AC (xog C dx t tb cx kx)/\Qv s.heap x tb/\wo X AG H x/\(∀T,tb=.ref T->wo X AG H T)/\E (.ref C) dx H
abbrev TX:=St->Hp->VK->XK->Prop
def PEX(X:Cx)(e:sG)(t:TX):Prop :=
 ∀(AG:List (rQ × tw)) (s:rS) (σ:St) (H:Hp) (Q:VK) (E:XK),Inv X AG σ H s->t σ H Q E->rT (model X.prog X.w) X.A (eval e X.env) (EP X AG σ Q) (Yv X AG σ E) s
end
section
variable{X:Cx}
def EP.unwish(h:EP (X.wish E) AG σ Q u s):EP X AG σ Q u s:=let #[v,H,I,r,q]:=h; #[v,H,I.unwish,r,q]
variable{k:Nat}{f:rQ}{fd:rW}{ps:List rV}{sp:Sp}{dvs:List V}{ds:List rR}{x:rV}{p pos:Az}{e:sG}{es:List sG}{t:TA}
theorem QX(F:FnOk X.prog X.w X.K X.mg X.base (CXx X.prog X.w) k f fd ps sp)(hr:Room k X.A)(hg:Gl X x)(hm:X.mg x=AC (.ref f))(hk:aE X.K (.ref f)=AE)(hb:Binds X.K fd ps ds)(hd:Vals dvs ds)(ha:PA X.nox (e::es) t) (hdb:‹(x ==("__debug__" : rV))=AF›) (he:‹rN (e::es) X.env=(AF,eval e X.env)::rN es X.env›) (hpl:‹(sf pos (rN es X.env)).any (·.1)=AF›) :
  PEX X (.Call (.Name x p) (e::es) [] pos) (λσ H Q E=>t σ H λvs H1=>sp (vs ++ dvs) H1 Q E):=by
 intros Q E I h;refine rY (yS I hg hm ?_ hdb);refine aT (h₀:=X.base) I.ok.mod.kin hk (sj (thn (ha pos AG s σ H _ (I.wish _) h) λus s1=>el5 λvs H1 I1 r q=>#[I1.kIn,?_])) he hpl;have I1':Inv X AG σ H1 s1:=I1.unwish;have r2:Vals (vs ++ dvs) (us ++ ds):=r.append hd;have hl:(us ++ ds).length=ps.length:=by rw[<- r2.length];exact F.len _ _ _ _ q
 refine sJ (sE (F.run X.A X.stack s1 H1 #[us,[]] (us ++ ds) (vs ++ dvs) Q E hr I1'.env0 (hb s1 us I1'.kIn hl) r2 q) λr s' hq=>?_)
 cases r with
 | error e =>
  let#[x,C,t,dx,tb,H',rfl,os,bare,un,hok,ob,tr,hn,hsz,hT,q]:=hq;exact#[.none,AF,H',x,C,t,dx,tb,rfl,I1'.call' os un hok bare (λb z=>y4 z (by simp)),ob,tr,I1'.fpOk hsz hn,λT e=>I1'.fpOk (hT T e).2 (hT T e).1,q]
 | ok fl =>
  cases fl with
  | ret u=>exact I1'.after hq
  | next=>exact False.elim hq
  | brk=>exact False.elim hq
  | cont=>exact False.elim hq
theorem Up(F:FnOk X.prog X.w X.K X.mg X.base (CXg X.prog X.w) k f fd ps sp)(hr:Room k X.A)(hg:Gl X x)(hm:X.mg x=AC (.ref f))(hk:aE X.K (.ref f)=AE)(hb:Binds X.K fd ps ds)(hd:Vals dvs ds)(ha:PA X.nox (e::es) t) (hdb:‹(x ==("__debug__" : rV))=AF›) (he:‹rN (e::es) X.env=(AF,eval e X.env)::rN es X.env›) (hpl:‹(sf pos (rN es X.env)).any (·.1)=AF›) :
  PEX X (.Call (.Name x p) (e::es) [] pos) (λσ H Q E=>t σ H λvs H1=>sp (vs ++ dvs) H1 Q E):=by
 intros Q E I h;refine rY (yS I hg hm ?_ hdb);refine aT (h₀:=X.base) I.ok.mod.kin hk (sj (thn (ha pos AG s σ H _ (I.wish _) h) λus s1=>el5 λvs H1 I1 r q=>#[I1.kIn,?_])) he hpl;have I1':Inv X AG σ H1 s1:=I1.unwish;have r2:Vals (vs ++ dvs) (us ++ ds):=r.append hd;have hl:(us ++ ds).length=ps.length:=by rw[<- r2.length];exact F.len _ _ _ _ q
 refine sJ (sE (F.run X.A X.stack s1 H1 #[us,[]] (us ++ ds) (vs ++ dvs) Q E hr I1'.env0 (hb s1 us I1'.kIn hl) r2 q) λr s' hq=>?_)
 cases r with
 | error e =>
  let#[cx,kx,x,C,t,dx,tb,H',rfl,os,bare,un,hok,ob,tr,hn,hsz,hT,q]:=hq;exact#[cx,kx,H',x,C,t,dx,tb,rfl,I1'.call' os un hok bare (λb z=>y4 z (by simp)),ob,tr,I1'.fpOk hsz hn,λT e=>I1'.fpOk (hT T e).2 (hT T e).1,q]
 | ok fl =>
  cases fl with
  | ret u=>exact I1'.after hq
  | next=>exact False.elim hq
  | brk=>exact False.elim hq
  | cont=>exact False.elim hq
end
end in abbrev Cx.suite(X:Cx)(e:rR):Cx:={ X with A:=X.A.mark (AC e),calm:=AF,xe:=λZ Z=>False }
def Inv.suite(I:Inv X AG σ H s)(e:rR):Inv (Cx.suite X e) AG σ H s :=
 #[#[I.ok.mod,I.ok.kind,I.ok.glob,I.ok.blt,I.ok.above,I.ok.inj,I.ok.has,I.ok.cab,λz=>y4 z (by simp [Cx.suite]),I.ok.frames,I.ok.stk,I.ok.exf,I.ok.bs,I.ok.bsz,I.ok.noex,I.ok.exfs,I.ok.funs,I.ok.frf],
  I.os,I.bare,I.base,I.loc,I.cell,I.free,I.freeC,I.pin,I.hok,I.len]
def Inv.unsuite(J:Inv X AG σ' H' s')(I:Inv (Cx.suite X e) AG σ H s):Inv X AG σ H s :=
 #[J.ok,I.os,I.bare,I.base,I.loc,I.cell,I.free,I.freeC,I.pin,I.hok,I.len]
structure Hd where
 D:rQ
 i:Nat
 ts:TS
theorem JX{K:rP}(X:K.In s.heap)(hD:Zo K D=AE)(he:s.heap.get? x=AC (xog C dx t tb cx kx))(hs:bL K (.ref C) (.ref D)=AC b)(h:Q b s):rT M A (excMatches (.ref x) (.ref D)) Q E s:=by
 refine ju (hD) λbm N nm qn bs sn sub ab col dd k0 k1 k2 k3 k5 lk tl=>?_;have hDo:=X _ _ lk;have T:=tl _ X;have hcB:(r6 D::bm).contains (.type "BaseException")=AE:=by rw[cM,T.hasType (show bmV.contains (.type "BaseException")=AE by symm),du]
 have L:=PySem.W.looks_subIn (M:=M) X hs;have f:=tc_notTuple;let#[hp,g,d,tk,os]:=s;unfold excMatches
 repeat (first | with_reducible refine sv he ?_ | with_reducible refine sv hDo ?_ | (with_reducible refine sV hDo ?_;rw[hcB]) | (with_reducible refine PySem.W.Looks.at L ?_) | wp_step)
 cases b with
 | false=>exact rL (rL (rL h))
 | true=>exact rL (rL (rL h))
end in def tbL:rR->List rQ
 | .ref b=>[b]
 | _=>[]
section
variable{prog:rX}{w:sk}{A:sD}{E:rR->rS->Prop}{s:rS}{K:rP}{x C:rQ}{ox:tw}{od:Option tw}{name:rV}{tk:Ad}
def zbX{fill expr:Bool}(X:K.In s.heap)(xc:XC K C)(J:PySem.W.InstAt s.heap x ox C od)(h:rT (model prog w) A.in1 (Builtin.«object.__getattribute__» #[[.ref x,.str name tk],[]]) (λfin s'=>match fin with | .done (.ret v)=>rT (model prog w) A (handedOut v) Q E s' | _=>False) (λZ Z=>False) s) :
  rT (model prog w) A (getAttrBy (.ref x) (.str name tk) fill expr) Q E s:=by
 refine ju (xc.ok) λbm N nm qn bs sn sub ab col dd k0 k1 k2 k3 k5 lk tl=>?_;have hC:=X _ _ lk;have T:=tl _ X;have FB:=PySem.F.attrBase_ValueError;have L0:=J.type (M:=model prog w);have L1:=cB (M:=model prog w) X xc.ga;have L2:=cB (M:=model prog w) X xc.gt;have hcB:(r6 C::bm).contains (.type "BaseException")=AE:=by rw[cM,T.hasType (show bmV.contains (.type "BaseException")=AE by symm),du]
 have isB:PySem.W.Looks (model prog w) s.heap (isInstance (.ref x) (.type "BaseException")) AE:=L0.andThen (by have:=Z5 (M:=model prog w) hC (.type "BaseException");rw[hcB]at this;exact this);have f3:=FB.ga.bind (.ref x);have hx0:(expr && onTheHeap (Value.builtin "BaseException.__getattribute__"))=AF:=by cases expr <;> rfl
 have hx2:(Value.builtin "BaseException.__getattribute__" == Value.builtin "object.__getattribute__")=AF:=by symm
 have hx1:(onTheHeap (r6 C) && Value.builtin "BaseException.__getattribute__" == Value.builtin "object.__getattribute__")=AF:=by rw[hx2];rfl
 unfold getAttrBy;refine sC (rK (L0.here (rK (L1.here ?_))));show rT _ _ (if (onTheHeap (r6 C) && Value.builtin "BaseException.__getattribute__" == Value.builtin "object.__getattribute__")=AE then _ else _) _ _ _;rw[hx1,y9 az];unfold getAttrByItsOwn hookBefore;rw[y6 (by rfl)];refine rK (L2.here (rK (tP (sC ?_))));unfold callGetattribute;rw[hx0,y9 az];unfold boundAndCalled;rw[f3];refine rK (rL ?_);show rT (model prog w) A (call (.builtin "BaseException.__getattribute__") [.ref x,.str name tk]) _ _ s;refine sJ (tH FB.ga.plain PySem.F.entry_bexc_ga (@PySem.W.check_slot (model prog w) _ _ s "BaseException.__getattribute__" "BaseException" "__getattribute__" (.ref x) [.str name tk] [] _ (!0) (!0) isB (PySem.F.args_bexc_ga _ _) ?_));refine tq h (λfin s' z=>?_) λZ Z z=>z.elim;rcases fin with (_ | _ | _ | v) | _ <;> first | exact z | exact z.elim
def JH(X:K.In s.heap)(xc:XC K C)(J:PySem.W.InstAt s.heap x ox C od)(ha:ae K (.ref C) "__class__" = AC (AC (.builtin "object.__class__")))(hn:cz K (.builtin "object.__class__") "__get__" = AC (AC (.builtin "getset_descriptor.__get__")))(htk:dO K (.builtin "object.__class__")=AC AE)(hm:bE K C (.type "object")=AC AE)(h:Q (AC (.ref C)) { s with toks:=s.toks+1 }):rT (model prog w) A (getAttr? (.ref x) "__class__") Q E s:=by
 have hf:fZ K C od "__class__" = AC (.bind (.builtin "getset_descriptor.__get__") (.builtin "object.__class__")):=by
  refine ju (xc.ok) λbm N nm qn bs sn sub ab col dd k0 k1 k2 k3 k5 lk tl=>?_;have hcl:(PySem.W.clsIn K C).isSome=AE:=by unfold PySem.W.clsIn;rw[lk];rfl
  let#[cd,hc]:=AS.mp hcl;unfold fZ;rw[hc,dJ,ha,dJ];simp [hn,htk]
 unfold getAttr? getAttrBy?;refine rK (wpAny_mkText (rK (tP (zbX (s:={ s with toks:=s.toks+1 }) X xc J ?_))));have L0:=J.type (M:=model prog w);have L1:=PySem.W.looks_find (M:=model prog w) X J hf;unfold Builtin.«object.__getattribute__»;refine rK (rL (rK (rL (rK (L0.here (s:={ s with toks:=s.toks+1 }) (rK (L1.here (s:={ s with toks:=s.toks+1 }) ?_)))))));show rT _ _ (holding [.builtin "object.__class__"] (call (.builtin "getset_descriptor.__get__") [.builtin "object.__class__",.ref x,.ref C]) >>= ret) _ _ _;refine rK (sC (sJ (PySem.W.class_get (s:={ s with toks:=s.toks+1 }) X J hm ?_)));refine rL ?_;show rT _ _ (handedOut (.ref C)) _ _ _;rw[PySem.W.handedOut_of rfl];exact rL (rL h)
end
mutual section
structure XI(K:rP)(C:rQ):Prop extends XC K C where
 ca:ae K (.ref C) "__class__" = AC (AC (.builtin "object.__class__"))
 cg:cz K (.builtin "object.__class__") "__get__" = AC (AC (.builtin "getset_descriptor.__get__"))
 ct:dO K (.builtin "object.__class__")=AC AE
 mo:bE K C (.type "object")=AC AE
def zbY(ob:h.get? x=AC (xog C AD t tb c k)):PySem.W.InstAt h x (xog C AD t tb c k) C AD:=#[ob,rfl,rfl,trivial]
def zdU{K:rP}(xi:XI K C):PySem.W.KitX K (.ref x) (.ref C) (λh=>(∃t tb c k,h.get? x=AC (xog C dx t tb c k))/\∀d,dx=AC d->∃o,h.get? d=AC o) where
 ty:=λM h X ⟨⟨t,tb,c,k',ob⟩,_⟩=>(PySem.W.Looks.ld ob).andThen .now
 it:=λM h X Z=>by
  refine ju (xi.ok) λbm N nm qn bs sn sub ab col dd k0 k1 k2 k3 k5 lk tl=>?_;intro A' Q' E' s' k q;unfold isType loadHead;exact rK (tY (k _ _ (X _ _ lk)) (rL q))
 ne:=λh tp dd its n sl X htp=>by
  refine ju (xi.ok) λbm N nm qn bs sn sub ab col dd k0 k1 k2 k3 k5 lk tl=>?_;refine Bool.eq_false_iff.mpr λq=>?_;have e:C=tp:=Value.ref.inj (beq_iff_eq.mp q);subst e;have z:=congrArg (λo:Option tw=>o.map λo=>match o.data with | .cls _=>AE | _=>AF) ((X _ _ lk).symm.trans htp);exact y4 (show AE=AF from Option.some.inj z) ∅
 ca:=λ{prog w A E Q s} X ⟨⟨t,tb,c,k',ob⟩,hd⟩ k=>by
  cases dx with
  | none=>exact JH X xi.toXC (zbY ob) xi.ca xi.cg xi.ct xi.mo k
  | some d =>
   let#[o,e]:=hd d rfl;exact JH (od:=AC o) X xi.toXC #[ob,rfl,rfl,e] xi.ca xi.cg xi.ct xi.mo k
def XAt(H:Hp)(x C:rQ)(dx:Option rQ)(fs:List (rV × V)):Prop:=H x=AC (XT x C dx)/\((dx=AD/\fs=[])\/∃d,dx=AC d/\H d=AC (.xd fs))
def UM:ww X (.builtin "isinstance") (λxs H Q=>∃x C dx fs c u b,xs=[.ref x,c]/\cV c=AC u/\XAt H x C dx fs/\XI X.K C/\aX X.K (.ref C) u=AC b/\Q (.bl b) H):=by
 intros xs us Q I r h;let#[x,C,dx,fs,c,u,b,rfl,hc,#[hx,hd],xi,e,q]:=h;let#[v,w',rfl,rx,rc]:=YH r;cases rx
 have:w'=u:=by
  cases c with
  | ty n=>cases hc;exact rc
  | ref a=>cases hc;exact rc
  | _=>cases hc
 subst this;refine bh (zdU (dx:=dx) xi) I.kIn #[zdM (I.hok _ _ hx),λd z=>?_] e (λz=>nomatch z) λtk=>#[.bl b,H,I.tok tk,rfl,q];rcases hd with ⟨z',_⟩ | ⟨d',z',hd'⟩
 ·rw[z']at z;cases z
 ·rw[z']at z;cases z;let#[mA,#[o,es,ep,ho,_],_]:=I.hok _ _ hd';exact#[o,ho]
structure Df(P:rX)(w:sk)(K:rP)(mg:rV->Option rR)(base:sq)(CX:CXT)(k:Nat)(nm:rV)(ps:List rV)(ds:List rR)(sp:Sp):Prop where
 ex:∃f fd,FnOk P w K mg base CX k f fd ps sp/\mg nm=AC (.ref f)/\aE K (.ref f)=AE/\Binds K fd ps ds
structure Bt(mg:rV->Option rR):Prop where
 len:mg "len" = AD
 range:mg "range" = AD
 isi:mg "isinstance" = AD
 str:mg "str" = AD
 int:mg "int" = AD
 tuple:mg "tuple" = AD
 list:mg "list" = AD
 bool:mg "bool" = AD
 enum:mg "enumerate" = AD
 all:mg "all" = AD
 verr:mg "ValueError" = AD
 max:mg "max" = AD
 rev:mg "reversed" = AD
 zip:mg "zip" = AD
 sum:mg "sum" = AD
 sorted:mg "sorted" = AD
def cl0(D:Df X.prog X.w X.K X.mg X.base CX0 k x ps ds sp)(hr:Room j X.A)(hd:Vals dvs ds)(hg:Gl X x)(ha:PA X (e::es) t)(hdb:‹(x ==("__debug__" : rV))=AF›)(he:‹rN (e::es) X.env=(AF,eval e X.env)::rN es X.env›)(hpl:‹(sf pos (rN es X.env)).any (·.1)=AF›)(hj:‹k<=j›):PE X (.Call (.Name x p) (e::es) [] pos) (xt sp dvs E0 t):=by let#[f,fd,F,hm,hk,hb]:=D.ex;exact Vs F (hr.mono hj) hg hm hk hb hd kW ha hdb he hpl
def clX(D:Df X.prog X.w X.K X.mg X.base (CXx X.prog X.w) k x ps ds sp)(hr:Room j X.A)(hd:Vals dvs ds)(hg:Gl X x)(ha:PA X.nox (e::es) t)(hdb:‹(x ==("__debug__" : rV))=AF›)(he:‹rN (e::es) X.env=(AF,eval e X.env)::rN es X.env›)(hpl:‹(sf pos (rN es X.env)).any (·.1)=AF›)(hj:‹k<=j›):PEX X (.Call (.Name x p) (e::es) [] pos) (λσ H Q E=>t σ H λvs H1=>sp (vs ++ dvs) H1 Q E):=by let#[f,fd,F,hm,hk,hb]:=D.ex;exact QX F (hr.mono hj) hg hm hk hb hd ha hdb he hpl
def clP(hx:XE X E)(D:Df X.prog X.w X.K X.mg X.base (CXx X.prog X.w) k x ps ds sp)(hr:Room j X.A)(hd:Vals dvs ds)(hg:Gl X x)(ha:PA X (e::es) t)(hdb:‹(x ==("__debug__" : rV))=AF›)(he:‹rN (e::es) X.env=(AF,eval e X.env)::rN es X.env›)(hpl:‹(sf pos (rN es X.env)).any (·.1)=AF›)(hj:‹k<=j›):PE X (.Call (.Name x p) (e::es) [] pos) (xt sp dvs E t):=by let#[f,fd,F,hm,hk,hb]:=D.ex;exact Vs F (hr.mono hj) hg hm hk hb hd (kc hx) ha hdb he hpl
def zeI(D:Df X.prog X.w X.K X.mg X.base (CXg X.prog X.w) k x ps ds sp)(hr:Room j X.A)(hd:Vals dvs ds)(hg:Gl X x)(ha:PA X.nox (e::es) t)(hdb:‹(x ==("__debug__" : rV))=AF›)(he:‹rN (e::es) X.env=(AF,eval e X.env)::rN es X.env›)(hpl:‹(sf pos (rN es X.env)).any (·.1)=AF›)(hj:‹k<=j›):PEX X (.Call (.Name x p) (e::es) [] pos) (λσ H Q E=>t σ H λvs H1=>sp (vs ++ dvs) H1 Q E):=by let#[f,fd,F,hm,hk,hb]:=D.ex;exact Up F (hr.mono hj) hg hm hk hb hd ha hdb he hpl
def TyX(K:rP)(H:Hp)(x:V)(t:rR):Prop:=XX K H x t\/(∃a C dx fs,x=.ref a/\t=.ref C/\XAt H a C dx fs/\XI K C)\/(∃a xs,x=.ref a/\t=.type "list"/\SqL K H a xs)\/∃a xs,x=.ref a/\t=.type "tuple"/\SqT K H a xs
def zcO(K:rP):List V->Hp->VK->Prop:=λxs H Q=>∃x c u t b,xs=[x,c]/\cV c=AC u/\TyX K H x t/\aX K t u=AC b/\Q (.bl b) H
def zdw : ww X (.builtin "isinstance") (zcO X.K):=by
 intros xs us Q I r h;let#[x,c,u,t,b,rfl,hc,ty,e,q]:=h;rcases ty with ty | ⟨a,C,dx,fs,rfl,rfl,ha,xi⟩ | ⟨a,ys,rfl,rfl,hq⟩ | ⟨a,ys,rfl,rfl,hq⟩
 ·exact Ju AG s σ H _ us Q I r #[x,c,u,t,b,rfl,hc,ty,e,q]
 ·exact UM AG s σ H _ us Q I r #[a,C,dx,fs,c,u,b,rfl,hc,ha,xi,e,q]
 all_goals
  let#[v,w',rfl,rx,rc]:=YH r
  have:w'=u:=by
   cases c with
   | ty n=>cases hc;exact rc
   | ref a=>cases hc;exact rc
   | _=>cases hc
  subst this;cases rx
 ·let#[its,_,p,_]:=I.list hq;let#[o,h1,h2,_]:=p.isList;exact bh em I.kIn #[o,h1,h2] e (λz=>nomatch z) λtk=>#[.bl b,H,I.tok tk,rfl,q]
 ·let#[its,_,p,_]:=I.tuple hq;let#[o,h1,h2,_]:=p;exact bh fH I.kIn #[o,h1,h2] e (λz=>nomatch z) λtk=>#[.bl b,H,I.tok tk,rfl,q]
def uD(h1:Gl X "isinstance")(h2:X.mg "isinstance" = AD)(he:PE X e te)(hg:Gl X c)(hm:X.mg c=AD)(hv:sN c=AC (.type n))(hn:‹c≠"__name__"›)(hd:‹(c ==("__debug__" : rV))=AF›)(hs1:‹rN [e,.Name c q] X.env=(AF,eval e X.env)::rN [.Name c q] X.env›)(hs3:‹rN [.Name c q] X.env=(AF,eval (.Name c q) X.env)::rN [] X.env›)(hs2:‹(sf pos (rN [.Name c q] X.env)).any (·.1)=AF›):PE X (.Call (.Name "isinstance" p) [e,.Name c q] [] pos) (tCB (zcO X.K) (zE te (zE (tC (.ty n)) yT))) :=
 yQ zdw h1 h2 boot_isinstance (za he (za (zaa hg hm hv rfl hn hd) ze hs3) hs1) (he:=hs1) (hpl:=hs2)
def JK : cV (.ref a)=AC (.ref a):=rfl
def zbk : cV (.ty n)=AC (.type n):=rfl
def zec{P w K mg base N q sc f cd A o s H}:(cxH P w K mg base N q sc f cd A o s H).K=K:=rfl
def X7:V->List V->Hp->VK->Prop:=λx xs H Q=>∃z y,x=.str z/\xs=[.str y]/\Q (.int (Txt.count z y)) H
def U5 : MtR X "str.count" X7:=QR
def UL:V->List V->Hp->VK->Prop:=λx xs H Q=>∃z y,x=.str z/\xs=[.str y]/\Q (.int (Txt.find z y)) H
def VN : MtR X "str.find" UL:=VY
def Y5(l:())(c:Nat):Txt.count (tx l) (tx [c])=(l.count c:Int):=by
 have h:∀l:(),cnt c l=(l.count c:Int):=λl=>by
  induction l with
  | nil=>rfl
  | cons n r ih =>
   rw[cnt_cons,ih,dm];by_cases e:n=c
   ·subst e;simp;lia
   ·have:(n == c)=AF:=by simpa using e
    simp [e,this]
 exact (PyProof.Rows.count_is (tx l) c).trans (h l)
def lt1 :([a]:()) < [b] ↔ a<b:=by rw[List.cons_lt_cons_iff];exact#[λh=>h.elim id λ⟨_,q⟩=>y4 q (List.not_lt_nil _),.inl]
def W9{k v:Nat}(h:l[k]? = AC v):(v::(l.take k ++ l.drop (k+1))).Perm l:=by
 let#[hk,e]:=AJ.mp h
 have e2:l.take k ++ (v::l.drop (k+1))=l:=by
  rw[<- e,<- aY hk,bH]
 exact (List.perm_middle.symm.trans (by rw[e2]))
def W7(K:rP):List V->Hp->VK->Prop:=λxs H Q=>match xs with
 | [.str z]=>z.length<=rO/\Q (.int z.length) H
 | [.ref a]=>∃n:Nat,((∃xs,SqL K H a xs/\n=xs.length)\/∃xs,SqT K H a xs/\n=xs.length)/\Q (.int n) H
 | xs=>∃x n,xs=[x]/\zby K x H n/\Q (.int n) H
def rLen_is{K:rP}:W7 K xs H Q=∃x n,xs=[x]/\zby K x H n/\Q (.int n) H:=by
 unfold W7;split
 ·exact propext #[λh=>#[_,_,rfl,#[h.1,rfl],h.2],λ⟨_,_,e,h,q⟩=>by cases e;let#[h,rfl]:=h;exact#[h,q]]
 ·exact propext #[λ⟨n,h,q⟩=>#[_,n,rfl,h,q],λ⟨_,n,e,h,q⟩=>by cases e;exact#[n,h,q]]
 ·rfl
def zdI : ww X (.builtin "len") (W7 X.K):=λAG s σ H xs us Q I r h=>QG AG s σ H xs us Q I r (rLen_is.mp h)
def ForR(lo:Int)(n:Nat)(g:TG)(tb:TS)(D:Zn)(σ:St)(H:Hp):Prop:=∃W:Nat->Nat->St->Hp->Prop,(∃m,W 0 m σ H)/\∀i m σ H,W i m σ H ->
 ((Itr lo n).stop i H/\D.nx σ H)\/((Itr lo n).go i H/\∃N:St->Hp->Prop,(∀σ' H',N σ' H'->∃m',m'<m/\W (i+1) m' σ' H')/\∀x H',(Itr lo n).yld i H x H'->g x σ H' λσ2 H2=>tb { D with nx:=N,ct:=N,bk:=D.nx } σ2 H2)
def zbp : QH (zaC ta) g tb D σ H=ta σ H λvs H1=>∃j:Int,vs=[.int j]/\-(2 ^ 62)<=j/\j<2 ^ 62/\ForR 0 j.toNat g tb D σ H1:=rfl
def zce : QH (zav ta) g tb D σ H=ta σ H λvs H1=>∃i j:Int,vs=[.int i,.int j]/\(-(2 ^ 62)<=i/\i<2 ^ 62/\-(2 ^ 62)<=j/\j<2 ^ 62)/\ForR i (j - i).toNat g tb D σ H1:=rfl
def ForR.by{lo:Int}(Pv:Nat->St->Hp->Prop)(h0:Pv 0 σ H)(hs:∀i σ H,i<n->Pv i σ H->g (.int (lo+i)) σ H λσ2 H2=>tb { D with nx:=Pv (i+1),ct:=Pv (i+1),bk:=D.nx } σ2 H2)(hd:∀σ H,Pv n σ H->D.nx σ H):ForR lo n g tb D σ H:=VZ Pv h0 hs hd
def ForL(K:rP)(a:rQ)(g:TG)(tb:TS)(D:Zn)(σ:St)(H:Hp):Prop:=∃W:Nat->Nat->St->Hp->Prop,(∃m,W 0 m σ H)/\∀i m σ H,W i m σ H ->
 ((Itl K a).stop i H/\D.nx σ H)\/((Itl K a).go i H/\∃N:St->Hp->Prop,(∀σ' H',N σ' H'->∃m',m'<m/\W (i+1) m' σ' H')/\∀x H',(Itl K a).yld i H x H'->g x σ H' λσ2 H2=>tb { D with nx:=N,ct:=N,bk:=D.nx } σ2 H2)
def zev{K:rP}:QH (KD K tl) g tb D σ H=tl σ H λx H1=>∃a,x=.ref a/\(∃xs,SqL K H1 a xs)/\ForL K a g tb D σ H1:=rfl
def ForS(x:rV)(g:TG)(tb:TS)(D:Zn)(σ:St)(H:Hp):Prop:=∃W:Nat->Nat->St->Hp->Prop,(∃m,W 0 m σ H)/\∀i m σ H,W i m σ H ->
 ((Its x).stop i H/\D.nx σ H)\/((Its x).go i H/\∃N:St->Hp->Prop,(∀σ' H',N σ' H'->∃m',m'<m/\W (i+1) m' σ' H')/\∀v H',(Its x).yld i H v H'->g v σ H' λσ2 H2=>tb { D with nx:=N,ct:=N,bk:=D.nx } σ2 H2)
def zeD : QH (zdj tl) g tb D σ H=tl σ H λv H1=>∃x,v=.str x/\ForS x g tb D σ H1:=rfl
def ForS.by(Pv:Nat->St->Hp->Prop)(h0:Pv 0 σ H)(hs:∀i c σ H,l[i]? = AC c->Pv i σ H->g ⇑[c] σ H λσ2 H2=>tb { D with nx:=Pv (i+1),ct:=Pv (i+1),bk:=D.nx } σ2 H2)(hd:∀σ H,Pv l.length σ H->D.nx σ H):ForS (tx l) g tb D σ H:=K4 Pv h0 hs hd
def zeF(x:rV)(g:TG)(tb:TS)(D:Zn)(σ:St)(H:Hp):Prop:=∃W:Nat->Nat->St->Hp->Prop,(∃m,W 0 m σ H)/\∀i m σ H,W i m σ H ->
 ((Ite x).stop i H/\D.nx σ H)\/((Ite x).go i H/\∃N:St->Hp->Prop,(∀σ' H',N σ' H'->∃m',m'<m/\W (i+1) m' σ' H')/\∀v H',(Ite x).yld i H v H'->g v σ H' λσ2 H2=>tb { D with nx:=N,ct:=N,bk:=D.nx } σ2 H2)
def zef : QH (zdL ta) g tb D σ H=ta σ H λvs H1=>∃x,vs=[.str x]/\zeF x g tb D σ H1:=rfl
def uQ(l:List α)(h:0<=k):cut l AD (AC k)=l.take k.toNat:=by
 let#[n,rfl]:=bD h;unfold cut;rw[HT.sIx_none,HT.sIx_nat,e8,Nat.sub_zero];by_cases q:n<=l.length
 ·rw[bV q];rfl
 ·rw[cf ⋯,aD,bc (by simp;lia)]
def xn(l:List α)(h:0<=k):cut l (AC k) AD=l.drop k.toNat:=by
 let#[n,rfl]:=bD h;unfold cut;rw[HT.sIx_none,HT.sIx_nat];by_cases q:n<=l.length
 ·rw[bV q];rw[bc (by rw[aG] <;> lia)];rfl
 ·rw[cf ⋯,List.drop_length,bw (by simp;lia)];simp
def qt(h0:0<=i)(h1:i<xs.length):∃v,atI xs i=AC v/\xs[i.toNat]? = AC v:=by let#[n,rfl]:=bD h0;have hn:n<xs.length:=⋯;exact#[xs[n],wF (ak hn),ak hn]
def alpha:():=[97,98,99,100,101,102,103,104,105,106,107,108,109,110,111,112,113,114,115,116,117,118,119,120,121,122]
def VW:(("abcdefghijklmnopqrstuvwxyz" : rV))=tx alpha:=by symm
def yd:(rO:Nat)=16777216:=tz
def cxK{CX P w K mg base N q sc f cd A o s H E}:(wb CX P w K mg base N q sc f cd A o s H E).K=K:=rfl
def cxP{CX P w K mg base N q sc f cd A o s H E}:(wb CX P w K mg base N q sc f cd A o s H E).prog=P:=rfl
def cxW{CX P w K mg base N q sc f cd A o s H E}:(wb CX P w K mg base N q sc f cd A o s H E).w=w:=rfl
def zcl : VE (.int a) (.int b)=AE:=rfl
def zcn : VE (.str a) (.str b)=AE:=rfl
def zbH : VE (.bl a) (.bl b)=AE:=rfl
def zcr : VE .non (.str b)=AE:=rfl
def zco : VE (.str b) .non=AE:=rfl
def zd(h:H p=AD):Same H (upd H p o):=λb u e=>by
 rw[zk (zD e h)];exact e
def zK{α:Type}{l:List α}{c:α}(h:l[i]? = AC c):l.take (i+1)=l.take i ++ [c]:=by rw[List.take_add_one,h];rfl
structure FunD(K:rP)(x qual:rV)(st:si)(dV:rR)(f:rQ)(fd:rW):Prop where
 ex:∃(oc:rR) (od:Option rQ) (kV doc pm:rR) (an:Option rQ) (cdv ct:rR) (osl:Array (Option rR)),
  fd=be x qual (yG st) (zZ st) (zg st) dV kV doc pm an cdv ct/\K.lookup f=AC #[oc,od,.func fd,osl]/\bB K cdv qual=AE
def FunD.okX{K:rP}{st:si}(F:FunD K x qual st dV f fd)(S:zl N ps (zg st))(len:∀vs H Q E,sp vs H Q E->vs.length=ps.length)(hbody:∀(cdv:rR) (A:sD) (outer:List Am) (s:rS) (H:Hp) (vs:List V) (Q:VK) (E:XK),Room k (A.deeper (tu qual (zg st) s⁻¹ f cdv))->XE (wb (CXx P w) P w K mg base N qual (zg st) f cdv A outer s H E) E->sp vs H Q E ->
   ∃t,PSs (wb (CXx P w) P w K mg base N qual (zg st) f cdv A outer s H E) (zZ st) t/\t { nx:=λZ H'=>Q .non H',rt:=Q } (start N vs) H):FnOk P w K mg base (CXx P w) (k+1) f fd ps sp:=by let#[oc,od,kV,doc,pm,an,cdv,ct,osl,rfl,lk,hcd]:=F.ex;exact Ue lk hcd S len λA outer s H vs Q E hr hsp=>hbody cdv A outer s H vs Q E hr zcc hsp
def xz(C:rQ)(f:rV):Sp:=λvs H Q Z=>∃x v,vs=[.ref x,v]/\H x=AC (XN x C AD)/\∀dx,H dx=AD->Q .non (upd (upd H dx (.xd [(f,v)])) x (XN x C (AC dx)))
def Fell(H:Hp)(d:rQ)(f:rV)(v:V)(H':Hp):Prop:=H d=AD/\Same H H'/\H' d=AC (.xd [(f,v)])
def qG{E:XK}(h:∀d H',Fell H d f v H'->E (.ref C) (AC d) H'):∀x,H x=AD->xz C f [.ref x,v] (upd H x (XN x C AD)) (λu H2=>u=.non/\∃dx,H2 x=AC (XN x C dx)/\E (.ref C) dx (del H2 x)) E0:=by
 intro x hx;refine#[x,v,rfl,zc,λdx hd=>#[rfl,AC dx,zc,h dx _ #[?_,?_,?_]]]
 ·by_cases e:dx=x
  ·rw[e];exact hx
  ·rw[zk e]at hd;exact hd
 ·have hne:dx≠x:=λe=>by rw[e,zc]at hd;cases hd
  rw[zk hne]at hd;intro b o q;have b1:b≠x:=zD q hx;have b2:b≠dx:=zD q hd;rw[XZ b1,zk b1,zk b2,zk b1];exact q
 ·have hne:dx≠x:=λe=>by rw[e,zc]at hd;cases hd
  rw[XZ hne,zk hne,zc]
def zcT:R2:=λx y H Q=>∃c l,x=⇑[c]/\y=⇑l/\Q (.bl (!decide (c ∈ l))) H
def zbg:OpR X (rZ .NotIn) zcT:=by intros x y v u Q I rx ry h;let#[c,l,rfl,rfl,q]:=h;refine Yb AG s σ H _ _ v u Q I rx ry #[_,_,rfl,rfl,?_];rw[zcp];exact q
def zeE:R2:=λx y H Q=>match y with | .non=>Q (.bl (decide (x=.non))) H | _=>False
theorem op_isN':OpR X (rZ .Is) zeE:=λAG s σ H x y v u Q I rx ry h=>by
 cases y with
 | non=>exact zbI AG s σ H x .non v u Q I rx ry #[rfl,h]
 | _=>exact h.elim
def zbA:R2:=λx y H Q=>match y with | .non=>Q (.bl (!decide (x=.non))) H | _=>False
theorem op_notN':OpR X (rZ .IsNot) zbA:=λAG s σ H x y v u Q I rx ry h=>by
 cases y with
 | non=>exact KA AG s σ H x .non v u Q I rx ry #[rfl,h]
 | _=>exact h.elim
def KC:List V->Hp->VK->Prop:=λxs H Q=>match xs with | [.int i,.int j]=>Q (.int (if j > i then j else i)) H | _=>False
def zbU(hc:X.calm=AE):ww X (.builtin "max") KC:=λAG s σ H xs us Q I r h=>by
 unfold KC at h;split at h
 ·exact W8 hc AG s σ H _ us Q I r #[_,_,rfl,h]
 ·exact h.elim
def rGe:R2:=λx y H Q=>onInt x λi=>onInt y λj=>Q (.bl (decide (j<=i))) H
def op_ge':OpR X (rZ .GtE) rGe:=zdo
def Xl:sN "max" = AC (.builtin "max"):=by symm
def KS(ls l:())(m:Int)(k:Nat):Prop:=∃c,l[k]? = AC c/\(m<=k\/c ∉ ls)
def FB(ls l:())(m:Int)(k:Nat):Prop:=KS ls l m k/\∀j<k,¬ KS ls l m j
def NB(ls l:())(m:Int):Prop:=∀j,¬ KS ls l m j
def FB.nb(h:FB ls l m k)(n:NB ls l m):False:=n k h.1
inductive D where
 | non | bl (b:Bool) | int (i:Int) | str (x:rV) | lst (l:List D) | tup (l:List D)
end
mutual
def Is(K:rP)(H:Hp):D->V->Prop
 | .non,v=>v=.non
 | .bl b,v=>v=.bl b
 | .int i,v=>v=.int i
 | .str x,v=>v=.str x
 | .lst l,v=>∃a xs,v=.ref a/\SqL K H a xs/\Iss K H l xs
 | .tup l,v=>∃a xs,v=.ref a/\SqT K H a xs/\Iss K H l xs
def Iss(K:rP)(H:Hp):List D->List V->Prop
 | [],vs=>vs=[]
 | d::l,vs=>∃v r,vs=v::r/\Is K H d v/\Iss K H l r
end
mutual
noncomputable def eqD:D->D->Bool
 | .non,e=>match e with | .non=>AE | _=>AF
 | .bl a,e=>match e with | .bl b=>a == b | .int b=>(if a then 1 else 0) == b | _=>AF
 | .int a,e=>match e with | .bl b=>a ==(if b then 1 else 0) | .int b=>a == b | _=>AF
 | .str a,e=>match e with | .str b=>a == b | _=>AF
 | .lst l,e=>match e with | .lst m=>qd l m | _=>AF
 | .tup l,e=>match e with | .tup m=>qd l m | _=>AF
noncomputable def qd:List D->List D->Bool
 | [],m=>match m with | []=>AE | _::_=>AF
 | d::l,m=>match m with | e::m=>eqD d e && qd l m | []=>AF
end
mutual
noncomputable def dpD:D->Nat
 | .lst l=>wv l+1
 | .tup l=>wv l+1
 | _=>0
noncomputable def wv:List D->Nat
 | []=>0
 | d::l=>max (dpD d) (wv l)
end
theorem zah:∀{l:List D} {j:Nat} {d:D},l[j]? = AC d->dpD d<=wv l
 | d::l,0,_,h=>by
  cases h
  erw[wv]
  lia
 | d::l,j+1,e,h=>by
  have:=zah (l:=l) (j:=j) (d:=e) h
  erw[wv]
  lia
mutual
theorem kZ:∀d:D,eqD d d=AE
 | .non=>rfl
 | .bl b=>by simp [eqD]
 | .int i=>by simp [eqD]
 | .str x=>by simp [eqD]
 | .lst l=>by erw[eqD];exact wP l
 | .tup l=>by erw[eqD];exact wP l
theorem wP:∀l:List D,qd l l=AE
 | []=>rfl
 | d::l=>by erw[qd,kZ d,wP l,Bool.and_self]
end
theorem Iss.len{K:rP}:∀{l:List D} {vs:List V},Iss K H l vs->vs.length=l.length
 | [],vs,h=>by erw[Iss]at h;rw[h];rfl
 | d::l,vs,h=>by
  erw[Iss]at h
  let#[v,r,rfl,_,h2]:=h
  erw[au,Iss.len h2]
theorem Iss.at{K:rP}:∀{l:List D} {vs:List V} {j:Nat} {d:D},Iss K H l vs->l[j]? = AC d->∃v,vs[j]? = AC v/\Is K H d v
 | d::l,vs,0,_,h,q=>by
  cases q
  erw[Iss]at h
  let#[v,r,rfl,h1,_]:=h;exact#[v,rfl,h1]
 | d::l,vs,j+1,e,h,q=>by
  erw[Iss]at h
  let#[v,r,rfl,_,h2]:=h;exact Iss.at (j:=j) h2 q
theorem Iss.append{K:rP}:∀{l m:List D} {vs us:List V},Iss K H l vs->Iss K H m us->Iss K H (l ++ m) (vs ++ us)
 | [],m,vs,us,h,g=>by erw[Iss]at h;rw[h];exact g
 | d::l,m,vs,us,h,g=>by
  erw[Iss]at h
  let#[v,r,rfl,h1,h2]:=h
  erw[ba,Iss]
  exact#[v,r ++ us,rfl,h1,Iss.append h2 g]
theorem Iss.ints{K:rP}:∀(l:List Int),Iss K H (l.map D.int) (l.map V.int)
 | []=>by erw[aL,Iss]
 | i::l=>by
  erw[aw,Iss,Is]
  exact#[_,_,rfl,rfl,Iss.ints l]
def zt{K:rP}(e:Same H H')(h:SqT K H a xs):SqT K H' a xs:=by
 rcases h with (h | ⟨o,h⟩) | h
 ·exact .inl (.inl (e _ _ h))
 ·exact .inl (.inr #[o,e _ _ h])
 ·exact .inr h
mutual
theorem Is.same{K:rP}{H H':Hp}(e:Same H H'):∀(d:D) (v:V),Is K H d v->Is K H' d v
 | .non,v,h=>by erw[Is]at h ⊢;exact h
 | .bl b,v,h=>by erw[Is]at h ⊢;exact h
 | .int b,v,h=>by erw[Is]at h ⊢;exact h
 | .str b,v,h=>by erw[Is]at h ⊢;exact h
 | .lst l,v,h=>by
  erw[Is]at h ⊢
  let#[a,xs,e1,e2,e3]:=h;exact#[a,xs,e1,e.seq e2,Iss.same e l xs e3]
 | .tup l,v,h=>by
  erw[Is]at h ⊢
  let#[a,xs,e1,e2,e3]:=h;exact#[a,xs,e1,zt e e2,Iss.same e l xs e3]
theorem Iss.same{K:rP}{H H':Hp}(e:Same H H'):∀(l:List D) (vs:List V),Iss K H l vs->Iss K H' l vs
 | [],vs,h=>by erw[Iss]at h ⊢;exact h
 | d::l,vs,h=>by
  erw[Iss]at h ⊢
  let#[v,r,e1,e2,e3]:=h;exact#[v,r,e1,Is.same e d v e2,Iss.same e l r e3]
end
theorem xM:∀(l m:List D),qd l m=((aQ (min l.length m.length)).all (λj=>eqD (l.getD j .non) (m.getD j .non)) && l.length == m.length)
 | [],[]=>rfl
 | [],e::m=>by simp [qd]
 | d::l,[]=>by simp [qd]
 | d::l,e::m=>by
  erw[qd,xM l m,au]
  have h1:min (l.length+1) (m.length+1)=min l.length m.length+1:=⋯;rw[h1,dD,dg,eE]
  have h2:(l.length+1 == m.length+1)=(l.length == m.length):=by
   rw[cJ,beq_iff_eq,beq_iff_eq];lia
  rw[h2]
  erw[List.getD_cons_zero,Bool.and_assoc]
  rfl
section
variable{X:Cx}{AG:List (rQ × tw)}{σ:St}{H:Hp}{s:rS}
def Zs(I:Inv X AG σ H s)(h:SqL X.K H a xs)(g:SqT X.K H a ys):False:=by let#[its,r,#[o,n,e,c,_,d],_]:=I.list h;let#[its',r',#[o',e',c',n',d'],_]:=I.tuple g;rw[e]at e';cases e';rw[c]at c';exact y4 (Value.type.inj c') ∅
mutual
theorem Vh(I:Inv X AG σ H s):∀(d e:D) (v:V),Is X.K H d v->Is X.K H e v->d=e
 | .lst l,.lst m,v,h,g=>by
  erw[Is]at h g
  let#[a,xs,rfl,h1,h2]:=h;let#[b,ys,e,g1,g2]:=g;cases e;have:=I.list_inj h1 g1;subst this;rw[Yz I l m xs h2 g2]
 | .tup l,.tup m,v,h,g=>by
  erw[Is]at h g
  let#[a,xs,rfl,h1,h2]:=h;let#[b,ys,e,g1,g2]:=g;cases e;have:=I.tuple_inj h1 g1;subst this;rw[Yz I l m xs h2 g2]
 | .lst l,.tup m,v,h,g=>by
  erw[Is]at h g
  let#[a,xs,rfl,h1,h2]:=h;let#[b,ys,e,g1,g2]:=g;cases e;exact (Zs I h1 g1).elim
 | .tup l,.lst m,v,h,g=>by
  erw[Is]at h g
  let#[a,xs,rfl,h1,h2]:=h;let#[b,ys,e,g1,g2]:=g;cases e;exact (Zs I g1 h1).elim
 | .lst l,.non,v,h,g=>by erw[Is]at h g;let#[a,xs,rfl,_]:=h;cases g
 | .lst l,.bl _,v,h,g=>by erw[Is]at h g;let#[a,xs,rfl,_]:=h;cases g
 | .lst l,.int _,v,h,g=>by erw[Is]at h g;let#[a,xs,rfl,_]:=h;cases g
 | .lst l,.str _,v,h,g=>by erw[Is]at h g;let#[a,xs,rfl,_]:=h;cases g
 | .tup l,.non,v,h,g=>by erw[Is]at h g;let#[a,xs,rfl,_]:=h;cases g
 | .tup l,.bl _,v,h,g=>by erw[Is]at h g;let#[a,xs,rfl,_]:=h;cases g
 | .tup l,.int _,v,h,g=>by erw[Is]at h g;let#[a,xs,rfl,_]:=h;cases g
 | .tup l,.str _,v,h,g=>by erw[Is]at h g;let#[a,xs,rfl,_]:=h;cases g
 | .non,e,v,h,g=>by
  erw[Is]at h
  subst h;cases e <;> erw[Is]at g
  all_goals first | rfl | (let#[a,xs,q,_]:=g;cases q) | cases g
 | .bl _,e,v,h,g=>by
  erw[Is]at h
  subst h;cases e <;> erw[Is]at g
  all_goals first | (cases g;rfl) | (let#[a,xs,q,_]:=g;cases q) | cases g
 | .int _,e,v,h,g=>by
  erw[Is]at h
  subst h;cases e <;> erw[Is]at g
  all_goals first | (cases g;rfl) | (let#[a,xs,q,_]:=g;cases q) | cases g
 | .str _,e,v,h,g=>by
  erw[Is]at h
  subst h;cases e <;> erw[Is]at g
  all_goals first | (cases g;rfl) | (let#[a,xs,q,_]:=g;cases q) | cases g
theorem Yz(I:Inv X AG σ H s):∀(l m:List D) (vs:List V),Iss X.K H l vs->Iss X.K H m vs->l=m
 | [],[],_,_,_=>rfl
 | [],e::m,vs,h,g=>by
  erw[Iss]at h g
  subst h;let#[_,_,q,_]:=g;cases q
 | d::l,[],vs,h,g=>by
  erw[Iss]at h g
  subst g;let#[_,_,q,_]:=h;cases q
 | d::l,e::m,vs,h,g=>by
  erw[Iss]at h g
  let#[v,r,rfl,h1,h2]:=h;let#[v',r',q,g1,g2]:=g;cases q;rw[Vh I d e v h1 g1,Yz I l m r h2 g2]
end
theorem uH:∀{xs:List V} {us:List rR} {j:Nat} {x:V},Vals xs us->xs[j]? = AC x->∃u,us[j]? = AC u/\RelV x u
 | _,_,0,_,.cons r t,h=>by cases h;exact#[_,rfl,r]
 | _,_,j+1,_,.cons r t,h=>uH (j:=j) t h
theorem xy(hl:Iss X.K H l xs)(hm:Iss X.K H m ys)(r:Vals xs its)(r':Vals ys its')(hn:wv l<n)(ih:∀(d e:D) (x y:V) (u v:rR),dpD d<n->Is X.K H d x->Is X.K H e y->RelV x u->RelV y v->SeqAt.EqAt A s u v (eqD d e)) :
  ∀j (h1:j<its.toArray.size) (h2:j<its'.toArray.size),SeqAt.EqAt A s its.toArray[j] its'.toArray[j] (eqD (l.getD j .non) (m.getD j .non)):=by
 intro j h1 h2;rw[aj]at h1 h2;have e1:=hl.len;have e2:=hm.len;have e3:=r.length;have e4:=r'.length;have g1:l[j]? = AC l[j]:=ak ⋯;have g2:m[j]? = AC m[j]:=ak ⋯;generalize l[j]=d at g1;generalize m[j]=e at g2;let#[x,hx,ix]:=hl.at g1;let#[y,hy,iy]:=hm.at g2;let#[u,hu,ru]:=uH r hx;let#[v,hv,rv]:=uH r' hy
 have q1:its.toArray[j]=u:=by
  have:=(AJ.mp hu).2;simpa using this
 have q2:its'.toArray[j]=v:=by
  have:=(AJ.mp hv).2;simpa using this
 rw[q1,q2,am,am,g1,g2];exact ih d e x y u v (cN (zah g1) hn) ix iy ru rv
theorem j1(I:Inv X AG σ H s):∀(n:Nat) (A:sD) (d e:D) (x y:V) (u v:rR),A.units+n<cLine->dpD d<n->Is X.K H d x->Is X.K H e y->RelV x u->RelV y v->SeqAt.EqAt A s u v (eqD d e):=by
 intro n
 induction n with
 | zero=>intro A d e x y u v _ h;exact y4 h (bv _)
 | succ n ih =>
  intro A d e x y u v hu hd hx hy rx ry;have hu1:A.units<cLine:=⋯;have huA:A.in1.units+n<cLine:=by show A.units+1+n<cLine;lia
  cases d with
  | lst l =>
   erw[Is]at hx
   let#[a,xs,rfl,h1,h2]:=hx;cases rx;let#[its,r,p,_]:=I.list h1
   cases e with
   | non=>erw[Is]at hy;subst hy;cases ry;exact SeqAt.EqAt.list_none p.isList hu1
   | bl b=>erw[Is]at hy;subst hy;cases ry;exact SeqAt.EqAt.list_bool b p.isList hu1
   | int b=>erw[Is]at hy;subst hy;let#[t,rfl]:=ry;exact SeqAt.EqAt.list_int b t p.isList hu1
   | str b=>erw[Is]at hy;subst hy;let#[t,rfl]:=ry;exact SeqAt.EqAt.list_str b t p.isList hu1
   | tup m =>
    erw[Is]at hy
    let#[b,ys,rfl,g1,g2]:=hy;cases ry;let#[its',r',p',_]:=I.tuple g1;exact SeqAt.EqAt.list_tuple p.isList p' hu1
   | lst m =>
    have hy':=hy
    erw[Is]at hy
    let#[b,ys,rfl,g1,g2]:=hy;cases ry;let#[its',r',p',_]:=I.list g1
    erw[dpD]at hd
    by_cases hab:a=b
    ·subst hab;have:=Vh I (.lst l) (.lst m) (.ref a) (by erw[Is];exact#[a,xs,rfl,h1,h2]) hy';rw[this,kZ];exact SeqAt.EqAt.same _
    ·refine .of_refs hab ?_
     erw[eqD]
     have L1:=h2.len;have L2:=g2.len;have L3:=r.length;have L4:=r'.length;by_cases hl:l.length=m.length
     ·have:=SeqAt.RcAt.lists (A:=A) p.isList p'.isList (by erw[aj];lia) hu1 (xy h2 g2 r r' (n:=n) ⋯ λd e x y u v q1 q2 q3 q4 q5=>ih A.in1 d e x y u v huA q1 q2 q3 q4 q5);rw[xM,hl,eF,beq_self_eq_true,cy];have e1:its.toArray.size=m.length:=by erw[aj];lia
      rw[e1]at this;exact this
     ·rw[xM,beq_eq_false_iff_ne.mpr hl,bM];exact SeqAt.RcAt.lists_lengths p.isList p'.isList (by rw[bne_iff_ne];erw[aj];lia) hu1
  | tup l =>
   erw[Is]at hx
   let#[a,xs,rfl,h1,h2]:=hx;cases rx;let#[its,r,p,_]:=I.tuple h1
   cases e with
   | non=>erw[Is]at hy;subst hy;cases ry;exact SeqAt.EqAt.tuple_none p hu1
   | bl b=>erw[Is]at hy;subst hy;cases ry;exact SeqAt.EqAt.tuple_bool b p hu1
   | int b=>erw[Is]at hy;subst hy;let#[t,rfl]:=ry;exact SeqAt.EqAt.tuple_int b t p hu1
   | str b=>erw[Is]at hy;subst hy;let#[t,rfl]:=ry;exact SeqAt.EqAt.tuple_str b t p hu1
   | lst m =>
    erw[Is]at hy
    let#[b,ys,rfl,g1,g2]:=hy;cases ry;let#[its',r',p',_]:=I.list g1;exact SeqAt.EqAt.tuple_list p p'.isList hu1
   | tup m =>
    have hy':=hy
    erw[Is]at hy
    let#[b,ys,rfl,g1,g2]:=hy;cases ry;let#[its',r',p',_]:=I.tuple g1
    erw[dpD]at hd
    by_cases hab:a=b
    ·subst hab;have:=Vh I (.tup l) (.tup m) (.ref a) (by erw[Is];exact#[a,xs,rfl,h1,h2]) hy';rw[this,kZ];exact SeqAt.EqAt.same _
    ·refine .of_refs hab ?_
     erw[eqD]
     have L1:=h2.len;have L2:=g2.len;have L3:=r.length;have L4:=r'.length;have:=SeqAt.RcAt.tuples (A:=A) p p' hu1 (xy h2 g2 r r' (n:=n) ⋯ λd e x y u v q1 q2 q3 q4 q5=>ih A.in1 d e x y u v huA q1 q2 q3 q4 q5);rw[xM]
     erw[aj]at this
     rw[<- L1,<- L2,L3,L4];exact this
  | non =>
   erw[Is]at hx
   subst hx
   cases e with
   | lst m =>
    erw[Is]at hy
    let#[b,ys,rfl,g1,g2]:=hy;cases rx;cases ry;let#[its',r',p',_]:=I.list g1;exact SeqAt.EqAt.none_list p'.isList hu1
   | tup m =>
    erw[Is]at hy
    let#[b,ys,rfl,g1,g2]:=hy;cases rx;cases ry;let#[its',r',p',_]:=I.tuple g1;exact SeqAt.EqAt.none_tuple p' hu1
   | _=>erw[Is]at hy;subst hy;exact Xj rx ry rfl rfl
  | bl c =>
   erw[Is]at hx
   subst hx
   cases e with
   | lst m =>
    erw[Is]at hy
    let#[b,ys,rfl,g1,g2]:=hy;cases rx;cases ry;let#[its',r',p',_]:=I.list g1;exact SeqAt.EqAt.bool_list _ p'.isList hu1
   | tup m =>
    erw[Is]at hy
    let#[b,ys,rfl,g1,g2]:=hy;cases rx;cases ry;let#[its',r',p',_]:=I.tuple g1;exact SeqAt.EqAt.bool_tuple _ p' hu1
   | _=>erw[Is]at hy;subst hy;exact Xj rx ry rfl rfl
  | int c =>
   erw[Is]at hx
   subst hx
   cases e with
   | lst m =>
    erw[Is]at hy
    let#[b,ys,rfl,g1,g2]:=hy;let#[t,rfl]:=rx;cases ry;let#[its',r',p',_]:=I.list g1;exact SeqAt.EqAt.int_list _ _ p'.isList hu1
   | tup m =>
    erw[Is]at hy
    let#[b,ys,rfl,g1,g2]:=hy;let#[t,rfl]:=rx;cases ry;let#[its',r',p',_]:=I.tuple g1;exact SeqAt.EqAt.int_tuple _ _ p' hu1
   | _=>erw[Is]at hy;subst hy;exact Xj rx ry rfl rfl
  | str c =>
   erw[Is]at hx
   subst hx
   cases e with
   | lst m =>
    erw[Is]at hy
    let#[b,ys,rfl,g1,g2]:=hy;let#[t,rfl]:=rx;cases ry;let#[its',r',p',_]:=I.list g1;exact SeqAt.EqAt.str_list _ _ p'.isList hu1
   | tup m =>
    erw[Is]at hy
    let#[b,ys,rfl,g1,g2]:=hy;let#[t,rfl]:=rx;cases ry;let#[its',r',p',_]:=I.tuple g1;exact SeqAt.EqAt.str_tuple _ _ p' hu1
   | _=>erw[Is]at hy;subst hy;exact Xj rx ry rfl rfl
def zem(K:rP):R2:=λx y H Q=>∃l m,((Is K H (.lst l) x/\Is K H (.lst m) y)\/(Is K H (.tup l) x/\Is K H (.tup m) y))/\wv l<50/\Q (.bl (qd l m)) H
def zej(K:rP):R2:=λx y H Q=>∃l m,((Is K H (.lst l) x/\Is K H (.lst m) y)\/(Is K H (.tup l) x/\Is K H (.tup m) y))/\wv l<50/\Q (.bl (!qd l m)) H
theorem zcm(hu:X.A.units+100<cLine):OpR X (rZ .Eq) (zem X.K):=by
 intros x y v u Q I rx ry h;let#[l,m,hh,hd,q]:=h;have hu1:X.A.units<cLine:=⋯;have huA:X.A.in1.units+50<cLine:=by show X.A.units+1+50<cLine;lia
 rcases hh with ⟨hx,hy⟩ | ⟨hx,hy⟩
 ·erw[Is]at hx hy
  let#[a,xs,rfl,h1,h2]:=hx;let#[b,ys,rfl,g1,g2]:=hy;cases rx;cases ry;let#[its,r,p,_]:=I.list h1;let#[its',r',p',_]:=I.list g1;have L1:=h2.len;have L2:=g2.len;have L3:=r.length;have L4:=r'.length;by_cases hl:l.length=m.length
  ·have:=SeqAt.RcAt.lists (A:=X.A) p.isList p'.isList (by erw[aj];lia) hu1 (xy h2 g2 r r' (n:=50) hd λd e x y u v q1 q2 q3 q4 q5=>j1 I 50 X.A.in1 d e x y u v huA q1 q2 q3 q4 q5);have e1:its.toArray.size=m.length:=by erw[aj];lia
   rw[e1]at this;rw[xM,hl,eF,beq_self_eq_true,cy]at q;exact this X.prog X.w X.xe _ #[.bl _,H,I,rfl,q]
  ·rw[xM,beq_eq_false_iff_ne.mpr hl,bM]at q;exact SeqAt.RcAt.lists_lengths p.isList p'.isList (by rw[bne_iff_ne];erw[aj];lia) hu1 X.prog X.w X.xe _ #[.bl _,H,I,rfl,q]
 ·erw[Is]at hx hy
  let#[a,xs,rfl,h1,h2]:=hx;let#[b,ys,rfl,g1,g2]:=hy;cases rx;cases ry;let#[its,r,p,_]:=I.tuple h1;let#[its',r',p',_]:=I.tuple g1;have L1:=h2.len;have L2:=g2.len;have L3:=r.length;have L4:=r'.length;have:=SeqAt.RcAt.tuples (A:=X.A) p p' hu1 (xy h2 g2 r r' (n:=50) hd λd e x y u v q1 q2 q3 q4 q5=>j1 I 50 X.A.in1 d e x y u v huA q1 q2 q3 q4 q5)
  erw[aj]at this
  rw[xM,<- L1,<- L2,L3,L4]at q;exact this X.prog X.w X.xe _ #[.bl _,H,I,rfl,q]
theorem Vc(hu:X.A.units+100<cLine):OpR X (rZ .NotEq) (zej X.K):=by
 intros x y v u Q I rx ry h;let#[l,m,hh,hd,q]:=h;have hu1:X.A.units<cLine:=⋯;have huA:X.A.in1.units+50<cLine:=by show X.A.units+1+50<cLine;lia
 rcases hh with ⟨hx,hy⟩ | ⟨hx,hy⟩
 ·erw[Is]at hx hy
  let#[a,xs,rfl,h1,h2]:=hx;let#[b,ys,rfl,g1,g2]:=hy;cases rx;cases ry;let#[its,r,p,_]:=I.list h1;let#[its',r',p',_]:=I.list g1;have L1:=h2.len;have L2:=g2.len;have L3:=r.length;have L4:=r'.length;by_cases hl:l.length=m.length
  ·have:=SeqAt.RcNeAt.lists (A:=X.A) p.isList p'.isList (by erw[aj];lia) hu1 (xy h2 g2 r r' (n:=50) hd λd e x y u v q1 q2 q3 q4 q5=>j1 I 50 X.A.in1 d e x y u v huA q1 q2 q3 q4 q5);have e1:its.toArray.size=m.length:=by erw[aj];lia
   rw[e1]at this;rw[xM,hl,eF,beq_self_eq_true,cy]at q;exact this X.prog X.w X.xe _ #[.bl _,H,I,rfl,q]
  ·rw[xM,beq_eq_false_iff_ne.mpr hl,bM]at q;exact SeqAt.RcNeAt.lists_lengths p.isList p'.isList (by rw[bne_iff_ne];erw[aj];lia) hu1 X.prog X.w X.xe _ #[.bl _,H,I,rfl,q]
 ·erw[Is]at hx hy
  let#[a,xs,rfl,h1,h2]:=hx;let#[b,ys,rfl,g1,g2]:=hy;cases rx;cases ry;let#[its,r,p,_]:=I.tuple h1;let#[its',r',p',_]:=I.tuple g1;have L1:=h2.len;have L2:=g2.len;have L3:=r.length;have L4:=r'.length;have:=SeqAt.RcNeAt.tuples (A:=X.A) p p' hu1 (xy h2 g2 r r' (n:=50) hd λd e x y u v q1 q2 q3 q4 q5=>j1 I 50 X.A.in1 d e x y u v huA q1 q2 q3 q4 q5)
  erw[aj]at this
  rw[xM,<- L1,<- L2,L3,L4]at q;exact this X.prog X.w X.xe _ #[.bl _,H,I,rfl,q]
end
theorem Qa(l m:List Int):qd (l.map D.int) (m.map D.int)=decide (l=m):=by
 induction l generalizing m with
 | nil=>cases m <;> simp [qd]
 | cons a l ih =>
  cases m with
  | nil=>simp [qd]
  | cons b m =>
   erw[aw,qd,eqD,ih m]
   by_cases h1:a=b
   ·subst h1;by_cases h2:l=m
    ·simp [h2]
    ·simp [h2]
   ·simp [h1]
theorem Vx(l:List Int):wv (l.map D.int)=0:=by
 induction l with
 | nil=>rfl
 | cons a l ih=>erw[aw,wv,dpD,ih];rfl
abbrev CNx(n i:Nat)(Pv:Nat->List V->Hp->Prop)(AI:List V)(H:Hp):Prop:=∃m',m'<n - i/\(m'=n - (i+1)/\i+1<=n/\Pv (i+1) AI H)
def CNx.mk(hi:i<n)(h:Pv (i+1) AI H):CNx n i Pv AI H:=#[n - (i+1),⋯,rfl,hi,h]
def WI(J:It)(g:TG)(tt:TT)(te:TE)(own:Nat)(ix:())(σ:St)(H1:Hp)(Q:VK)(D:rQ):Prop:=∃W:Nat->Nat->List V->Hp->Prop,(∃m,W 0 m [] (upd H1 D (.lst []))) /\
 ∀i m AI H',W i m AI H'->(J.stop i H'/\Q (.ref D) H')\/(J.go i H'/\∀x H2,J.yld i H' x H2->g x (ue σ own ix) H2 λσ3 H3=>xC (ue σ own ix) σ3/\tt σ3 H3 λb H4=>if b=AE then
  te σ3 H4 λv H5=>H5 D=AC (.lst AI)/\AI.length<rO/\∃m',m'<m/\W (i+1) m' (AI ++ [v]) (upd H5 D (.lst (AI ++ [v])))
  else ∃m',m'<m/\W (i+1) m' AI H4)
def CompR(lo:Int)(n:Nat)(g:TG)(tt:TT)(te:TE)(own:Nat)(ix:())(σ:St)(H1:Hp)(Q:VK)(D:rQ):Prop:=WI (Itr lo n) g tt te own ix σ H1 Q D
def CompL(K:rP)(a:rQ)(g:TG)(tt:TT)(te:TE)(own:Nat)(ix:())(σ:St)(H1:Hp)(Q:VK)(D:rQ):Prop:=WI (Itl K a) g tt te own ix σ H1 Q D
def CompS(x:rV)(g:TG)(tt:TT)(te:TE)(own:Nat)(ix:())(σ:St)(H1:Hp)(Q:VK)(D:rQ):Prop:=WI (Its x) g tt te own ix σ H1 Q D
def JE : jz (zaC ta) g tt te own ix σ H Q=ta σ H λvs H1=>∃j:Int,vs=[.int j]/\-(2 ^ 62)<=j/\j<2 ^ 62/\∀D,H1 D=AD->CompR 0 j.toNat g tt te own ix σ H1 Q D:=rfl
def zb9{K:rP}:jz (KD K tl) g tt te own ix σ H Q=tl σ H λx H1=>∃a,x=.ref a/\(∃xs,SqL K H1 a xs)/\∀D,H1 D=AD->CompL K a g tt te own ix σ H1 Q D:=rfl
def zbh : jz (zdj tl) g tt te own ix σ H Q=tl σ H λv H1=>∃x,v=.str x/\∀D,H1 D=AD->CompS x g tt te own ix σ H1 Q D:=rfl
section
variable{g:TG}{tt:TT}{te:TE}{own:Nat}{ix:()}{σ:St}{H1:Hp}{Q:VK}{D:rQ}
theorem CompR.by{lo:Int}(Pv:Nat->List V->Hp->Prop)(h0:Pv 0 [] (upd H1 D (.lst [])))(hs:∀i AI H',i<n->Pv i AI H'->g (.int (lo+i)) (ue σ own ix) H' λσ3 H3=>xC (ue σ own ix) σ3/\tt σ3 H3 λb H4=>if b=AE then
   te σ3 H4 λv H5=>H5 D=AC (.lst AI)/\AI.length<rO/\CNx n i Pv (AI ++ [v]) (upd H5 D (.lst (AI ++ [v])))else CNx n i Pv AI H4) (hd:∀AI H',Pv n AI H'->Q (.ref D) H'):CompR lo n g tt te own ix σ H1 Q D:=by
 refine#[λi m AI H=>m=n - i/\i<=n/\Pv i AI H,#[n,by simp,aJ _,h0],?_];rintro i m AI H' ⟨rfl,hi,p⟩;by_cases hlt:i<n
 ·refine .inr #[hlt,λx H2 y=>?_];let#[e,y]:=y;subst e y;exact hs i AI _ hlt p
 ·have e:i=n:=⋯;subst e;exact .inl #[ah _,hd AI H' p]
theorem CompL.by{K:rP}(Pv:Nat->List V->Hp->Prop)(h0:Pv 0 [] (upd H1 D (.lst [])))(hl:∀i AI H',i<=xs.length->Pv i AI H'->SqL K H' a xs)(hs:∀i x AI H',xs[i]? = AC x->Pv i AI H'->g x (ue σ own ix) H' λσ3 H3=>xC (ue σ own ix) σ3/\tt σ3 H3 λb H4=>if b=AE then
   te σ3 H4 λv H5=>H5 D=AC (.lst AI)/\AI.length<rO/\CNx xs.length i Pv (AI ++ [v]) (upd H5 D (.lst (AI ++ [v])))else CNx xs.length i Pv AI H4) (hd:∀AI H',Pv xs.length AI H'->Q (.ref D) H'):CompL K a g tt te own ix σ H1 Q D:=by
 refine#[λi m AI H=>m=xs.length - i/\i<=xs.length/\Pv i AI H,#[xs.length,by simp,aJ _,h0],?_];rintro i m AI H' ⟨rfl,hi,p⟩;have q:=hl i AI H' hi p;by_cases hlt:i<xs.length
 ·refine .inr #[#[xs,xs[i],q,by simp [hlt]],λx H2 y=>?_];let#[e,y]:=y;subst e;exact hs i x AI _ (y xs q) p
 ·have e:i=xs.length:=⋯;subst e;exact .inl #[#[xs,q,ah _],hd AI H' p]
theorem CompS.by(Pv:Nat->List V->Hp->Prop)(h0:Pv 0 [] (upd H1 D (.lst [])))(hs:∀i c AI H',l[i]? = AC c->Pv i AI H'->g ⇑[c] (ue σ own ix) H' λσ3 H3=>xC (ue σ own ix) σ3/\tt σ3 H3 λb H4=>if b=AE then
   te σ3 H4 λv H5=>H5 D=AC (.lst AI)/\AI.length<rO/\CNx l.length i Pv (AI ++ [v]) (upd H5 D (.lst (AI ++ [v])))else CNx l.length i Pv AI H4) (hd:∀AI H',Pv l.length AI H'->Q (.ref D) H'):CompS (tx l) g tt te own ix σ H1 Q D:=by
 refine#[λi m AI H=>m=l.length - i/\i<=l.length/\Pv i AI H,#[l.length,by simp,aJ _,h0],?_];rintro i m AI H' ⟨rfl,hi,p⟩;by_cases hlt:i<l.length
 ·refine .inr #[hlt,λv H2 y=>?_];let#[e,c,hc,ev]:=y;subst e ev;exact hs i c AI _ hc p
 ·have e:i=l.length:=⋯;subst e;exact .inl #[rfl,hd AI H' p]
end
mutual section
theorem yx : xC (AD::r) (AC x::r):=#[rfl,λi v h=>by
 cases i with
 | zero=>cases h
 | succ i=>exact h]
def zJ(h1:scope.kind=.function)(h2:scope.names.all (λy=>y.2 != .cell)=AE)(h3:scope.names.all (λy=>y.2 != .local || scope.names.lookup y.1 == AC .local)=AE)(h4:scope.names.all (λy=>y.2 != .free || sc.names.lookup y.1 == AC .cell)=AE)(hsc:X.env.scope=sc)(h5:own.all (λy=>scope.names.lookup y == AC .local)=AE)(h6:caps.all (λy=>scope.names.lookup y == AC .free)=AE)(h7:ix.map (λi=>X.N[i]?)=caps.map AC):jV X scope own caps ix:=by
 refine#[h1,λy hy=>?_,λy hy e=>?_,λy hy=>?_,λy hy=>?_,λy hy=>?_,h7]
 ·have:=AQ.mp h2 y hy;simpa using this
 ·have:=AQ.mp h3 y hy;rw[e]at this;simpa using this
 ·have:=AQ.mp h4 _ hy;have:=by simpa using this
  refine .inl ?_;show X.env.scope.names.lookup y=AC .cell;rw[hsc];exact this
 ·have:=AQ.mp h5 y hy;simpa using this
 ·have:=AQ.mp h6 y hy;simpa using this
def kG(l:List α){a b:Int}(h0:0<=a)(h1:a<=b)(h2:b<=l.length):cut l (AC a) (AC b)=(l.drop a.toNat).take (b - a).toNat:=by let#[m,rfl]:=bD h0;let#[n,rfl]:=bD (by lia:0<=b);unfold cut;rw[HT.sIx_nat,HT.sIx_nat,bV ⋯,bV ⋯];have:((n:Int) - (m:Int)).toNat=n - m:=⋯;rw[this];rfl
def wl(r:Room k A):A.units+100<cLine:=by have:=r.un;lia
def K8{K:rP}(h:(Is K H (.lst l) x/\Is K H (.lst m) y)\/(Is K H (.tup l) x/\Is K H (.tup m) y))(hd:wv l<50)(q:Q (.bl (qd l m)) H):zem K x y H Q:=#[l,m,h,hd,q]
def YN{K:rP}(h:(Is K H (.lst l) x/\Is K H (.lst m) y)\/(Is K H (.tup l) x/\Is K H (.tup m) y))(hd:wv l<50)(q:Q (.bl (!qd l m)) H):zej K x y H Q:=#[l,m,h,hd,q]
def zc1(t u:TS):TS:=λD σ H=>∃R:St->Hp->Prop,t { D with nx:=R } σ H/\∀σ' H',R σ' H'->u D σ' H'
theorem zh{st:si}{rest:List si}(h1:PS X st t)(h2:PSs X rest u):PSs X (st::rest) (zc1 t u):=by
 intros D I h;let#[R,h,hr]:=h;refine sX (thn (h1 AG s σ H { D with nx:=R } I h) λf s1 q=>?_)
 cases f with
 | next =>
  let#[σ',H',I',q]:=q;exact h2 AG s1 σ' H' D I' (hr _ _ q)
 | ret v=>exact q
 | brk=>exact q
 | cont=>exact q
def J3{D:Zn}(R:St->Hp->Prop)(h:t { D with nx:=R } σ H)(hr:∀σ' H',R σ' H'->u D σ' H'):zc1 t u D σ H:=#[R,h,hr]
def zj{D:Zn}(R:St->Hp->Prop)(h:t { D with nx:=R } σ H)(hr:∀G:St->Hp->Prop,G=u D->∀σ' H',R σ' H'->G σ' H'):zc1 t u D σ H:=#[R,h,hr _ rfl]
def nm4{α β γ δ:Type}{P R:α->β->γ->δ->Prop}{B:α->β->γ->δ->Prop}(h:∀G:α->β->γ->δ->Prop,G=B->∀a b c d,P a b c d->R a b c d->G a b c d):∀a b c d,P a b c d->R a b c d->B a b c d:=h _ rfl
def nm3{α β γ:Type}{P R:α->β->γ->Prop}{B:α->β->γ->Prop}(h:∀G:α->β->γ->Prop,G=B->∀a b c,P a b c->R a b c->G a b c):∀a b c,P a b c->R a b c->B a b c:=h _ rfl
def zy(h:Same H H')(e:H a=AD):Same H (upd H' a o):=λb u q=>by
 rw[zk (zD q e)];exact h b u q
def ForL.by{K:rP}{D:Zn}(Pv:Nat->St->Hp->Prop)(h0:Pv 0 σ H)(hl:∀i σ H,i<=xs.length->Pv i σ H->SqL K H a xs)(hs:∀i x σ H,xs[i]? = AC x->Pv i σ H->g x σ H λσ2 H2=>tb { D with nx:=Pv (i+1),ct:=Pv (i+1),bk:=D.nx } σ2 H2)(hd:∀σ H,Pv xs.length σ H->D.nx σ H):ForL K a g tb D σ H:=QV Pv h0 hl hs hd
def zel{A B:Prop}(h:B):if AE=AF then A else B:=by rw[y9 ∅];exact h
def zd8(K:rP)(a:rQ)(n:Nat)(g:TG)(tt:TT)(te:TE)(own:Nat)(ix:())(σ:L2.St)(H1:Hp)(Q:VK)(D:rQ):Prop:=WI (Irv K a n) g tt te own ix σ H1 Q D
def zca{K:rP}:jz (zeP K ta) g tt te own ix σ H Q=ta σ H λvs H1=>∃a xs,vs=[.ref a]/\SqL K H1 a xs/\∀D,H1 D=AD->zd8 K a xs.length g tt te own ix σ H1 Q D:=rfl
def zdq : zV 0 (AC v::σ) H Q=Q v H:=rfl
def zdu : zV 1 (a0::AC v::σ) H Q=Q v H:=rfl
def zdF : zV 2 (a0::a1::AC v::σ) H Q=Q v H:=rfl
def zd1 : zV 3 (a0::a1::a2::AC v::σ) H Q=Q v H:=rfl
def zeb : zV 4 (a0::a1::a2::a3::AC v::σ) H Q=Q v H:=rfl
def zdz : zV 5 (a0::a1::a2::a3::a4::AC v::σ) H Q=Q v H:=rfl
def zdr : zV 6 (a0::a1::a2::a3::a4::a5::AC v::σ) H Q=Q v H:=rfl
def zcZ : zV 7 (a0::a1::a2::a3::a4::a5::a6::AC v::σ) H Q=Q v H:=rfl
def zed : zV 8 (a0::a1::a2::a3::a4::a5::a6::a7::AC v::σ) H Q=Q v H:=rfl
def zdJ : zV 9 (a0::a1::a2::a3::a4::a5::a6::a7::a8::AC v::σ) H Q=Q v H:=rfl
def KH : zV 10 (a0::a1::a2::a3::a4::a5::a6::a7::a8::a9::AC v::σ) H Q=Q v H:=rfl
def KJ : zV 11 (a0::a1::a2::a3::a4::a5::a6::a7::a8::a9::a10::AC v::σ) H Q=Q v H:=rfl
def zbZ{p:Bool->Prop}:(∃k,V.bl b=V.bl k/\p k)=p b:=propext #[λ⟨_,h,q⟩=>by cases h;exact q,λq=>#[_,rfl,q]]
def Kc{p:Int->Prop}:(∃k,V.int b=V.int k/\p k)=p b:=propext #[λ⟨_,h,q⟩=>by cases h;exact q,λq=>#[_,rfl,q]]
def JM{p:rV->Prop}:(∃k,V.str b=V.str k/\p k)=p b:=propext #[λ⟨_,h,q⟩=>by cases h;exact q,λq=>#[_,rfl,q]]
def J7{p:rQ->Prop}:(∃k,V.ref b=V.ref k/\p k)=p b:=propext #[λ⟨_,h,q⟩=>by cases h;exact q,λq=>#[_,rfl,q]]
def zdQ : onInt (.int i) p=p i:=rfl
def zdE : onStr (.str i) p=p i:=rfl
def zc7 : onBl (.bl i) p=p i:=rfl
def zdn : onRef (.ref i) p=p i:=rfl
def zdi{K:rP}:zdB K (.bl b) H p=p b:=rfl
def Ki : onInt x p=∃k,x=.int k/\p k:=propext #[onInt.of,onInt.to]
def JO : onStr x p=∃k,x=.str k/\p k:=propext #[onStr.of,onStr.to]
def JI : onBl x p=∃k,x=.bl k/\p k:=propext #[onBl.of,onBl.to]
def JW : onRef x p=∃k,x=.ref k/\p k:=propext #[onRef.of,onRef.to]
def VO : zV i σ H Q=∃v,σ[i]? = AC (AC v)/\Q v H:=propext #[onSl.of,λ⟨v,h,q⟩=>by erw[zV,onSl,h];exact q]
def zaR : rEq (.int a) (.int b) H Q=Q (.bl (decide (a=b))) H:=rfl
def zaU : rEq (.str a) (.str b) H Q=Q (.bl (decide (a=b))) H:=rfl
def zaH : rNe (.int a) (.int b) H Q=Q (.bl (!decide (a=b))) H:=rfl
def K0 : rNe (.str a) (.str b) H Q=Q (.bl (!decide (a=b))) H:=rfl
def zai : Y6 (.int a) y H Q=onInt y λj=>Q (.int (a+j)) H:=rfl
def K2 : Y6 (.str a) y H Q=onStr y λj=>a.length+j.length<=rO/\Q (.str (a ++ j)) H:=rfl
def zaj : Y6 (.ref a) y H Q=zbe (.ref a) y H Q:=rfl
def zaT : QF (.int a) y H Q=onInt y λj=>CMul a j/\Q (.int (a * j)) H:=rfl
def zaA : QF (.str z) y H Q=onInt y λn=>0<=n/\n<=1000/\z.length<=1000/\Q ⇑(aK n.toNat (cs z)).flatten H:=rfl
def zdy : zcG (.int a) y H Q=onInt y λj=>Q (.bl (decide (a<j))) H:=rfl
def zdV : zcG (.str a) y H Q=onStr y λj=>Q (.bl (decide (cs a<cs j))) H:=rfl
def zc5 : zcM (.int a) y H Q=onInt y λj=>Q (.bl (decide (a<=j))) H:=rfl
def zdP : zcM (.str a) y H Q=onStr y λj=>Q (.bl (!(decide (cs j<cs a)))) H:=rfl
def zdx : zdN (.int a) y H Q=onInt y λj=>Q (.bl (decide (j<a))) H:=rfl
def zdD : zdN (.str a) y H Q=onStr y λj=>Q (.bl (decide (cs j<cs a))) H:=rfl
def zdK{K:rP}:rIx K (.ref a) y H Q=onInt y λi=>(∃xs,SqL K H a xs/\∃v,atI xs i=AC v/\Q v H)\/∃xs,SqT K H a xs/\∃v,atI xs i=AC v/\Q v H:=rfl
def zdZ{K:rP}:rIx K (.str z) y H Q=Km (.str z) y H Q:=rfl
def zaD{K:rP}{lo hi:Option Int}:zds K (.str z) lo hi H Q=(z.length<=rO/\Q ⇑(cut (cs z) lo hi) H):=rfl
def Kx{K:rP}{lo hi:Option Int}:zds K (.ref a) lo hi H Q=(∃xs,SqL K H a xs/\∀p,H p=AD->Q (.ref p) (upd H p (.lst (Xu xs lo hi)))):=rfl
def zaw{K:rP}:W7 K [.str z] H Q=(z.length<=rO/\Q (.int z.length) H):=rfl
def zaL{K:rP}:W7 K [.ref a] H Q=(∃n:Nat,((∃xs,SqL K H a xs/\n=xs.length)\/∃xs,SqT K H a xs/\n=xs.length)/\Q (.int n) H):=rfl
def Kp : zeE x .non H Q=Q (.bl (decide (x=.non))) H:=rfl
def zak : zbA x .non H Q=Q (.bl (!decide (x=.non))) H:=rfl
def zaJ : KC [.int i,.int j] H Q=Q (.int (if j > i then j else i)) H:=rfl
def K3 : V9 (.ref a) [y] H Q=(∃xs,H a=AC (.lst xs)/\xs.length<rO/\Q .non (upd H a (.lst (xs ++ [y])))):=rfl
def zeq{K:rP}:(tyV K "str" (.str z) H/\p)=p:=propext #[λh=>h.2,λh=>#[rfl,h]]
def zC(i:Nat)(hN:X.N.Nodup)(he:PE X e te)(hi:‹X.N[i]? = AC x›)(hx:‹Loc X.env.scope x›)(hs:‹swapsWith e (AC (.Name x pos')) pos.line X.env=pure AF›)(hf:‹X.fn x=AE\/X.env.scope.names.lookup x=AC .local›) :
  PS X (.Assign [.Name x pos'] e pos) (za6 te (yZ i)):=uL hN hi hx he hs hf
def zi(hr:IxR X r)(ha:PE X a ta)(hb:PE X b tb)(hs:Xi b:=by exact λZ Z=>rfl):PE X (.Subscript a b pos) (tOp r ta tb):=zc8 hr ha hb hs
def zG(hm:X.mg "len" = AD)(he:PE X e te)(hg:‹Gl X "len"›)(h1:‹rN [e] X.env=(AF,eval e X.env)::rN [] X.env›)(h2:‹(sf pos (rN [] X.env)).any (·.1)=AF›):PE X (.Call (.Name "len" p) [e] [] pos) (tCB (W7 X.K) (zE te yT)) :=
 yQ zdI hg hm PySem.boot_len (za he ze h1) (he:=h1) (hpl:=h2)
theorem Ub:∀{ys:List rV} {its:List rR},Vals (ys.map V.str) its->∃l:List (rV × Ad),its=strValues l/\l.map (·.1)=ys
 | [],_,.nil=>#[[],rfl,rfl]
 | y::ys,_,.cons r t=>by
  let#[tk,rfl]:=r;let#[l,e1,e2]:=Ub t;exact#[(y,tk)::l,by rw[e1];rfl,by rw[aw,e2]]
def zdd(K:rP):V->List V->Hp->VK->Prop:=λx xs H Q=>∃z p ys,x=.str z/\xs=[.ref p]/\SqL K H p (ys.map V.str)/\JoinOk z ys=AE/\Q (.str (Txt.join z ys)) H
def zcg:MtR X "str.join" (zdd X.K):=by intros x xs v us Q I rx rv h;let#[z,p,ys,rfl,rfl,hS,hok,q]:=h;let#[t,rfl]:=rx;let#[u,rfl,ru]:=wY rv;cases ru;let#[its,r,pl,_]:=I.list hS;let#[l,rfl,e]:=Ub r;exact PySem.SC.join pl.isList e hok λt' k=>#[.str _,H,I.tok _,#[_,rfl],q]
theorem kj:∀{bs:List Bool} {its:List rR} {i:Nat} {v:rR},Vals (bs.map V.bl) its->its[i]? = AC v->v=.bool (bs.getD i AF)
 | [],_,_,_,.nil,h=>by cases h
 | b::bs,_,0,v,.cons r t,h=>by
  cases r;cases h;rfl
 | b::bs,_,i+1,v,.cons r t,h=>kj (bs:=bs) (i:=i) t h
theorem VP(bs:List Bool):(aQ bs.length).all (λi=>bs.getD i AF)=bs.all id:=by
 induction bs with
 | nil=>rfl
 | cons b bs ih =>
  rw[au,dD,dg,eE,dg,<- ih];rfl
def zeJ(K:rP):List V->Hp->VK->Prop:=λxs H Q=>∃(p:rQ) (bs:List Bool),xs=[.ref p]/\SqL K H p (bs.map V.bl)/\Q (.bl (bs.all id)) H
def zam(hc:X.calm=AE):ww X (.builtin "all") (zeJ X.K):=by
 intros xs us Q I r h;let#[p,bs,rfl,hS,q]:=h;let#[u,rfl,ru]:=wY r;cases ru;let#[its,rv,pl,hz]:=I.list hS
 have hlen:its.length=bs.length:=by
  have:=rv.length;rw[aa]at this;exact this.symm
 have hh:X.A.in1.handled=AD:=I.ok.hd hc
 have hne:p≠s⁻¹:=by
  let#[o,n,e,_]:=pl;exact ay (ao e)
 let#[f0,f1,f2,f3,f4,f5]:=I.fpOk (H':=H) (ah _) (I.hok.fresh (ah _));have I1:=I.kept (t':=s.toks) (h':=s.heap.push { cls:=.type "list_iterator",data:=.fields (r8 [.ref p,.int 0 0]) }) λb o e=>ac _ e;refine call_all_walk (tB pl.isList ?_);refine#[s⁻¹,_,_,_,_,_,λi=>bs.getD i AF,rfl,Walks.list hh s⁻¹ p hne its.toArray,#[#[_,aB _ rfl,rfl,rfl],?_],?_,?_]
 ·let#[o,n,e,c,d,dt]:=pl;exact#[o,ac _ e,c,n,dt]
 ·intro i v s' Q' E' hv hq;have:=kj rv (i:=i) (v:=v) ↥hv;rw[this];exact su hq
 ·intro h' tk hk
  have e:(aQ its.toArray.size).all (λi=>bs.getD i AF)=bs.all id:=by
   rw[aj,hlen,VP]
  rw[e];refine#[.bl _,H,?_,rfl,q];exact I1.turned (t':=tk) (it:=s⁻¹) (λb o hb q=>hk b o ↥hb q) f0 f1 f3 f4 f5
def zbn(hfr:A.frames=AC (env0::outer))(hl:s.heap.FunFrames base (env0::outer))(hf:env0.frame=AC L)(he:env.frame=AC L)(hx:s.heap.get? x=AC (xob C dx t tb))(htb:Qv s.heap x tb)(h:∀h' T oT ts,h'.get? x=AC (xob C dx t (.ref T))->T≠x->(tb=.ref T\/s⁻¹<=T)->h'.get? T=AC oT->oT.data=.fields ts->3<ts.size ->
   (∀b o,b≠x->tb≠.ref b->b ∉ frs (env0::outer)->s.heap.get? b=AC o->h'.get? b=AC o)->(∀b o,b≠x->tb≠.ref b->s.heap.get? b=AC o->∃sl,h'.get? b=AC { o with slots:=sl })->Q Unit.unit { s with heap:=h' }) :
  rT M A (noteFrame (.ref x) env) Q E s:=by
 have land:∀(h1:sq) (T:rQ) (oT:tw) (ts:Array rR),h1.get? x=AC (xob C dx t (.ref T))->T≠x->(tb=.ref T\/s⁻¹<=T)->h1.get? T=AC oT->oT.data=.fields ts->3<ts.size ->
   (∀b o,b≠x->tb≠.ref b->b ∉ frs (env0::outer)->s.heap.get? b=AC o->h1.get? b=AC o)->(∀b o,b≠x->tb≠.ref b->s.heap.get? b=AC o->∃sl,h1.get? b=AC { o with slots:=sl }) ->
   Q Unit.unit { s with heap:=h1 }:=λh1 T oT ts e1 nT oldT e2 d2 z2 k1 k2=>h h1 T oT ts e1 nT oldT e2 d2 z2 k1 k2
 unfold noteFrame
 erw[he]
 refine rK (sr hx rfl (x:=tb) rfl ?_);rcases htb with rfl | ⟨T,oT,ts,rfl,nT,e2,d2,z2⟩
 ·rw[y9 ∅];refine kq hfr hl hf he hx λh' oT ts e1 ne e2 d2 z2 k1 k2=>land h' _ oT ts e1 ne (.inr (ah _)) e2 d2 z2 (λb o hb Z hbf e=>k1 b o hb hbf e) λb o hb Z e=>k2 b o hb e
 ·rw[y6 (show (r6 T != p9)=AE from by simp)];obtain⟨y,hy⟩:∃y,ts[3]? = AC y:=#[ts[3],by simp [z2]];refine rK (sr e2 d2 (x:=y) hy ?_);by_cases c:(y == rawInt L)=AE
  ·rw[y6 c];exact rL (land s.heap T oT ts hx nT (.inl rfl) e2 d2 z2 (λb o Z Z Z e=>e) λb o Z Z e=>#[o.slots,e])
  ·rw[y9 c];refine rK (sL e2 d2 z2 ?_);have oth:∀b,b≠T->(s.heap.update T (Obj.mapFields (·.setIfInBounds 3 p9))).get? b=s.heap.get? b:=λb hb=>ar _ _ (Ne.symm hb);have hl1:(s.heap.update T (Obj.mapFields (·.setIfInBounds 3 p9))).FunFrames base (env0::outer):=hl.of_keeps λb o hb hnf=>#[o,(oth b λq=>by rw[q,e2]at hb;cases hb;exact hnf ts d2).trans hb,rfl];have hsz:(s.heap.update T (Obj.mapFields (·.setIfInBounds 3 p9))).objs.size=s⁻¹:=cZ ..;refine kq (s:={ s with heap:=s.heap.update T (Obj.mapFields (·.setIfInBounds 3 p9)) }) hfr hl1 hf he ((oth x (Ne.symm nT)).trans hx) λh' oT' ts' e1 ne e2' d2' z2' k1 k2=>?_;refine land h' _ oT' ts' e1 ne (.inr (by rw[hsz];exact ah _)) e2' d2' z2' (λb o hb hbt hbf e=>k1 b o hb hbf ((oth b λq=>hbt (by rw[q])).trans e)) λb o hb hbt e=>k2 b o hb ((oth b λq=>hbt (by rw[q])).trans e)
def Inv.noted{tb:rR}(I1:Inv X AG σ H1 s1)(hst:X.stack=X.env::X.outer)(fx:wo X AG H1 x)(fT:∀T,tb=.ref T->wo X AG H1 T)(fT':wo X AG H1 T)(k1:∀b o,b≠x->tb≠.ref b->b ∉ frs (X.env::X.outer)->s1.heap.get? b=AC o->h'.get? b=AC o)(k2:∀b o,b≠x->tb≠.ref b->s1.heap.get? b=AC o->∃sl,h'.get? b=AC { o with slots:=sl }):Inv X AG σ H1 { s1 with heap:=h' }:=by
 have tbs:∀b,tb=.ref b->H1 b=AD:=λb hb=>(fT b hb).1
 have nch:∀b o,s1.heap.get? b=AC o->b ∉ (x::T::tbL tb)->b≠x/\tb≠.ref b:=λb o Z hb=>by
  refine#[λz=>hb (by simp [z]),λz=>hb ?_];rw[z];simp [tbL]
 have un:Un (frs X.stack) (x::T::tbL tb) H1 H1 s1.heap h':=by
  rw[hst];refine#[λb o e n hb hc=>?_,λb o e n hb hc=>?_,λb o e n Z=>n,λb o e hc=>?_,λb xs e=>e,λb o u e=>e,λb ps e=>#[#[],by rw[e];simp]]
  ·let#[a1,a2]:=nch b o e hc;exact k1 b o a1 a2 hb e
  ·let#[a1,a2]:=nch b o e hc;exact k2 b o a1 a2 e
  ·let#[a1,a2]:=nch b o e hc;let#[sl,q]:=k2 b o a1 a2 e;exact#[_,q]
 have hok:HOk X.prog X.w H1 h':=λb u e=>by
  refine (I1.hok b u e).stay (λc v hc q=>k1 c v ?_ ?_ ?_ q) (λZ q=>q) λZ Z q=>q
  ·rintro rfl;rcases hc with rfl | hc
   ·rw[fx.1]at e;cases e
   ·rw[fx.1]at hc;cases hc
  ·intro z;have:=tbs c z;rcases hc with rfl | hc
   ·rw[this]at e;cases e
   ·rw[this]at hc;cases hc
  ·intro z;rw[<- hst]at z;have:=I1.stkFree c z;rcases hc with rfl | hc
   ·rw[this]at e;cases e
   ·rw[this]at hc;cases hc
 exact I1.call' (s':={ s1 with heap:=h' }) rfl un hok I1.bare λb hb=>by
  have fb:wo X AG H1 b:=by
   rcases AM.mp hb with z | z
   ·rw[z];exact fx
   ·rcases AM.mp z with z | z
    ·rw[z];exact fT'
    ·cases tb with
     | ref b' =>
      have:b=b':=by simpa [tbL] using z
      rw[this];exact fT b' rfl
     | _=>simp [tbL]at z
  let#[_,a1,_,a3,a4,a5]:=fb;exact#[a3,a1,a4,a5]
def Ur(hst:X.stack=X.env::X.outer/\X.env.frame=AC X.env.locals)(hxe:XE X EX)(hc1:∀y c,cl.lookup y=AC c->X.env.cells.lookup y=AC c)(I3:Inv X AG σ H3 s3)(f3:∀b ∈ fp,wo X AG H3 b)(fl:zbW (yz X scope cl s3⁻¹ N AG s3 H3 fp xe) EX e s1)(hRE:∀m s' x,s'.heap.Ns s3⁻¹ m->(∀h',Heap.SameBut s3⁻¹ s'.heap h'->∀cenv:Am,cenv.locals=s3⁻¹->rT (model X.prog X.w) X.A (fJ "comprehension.variables-let-go" x cenv:Sem rR) (λZ Z=>False) X.xe { s' with heap:=h' })->RE x s') :
  notedBy (model X.prog X.w) X.A (compEnvC scope cl s3⁻¹ X.env) RE e s1:=by
 let#[pins',σ',H1,x,C,t,dx,tb,rfl,I1,ob,tr,fx,fT,q]:=fl
 have IX:Inv X AG σ H1 s1:=I3.call' (s':=s1) I1.os I1.base I1.hok I1.bare λb hb=>by
  let#[_,a1,a2,a3,a4,a5]:=f3 b hb;exact#[a3,a1,a4,a5]
 have up:∀b,wo (yz X scope cl s3⁻¹ N AG s3 H3 fp xe) pins' H1 b->wo X AG H1 b:=λb hb=>by
  let#[a0,a1,a2,a3,a4,a5]:=hb;rcases a3 with a3 | a3
  ·exact#[a0,(f3 b a3).2]
  ·exact I3.fpOk a3 a0
 have fx':=up x fx;have fT':∀T,tb=.ref T->wo X AG H1 T:=λT h=>up T (fT T h);have fr:X.A.frames=AC (X.env::X.outer):=by rw[<- hst.1];exact IX.ok.frames
 have ff:s1.heap.FunFrames X.base (X.env::X.outer):=by rw[<- hst.1];exact IX.stack
 let#[m,hm,_]:=I1.loc;have fC:wo X AG H1 s3⁻¹:=I3.fpOk (ah _) I1.free;refine zbn fr ff hst.2 hst.2 ob tr λh' T oT ts e1 nT oldT e2 d2 z2 k1 k2=>?_
 have fT2:wo X AG H1 T:=by
  rcases oldT with z | z
  ·exact fT' T z
  ·exact IX.fpOk z (IX.hok.fresh z)
 have I2:Inv X AG σ H1 { s1 with heap:=h' }:=Inv.noted IX hst.1 fx' fT' fT2 k1 k2;have hCx:s3⁻¹≠x:=λz=>fx.2.1 z.symm;have hCtb:tb≠.ref s3⁻¹:=λz=>(fT _ z).2.1 rfl;let#[oC,es,ep,hoC,rC]:=hm
 have hCT:T≠s3⁻¹:=by
  rcases oldT with z | z
  ·exact (fT T z).2.1
  ·exact bJ (aq (ao hoC) z)
 have hCf:s3⁻¹ ∉ frs (X.env::X.outer):=λz=>by
  rw[<- hst.1]at z;rcases AM.mp (IX.stkSub _ z)with y | y
  ·exact fC.2.1 y
  ·exact fC.2.2.1 y
 refine hRE m _ _ #[oC,es,ep,k1 _ _ hCx hCtb hCf hoC,rC] λh2 sb cenv hcenv=>?_;have I3':Inv X AG σ H1 { s1 with heap:=h2 }:=I2.turned (t':=s1.toks) (λb o hb e=>(sb.2 b hb).trans e) fC.1 fC.2.1 fC.2.2.2.1 fC.2.2.2.2.1 fC.2.2.2.2.2;have ob2:h2.get? x=AC (xob C dx t (.ref T)):=(sb.2 x (Ne.symm hCx)).trans e1;have oT2:h2.get? T=AC oT:=(sb.2 T hCT).trans e2;unfold fJ;refine rK (sr (s:={ s1 with heap:=h2 }) ob2 rfl (x:=.ref T) rfl ?_);rw[y9 (show ¬ (r6 T == p9)=AE from by simp)];unfold setFlight;refine rK (rK (sr (s:={ s1 with heap:=h2 }) ob2 rfl (x:=.ref T) rfl ?_));rw[y6 (show (r6 T != p9)=AE from by simp)];refine sL (s:={ s1 with heap:=h2 }) oT2 d2 z2 (wpAny_throw (hxe _ _ ?_));have d3:=Obj.data_mapFields d2 (·.setIfInBounds 3 (cenv.frame.elim p9 λf=>rawInt f))
 have I4:Inv X AG σ H1 { s1 with heap:=h2.update T (Obj.mapFields (·.setIfInBounds 3 (cenv.frame.elim p9 λf=>rawInt f))) } :=
  I3'.turned (t':=s1.toks) (λb o hb e=>(ar _ _ (Ne.symm hb)).trans e) fT2.1 fT2.2.1 fT2.2.2.2.1 fT2.2.2.2.2.1 fT2.2.2.2.2.2
 exact#[AG,σ,H1,x,C,t,dx,.ref T,rfl,I4,(ar _ _ nT).trans ob2,.inr #[T,_,_,rfl,nT,bj _ oT2 (Obj.isFreed_of_fields d3),d3,by simpa using z2],fx',λT' z=>by cases z;exact fT2,q]
end
open PySem.AutoSeq1 (wpAny_loadPart')
open MeetsSeq MeetsSeq2 MeetsSeq3 SeqRoads2 SeqAt
mutual section
def jg(op:As)(A:sD)(s:rS)(y x:rR)(b:Bool):Prop :=
 ∀(prog:rX) (w:sk) (E:rR->rS->Prop) (Q:rR->rS->Prop),Q (.bool b) s->rT (model prog w) A (richCompare op y x) Q E s
abbrev LtAt:=jg .Lt
def zbq:As->Nat->Nat->Bool
 | .Gt,m,n=>decide (n<m)
 | _,m,n=>decide (m<n)
def zes:As->Int
 | .Gt=>4
 | _=>0
def LG(op:As):Prop:=op=.Lt\/op=.Gt
def vV(op:As)(e t r:Nat->Bool)(m n:Nat):Prop:=∀i,i<=m->i<=n->r i=if i<m/\i<n then (if e i=AE then r (i+1)else t i)else zbq op m n
abbrev zc0:=vV .Lt
variable{op:As}
theorem UA(ho:LG op)(l b:rQ)(items AH:Array rR)(n n2:Nat)(dd dd2:Option rQ)(sl sl2:Array (Option rR))(e t r:Nat->Bool)(hr:vV op e t r items.size AH.size)(k:Nat) :
  ∀i:Nat,i<=items.size->i<=AH.size->items.size - i=k->Meets (Builtin.«list.__eq__.loop» #[[.ref l,.ref b,rawInt i,rawInt (zes op)],[]]) (λA R s=>s.heap.get? l=AC { cls:=.type "list",dict:=dd,data:=.seq items n,slots:=sl }/\s.heap.get? b=AC { cls:=.type "list",dict:=dd2,data:=.seq AH n2,slots:=sl2 } /\
    (∀j (h1:j<items.size) (h2:j<AH.size),EqAt A.in1 s items[j] AH[j] (e j))/\(∀j (h1:j<items.size) (h2:j<AH.size),e j=AF->jg op A.in1 s items[j] AH[j] (t j)) /\
    R (.ok (.ret (.bool (r i)))) s):=by
 rcases ho with rfl | rfl <;> erw[zes] <;> erw[vV,zbq]at hr
 all_goals
  induction k with
  | zero =>
   intro i b1 b2 hk prog w A R s h;let#[hp,g,d,tk,os]:=s;let#[hl,hb,he,ht,h]:=h;have hri:=hr i b1 b2;rw[y9 ⋯]at hri;rw[hri]at h
   wp_walk using wpAny_loadPart' hl,wpAny_loadPart' hb
   have hi1:items[((i:Nat):Int).toNat]? = AD:=by simp;lia
   rw[hi1]
   wp_walk using wpAny_loadPart' hl,wpAny_loadPart' hb
   exact h
  | succ k ih =>
   intro i b1 b2 hk prog w A R s h;let#[hp,g,d,tk,os]:=s;let#[hl,hb,he,ht,h]:=h;have hlt:i<items.size:=⋯;have hi1:items[((i:Nat):Int).toNat]? = AC items[i]:=by simp [hlt]
   have hc:((i:Int)+1)=((i+1:Nat):Int):=by push_cast;rfl
   have hri:=hr i b1 b2;by_cases hlt2:i<AH.size
   ·rw[y6 #[hlt,hlt2]]at hri;rw[hri]at h;have hi2:AH[((i:Nat):Int).toNat]? = AC AH[i]:=by simp [hlt2]
    wp_walk using wpAny_loadPart' hl,wpAny_loadPart' hb
    rw[hi1,hi2];refine rK (he i hlt hlt2 prog w _ _ ?_)
    cases hb':e i with
    | true =>
     rw[hb',y6 rfl]at h
     wp_walk
     rw[hc]
     exact#[plainId_quiet plain_eq_loop _,sI entry_eq_loop (by
      rw[Around.under_plainId plain_eq_loop _]
      exact ih (i+1) ⋯ ⋯ ⋯ prog w A R _ #[hl,hb,he,ht,h])]
    | false =>
     rw[hb',y9 az]at h
     wp_walk using wpAny_loadPart' hl,wpAny_loadPart' hb
     rw[hi1,hi2];refine rK (ht i hlt hlt2 hb' prog w _ _ ?_)
     wp_walk
     exact h
   ·rw[y9 ⋯]at hri;rw[hri]at h;have hi2:AH[((i:Nat):Int).toNat]? = AD:=by simp;lia
    wp_walk using wpAny_loadPart' hl,wpAny_loadPart' hb
    rw[hi1,hi2]
    wp_walk using wpAny_loadPart' hl,wpAny_loadPart' hb
    exact h
def Z4(ho:LG op)(l b:rQ)(items AH:Array rR)(n n2:Nat)(dd dd2:Option rQ)(sl sl2:Array (Option rR))(e t r:Nat->Bool)(hr:vV op e t r items.size AH.size) :
  Meets ((match op with | .Gt=>Builtin.«list.__gt__» | _=>Builtin.«list.__lt__») ⟨[.ref l,.ref b],[]⟩) (λA R s=>s.heap.get? l=AC { cls:=.type "list",dict:=dd,data:=.seq items n,slots:=sl }/\s.heap.get? b=AC { cls:=.type "list",dict:=dd2,data:=.seq AH n2,slots:=sl2 } /\
    (∀j (h1:j<items.size) (h2:j<AH.size),EqAt A.in1 s items[j] AH[j] (e j))/\(∀j (h1:j<items.size) (h2:j<AH.size),e j=AF->jg op A.in1 s items[j] AH[j] (t j)) /\
    R (.ok (.ret (.bool (r 0)))) s):=by
 rcases id ho with rfl | rfl
 all_goals
  intro prog w A R s h;let#[hp,g,d,tk,os]:=s;let#[hl,hb,he,ht,h]:=h;have f3:=AutoSeq1.sub_list_list
  wp_walk using wpAny_loadPart' hl,wpAny_loadPart' hb
  exact#[plainId_quiet plain_eq_loop _,sI entry_eq_loop (by
   rw[Around.under_plainId plain_eq_loop _]
   exact UA ho l b items AH n n2 dd dd2 sl sl2 e t r hr _ 0 (aJ _) (aJ _) rfl prog w A R _ #[hl,hb,he,ht,h])]
theorem jD(ho:LG op)(l b:rQ)(items AH:Array rR)(n n2:Nat)(dd dd2:Option rQ)(sl sl2:Array (Option rR))(e t r:Nat->Bool)(hr:vV op e t r items.size AH.size) :
  Meets ((match op with | .Gt=>Builtin.«tuple.__gt__» | _=>Builtin.«tuple.__lt__») ⟨[.ref l,.ref b],[]⟩) (λA R s=>s.heap.get? l=AC { cls:=.type "tuple",dict:=dd,data:=.seq items n,slots:=sl }/\s.heap.get? b=AC { cls:=.type "tuple",dict:=dd2,data:=.seq AH n2,slots:=sl2 } /\
    (∀j (h1:j<items.size) (h2:j<AH.size),EqAt A.in1 s items[j] AH[j] (e j))/\(∀j (h1:j<items.size) (h2:j<AH.size),e j=AF->jg op A.in1 s items[j] AH[j] (t j)) /\
    R (.ok (.ret (.bool (r 0)))) s):=by
 rcases ho with rfl | rfl <;> erw[vV,zbq]at hr
 all_goals
  refine .of_wp λprog w A R s h=>?_;let#[hp,g,d,tk,os]:=s;let#[hl,hb,he,ht,h]:=h;have f2:=AutoSeq1.sub_tuple_tuple;have hZ:(items.toList.zip AH.toList).length=min items.size AH.size:=by simp
  wp_walk using wpAny_loadPart' hl,wpAny_loadPart' hb,wpAny_forIn_list _ (λrest b s'=>b.1=AD/\s'=#[hp,g,d,tk,os]/\∃i,i<=min items.size AH.size/\rest=(items.toList.zip AH.toList).drop i /\
   R (.ok (.ret (.bool (r i)))) #[hp,g,d,tk,os]) _
  case turn =>
   rintro⟨y,x⟩ rest b s' ⟨hb',rfl,i,hi,hz,hR⟩
   have hlt:i<(items.toList.zip AH.toList).length:=by
    rcases eG i (items.toList.zip AH.toList).length with h' | h'
    ·exact h'
    ·rw[bw h']at hz;cases hz
   have hm:i<min items.size AH.size:=hZ ▸ hlt;have h1:i<items.size:=aq hm (Nat.min_le_left _ _);have h2:i<AH.size:=aq hm (Nat.min_le_right _ _);rw[aY hlt]at hz;injection hz with hyx hrest;have hy:y=items[i]:=by have:=congrArg Prod.fst hyx;simpa using this
   have hx:x=AH[i]:=by have:=congrArg Prod.snd hyx;simpa using this
   subst hy hx;have hri:=hr i ⋯ ⋯;rw[y6 #[h1,h2]]at hri;rw[hri]at hR;refine rK (he i h1 h2 prog w _ _ ?_)
   cases hy:e i with
   | true =>
    rw[hy,y6 rfl]at hR
    wp_walk
    exact#[rfl,rfl,i+1,⋯,hrest,hR]
   | false =>
    rw[hy,y9 az]at hR
    erw[e9,if_true]
    refine rK (Aj ?_);refine rK (ht i h1 h2 hy prog w _ _ ?_)
    wp_walk
    exact#[_,rfl,hR]
  case fin =>
   rintro⟨b1,b2⟩ s' ⟨hb',rfl,i,hi,hz,hR⟩;simp only at hb';subst hb'
   have hge:min items.size AH.size<=i:=by
    rcases eG i (items.toList.zip AH.toList).length with h' | h'
    ·rw[aY h']at hz;cases hz
    ·exact hZ ▸ h'
   have hri:=hr i ⋯ ⋯;rw[y9 ⋯]at hri;rw[hri]at hR
   wp_walk
   exact#[_,rfl,hR]
  case h =>
   exact#[rfl,rfl,0,aJ _,rfl,h]
def LtAt.lists(ho:LG op)(hl:s.heap.IsList l items)(hb:s.heap.IsList b AH)(hr:vV op e t r items.size AH.size)(hu:A.units<cLine)(he:∀j (h1:j<items.size) (h2:j<AH.size),EqAt A.in1 s items[j] AH[j] (e j))(ht:∀j (h1:j<items.size) (h2:j<AH.size),e j=AF->jg op A.in1 s items[j] AH[j] (t j)):jg op A s (.ref l) (.ref b) (r 0):=λprog w E Q h=>by
 let#[#[cls,dd,data,sl],h1,hc,n,hd]:=id hl;let#[#[cls2,dd2,data2,sl2],h2,hc2,n2,hd2]:=id hb;simp only at hc hd hc2 hd2;subst hc hd hc2 hd2;have z:Value.bool (r 0)≠Value.notImplemented/\Q (.bool (r 0)) s:=#[(λx=>nomatch x),h];rcases id ho with rfl | rfl
 ·exact richCompare_meets_room #[_,h1,rfl] #[_,h2,rfl] F.slot_list_lt F.entry_list_lt (F.args_list_lt_2 _ _) (Z4 ho l b items AH n n2 dd dd2 sl sl2 e t r hr) #[h1,h2,he,ht,z] hu
 ·exact richCompare_meets_room #[_,h1,rfl] #[_,h2,rfl] F.slot_list_gt F.entry_list_gt (F.args_list_gt_2 _ _) (Z4 ho l b items AH n n2 dd dd2 sl sl2 e t r hr) #[h1,h2,he,ht,z] hu
def LtAt.tuples(ho:LG op)(hl:s.heap.IsTuple l items)(hb:s.heap.IsTuple b AH)(hr:vV op e t r items.size AH.size)(hu:A.units<cLine)(he:∀j (h1:j<items.size) (h2:j<AH.size),EqAt A.in1 s items[j] AH[j] (e j))(ht:∀j (h1:j<items.size) (h2:j<AH.size),e j=AF->jg op A.in1 s items[j] AH[j] (t j)):jg op A s (.ref l) (.ref b) (r 0):=λprog w E Q h=>by
 let#[#[cls,dd,data,sl],h1,hc,n,hd]:=id hl;let#[#[cls2,dd2,data2,sl2],h2,hc2,n2,hd2]:=id hb;simp only at hc hd hc2 hd2;subst hc hd hc2 hd2;have z:Value.bool (r 0)≠Value.notImplemented/\Q (.bool (r 0)) s:=#[(λx=>nomatch x),h];rcases id ho with rfl | rfl
 ·exact richCompare_meets_room #[_,h1,rfl] #[_,h2,rfl] F.slot_tuple_lt F.entry_tuple_lt (F.args_tuple_lt_2 _ _) (jD ho l b items AH n n2 dd dd2 sl sl2 e t r hr) #[h1,h2,he,ht,z] hu
 ·exact richCompare_meets_room #[_,h1,rfl] #[_,h2,rfl] F.slot_tuple_gt F.entry_tuple_gt (F.args_tuple_gt_2 _ _) (jD ho l b items AH n n2 dd dd2 sl sl2 e t r hr) #[h1,h2,he,ht,z] hu
end
mutual
def okD:D->D->Prop
 | .int _,e=>match e with | .int _=>True | _=>False
 | .lst l,e=>match e with | .lst m=>Yd l m | _=>False
 | .tup l,e=>match e with | .tup m=>Yd l m | _=>False
 | _,_=>False
def Yd:List D->List D->Prop
 | d::l,m=>match m with | e::m=>okD d e/\Yd l m | []=>True
 | [],_=>True
end
mutual
noncomputable def ltD:D->D->Bool
 | .int a,e=>match e with | .int b=>decide (a<b) | _=>AF
 | .lst l,e=>match e with | .lst m=>kR l m | _=>AF
 | .tup l,e=>match e with | .tup m=>kR l m | _=>AF
 | _,_=>AF
noncomputable def kR:List D->List D->Bool
 | d::l,m=>match m with | e::m=>if eqD d e=AE then kR l m else ltD d e | []=>AF
 | [],m=>match m with | []=>AF | _::_=>AE
end
theorem Us(l m:List D):zc0 (λj=>eqD (l.getD j .non) (m.getD j .non)) (λj=>ltD (l.getD j .non) (m.getD j .non)) (λi=>kR (l.drop i) (m.drop i)) l.length m.length:=by
 intro i b1 b2
 erw[zbq]
 by_cases h:i<l.length/\i<m.length
 ·rw[y6 h,aY h.1,aY h.2,kR];rw[am,am,ak h.1,ak h.2];rfl
 ·rw[y9 h];by_cases h1:i<l.length
  ·have h2:¬ i<m.length:=λz=>h #[h1,z];rw[aY h1,bw (cF h2),kR]
   ·simp;lia
   all_goals simp
  ·rw[bw (cF h1)];by_cases h2:i<m.length
   ·rw[aY h2,kR];simp;lia
   ·rw[bw (cF h2),kR]
    ·simp;lia
    all_goals simp
mutual
theorem Wj:∀d e:D,eqD d e=eqD e d
 | .lst l,e=>by cases e <;> erw[eqD];exact qr l _
 | .tup l,e=>by cases e <;> erw[eqD];exact qr l _
 | .int _,e=>by cases e <;> erw[eqD] <;> exact fD
 | .str _,e=>by cases e <;> erw[eqD] <;> exact fD
 | .bl _,e=>by cases e <;> erw[eqD] <;> exact fD
 | .non,e=>by cases e <;> erw[eqD]
theorem qr:∀l m:List D,qd l m=qd m l
 | [],[]=>rfl
 | [],_::_=>by erw[qd]
 | _::_,[]=>by erw[qd]
 | d::l,e::m=>by erw[qd,Wj d e,qr l m]
end
mutual section
def cm:As->D->D->Bool
 | .Gt,d,e=>ltD e d
 | _,d,e=>ltD d e
def cms:As->List D->List D->Bool
 | .Gt,d,e=>kR e d
 | _,d,e=>kR d e
def Qd(ho:LG op)(l m:List D):vV op (λj=>eqD (l.getD j .non) (m.getD j .non)) (λj=>cm op (l.getD j .non) (m.getD j .non)) (λi=>cms op (l.drop i) (m.drop i)) l.length m.length:=by
 rcases ho with rfl | rfl
 ·exact Us l m
 ·intro i b1 b2;have h:=Us m l i b2 b1
  erw[zbq,cm,cms]at h ⊢
  rw[h,Wj (m.getD i .non)];by_cases q:i<l.length/\i<m.length
  ·rw[y6 q,y6 q.symm]
  ·rw[y9 q,y9 λz=>q z.symm]
theorem zcb:∀{l m:List D} {j:Nat} {d e:D},Yd l m->l[j]? = AC d->m[j]? = AC e->okD d e
 | d::l,e::m,0,_,_,h,q1,q2=>by
  cases q1;cases q2
  erw[Yd]at h
  exact h.1
 | d::l,e::m,j+1,_,_,h,q1,q2=>by
  erw[Yd]at h
  exact zcb (j:=j) h.2 q1 q2
theorem Wh{X:Cx}{H:Hp}{s:rS}(hl:Iss X.K H l xs)(hm:Iss X.K H m ys)(r:Vals xs its)(r':Vals ys its')(hn:wv l<n)(ok:Yd l m)(ih:∀(d e:D) (x y:V) (u v:rR),dpD d<n->okD d e->Is X.K H d x->Is X.K H e y->RelV x u->RelV y v->jg op A s u v (cm op d e)) :
  ∀j (h1:j<its.toArray.size) (h2:j<its'.toArray.size),jg op A s its.toArray[j] its'.toArray[j] (cm op (l.getD j .non) (m.getD j .non)):=by
 intro j h1 h2;rw[aj]at h1 h2;have e1:=hl.len;have e2:=hm.len;have e3:=r.length;have e4:=r'.length;have g1:l[j]? = AC l[j]:=ak ⋯;have g2:m[j]? = AC m[j]:=ak ⋯;generalize l[j]=d at g1;generalize m[j]=e at g2;let#[x,hx,ix]:=hl.at g1;let#[y,hy,iy]:=hm.at g2;let#[u,hu,ru]:=uH r hx;let#[v,hv,rv]:=uH r' hy
 have q1:its.toArray[j]=u:=by
  have:=(AJ.mp hu).2;simpa using this
 have q2:its'.toArray[j]=v:=by
  have:=(AJ.mp hv).2;simpa using this
 rw[q1,q2,am,am,g1,g2];exact ih d e x y u v (cN (zah g1) hn) (zcb ok g1 g2) ix iy ru rv
theorem zad(ho:LG op)(I:Inv X AG σ H s):∀(n:Nat) (A:sD) (d e:D) (x y:V) (u v:rR),A.units+n<cLine->dpD d<n->okD d e->Is X.K H d x->Is X.K H e y->RelV x u->RelV y v->jg op A s u v (cm op d e):=by
 intro n
 induction n with
 | zero=>intro A d e x y u v _ h;exact y4 h (bv _)
 | succ n ih =>
  intro A d e x y u v hu hd ok hx hy rx ry;have hu1:A.units<cLine:=⋯;have huA:A.in1.units+n<cLine:=by show A.units+1+n<cLine;lia
  cases d with
  | int a =>
   cases e with
   | int b =>
    erw[Is]at hx hy
    subst hx hy;let#[t,rfl]:=rx;let#[t',rfl]:=ry;rcases ho with rfl | rfl
    ·exact λprog w E Q h=>lt_int h
    ·exact λprog w E Q h=>gt_int h
   | _=>erw[okD]at ok
  | lst l =>
   cases e with
   | lst m =>
    erw[Is]at hx hy
    let#[a,xs,rfl,h1,h2]:=hx;let#[b,ys,rfl,g1,g2]:=hy;cases rx;cases ry;let#[its,r,p,_]:=I.list h1;let#[its',r',p',_]:=I.list g1
    erw[dpD]at hd
    erw[okD]at ok
    have L1:=h2.len;have L2:=g2.len;have L3:=r.length;have L4:=r'.length;have st:=Qd ho l m;rw[show l.length=its.toArray.size by erw[aj];lia,show m.length=its'.toArray.size by erw[aj];lia]at st
    have r0:=LtAt.lists ho (A:=A) p.isList p'.isList st hu1 (xy h2 g2 r r' (n:=n) ⋯ λd e x y u v q1 q2 q3 q4 q5=>j1 I n A.in1 d e x y u v huA q1 q2 q3 q4 q5)
     (λj h1 h2 Z=>Wh (n:=n) (A:=A.in1) (by assumption) g2 r r' ⋯ ok (λd e x y u v q1 q2 q3 q4 q5 q6=>ih A.in1 d e x y u v huA q1 q2 q3 q4 q5 q6) j h1 h2)
    rcases id ho with rfl | rfl <;> exact r0
   | _=>erw[okD]at ok
  | tup l =>
   cases e with
   | tup m =>
    erw[Is]at hx hy
    let#[a,xs,rfl,h1,h2]:=hx;let#[b,ys,rfl,g1,g2]:=hy;cases rx;cases ry;let#[its,r,p,_]:=I.tuple h1;let#[its',r',p',_]:=I.tuple g1
    erw[dpD]at hd
    erw[okD]at ok
    have L1:=h2.len;have L2:=g2.len;have L3:=r.length;have L4:=r'.length;have st:=Qd ho l m;rw[show l.length=its.toArray.size by erw[aj];lia,show m.length=its'.toArray.size by erw[aj];lia]at st
    have r0:=LtAt.tuples ho (A:=A) p p' st hu1 (xy h2 g2 r r' (n:=n) ⋯ λd e x y u v q1 q2 q3 q4 q5=>j1 I n A.in1 d e x y u v huA q1 q2 q3 q4 q5)
     (λj h1 h2 Z=>Wh (n:=n) (A:=A.in1) (by assumption) g2 r r' ⋯ ok (λd e x y u v q1 q2 q3 q4 q5 q6=>ih A.in1 d e x y u v huA q1 q2 q3 q4 q5 q6) j h1 h2)
    rcases id ho with rfl | rfl <;> exact r0
   | _=>erw[okD]at ok
  | non=>cases e <;> erw[okD]at ok
  | bl _=>cases e <;> erw[okD]at ok
  | str _=>cases e <;> erw[okD]at ok
def JU(I:Inv X AG σ H s):∀(n:Nat) (A:sD) (d e:D) (x y:V) (u v:rR),A.units+n<cLine->dpD d<n->okD d e->Is X.K H d x->Is X.K H e y->RelV x u->RelV y v->LtAt A s u v (ltD d e):=zad (.inl rfl) I
def zcU(K:rP):R2:=λx y H Q=>∃d e,Is K H d x/\Is K H e y/\dpD d<50/\okD d e/\Q (.bl (ltD d e)) H
theorem Wn(hu:X.A.units+100<cLine):OpR X (rZ .Lt) (zcU X.K):=by intros x y v u Q I rx ry h;let#[d,e,hx,hy,hd,ok,q]:=h;exact JU I 50 X.A d e x y v u ⋯ hd ok hx hy rx ry X.prog X.w X.xe _ #[.bl _,H,I,rfl,q]
def VI{K:rP}(h1:Is K H d x)(h2:Is K H e y)(h3:dpD d<50)(h4:okD d e)(q:Q (.bl (ltD d e)) H):zcU K x y H Q:=#[d,e,h1,h2,h3,h4,q]
def ltI:List Int->List Int->Bool
 | a::l,m=>match m with | b::m=>if a=b then ltI l m else decide (a<b) | []=>AF
 | [],m=>match m with | []=>AF | _::_=>AE
theorem qC:∀(l m:List Int),Yd (l.map D.int) (m.map D.int)
 | [],_=>by erw[aL,Yd]
 | _::_,[]=>by erw[aL,aw,Yd]
 | a::l,b::m=>by erw[aw,Yd,okD,true_and];exact qC l m
theorem ZI:∀(l m:List Int),kR (l.map D.int) (m.map D.int)=ltI l m
 | [],[]=>by erw[aL,kR,ltI]
 | [],_::_=>by erw[aL,aw,kR,ltI]
 | _::_,[]=>by erw[aL,aw,kR,ltI]
 | a::l,b::m=>by
  erw[aw,kR,ltI,eqD,ltD,ZI l m,beq_iff_eq]
end
mutual
def xf:D->Prop
 | .lst _=>False
 | .tup l=>z9 l
 | _=>True
def z9:List D->Prop
 | []=>True
 | d::l=>xf d/\z9 l
end
def kA{K:rP}(hp:H p=AC (.lst ys))(h:SqT K H a xs):SqT K (upd H p (.lst zs)) a xs:=by
 rcases h with (h | ⟨o,h⟩) | h
 ·refine .inl (.inl ?_);rw[zk (λe=>by rw[e,hp]at h;cases h)];exact h
 ·refine .inl (.inr #[o,?_]);rw[zk (λe=>by rw[e,hp]at h;cases h)];exact h
 ·exact .inr h
mutual
theorem Is.updL{K:rP}(hp:H p=AC (.lst ys)):∀(d:D) (v:V),xf d->Is K H d v->Is K (upd H p (.lst zs)) d v
 | .non,v,_,h=>by erw[Is]at h ⊢;exact h
 | .bl b,v,_,h=>by erw[Is]at h ⊢;exact h
 | .int b,v,_,h=>by erw[Is]at h ⊢;exact h
 | .str b,v,_,h=>by erw[Is]at h ⊢;exact h
 | .lst l,v,f,h=>by erw[xf]at f
 | .tup l,v,f,h=>by
  erw[Is]at h ⊢
  erw[xf]at f
  let#[a,xs,e1,e2,e3]:=h;exact#[a,xs,e1,kA hp e2,Iss.updL hp l xs f e3]
theorem Iss.updL{K:rP}(hp:H p=AC (.lst ys)):∀(l:List D) (vs:List V),z9 l->Iss K H l vs->Iss K (upd H p (.lst zs)) l vs
 | [],vs,_,h=>by erw[Iss]at h ⊢;exact h
 | d::l,vs,f,h=>by
  erw[Iss]at h ⊢
  erw[z9]at f
  let#[v,r,e1,e2,e3]:=h;exact#[v,r,e1,Is.updL hp d v f.1 e2,Iss.updL hp l r f.2 e3]
end
mutual section
theorem wH:∀{l:List D},(∀d ∈ l,xf d)->z9 l
 | [],_=>by erw[z9]
 | d::l,h=>by erw[z9];exact#[h d (by simp),wH λe he=>h e (by simp [he])]
theorem uq : ∀{l:List D},(∀d ∈ l,dpD d<=n)->wv l<=n
 | [],_=>by erw[wv];lia
 | d::l,h=>by
  have h1:=h d (by simp);have h2:=uq (n:=n) (l:=l) λe he=>h e (by simp [he])
  erw[wv]
  lia
def LsA(K:rP)(H:Hp)(a:rQ)(ds:List D):Prop:=∃xs,H a=AC (.lst xs)/\Iss K H ds xs
def LsA.same{K:rP}{H H':Hp}{a:rQ}{ds:List D}(h:LsA K H a ds)(e:Same H H'):LsA K H' a ds:=let #[xs,h1,h2]:=h; #[xs,e _ _ h1,Iss.same e _ _ h2]
def LsA.is{K:rP}(h:LsA K H a ds):Is K H (.lst ds) (.ref a):=by
 let#[xs,h1,h2]:=h
 erw[Is]
 exact#[a,xs,rfl,SqL.of h1,h2]
def LsA.nil{K:rP}:LsA K (upd H a (.lst [])) a []:=#[[],zc,by erw[Iss]]
def LsA.snoc{K:rP}(h1:H a=AC (.lst xs))(h2:Iss K H ds xs)(f:z9 ds)(fd:xf d)(hv:Is K H d v):LsA K (upd H a (.lst (xs ++ [v]))) a (ds ++ [d]) :=
 #[_,zc,Iss.append (Iss.updL h1 _ _ f h2) (by erw[Iss];exact#[v,[],rfl,Is.updL h1 _ _ fd hv,rfl])]
def Is.tup{K:rP}{H:Hp}{p:rQ}{vs:List V}{ds:List D}(hp:H p=AD)(h:Iss K H ds vs):Is K (upd H p (.tup vs)) (.tup ds) (.ref p):=by
 erw[Is]
 exact#[p,vs,rfl,SqT.of zc,Iss.same (zd hp) _ _ h]
abbrev dS(l:()):D:=⇑l
abbrev zF:=() × ()
def dR(r:zF):D:=.tup [dS r.1,dS r.2]
def zbM{K:rP}(h:Is K H (dR r) v):∃p,v=.ref p/\SqT K H p [⇑r.1,⇑r.2]:=by
 erw[dR,Is,Iss]at h
 let#[a,xs,e,hs,v1,r1,rfl,rfl,v2,r2,rfl,rfl,rfl]:=h;exact#[a,e,hs]
def zab{K:rP}(h:SqT K H p [⇑l,⇑m]):Is K H (dR (l,m)) (.ref p):=by
 erw[dR,Is,Iss]
 exact#[p,_,rfl,h,_,_,rfl,rfl,_,_,rfl,rfl,rfl]
def U8(r:zF):xf (dR r):=by erw[dR,xf,z9,and_self]
theorem zdv(r:zF):dpD (dR r)<=1:=by erw[dR,dpD,wv];lia
def va(rs:List zF):z9 (rs.map dR):=wH λd h=>by let#[r,_,rfl]:=AN.mp h;exact U8 r
def zcu(rs:List zF):wv (rs.map dR)<=1:=uq λd h=>by let#[r,_,rfl]:=AN.mp h;exact zdv r
abbrev N3:=Nat × Nat × Nat
def d3(t:N3):D:=.tup [.int (t.1:Nat),.int (t.2.1:Nat),.int (t.2.2:Nat)]
def zdl{K:rP}(h:Is K H (d3 t) v):∃p,v=.ref p/\SqT K H p [.int (t.1:Nat),.int (t.2.1:Nat),.int (t.2.2:Nat)]:=by
 erw[d3,Is,Iss]at h
 let#[a,xs,e,hs,v1,r1,rfl,rfl,v2,r2,rfl,rfl,v3,r3,rfl,rfl,rfl]:=h;exact#[a,e,hs]
def zcy{K:rP}:Iss K H [.int (i:Nat),.int (j:Nat),.int (k:Nat)] [.int (i:Nat),.int (j:Nat),.int (k:Nat)]:=by
 erw[Iss,Is]
 exact#[_,_,rfl,rfl,_,_,rfl,rfl,_,_,rfl,rfl,rfl]
def Ks(t:N3):xf (d3 t):=by erw[d3,xf,z9,and_self]
def Wm(rs:List N3):z9 (rs.map d3):=wH λd h=>by let#[r,_,rfl]:=AN.mp h;exact Ks r
theorem Iss.get{K:rP}{j:Nat}(h:Iss K H l vs)(q:vs[j]? = AC v):∃d,l[j]? = AC d/\Is K H d v:=by have hj:=(AJ.mp q).1;have hl:=h.len;have g1:l[j]? = AC l[j]:=ak ⋯;let#[x,hx,ix]:=h.at g1;rw[q]at hx;cases hx;exact#[_,g1,ix]
def Iss.getR{K:rP}{rs:List zF}{j:Nat}(h:Iss K H (rs.map dR) vs)(q:vs[j]? = AC v):∃r p,rs[j]? = AC r/\v=.ref p/\SqT K H p [⇑r.1,⇑r.2]:=by let#[d,e,i]:=h.get q;rw[ax]at e;let#[r,hr,rfl]:=AO.mp e;let#[p,e1,e2]:=zbM i;exact#[r,p,hr,e1,e2]
def Iss.get3{K:rP}{rs:List N3}{j:Nat}(h:Iss K H (rs.map d3) vs)(q:vs[j]? = AC v):∃r p,rs[j]? = AC r/\v=.ref p/\SqT K H p [.int (r.1:Nat),.int (r.2.1:Nat),.int (r.2.2:Nat)]:=by let#[d,e,i]:=h.get q;rw[ax]at e;let#[r,hr,rfl]:=AO.mp e;let#[p,e1,e2]:=zdl i;exact#[r,p,hr,e1,e2]
theorem JQ(l:List α)(h0:0<=a)(h1:a<=b):cut l (AC a) (AC b)=(l.drop a.toNat).take (b - a).toNat:=by
 by_cases h2:b<=l.length
 ·exact kG l h0 h1 h2
 ·let#[m,rfl]:=bD h0;let#[n,rfl]:=bD (by lia:0<=b);unfold cut;rw[HT.sIx_nat,HT.sIx_nat,cf (by lia:l.length<=n)];have e:(((n:Nat):Int) - ((m:Nat):Int)).toNat=n - m:=⋯;have e2:((m:Nat):Int).toNat=m:=rfl;rw[e,e2,bc (l:=l.drop m) (by rw[aG];lia)];by_cases hm:m<=l.length
  ·rw[bV hm,bc (by rw[aG];lia)]
  ·rw[cf ⋯,bw (ah _),bw ⋯,fE]
end
open Classical in
section
variable{X:Cx}{AG:List (rQ × tw)}{σ:L2.St}{H:Hp}{s:rS}
open Classical in
end
mutual section
structure DM(P:rX)(w:sk)(K:rP)(mg:rV->Option rR)(base:sq)(CX:CXT)(k:Nat)(C:rQ)(m:rV)(ps:List rV)(sp:Sp):Prop where
 ex:∃f fd,zbV K C m f/\FnOk P w K mg base CX k f fd ps sp/\Binds K fd ps []
structure DMk(P:rX)(w:sk)(K:rP)(mg:rV->Option rR)(base:sq)(CX:CXT)(k:Nat)(C:rQ)(ps:List rV)(sp:Sp):Prop where
 ex:∃f fd,Mk K C f/\FnOk P w K mg base CX k f fd ps sp/\Binds K fd ps []
def me0(D:DM X.prog X.w X.K X.mg X.base CX0 k C m ps sp)(c:Cls X.K C)(hr:Room j X.A)(he:PE X o ta)(ht:eval (.Call (.Attribute o m apos) [] [] pos) X.env=(do
      let ov <- eval o X.env
      standAt apos.atName
      let (f,first) <- holding [ov] (getMethod ov m pl)
      callWith pos f first (sf pos (rN [] X.env)) (sM pos (sw [] X.env))):=by rfl) (hj:‹k<=j›):PE X (.Call (.Attribute o m apos) [] [] pos) (jn C m sp [] E0 ta yT):=by let#[f,fd,hm,F,hb]:=D.ex;exact Q0 he c hm F (hr.mono hj) hb .nil kW ht
def me1(D:DM X.prog X.w X.K X.mg X.base CX0 k C m ps sp)(c:Cls X.K C)(hr:Room j X.A)(he:PE X o ta)(ha:PA X (e::es) t)(hst:‹rN (e::es) X.env=(AF,eval e X.env)::rN es X.env›)(hpl:‹(sf pos (rN es X.env)).any (·.1)=AF›)(ht:eval (.Call (.Attribute o m apos) (e::es) [] pos) X.env=(do
      let ov <- eval o X.env
      standAt apos.atName
      let (f,first) <- holding [ov] (getMethod ov m pl)
      callWith pos f first (sf pos (rN (e::es) X.env)) (sM pos (sw [] X.env))):=by rfl) (hj:‹k<=j›):PE X (.Call (.Attribute o m apos) (e::es) [] pos) (jn C m sp [] E0 ta t):=by let#[f,fd,hm,F,hb]:=D.ex;exact Uq he c hm F (hr.mono hj) hb .nil kW ha hst hpl ht
def zcD(hx:XE X E)(D:DM X.prog X.w X.K X.mg X.base (CXx X.prog X.w) k C m ps sp)(c:Cls X.K C)(hr:Room j X.A)(he:PE X o ta)(ha:PA X (e::es) t)(hst:‹rN (e::es) X.env=(AF,eval e X.env)::rN es X.env›)(hpl:‹(sf pos (rN es X.env)).any (·.1)=AF›)(ht:eval (.Call (.Attribute o m apos) (e::es) [] pos) X.env=(do
      let ov <- eval o X.env
      standAt apos.atName
      let (f,first) <- holding [ov] (getMethod ov m pl)
      callWith pos f first (sf pos (rN (e::es) X.env)) (sM pos (sw [] X.env))):=by rfl) (hj:‹k<=j›):PE X (.Call (.Attribute o m apos) (e::es) [] pos) (jn C m sp [] E ta t):=by let#[f,fd,hm,F,hb]:=D.ex;exact Uq he c hm F (hr.mono hj) hb .nil (kc hx) ha hst hpl ht
def mkC(D:DMk X.prog X.w X.K X.mg X.base CX0 k C ps sp)(hr:Room j X.A)(hg:Gl X x)(hm:X.mg x=AC (.ref C))(ha:PA X (e::es) t)(hdb:‹(x ==("__debug__" : rV))=AF›)(he:‹rN (e::es) X.env=(AF,eval e X.env)::rN es X.env›)(hpl:‹(sf pos (rN es X.env)).any (·.1)=AF›) (hj:‹k+1<=j›):PE X (.Call (.Name x p) (e::es) [] pos) (Vl C sp [] E0 t):=by let#[f,fd,M,F,hb]:=D.ex;exact UG M F (hr.mono hj) hg hm hb .nil kW ha hdb he hpl
def zQ(Fam:rQ->Prop)(m:rV)(sp:rQ->Sp)(dvs:List V)(E:XK)(ta:TE)(t:TA):TE:=λσ H Q=>ta σ H λx H1=>∃C a dx fs,Fam C/\x=.ref a/\H1 a=AC (.ins C dx fs)/\fs.lookup m=AD /\
 t σ H1 λvs H2=>sp C (x::(vs ++ dvs)) H2 Q E
structure DMF(P:rX)(w:sk)(K:rP)(mg:rV->Option rR)(base:sq)(CX:CXT)(k:Nat)(Fam:rQ->Prop)(m:rV)(ps:List rV)(sp:rQ->Sp):Prop where
 ex:∀C,Fam C->Cls K C/\DM P w K mg base CX k C m ps (sp C)
def zeZ(D:DMF X.prog X.w X.K X.mg X.base CX0 k Fam m ps sp)(hr:Room j X.A)(he:PE X o ta)(ht:eval (.Call (.Attribute o m apos) [] [] pos) X.env=(do
      let ov <- eval o X.env
      standAt apos.atName
      let (f,first) <- holding [ov] (getMethod ov m pl)
      callWith pos f first (sf pos (rN [] X.env)) (sM pos (sw [] X.env))):=by rfl) (hj:‹k<=j›):PE X (.Call (.Attribute o m apos) [] [] pos) (zQ Fam m sp [] E0 ta yT):=by intros Q I h;refine bT (pl:=pl) (thn (he AG s σ H _ I h) λu s1=>el5 λx H1 I1 rx q_z=>?_) ht;let#[C,a,dx,fs,fam,ex,ea,l,q]:=q_z;subst ex;obtain rfl:u=r6 a:=rx;let#[c,#[f,fd,hm,F,hb]]:=D.ex C fam;refine xT I1 ea c hm l ?_;exact fG (first:=[.ref a]) I1.kIn hm.kp (qy (us:=[.ref a]) (vs:=[.ref a]) F (hr.mono hj) hb .nil kW I1 (.cons rfl .nil) q)
def zcN(D:DMF X.prog X.w X.K X.mg X.base CX0 k Fam m ps sp)(hr:Room j X.A)(he:PE X o ta)(ha:PA X (e::es) t)(hst:‹rN (e::es) X.env=(AF,eval e X.env)::rN es X.env›)(hpl:‹(sf pos (rN es X.env)).any (·.1)=AF›)(ht:eval (.Call (.Attribute o m apos) (e::es) [] pos) X.env=(do
      let ov <- eval o X.env
      standAt apos.atName
      let (f,first) <- holding [ov] (getMethod ov m pl)
      callWith pos f first (sf pos (rN (e::es) X.env)) (sM pos (sw [] X.env))):=by rfl) (hj:‹k<=j›):PE X (.Call (.Attribute o m apos) (e::es) [] pos) (zQ Fam m sp [] E0 ta t):=by intros Q I h;refine bT (pl:=pl) (thn (he AG s σ H _ I h) λu s1=>el5 λx H1 I1 rx q_z=>?_) ht;let#[C,a,dx,fs,fam,ex,ea,l,q]:=q_z;subst ex;obtain rfl:u=r6 a:=rx;let#[c,#[f,fd,hm,F,hb]]:=D.ex C fam;refine xT I1 ea c hm l ?_;refine aT (first:=[.ref a]) (h₀:=X.base) I.ok.mod.kin hm.kp (thn (ha pos AG s1 σ H1 _ I1 q) λus s2=>el5 λvs H2 I2 r q2=>#[I2.kIn,?_]) hst hpl;exact qy (us:=.ref a::us) (vs:=.ref a::vs) F (hr.mono hj) hb .nil kW I2 (.cons rfl r) q2
theorem XO:∀{ns:List Int} {its:List rR},Vals (ns.map V.int) its->Ar its ns
 | [],_,.nil=>.nil
 | n::ns,_,.cons r t=>by
  let#[tk,rfl]:=r;exact .cons n tk (XO t)
def xI(K:rP):List V->Hp->VK->Prop:=λxs H Q=>∃(p:rQ) (ns:List Int),xs=[.ref p]/\SqL K H p (ns.map V.int)/\Q (.int ns.sum) H
def zbE(hc:X.calm=AE):ww X (.builtin "sum") (xI X.K):=by
 intros xs us Q I r h;let#[p,ns,rfl,hS,q]:=h;let#[u,rfl,ru]:=wY r;cases ru;let#[its,rv,pl,hz]:=I.list hS;have hh:X.A.handled=AD:=I.ok.hd hc;have ia:=XO rv;let#[ps,e]:=ia.allInts.items
 have en:ps.toList.map (·.1)=ns:=by
  rw[<- nums_intItems,<- e];exact ia.numsOf
 refine sum_intListG hh (by rw[<- e];exact pl.isList) λh' tk t' hk=>?_;rw[preSum_eq,bc (by simp),en];exact#[.int ns.sum,H,I.kept hk,#[_,rfl],q]
theorem WN(l:()):((p7 AD AD (-1) (tx l).length).filterMap ((tx l).cps[·]?))=l.reverse:=by
 rw[zP,picked_rev];have e:(tx l).cps=l.toArray:=rfl;rw[e];apply List.ext_getElem?;intro i
 have h:((aQ l.length).map λk=>l.length - 1 - k).filterMap (l.toArray[·]?)=(aQ l.length).map λk=>l.getD (l.length - 1 - k) 0:=by
  rw[filterMap_get,List.map_map]
  ·refine cG λk Z=>?_;show l.toArray.getD (l.length - 1 - k) 0=_;simp [Array.getD,List.getD];split <;> simp_all
  ·intro i hi;let#[k,hk,rfl]:=AN.mp hi;have:=AR.mp hk;show _<l.toArray.size;rw[aj];lia
 rw[h];by_cases hi:i<l.length
 ·rw[fg hi,ax,List.getElem?_range hi];show AC (l.getD (l.length - 1 - i) 0)=_;rw[am,ak ⋯];rfl
 ·rw[fh (by simp;lia),fh (by simp;lia)]
def xL(te ts:TE):TE:=λσ H Q=>te σ H λx H1=>ts σ H1 λy H2=>y=.int (-1)/\∃l:(),x=⇑l/\l.length<=rO/\Q ⇑l.reverse H2
end
section
variable{X:Cx}{e st:sG}{te ts:TE}{pos p2:Az}
def KB(he:PE X e te)(hs:PE X st ts):PE X (.Subscript e (.Slice AD AD (AC st) p2) pos) (xL te ts):=by
 intros Q I h;refine Al (thn (he AG s σ H _ I h) λv s1=>el5 λx H1 I1 r1 q1=>?_);refine wpAny_Slice ?_;rw[evalPart_none];refine rL (rL ?_);rw[evalPart_some];refine thn (hs AG s1 σ H1 _ I1 q1) λu s2=>el5 λy H2 I2 r2 q_z=>?_;let#[ey,l,ex,hl,q2]:=q_z;subst ey ex;let#[t,rfl]:=r1;let#[tk,rfl]:=r2;have I4:Inv X AG σ H2 { s2 with heap:=s2.heap.push { cls:=.type "slice",data:=.fields (r8 [.none,.none,.int (-1) tk]) } }:=I2.kept (t':=s2.toks) λb ob q=>ac _ q;show rT (model X.prog X.w) X.A (Ah e (.Slice AD AD (AC st) p2) (.str (tx l) t) (.ref s2⁻¹)) (EP X AG σ Q) X.xe { s2 with heap:=s2.heap.push { cls:=.type "slice",data:=.fields (r8 [.none,.none,.int (-1) tk]) } };refine tail_any (ops:=[.ref s2⁻¹,.str (tx l) t]) (typeIs_str _ (tx l) t) slot_str_getitem.lookup ?_ (by with_unfolding_all rfl);refine tQ (l:=AD) (u:=AD) (st:=AC (-1,tk)) (Heap.IsSliceOf.new ..) rfl ?_;unfold sliceMade slicePicked
 have hc':¬ (((AC ((-1:Int),tk)).map (·.1)).getD 1 == 1 && (p7 ((AD:Option (Int × Ad)).map (·.1)) ((AD:Option (Int × Ad)).map (·.1)) (((AC ((-1:Int),tk)).map (·.1)).getD 1) (tx l).length).length ==(tx l).length)=AE:=by
  have:(((AC ((-1:Int),tk)).map (·.1)).getD 1 == 1)=AF:=rfl;rw[this];simp
 rw[y9 hc']
 have e:Str.mk ((p7 AD AD (-1) (tx l).length).filterMap ((tx l).cps[·]?)).toArray=tx l.reverse:=by
  rw[WN]
 show (Str.mk ((p7 AD AD (-1) (tx l).length).filterMap ((tx l).cps[·]?)).toArray).length<=rO/\_;rw[e];refine#[by rw[zP,cb];exact hl,?_]
 exact#[⇑l.reverse,H2,I4.tok _,#[_,by
  show Value.str (Str.mk ((p7 AD AD (-1) (tx l).length).filterMap ((tx l).cps[·]?)).toArray) _=_
  rw[e]],q2]
end
mutual section
structure zeM(K:rP)(C:rQ)(m:rV)(f:rQ):Prop where
 sg:cz K (.ref C) "__getattribute__" = AC (AC (.builtin "type.__getattribute__"))
 rd:gb K C (.type "type")=AE
 fc:gc K (.ref C) (.type "type") m=AC (.val (.ref f))
 kp:aE K (.ref f)=AE
structure DC(P:rX)(w:sk)(K:rP)(mg:rV->Option rR)(base:sq)(CX:CXT)(k:Nat)(C:rQ)(m:rV)(ps:List rV)(sp:Sp):Prop where
 ex:∃f fd,zeM K C m f/\FnOk P w K mg base CX k f fd ps sp/\Binds K fd ps []
def zaY(D:DC X.prog X.w X.K X.mg X.base CX0 k C m ps sp)(hr:Room j X.A)(hg:Gl X x)(hm:X.mg x=AC (.ref C))(ha:PA X (e::es) t)(hdb:‹(x ==("__debug__" : rV))=AF›)(hst:‹rN (e::es) X.env=(AF,eval e X.env)::rN es X.env›)(hpl:‹(sf pos (rN es X.env)).any (·.1)=AF›)(ht:eval (.Call (.Attribute (.Name x p) m apos) (e::es) [] pos) X.env=(do
      let ov <- eval (.Name x p) X.env
      standAt apos.atName
      let (f,first) <- holding [ov] (getMethod ov m pl)
      callWith pos f first (sf pos (rN (e::es) X.env)) (sM pos (sw [] X.env))):=by rfl) (hj:‹k<=j›):PE X (.Call (.Attribute (.Name x p) m apos) (e::es) [] pos) (xt sp [] E0 t):=by let#[f,fd,cm,F,hb]:=D.ex;have hn:PE X (.Name x p) (tC (.ref C)):=ug hg hm rfl hdb;intros Q I h;refine bT (pl:=pl) (thn (hn AG s σ H (λy H1=>y=.ref C/\H1=H) I #[rfl,rfl]) λu s1=>el5 λy H1 I1 ry q_z=>?_) ht;let#[ey,eH]:=q_z;subst ey eH;obtain rfl:u=r6 C:=ry;refine PySem.W.method_cls I1.kIn cm.sg (PySem.W.cls_value I1.kIn cm.rd cm.fc rfl ?_);refine aT (first:=[]) (h₀:=X.base) I.ok.mod.kin cm.kp (thn (ha pos AG _ σ H1 _ (I1.tok _) h) λus s2=>el5 λvs H2 I2 r q2=>#[I2.kIn,?_]) hst hpl;exact qy (us:=us) (vs:=vs) F (hr.mono hj) hb .nil kW I2 r q2
def zM:V->List V->Hp->VK->Prop:=λx xs H Q=>∃(z y:rV) (i:Nat),x=.str z/\xs=[.str y]/\PySem.Txt.find z y=(i:Int)/\Q (.int (i:Nat)) H
theorem U4:MtR X "str.index" zM:=by
 intros x xs v us Q I rx rv h;let#[z,y,i,rfl,rfl,hf,q]:=h;let#[t,rfl]:=rx;let#[u,rfl,t',rfl]:=wY rv;unfold PySem.Txt.find at hf
 cases ho:Builtin.Str.occurrences z y 0 z.length 1 with
 | nil=>rw[ho]at hf;dsimp only at hf;lia
 | cons a r =>
  rw[ho]at hf;have:a=i:=by dsimp only at hf;lia
  subst this;exact PySem.SC.index ho #[.int _,H,I.tok _,#[_,rfl],q]
def vh{h h':sq}(y:h.IsStrIter a ty x t i)(e:∀o,h.get? a=AC o->h'.get? a=AC o):h'.IsStrIter a ty x t i:=let #[o,ho,r]:=y; #[o,e o ho,r]
def ud{h h':sq}(y:h.IsTupleIter a t i)(e:∀o,h.get? a=AC o->h'.get? a=AC o):h'.IsTupleIter a t i:=let #[o,ho,r]:=y; #[o,e o ho,r]
def J4{h h':sq}(y:h.IsTuple a xs)(e:∀o,h.get? a=AC o->h'.get? a=AC o):h'.IsTuple a xs:=let #[o,ho,r]:=y; #[o,e o ho,r]
def sit(x:rV):sy x="str_ascii_iterator"\/sy x="str_iterator":=by
 unfold sy;split
 ·exact .inl rfl
 ·exact .inr rfl
def jb(hit:s.heap.IsStrIter it (sy x) x t i)(hx:x.cps[i]? = AC c)(hQ:∀h',h'.IsStrIter it (sy x) x t (i+1)->Heap.SameBut it s.heap h'->Q (.str ⟨#[c]⟩ s.toks) { s with heap:=h',toks:=s.toks+1 }) :
  rT (model prog w) A (Builtin.SmallTypes.nextOf (.ref it)) Q E s:=by
 rcases sit x with e | e
 ·rw[e]at hit hQ;exact wpAny_nextOf_ascii_item hit hx hQ
 ·rw[e]at hit hQ;exact wpAny_nextOf_wide_item hit hx hQ
def jp(hh:A.handled=AD)(hit:s.heap.IsStrIter it (sy x) x t i)(hx:x.cps[i]? = AD)(hE:∀h' e,Heap.ExtBut it s.heap h'->(∃o,h'.get? e=AC o/\o.cls=.type "StopIteration")->E (.ref e) { s with heap:=h' }) :
  rT (model prog w) A (Builtin.SmallTypes.nextOf (.ref it)) Q E s:=by
 rcases sit x with e | e
 ·rw[e]at hit;exact wpAny_nextOf_ascii_end hh hit hx hE
 ·rw[e]at hit;exact wpAny_nextOf_wide_end hh hit hx hE
def qo(hit:s.heap.IsTupleIter it t i)(ht:s.heap.IsTuple t items)(hx:items[i]? = AC x)(hQ:∀h',h'.IsTupleIter it t (i+1)->Heap.SameBut it s.heap h'->Q x { s with heap:=h' }) :
  rT (model prog w) A (Builtin.SmallTypes.nextOf (.ref it)) Q E s:=by
 let#[o,ho,hc,hd]:=id hit;let#[ol,hol,_,nl,hdl]:=ht;unfold Builtin.SmallTypes.nextOf
 refine rK (wpAny_callSpecial?_slot (name:=ck "__next__") hit.typeIs F.slot_tuple_iterator_next
  (tR F.slot_tuple_iterator_next hit.typeIs F.entry_tuple_iterator_next ?_ (F.args_tuple_iterator_next_1 _)))
 show rT _ _ (field (.ref it) 0 >>= _) _ _ s;refine rK (sr ho hd (x:=.ref t) rfl ?_);show rT _ _ (if (r6 t == p9)=AE then _ else _) _ _ s;rw[y9 (show ¬ ((r6 t == p9)=AE)from az)];show rT _ _ (field (.ref it) 1 >>= _) _ _ s;refine rK (sr ho hd (x:=.int i 0) rfl ?_);show rT _ _ (seqItems? (.ref t) >>= _) _ _ s;refine rK (sB hol hdl ?_)
 erw[aF,hx]
 refine rK (sL ho hd (by simp) (rL #[x,rfl,rL (hQ _ ?_ (Heap.SameBut.update ..))]))
 exact#[_,bj _ ho (Obj.isFreed_of_fields (Obj.data_mapFields hd _)),(Obj.cls_mapFields ..).trans hc,by
  rw[Obj.data_mapFields hd];simp [rawInt]]
structure zbo(z TI TO i1 i2 l2:rQ):Prop extends J5 z TI TO i1 i2 where
 l2z:l2≠z
 l2TO:l2≠TO
 l2i1:l2≠i1
 l2i2:l2≠i2
def Qn{z TI TO i1 i2 l2:rQ}{tx:Ad}{Q:rR->rS->Prop}(D:zbo z TI TO i1 i2 l2)(hz:tM s.heap z TI TO .none)(hTI:sQ s.heap TI (.ref i1) (.ref i2))(hTO:sQ s.heap TO a b)(h1:s.heap.IsStrIter i1 (sy X) X tx k)(h2:s.heap.IsTupleIter i2 l2 k)(hl2:s.heap.IsTuple l2 ys)(hx:X.cps[k]? = AC c)(hy:ys[k]? = AC y)(hQ:∀h' t',tM h' z TI TO (rawInt s⁻¹)->sQ h' TO (.str ⟨#[c]⟩ t') y->h'.IsStrIter i1 (sy X) X tx (k+1)->h'.IsTupleIter i2 l2 (k+1)->sQ h' s⁻¹ (.str ⟨#[c]⟩ t') y->h'.objs.size=s⁻¹+1 ->
   (∀c o,c≠z->c≠TO->c≠i1->c≠i2->s.heap.get? c=AC o->h'.get? c=AC o)->Q (.ref s⁻¹) { s with heap:=h',toks:=s.toks+1 }) :
  rT (model prog w) A (Builtin.«zip.__next__» #[[.ref z],[]]) (λfin s'=>∃v,fin=.done (.ret v)/\Q v s') E s:=by
 show rT _ _ (field (.ref z) 2 >>= _) _ _ _;refine rK (sr hz rfl (x:=.bool AF) rfl ?_);show rT _ _ (field (.ref z) 3 >>= _) _ _ _;refine rK (sr hz rfl (x:=.ref TI) rfl ?_);refine rK (sB hTI rfl ?_);show rT _ _ (Builtin.SmallTypes.ownedTupleIsFree (.ref z) >>= _) _ _ _;refine rK ?_;unfold Builtin.SmallTypes.ownedTupleIsFree;refine rK (sr hz rfl (x:=.none) rfl (rL ?_))
 erw[if_true]
 refine rK (Aj ?_);refine rK (sr hz rfl (x:=.ref TO) rfl ?_);refine rK (sY hz (by simp) λh₁ hz₁ hs₁=>?_)
 replace hz₁:tM h₁ z TI TO .ellipsis:=hz₁
 refine rK ?_
 erw[List.zipIdx_cons,List.zipIdx_nil,dP,List.forIn_nil]
 refine rK (rK (Ag ?_));show rT _ _ (Builtin.SmallTypes.nextOf (.ref i1) >>= _) _ _ _;refine rK (jb (s:={ s with heap:=h₁ }) (vh h1 λo e=>hs₁.extBut _ _ D.i1z e) hx λh₂ h1₂ hs₂=>rL ?_);have hTO₂:sQ h₂ TO a b:=hs₂.extBut _ _ D.TOi1 (hs₁.extBut _ _ D.TOz hTO);refine rK (sB hTO₂ rfl ?_);refine rK (tW hTO₂ λh₃ hTO₃ hs₃=>?_)
 replace hTO₃:sQ h₃ TO (.str ⟨#[c]⟩ s.toks) b:=hTO₃
 refine rK (sU (rL ?_));refine rK (rK (Ag ?_));show rT _ _ (Builtin.SmallTypes.nextOf (.ref i2) >>= _) _ _ _;have up3:∀d o,d≠z->d≠i1->d≠TO->s.heap.get? d=AC o->h₃.get? d=AC o:=λd o d1 d2 d3 e=>hs₃.extBut _ _ d3 (hs₂.extBut _ _ d2 (hs₁.extBut _ _ d1 e));refine rK (qo (ud h2 λo e=>up3 _ o D.i2z D.i12.symm D.TOi2.symm e) (J4 hl2 λo e=>up3 _ o D.l2z D.l2i1 D.l2TO e) hy λh₄ h2₄ hs₄=>rL ?_);have hTO₄:sQ h₄ TO (.str ⟨#[c]⟩ s.toks) b:=hs₄.extBut _ _ D.TOi2 hTO₃;refine rK (sB hTO₄ rfl ?_);refine rK (tW hTO₄ λh₅ hTO₅ hs₅=>?_)
 replace hTO₅:sQ h₅ TO (.str ⟨#[c]⟩ s.toks) y:=hTO₅
 refine rK (sU (rL (rL ?_)));refine rK (sB hTO₅ rfl ?_);refine rK (wpAny_newTuple ?_);have hsz:h₅.objs.size=s⁻¹:=by rw[hs₅.1,hs₄.1,hs₃.1,hs₂.1,hs₁.1]
 have hz₅:tM h₅ z TI TO .ellipsis:=hs₅.extBut _ _ D.TOz.symm (hs₄.extBut _ _ D.i2z.symm (hs₃.extBut _ _ D.TOz.symm (hs₂.extBut _ _ D.i1z.symm hz₁)))
 have hk₅:∀c o,c≠z->c≠TO->c≠i1->c≠i2->s.heap.get? c=AC o->h₅.get? c=AC o:=λc o c1 c2 c3 c4 e =>
  hs₅.extBut _ _ c2 (hs₄.extBut _ _ c4 (up3 _ _ c1 c3 c2 e))
 have h1₅:h₅.IsStrIter i1 (sy X) X tx (k+1):=vh h1₂ λo e=>hs₅.extBut _ _ D.TOi1.symm (hs₄.extBut _ _ D.i12 (hs₃.extBut _ _ D.TOi1.symm e));have h2₅:h₅.IsTupleIter i2 l2 (k+1):=ud h2₄ λo e=>hs₅.extBut _ _ D.TOi2.symm e;have hzlt:z<h₅.objs.size:=ao hz₅;show rT _ _ (Builtin.SmallTypes.ownedTupleHandOut (.ref z) (.ref h₅.objs.size) >>= _) _ _ _;refine rK ?_;unfold Builtin.SmallTypes.ownedTupleHandOut;have hz₆:tM (h₅.push { cls:=.type "tuple",data:=.seq (r8 [.str ⟨#[c]⟩ s.toks,y]) }) z TI TO .ellipsis:=ac _ hz₅;refine rK (sY hz₆ (by simp) λh₇ hz₇ hs₇=>?_)
 replace hz₇:tM h₇ z TI TO (rawInt h₅.objs.size):=hz₇
 refine sY hz₇ (by simp) λh₈ hz₈ hs₈=>?_
 replace hz₈:tM h₈ z TI TO (rawInt h₅.objs.size):=hz₈
 have up:∀c o,c≠z->h₅.get? c=AC o->h₈.get? c=AC o:=λc o c1 e=>hs₈.extBut _ _ c1 (hs₇.extBut _ _ c1 (ac _ e));have hT₈:sQ h₈ h₅.objs.size (.str ⟨#[c]⟩ s.toks) y:=hs₈.extBut _ _ (bJ hzlt) (hs₇.extBut _ _ (bJ hzlt) (aB _ rfl));have hz8:h₈.objs.size=h₅.objs.size+1:=by rw[hs₈.1,hs₇.1,bA]
 rw[hsz]at hz₈ hT₈ hz8;refine rL #[_,rfl,?_];show Q (.ref h₅.objs.size) _;rw[hsz];exact hQ h₈ s.toks hz₈ (up _ _ D.TOz hTO₅) (vh h1₅ λo e=>up _ o D.i1z e) (ud h2₅ λo e=>up _ o D.i2z e) hT₈ hz8 λc o c1 c2 c3 c4 e=>up c o c1 (hk₅ c o c1 c2 c3 c4 e)
def zar{z TI TO i1 i2 l2:rQ}{tx:Ad}(hh:A.handled=AD)(D:zbo z TI TO i1 i2 l2)(hz:tM s.heap z TI TO .none)(hTI:sQ s.heap TI (.ref i1) (.ref i2))(hTO:sQ s.heap TO a b)(h1:s.heap.IsStrIter i1 (sy X) X tx k)(hx:X.cps[k]? = AD)(hE:∀h' e,(∀c o,c≠z->c≠TO->c≠i1->c≠i2->s.heap.get? c=AC o->h'.get? c=AC o)->(∃o,h'.get? e=AC o/\o.cls=.type "StopIteration")->E (.ref e) { s with heap:=h' }) :
  rT (model prog w) A (Builtin.«zip.__next__» #[[.ref z],[]]) Q E s:=by
 show rT _ _ (field (.ref z) 2 >>= _) _ _ _;refine rK (sr hz rfl (x:=.bool AF) rfl ?_);show rT _ _ (field (.ref z) 3 >>= _) _ _ _;refine rK (sr hz rfl (x:=.ref TI) rfl ?_);refine rK (sB hTI rfl ?_);show rT _ _ (Builtin.SmallTypes.ownedTupleIsFree (.ref z) >>= _) _ _ _;refine rK ?_;unfold Builtin.SmallTypes.ownedTupleIsFree;refine rK (sr hz rfl (x:=.none) rfl (rL ?_))
 erw[if_true]
 refine rK (Aj ?_);refine rK (sr hz rfl (x:=.ref TO) rfl ?_);refine rK (sY hz (by simp) λh₁ hz₁ hs₁=>?_)
 replace hz₁:tM h₁ z TI TO .ellipsis:=hz₁
 refine rK ?_
 erw[List.zipIdx_cons,List.zipIdx_nil,dP,List.forIn_nil]
 refine rK (rK (Ag ?_));show rT _ _ (Builtin.SmallTypes.nextOf (.ref i1) >>= _) _ _ _;refine rK (jp (s:={ s with heap:=h₁ }) hh (vh h1 λo e=>hs₁.extBut _ _ D.i1z e) hx λh₂ e hs₂ he=>?_);let#[oe,hoe,hce]:=he;have hz₂:tM h₂ z TI TO .ellipsis:=hs₂ _ _ D.i1z.symm hz₁;have hez:e≠z:=λx=>by subst x;rw[hz₂]at hoe;cases hoe;simp at hce
 refine sY hz₂ (by simp) λh₃ Z hs₃=>hE h₃ e (λc o c1 Z c3 Z x=>hs₃.extBut _ _ c1 (hs₂ _ _ c3 (hs₁.extBut _ _ c1 x))) #[oe,hs₃.extBut _ _ hez hoe,hce]
def qu{z TI TO i1 i2 l2:rQ}{tx:Ad}(D:zbo z TI TO i1 i2 l2)(hz:tM s.heap z TI TO .none)(hTI:sQ s.heap TI (.ref i1) (.ref i2))(hTO:sQ s.heap TO a b)(h1:s.heap.IsStrIter i1 (sy X) X tx k)(h2:s.heap.IsTupleIter i2 l2 k)(hl2:s.heap.IsTuple l2 ys)(hx:X.cps[k]? = AC c)(hy:ys[k]? = AC y)(hQ:∀h' t',tM h' z TI TO (rawInt s⁻¹)->sQ h' TO (.str ⟨#[c]⟩ t') y->h'.IsStrIter i1 (sy X) X tx (k+1)->h'.IsTupleIter i2 l2 (k+1)->sQ h' s⁻¹ (.str ⟨#[c]⟩ t') y->h'.objs.size=s⁻¹+1 ->
   (∀c o,c≠z->c≠TO->c≠i1->c≠i2->s.heap.get? c=AC o->h'.get? c=AC o)->Q (AC (.ref s⁻¹)) { s with heap:=h',toks:=s.toks+1 }) :
  rT (model prog w) A (pyNext (.ref z)) Q E s:=by
 have hT:s.TypeIs (.ref z) "zip":=#[_,hz,rfl];unfold pyNext
 exact rK (tP (wpAny_callSpecial?_slot (name:=ck "__next__") hT F.slot_zip_next
  (tR F.slot_zip_next hT F.entry_zip_next
   (Qn D hz hTI hTO h1 h2 hl2 hx hy λh' t' a1 a2 a3 a4 a5 a6 a7=>rL (hQ h' t' a1 a2 a3 a4 a5 a6 a7)) (F.args_zip_next_1 _))))
def jl{z TI TO i1 i2 l2:rQ}{tx:Ad}(hh:A.handled=AD)(D:zbo z TI TO i1 i2 l2)(hz:tM s.heap z TI TO .none)(hTI:sQ s.heap TI (.ref i1) (.ref i2))(hTO:sQ s.heap TO a b)(h1:s.heap.IsStrIter i1 (sy X) X tx k)(hx:X.cps[k]? = AD)(hQ:∀h',(∀c o,c≠z->c≠TO->c≠i1->c≠i2->s.heap.get? c=AC o->h'.get? c=AC o)->Q AD { s with heap:=h' }):rT (model prog w) A (pyNext (.ref z)) Q E s:=by
 have hT:s.TypeIs (.ref z) "zip":=#[_,hz,rfl];unfold pyNext
 refine rK (tP (wpAny_callSpecial?_slot (name:=ck "__next__") hT F.slot_zip_next
  (tR F.slot_zip_next hT F.entry_zip_next (zar hh D hz hTI hTO h1 hx λh' e hk he=>?_) (F.args_zip_next_1 _))))
 let#[o,ho,hc]:=he;refine rK (wpAny_isInstance (T:="StopIteration") (b:=AE) #[o,ho,hc] isSubtype_stop ?_);exact rL (hQ _ hk)
abbrev zcX(h:sq)(x:rV)(t:Ad):sq:=h.push { cls:=.type (sy x),data:=.fields (r8 [.str x t,.int 0 0]) }
abbrev zcP(h:sq)(x:rV)(t:Ad)(l2:rQ):sq:=(zcX h x t).push { cls:=.type "tuple_iterator",data:=.fields (r8 [.ref l2,.int 0 0]) }
abbrev zcV(h:sq)(x:rV)(t:Ad)(l2:rQ):sq:=(zcP h x t l2).push { cls:=.type "tuple",data:=.seq (r8 [.ref h.objs.size,.ref (zcX h x t).objs.size]) }
abbrev zcY(h:sq)(x:rV)(t:Ad)(l2:rQ):sq:=(zcV h x t l2).push { cls:=.type "tuple",data:=.seq (r8 [.none,.none]) }
abbrev KW(h:sq)(x:rV)(t:Ad)(l2:rQ):sq:=(zcY h x t l2).push { cls:=.type "zip",data:=.fields (r8 [.none,.bool AF,.bool AF,.ref (zcP h x t l2).objs.size,.ref (zcV h x t l2).objs.size]) }
def kS(x:rV)(t:Ad)(l2:rQ)(ys:Array rR) :
  Meets (Builtin.«zip.__new__» #[[.type "zip",.str x t,.ref l2],[]]) (λZ R s=>s.heap.IsTuple l2 ys /\
   R (.ok (.ret (.ref (zcY s.heap x t l2).objs.size))) { s with heap:=KW s.heap x t l2 }) :=
 .of_wp λprog w A R s h=>by
  let#[hp,g,d,tk,os]:=s;let#[hl2,h]:=h;have hsub:=sub_zip;have hL2:Heap.IsTuple (Shared.heap #[hp.push { cls:=.type (sy x),data:=.fields (r8 [.str x t,.int 0 0]) },g,d,tk,os]) l2 ys:=J4 hl2 λo e=>ac _ e
  wp_walk using wpAny_pyIter_strU (s:=#[hp,g,d,tk,os]) (x:=x) (t:=t),tJ hL2
  exact#[_,rfl,h]
def Q1(hl2:s.heap.IsTuple l2 ys)(h:∀h',tM h' (s⁻¹+4) (s⁻¹+2) (s⁻¹+3) .none->sQ h' (s⁻¹+2) (.ref s⁻¹) (.ref (s⁻¹+1)) ->
   sQ h' (s⁻¹+3) .none .none->h'.IsStrIter s⁻¹ (sy x) x t 0->h'.IsTupleIter (s⁻¹+1) l2 0->h'.objs.size=s⁻¹+5 ->
   (∀c o,s.heap.get? c=AC o->h'.get? c=AC o)->Q (.ref (s⁻¹+4)) { s with heap:=h' }) :
  rT (model prog w) A (call (.type "zip") [.str x t,.ref l2]) Q E s:=by
 refine callType_new F.called_zip ∅ (F.typeCall_zip_2 _ _) (F.newCall_zip_2 _ _) (λobj=>F.args_object_init_3 obj _ _) F.entry_zip_new
  (kS x t l2 ys) #[hl2,?_]
 have z1:(zcX s.heap x t).objs.size=s⁻¹+1:=bA ..;have z2:(zcP s.heap x t l2).objs.size=s⁻¹+2:=by rw[bA,z1]
 have z3:(zcV s.heap x t l2).objs.size=s⁻¹+3:=by rw[bA,z2]
 have z4:(zcY s.heap x t l2).objs.size=s⁻¹+4:=by rw[bA,z3]
 have z5:(KW s.heap x t l2).objs.size=s⁻¹+5:=by rw[bA,z4]
 have g5:(KW s.heap x t l2).get? (zcY s.heap x t l2).objs.size=AC _:=aB _ rfl;have g4:(KW s.heap x t l2).get? (zcV s.heap x t l2).objs.size=AC _:=ac _ (aB _ rfl);have g3:(KW s.heap x t l2).get? (zcP s.heap x t l2).objs.size=AC _:=ac _ (ac _ (aB _ rfl));have g2:(KW s.heap x t l2).get? (zcX s.heap x t).objs.size=AC _:=ac _ (ac _ (ac _ (aB _ rfl)));have g1:(KW s.heap x t l2).get? s⁻¹=AC _:=ac _ (ac _ (ac _ (ac _ (aB _ rfl))));show _/\_;rw[z2,z3,z4]at g5;rw[z1,z2]at g3;rw[z3]at g4;rw[z1]at g2;rw[z4]
 exact#[#[_,g5,rfl],h _ g5 g3 g4 #[_,g1,rfl,rfl] #[_,g2,rfl,rfl] z5 λc o x =>
  ac _ (ac _ (ac _ (ac _ (ac _ x))))]
def Izs(K:rP)(l:())(b:rQ):It:=#[λi H=>∃ys y,SqT K H b ys/\i<l.length/\ys[i]? = AC y,λi H v H'=>∃p c y,H p=AD/\l[i]? = AC c/\(∀ys,SqT K H b ys->ys[i]? = AC y)/\v=.ref p/\H'=upd H p (.tup [⇑[c],y]),λi H=>i=l.length]
def ZSt(z TI TO i1 i2:rQ)(X:rV)(t:Ad)(l2:rQ)(i:Nat)(h:sq):Prop:=tM h z TI TO .none/\sQ h TI (.ref i1) (.ref i2)/\(∃a b,sQ h TO a b)/\h.IsStrIter i1 (sy X) X t i/\h.IsTupleIter i2 l2 i
theorem QP{K:rP}(z TI TO i1 i2 l2:rQ)(l:())(t:Ad)(D:zbo z TI TO i1 i2 l2) :
  JY P w K (.Tuple elts x1 tpos) (Izs K l l2) [z,TI,TO,i1,i2] z (λi h=>ZSt z TI TO i1 i2 (tx l) t l2 i h) where
 mem:=by simp
 obj:=λi h st b hb=>by
  let#[hz,hTI,#[a,c,hTO],#[o1,e1,c1,d1],#[o2,e2,c2,d2]]:=st
  erw[bX,eI,or_false]at hb
  rcases hb with rfl | rfl | rfl | rfl | rfl
  ·exact#[_,hz,λv q=>by have q':Data.fields _=Data.cell v:=q;cases q']
  ·exact#[_,hTI,λv q=>by have q':Data.seq _ _=Data.cell v:=q;cases q']
  ·exact#[_,hTO,λv q=>by have q':Data.seq _ _=Data.cell v:=q;cases q']
  ·exact#[o1,e1,λv q=>by rw[d1]at q;cases q]
  ·exact#[o2,e2,λv q=>by rw[d2]at q;cases q]
 keep:=λi h h' st k=>by
  let#[hz,hTI,#[a,c,hTO],h1,h2]:=st;exact#[k z (by simp) _ hz,k TI (by simp) _ hTI,#[a,c,k TO (by simp) _ hTO],vh h1 λo e=>k i1 (by simp) o e,ud h2 λo e=>k i2 (by simp) o e]
 item:=by
  intro X hP hw hK hc i AG s σ H E I hf st hg;subst hP hw hK;let#[ys,y,hqy,hi,hy]:=hg;let#[its2,rv2,p2,_]:=I.tuple hqy;let#[u2,hu2,ru2]:=rv2.get hy;let#[hz,hTI,#[a,b,hTO],h1,h2]:=st;have hl2:s.heap.IsTuple l2 its2.toArray:=p2
  have hx:(tx l).cps[i]? = AC l[i]:=by
   show l.toArray[i]? = _;simp [hi]
  refine qu D hz hTI hTO h1 h2 hl2 hx (y:=u2) ↥hu2 λh' t' a1 a2 a3 a4 a5 a6 hk=>?_;refine#[_,rfl,wpAny_letOwnedTupleGo_zip (s:={ s with heap:=h',toks:=s.toks+1 }) a1 λh2' hz2 sb=>?_];have zlt:z<s⁻¹:=ao hz;have TIlt:TI<s⁻¹:=ao hTI;have TOlt:TO<s⁻¹:=ao hTO;have i1lt:i1<s⁻¹:=by let#[o,e,_]:=h1;exact ao e
  have i2lt:i2<s⁻¹:=by let#[o,e,_]:=h2;exact ao e
  have I1:Inv X AG σ H { s with heap:=h2',toks:=s.toks+1 }:=Inv.turns (fp:=[z,TI,TO,i1,i2]) I (λb o hb q=>by
   have hb':b≠z/\b≠TI/\b≠TO/\b≠i1/\b≠i2:=by simpa using hb
   exact (sb.2 b hb'.1).trans (hk b o hb'.1 hb'.2.2.1 hb'.2.2.2.1 hb'.2.2.2.2 q)) hf
  have hp:H s⁻¹=AD:=I.hok.fresh (ah _);have hT2:h2'.get? s⁻¹=AC { cls:=.type "tuple",data:=.seq (r8 [.str ⟨#[l[i]]⟩ t',u2]) }:=(sb.2 _ (bJ zlt)).trans a5;have ru1:RelV ⇑[l[i]] (.str ⟨#[l[i]]⟩ t'):=#[t',rfl]
  have I2:Inv X AG σ (upd H s⁻¹ (.tup [⇑[l[i]],y])) { s with heap:=h2',toks:=s.toks+1 } :=
   Inv.track I1 (I.fpOk (ah _) hp) #[by show 2<=rO;decide,[.str ⟨#[l[i]]⟩ t',u2],.cons ru1 (.cons ru2 .nil),#[_,hT2,rfl,_,rfl]]
  refine#[.ref s⁻¹,_,I2,rfl,#[s⁻¹,l[i],y,hp,by simp [hi],λzs hz'=>by rw[I.tuple_inj hz' hqy];exact hy,rfl,rfl],#[hz2,(sb.2 _ D.TIz).trans (hk _ _ D.TIz D.TITO D.TIi1 D.TIi2 hTI),#[_,_,(sb.2 _ D.TOz).trans a2],vh a3 λo e=>(sb.2 _ D.i1z).trans e,ud a4 λo e=>(sb.2 _ D.i2z).trans e],λb hb=>?_];rw[zk]
  ·exact (hf b hb).1
  ·erw[bX,eI,or_false]at hb
   rcases hb with rfl | rfl | rfl | rfl | rfl <;> exact ay (by assumption)
 done:=by
  intro X hP hw hK hc i AG s σ H E I hf st hg;subst hP hw hK;have hi:i=l.length:=hg;let#[hz,hTI,#[a,b,hTO],h1,h2]:=st;refine jl (I.ok.hd hc) D hz hTI hTO h1 ?_ λh' hk=>#[rfl,?_]
  ·show l.toArray[i]? = AD;simp [hi]
  ·exact Inv.turns (fp:=[z,TI,TO,i1,i2]) (t':=s.toks) I (λb o hb q=>by
    have hb':b≠z/\b≠TI/\b≠TO/\b≠i1/\b≠i2:=by simpa using hb
    exact hk b o hb'.1 hb'.2.2.1 hb'.2.2.2.1 hb'.2.2.2.2 q) hf
 self:=λA i s Q E st h=>Au st.1 h
def iZs(K:rP)(ta:TA):TI:=λσ H R=>ta σ H λvs H1=>∃l b,vs=[⇑l,.ref b]/\(∃ys,SqT K H1 b ys)/\R (Izs K l b) H1
def zcj(hg:Gl X "zip")(hm:X.mg "zip" = AD)(ha:PA X [a,b] ta)(hs:‹rN [a,b] X.env=(AF,eval a X.env)::rN [b] X.env›)(hpl:‹(sf pos (rN [b] X.env)).any (·.1)=AF›):PI X (.Tuple elts x1 tpos) (.Call (.Name "zip" p) [a,b] [] pos) (iZs X.K ta):=by
 intros R I h;refine Call_ (uP I hg hm PyProof.Rows.boot_zip (bQ (thn (ha pos AG s σ H _ I h) λus s1=>el5 λvs H1 I1 r1 q1=>?_) hs hpl));let#[l,l2,e,#[ys,hqy],q]:=q1;subst e;let#[u1,u2,rfl,ru1,ru2]:=YH r1;let#[t,rfl]:=ru1;cases ru2;let#[its2,rv2,p2,_]:=I1.tuple hqy;have hl2:s1.heap.IsTuple l2 its2.toArray:=p2;have l2lt:l2<s1⁻¹:=by let#[o,e,_]:=hl2;exact ao e
 have ne:∀a b:Nat,a≠b->s1⁻¹+a≠s1⁻¹+b:=λa b h e=>h (Nat.add_left_cancel e);have nl:∀a:Nat,l2≠s1⁻¹+a:=λa=>ay (aq l2lt (de _ _));refine Q1 hl2 λh' hz hTI hTO h1 h2 hsz kk=>?_;have I2:Inv X AG σ H1 { s1 with heap:=h' }:=I1.kept (t':=s1.toks) kk;refine Au (s:={ s1 with heap:=h' }) hz ?_;refine#[s1⁻¹+4,[s1⁻¹+4,s1⁻¹+2,s1⁻¹+3,s1⁻¹,s1⁻¹+1],_,_,H1,rfl,I2,QP (s1⁻¹+4) (s1⁻¹+2) (s1⁻¹+3) s1⁻¹ (s1⁻¹+1) l2 l t #[#[ne 2 4 ∅,ne 3 4 ∅,ne 0 4 ∅,ne 1 4 ∅,ne 2 3 ∅,ne 2 0 ∅,ne 2 1 ∅,ne 3 0 ∅,ne 3 1 ∅,ne 0 1 ∅],nl 4,nl 3,nl 0,nl 1],#[hz,hTI,#[_,_,hTO],h1,h2],λb hb=>?_,q]
 have hb':s1⁻¹<=b:=by
  erw[bX,eI,or_false]at hb
  rcases hb with e | e | e | e | e
  ·rw[e];exact de _ _
  ·rw[e];exact de _ _
  ·rw[e];exact de _ _
  ·rw[e];exact ah _
  ·rw[e];exact de _ _
 exact I1.fpOk hb' (I1.hok.fresh hb')
def CompZ(K:rP)(l:())(b:rQ)(g:TG)(tt:TT)(te:TE)(own:Nat)(ix:())(σ:L2.St)(H1:Hp)(Q:VK)(D:rQ):Prop:=WI (Izs K l b) g tt te own ix σ H1 Q D
def yj{K:rP}:jz (iZs K ta) g tt te own ix σ H Q=ta σ H λvs H1=>∃l b,vs=[⇑l,.ref b]/\(∃ys,SqT K H1 b ys)/\∀D,H1 D=AD->CompZ K l b g tt te own ix σ H1 Q D:=rfl
theorem CompZ.by{g:TG}{tt:TT}{te:TE}{own:Nat}{ix:()}{σ:L2.St}{H1:Hp}{Q:VK}{D:rQ}{K:rP}(Pv:Nat->List V->Hp->Prop)(hlen:l.length=ys.length)(h0:Pv 0 [] (upd H1 D (.lst [])))(hl:∀i AI H',i<=l.length->Pv i AI H'->SqT K H' b ys)(hs:∀i c y AI H' p,l[i]? = AC c->ys[i]? = AC y->Pv i AI H'->H' p=AD->g (.ref p) (ue σ own ix) (upd H' p (.tup [⇑[c],y])) λσ3 H3=>xC (ue σ own ix) σ3/\tt σ3 H3 λb H4=>if b=AE then
   te σ3 H4 λv H5=>H5 D=AC (.lst AI)/\AI.length<rO/\CNx l.length i Pv (AI ++ [v]) (upd H5 D (.lst (AI ++ [v])))else CNx l.length i Pv AI H4) (hd:∀AI H',Pv l.length AI H'->Q (.ref D) H'):CompZ K l b g tt te own ix σ H1 Q D:=by
 refine#[λi m AI H=>m=l.length - i/\i<=l.length/\Pv i AI H,#[l.length,by simp,aJ _,h0],?_];rintro i m AI H' ⟨rfl,hi,p⟩;have q:=hl i AI H' hi p;by_cases hlt:i<l.length
 ·refine .inr #[#[ys,ys[i],q,hlt,by simp [<- hlen,hlt]],λx H2 y=>?_];let#[p',c,y,hp,hc,hy,ev,eH]:=y;subst ev eH;exact hs i c y AI H' p' hc (hy ys q) p hp
 ·have e:i=l.length:=⋯;subst e;exact .inl #[rfl,hd AI H' p]
def xv(t1 t2:TE):TE:=λσ H Q=>t1 σ H Q\/t2 σ H Q
def JD(h1:PE X e t1)(h2:PE X e t2):PE X e (xv t1 t2):=by
 intros Q I h;rcases h with h | h
 ·exact h1 AG s σ H Q I h
 ·exact h2 AG s σ H Q I h
def zbv(D1:DM X.prog X.w X.K X.mg X.base CX0 k1 C1 m ps s1)(D2:DM X.prog X.w X.K X.mg X.base CX0 k2 C2 m ps s2)(D3:DM X.prog X.w X.K X.mg X.base CX0 k3 C3 m ps s3)(c1:Cls X.K C1)(c2:Cls X.K C2)(c3:Cls X.K C3)(hr:Room j X.A)(he:PE X o ta)(ha:PA X (e::es) t)(hst:‹rN (e::es) X.env=(AF,eval e X.env)::rN es X.env›)(hpl:‹(sf pos (rN es X.env)).any (·.1)=AF›)(ht:eval (.Call (.Attribute o m apos) (e::es) [] pos) X.env=(do
      let ov <- eval o X.env
      standAt apos.atName
      let (f,first) <- holding [ov] (getMethod ov m pl)
      callWith pos f first (sf pos (rN (e::es) X.env)) (sM pos (sw [] X.env))):=by rfl) (h1:‹k1<=j›) (h2:‹k2<=j›) (h3:‹k3<=j›) :
    PE X (.Call (.Attribute o m apos) (e::es) [] pos) (xv (jn C1 m s1 [] E0 ta t) (xv (jn C2 m s2 [] E0 ta t) (jn C3 m s3 [] E0 ta t))) :=
  JD (me1 (pl:=pl) D1 c1 hr he ha hst hpl ht h1) (JD (me1 (pl:=pl) D2 c2 hr he ha hst hpl ht h2) (me1 (pl:=pl) D3 c3 hr he ha hst hpl ht h3))
end
open PySem PySem.Spec PyProof.Rows L2 PySem.W PySem.Calls
mutual section
def w8(n:Int):Prop:=Builtin.Int.intBits n<=1048576
theorem JS:∀(ns:List Int),WData.weightAll (ns.map WData.int)<=1048576->∀n ∈ ns,w8 n
 | [],_,n,h=>nomatch h
 | m::ns,hw,n,h=>by
  rw[aw,WData.weightAll]at hw;rcases AM.mp h with rfl | h
  ·have e:WData.weight (.int n)=Builtin.Int.intBits n:=by
    rw[WData.weight];rfl
   unfold w8;lia
  ·exact JS ns ⋯ n h
theorem Jp(hi:w8 i)(hj:w8 j):IntMulOk i j:=by unfold IntMulOk Builtin.Int.intTooBig;unfold w8 at hi hj;have:(bitsLine:Nat)=134217728:=rfl;simp;intro _ _;lia
def Jl:OpR X (binaryOp .Mult) (rI (λi j=>w8 i/\w8 j) λi j=>.int (i * j)):=opI λZ Z Z Z Z Z Z hc q=>mul_int q (Jp hc.1 hc.2)
def Yh{l:OpenLaw}{XP:(rV->Option rR)->sq->Prop}(hn:l.most=AC n)(hdf:d.params.defaults=[])(call:∀(w:sk) (s₀ s₁:rS) (mg mb:rV->Option rR) (fa:rQ) (o:tw) (pm cd doc:rR) (a:rQ) (vs:List rR) (ns:List Int),
   Ground q loose [] XP w s₀ mg mb s₁.heap->YP w s₁.heap ->
   s₁.heap.get? fa=AC o->o.data=.func (docDef d.name d.params d.body d.scope pm cd doc)->s₁.heap.CodeRec cd d.name->mg d.name=AC (.ref fa) ->
   s₁.heap.get? a=AC { cls:=.type "list",data:=.seq vs.toArray }->Ar vs ns->ns.length<=n->(∀z ∈ ns,w8 z)->s₁.gens=#[] ->
   sP (model l.prog w) callerA (.call (.ref fa) #[[.ref a],[]]) (λr s'=>r=.ok (.ret (.bool AE))/\OldK s₁.heap s'.heap/\s'.os=s₁.os/\tG s'.gens) s₁) :
  WalkO q loose XP YP l.row.toRowW d [] (λf vs=>gd f vs):=by
 intro w s₀ s₁ mg mb G Y fa o pm cd doc dV kV ho hd hcd hD hmg hg args vals as hpre hlay hrd hwl hlo;obtain rfl:dV=.none:=Dflts.none hD hdf;obtain rfl:kV=.none:=Dflts.noKw hD;let#[a,vs,ns,rfl,rfl,hobj,hints,hlen]:=Att.script_of hn hpre hwl
 have hb:∀z ∈ ns,w8 z:=by
  refine JS ns ?_
  have h1:WData.layable (WData.list (ns.map WData.int))=AE:=by
   have:=hlay;unfold WData.layableAll at this;simpa using this
  unfold WData.layable at h1
  erw[ce,decide_eq_true_eq]at h1
  have h2:=h1.2;rw[WData.weight]at h2;exact h2
 refine enter_call (sE (call w s₀ s₁ mg mb fa o pm cd doc a vs ns G Y ho (fd_plain hd) hcd hmg hobj hints hlen hb hg) λr s' hq=>?_);let#[rfl,h2,h3,h4]:=hq;exact#[.inl #[.bool AE,.bool AE,[],rfl,λZ=>rfl,.bool AE,Att.post_true l _,λZ=>#[List.Pairwise.nil,λZ hm=>(nomatch hm)]],h2,h3,h4]
theorem Jn(D:DMk X.prog X.w X.K X.mg X.base (CXx X.prog X.w) k C ps sp)(hr:Room j X.A)(hg:Gl X x)(hm:X.mg x=AC (.ref C))(ha:PA X.nox (e::es) t)(hdb:‹(x ==("__debug__" : rV))=AF›)(he:‹rN (e::es) X.env=(AF,eval e X.env)::rN es X.env›)(hpl:‹(sf pos (rN es X.env)).any (·.1)=AF›) (hj:‹k+1<=j›) :
  PEX X (.Call (.Name x p) (e::es) [] pos) (λσ H Q E=>t σ H λvs H1=>∀x dx,H1 x=AD->H1 dx=AD->dx≠x->sp (.ref x::vs) (upd (upd H1 dx (.own x)) x (.ins C dx [])) (λv H2=>v=.non/\Q (.ref x) H2) E):=by
 let#[f,fd,M,F,hb]:=D.ex;intros Q E I h;refine rY (yS I hg hm ?_ hdb);refine aT (h₀:=X.base) I.ok.mod.kin M.kp (sj (thn (ha pos AG s σ H _ (I.wish _) h) λus s1=>el5 λvs H1 I1 r q=>#[I1.kIn,?_])) he hpl;have I1':Inv X AG σ H1 s1:=I1.unwish;have hq:=q (s1⁻¹+1) s1⁻¹ (I1'.hok.fresh (bS _)) (I1'.hok.fresh (ah _)) (ay (cY _));have I2:=Inv.made (C:=C) I1';have r2:Vals (V.ref (s1⁻¹+1)::vs) (r6 (s1⁻¹+1)::(us ++ [])):=by rw[aR];exact .cons rfl r
 have hl:(r6 (s1⁻¹+1)::us ++ ([]:List rR)).length=ps.length:=by
  have e:=r2.length;rw[F.len _ _ _ _ hq]at e;exact e.symm
 have hr':=hr.mono hj;have hbd:=hb { s1 with heap:=(s1.heap.push bz).push (bP C s1⁻¹) } (r6 (s1⁻¹+1)::us) I2.kIn hl;rw[ba]at hbd
 refine sJ (Wc (f:=f) I1'.kIn M.makes M.init (beq_iff_eq.mp M.fn) (sE (F.run _ X.stack _ _ #[r6 (s1⁻¹+1)::us,[]] (r6 (s1⁻¹+1)::(us ++ [])) _ _ E (hr'.make C us [])
  (I2.env0.make C us []) hbd r2 hq) λr s' hq'=>?_))
 cases r with
 | error e =>
  let#[x,C,t,dx,tb,H',rfl,os,bare,un,hok,ob,tr,hn,hsz,hT,q]:=hq';exact#[.none,AF,H',x,C,t,dx,tb,rfl,I2.call' os un hok bare (λb z=>y4 z (by simp)),ob,tr,I2.fpOk hsz hn,λT e=>I2.fpOk (hT T e).2 (hT T e).1,q]
 | ok fl =>
  cases fl with
  | ret u =>
   let#[v,H',I3,rv,ev,q3]:=I2.after hq';subst ev;exact#[rv,#[V.ref (s1⁻¹+1),H',I3,rfl,q3]]
  | next=>exact False.elim hq'
  | brk=>exact False.elim hq'
  | cont=>exact False.elim hq'
def kY:entryFor table "proto.unchain" = AC Builtin.«proto.unchain»:=entryFor_of_tree (by kernel_rfl)
def Yi(hy:s.heap.get? y=AC (xob C dx t tb))(h:Q .none s) :
  rT (model prog w) A (runValue (.builtin "proto.unchain" #[[.ref e,.ref y,.ref y,.bool AF],[]])) Q E s:=by refine wpAny_runValue (sI kY ?_);show rT _ _ (field (.ref y) 2 >>= _) _ _ s;refine rK (sr hy rfl (x:=.none) rfl ?_);rw[y6 ∅];unfold ret;refine rK (rL (rL ?_));exact h
def Wy(hh:A.handled=AC (.ref y))(hne:e≠y)(he:s.heap.get? e=AC (xog C dx t tb c k))(hy:s.heap.get? y=AC (xob Cy dy ty tby))(h:E (.ref e) { s with heap:=s.heap.update e (Obj.mapFields (·.setIfInBounds 2 (.ref y))) }):rT (model prog w) A (raiseNew (.ref e):Sem α) Q E s:=by unfold raiseNew;refine rK (wpAny_handled ?_);rw[hh];dsimp only;rw[y6 (show ((r6 y) !=(r6 e))=AE by simpa using λz=>hne z.symm)];refine rK (sC (Yi hy ?_));refine rK ?_;have hs:=sL (M:=model prog w) (A:=A) (E:=E) (s:=s) (i:=2) (x:=.ref y) he rfl (by show 2<6;decide) (Q:=λZ s1=>rT (model prog w) A (throw (.ref e):Sem α) Q E s1) (wpAny_throw h);exact hs
def US{K:rP}(hh:A.handled=AC (.ref y))(hc:∀(s:rS) (Q:rR->rS->Prop),Q .none s->rT (model prog w) A c Q E s)(h:rT (model prog w) A x (λv s1=>∃e C t dx Cy dy ty tby,v=.ref e/\e≠y/\K.In s1.heap/\Zo K C=AE/\s1.heap.get? e=AC (xob C dx t .none)/\s1.heap.get? y=AC (xob Cy dy ty tby) /\
   ∀h',(∀b,b≠e->h'.get? b=s1.heap.get? b)->h'.objs.size=s1⁻¹->h'.get? e=AC (xog C dx t .none (.ref y) AE)->E (.ref e) { s1 with heap:=h' }) E s):rT (model prog w) A (raiseStmt env (AC x) (AC c)) Q E s:=by
 unfold raiseStmt;refine rK (thn h λv s1 h1=>?_);let#[e,C,t,dx,Cy,dy,ty,tby,rfl,hne,X,hC,he,hy,hE]:=h1;refine ju (hC) λbm N nm qn bs sn sub ab col dd k0 k1 k2 k3 k5 lk tl=>?_;have hCo:=X _ _ lk;have T:=tl _ X;have hcB:(r6 C::bm).contains (.type "BaseException")=AE:=by rw[cM,T.hasType (show bmV.contains (.type "BaseException")=AE by symm),du]
 refine rK (sC (hc _ _ (rK (rL ?_))));let#[hp,g,d,tk,os]:=s1
 repeat (first | with_reducible refine sv he ?_ | with_reducible refine sv hCo ?_ | (with_reducible refine sV hCo ?_;rw[hcB]) | wp_step)
 have nCe:C≠e:=λz=>by
  subst z;have:=he.symm.trans hCo;cases this
 have he1:(hp.update e (Obj.mapFields λx=>x.setIfInBounds 3 p9)).get? e=AC (xog C dx t .none .none AF):=bj _ he rfl;have he2:((hp.update e (Obj.mapFields λx=>x.setIfInBounds 3 p9)).update e (Obj.mapFields λx=>x.setIfInBounds 4 (Value.bool AE))).get? e=AC (xog C dx t .none .none AE):=bj _ he1 rfl
 have oth:∀b,b≠e->((hp.update e (Obj.mapFields λx=>x.setIfInBounds 3 p9)).update e (Obj.mapFields λx=>x.setIfInBounds 4 (Value.bool AE))).get? b=hp.get? b:=λb hb =>
  (ar _ _ (Ne.symm hb)).trans (ar _ _ (Ne.symm hb))
 have hCo2:=(oth C nCe).trans hCo;have hy2:=(oth y (Ne.symm hne)).trans hy;have hsz:((hp.update e (Obj.mapFields λx=>x.setIfInBounds 3 p9)).update e (Obj.mapFields λx=>x.setIfInBounds 4 (Value.bool AE))).objs.size=hp.objs.size:=(cZ ..).trans (cZ ..);generalize (hp.update e (Obj.mapFields λx=>x.setIfInBounds 3 p9)).update e (Obj.mapFields λx=>x.setIfInBounds 4 (Value.bool AE))=h2 at *;refine sv hCo2 ?_
 repeat (first | with_reducible refine sv he2 ?_ | wp_step)
 refine Wy (s:=#[h2,g,d,tk,os]) hh hne he2 hy2 ?_;refine hE _ (λb hb=>(ar _ _ (Ne.symm hb)).trans (oth b hb)) ((cZ ..).trans hsz) ?_;exact bj _ he2 rfl
def XEg.xe(h:XEg X E):XE X E:=λe s hz=>by
 let#[AG,σ,H,x,C,t,dx,tb,q]:=hz;exact h e s #[.none,AF,AG,σ,H,x,C,t,dx,tb,q]
def QE(X:Cx)(AG:List (rQ × tw))(σ:St)(E:XK)(e:rR)(s:rS):Prop:=∃(H:Hp) (x C t:rQ) (dx:Option rQ) (tb:rR),e=.ref x/\Inv X AG σ H s /\
 s.heap.get? x=AC (xob C dx t tb)/\Qv s.heap x tb/\wo X AG H x/\(∀T,tb=.ref T->wo X AG H T)/\E (.ref C) dx H
def zcJ(X:Cx)(e:sG)(t:TX):Prop :=
 ∀(AG:List (rQ × tw)) (s:rS) (σ:St) (H:Hp) (Q:VK) (E:XK),Inv X AG σ H s->t σ H Q E->rT (model X.prog X.w) X.A (eval e X.env) (EP X AG σ Q) (QE X AG σ E) s
theorem zeT(D:Df X.prog X.w X.K X.mg X.base (CXx X.prog X.w) k x ps ds sp)(hr:Room j X.A)(hd:Vals dvs ds)(hg:Gl X x)(ha:PA X.nox (e::es) t)(hdb:‹(x ==("__debug__" : rV))=AF›)(he:‹rN (e::es) X.env=(AF,eval e X.env)::rN es X.env›)(hpl:‹(sf pos (rN es X.env)).any (·.1)=AF›)(hj:‹k<=j›):zcJ X (.Call (.Name x p) (e::es) [] pos) (λσ H Q E=>t σ H λvs H1=>sp (vs ++ dvs) H1 Q E):=by
 let#[f,fd,F,hm,hk,hb]:=D.ex;intros Q E I h;refine rY (yS I hg hm ?_ hdb);refine aT (h₀:=X.base) I.ok.mod.kin hk (sj (thn (ha pos AG s σ H _ (I.wish _) h) λus s1=>el5 λvs H1 I1 r q=>#[I1.kIn,?_])) he hpl;have I1':Inv X AG σ H1 s1:=I1.unwish;have r2:Vals (vs ++ dvs) (us ++ ds):=r.append hd;have hl:(us ++ ds).length=ps.length:=by rw[<- r2.length];exact F.len _ _ _ _ q
 refine sJ (sE (F.run X.A X.stack s1 H1 #[us,[]] (us ++ ds) (vs ++ dvs) Q E (hr.mono hj) I1'.env0 (hb s1 us I1'.kIn hl) r2 q) λr s' hq=>?_)
 cases r with
 | error e =>
  let#[x,C,t,dx,tb,H',rfl,os,bare,un,hok,ob,tr,hn,hsz,hT,q]:=hq;exact#[H',x,C,t,dx,tb,rfl,I1'.call' os un hok bare (λb z=>y4 z (by simp)),ob,tr,I1'.fpOk hsz hn,λT e=>I1'.fpOk (hT T e).2 (hT T e).1,q]
 | ok fl =>
  cases fl with
  | ret u=>exact I1'.after hq
  | next=>exact False.elim hq
  | brk=>exact False.elim hq
  | cont=>exact False.elim hq
end
section
variable{X:Cx}{o e:sG}{to:TE}{te:TX}{name:rV}{apos cpos:Az}{T id:String}{r:V->List V->Hp->VK->Prop}
def KP(pa:PlainAttrs T)(slot:Slot T name id)(hty:typeOf (.builtin id)=pure (.type "method_descriptor"))(hm:MtR X.nox id r)(ho:PE X.nox o to)(ha:zcJ X e te)(hbase:‹attributeBase o name X.env (eval o X.env)=eval o X.env›)(hfew:((sf cpos (rN [e] X.env)).all (λx=>!x.1) && (sM cpos (sw [] X.env)).all (λx=>x.1.isSome)
   && decide (([e]:List sG).length+([]:List Ae).length+(if ([]:List Ae).isEmpty then 0 else 1)<30))=AE:=by rfl)(hline:‹(apos.endLine == cpos.line)=AE›) (hs:‹rN [e] X.env=(AF,eval e X.env)::rN [] X.env›) (hplain:‹(sf cpos (rN [] X.env)).any (·.1)=AF›) :
  zcJ X (.Call (.Attribute o name apos) [e] [] cpos) (λσ H Q E=>to σ H λx H1=>tyV X.K T x H1/\te σ H1 (λy H2=>r x [y] H2 Q) E):=by intros Q E I h;refine tS hbase hfew hline rfl (sj (thn (ho AG s σ H _ (I.wish _) h) λv s1=>el5 λx H1 I1 r1=>ua2 λty q1=>?_));have I1':Inv X AG σ H1 s1:=I1.unwish;let#[h1,h2]:=Kh I1' r1 ty;refine#[T,id,pa,slot,hty,h1,h2,?_];have hA:=ha AG s1 σ H1 _ E I1' q1;rw[hs];refine Calls.callWith_builtin (by show (AF || (sf cpos (rN [] X.env)).any (·.1))=AF;rw[hplain] <;> rfl) (Calls.evalArgs_plain ?_);show rT _ _ (spliced ((AF,eval e X.env)::sf cpos (rN [] X.env))) _ _ s1;refine Calls.spliced_cons (thn hA λu s2=>el5 λy H2 I2 r2 q2=>Calls.spliced_nil ?_);exact sj (thn (hm AG s2 σ H2 x [y] v [u] Q (I2.wish _) r1 (.cons r2 .nil) q2) λZ Z z=>EP.unwish (X:=X) z)
end
def zbO(K:rP)(te:TX)(D C2:rQ)(sp:Sp)(t:TA)(E:XK):TS:=λDd σ H=>te σ H (λZ H1=>Dd.nx σ H1) λcls dx H1=>∃C,cls=.ref C/\bL K (.ref C) (.ref D)=AC AE /\
 ∀y,H1 y=AD->t σ (upd H1 y (XP y C dx)) λvs H2=>vs.length<=rO/\H2 y=AC (XP y C dx)/\∀x,H2 x=AD->sp (.ref x::vs) (upd H2 x (XN x C2 AD)) (λv H3=>v=.non/\H3 y=AC (XP y C dx)/\∃dx2,H3 x=AC (XN x C2 dx2)/\E (.ref C2) dx2 (del H3 x)) E0
def zae{K:rP}(hh:A.handled=AC (.ref y))(h:rT (model prog w) A (eval e env) (λv s1=>∃e C t dx Cy dy ty tby,v=.ref e/\e≠y/\K.In s1.heap/\Zo K C=AE/\s1.heap.get? e=AC (xob C dx t .none)/\s1.heap.get? y=AC (xob Cy dy ty tby) /\
   ∀h',(∀b,b≠e->h'.get? b=s1.heap.get? b)->h'.objs.size=s1⁻¹->h'.get? e=AC (xog C dx t .none (.ref y) AE)->E (.ref e) { s1 with heap:=h' }) E s) :
  rT (model prog w) A (exec (.Raise (AC e) (AC (.Constant .none JJ np)) pos) env) Q E s:=by
 rw[arm_exec_Raise]
 first
  | exact rK (sx (US hh (λs Q q=>rK (Ai (rK (sx (rL q))))) (rK (thn h λv s1 h1=>rK (sx (rL h1))))))
  | (erw[evalOpt,Option.map];exact rK (sx (US hh (λs Q q=>rK (Ai (rK (sx (rL q))))) (rK (thn h λv s1 h1=>rK (sx (rL h1)))))))
def RoomH.make(r:RoomH (k+1) A)(C:rQ)(us:List rR)(kw:List (rV × rR)):RoomH k (A.under (.builtin "type.__call__" #[.ref C::us,kw])) :=
 let r':=Room.make (k:=k) (A:={ A with handled:=AD }) #[rfl,r.dp,r.un] C us kw
 #[r'.dp,r'.un]
def zaN{D C2 f:rQ}(hx:XEg X E)(hp:∀hd,PassesOwnAt (model X.prog X.w) (X.A.mark hd) X.A X.env X.xe)(hst:X.stack=X.env::X.outer/\X.env.frame=AC X.env.locals)(he:zcJ X e te)(hgD:Gl X cn)(hmD:X.mg cn=AC (.ref D))(xD:Zo X.K D=AE)(xc:XC X.K C2)(hi:ae X.K (.ref C2) "__init__" = AC (AC (.ref f)))(hfn:aP X.K (.ref f)=AE)(F:U9 X.prog X.w X.K X.mg X.base k f fd ps sp)(hr:RoomH (k+1) X.A)(hb:Binds X.K fd ps [])(hg:Gl X cn2)(hm:X.mg cn2=AC (.ref C2))(ha:∀v,PA (Cx.suite X v) (a::as) t)(hdbD:‹(cn ==("__debug__" : rV))=AF›)(hdb:‹(cn2 ==("__debug__" : rV))=AF›)(hst1:‹rN (a::as) X.env=(AF,eval a X.env)::rN as X.env›)(hpl:‹(sf cpos (rN as X.env)).any (·.1)=AF›)(hsw:‹swapsWith e AD apos.line X.env=pure AF›) :
  PS X (.Try [.Expr e apos] [.ExceptHandler (AC (.Name cn np)) AD [.Raise (AC (.Call (.Name cn2 np2) (a::as) [] cpos)) (AC (.Constant .none JJ np3)) rpos] hpos] [] [] pos) (zbO X.K te D C2 sp t E):=by
 intros Dd I hq;refine Aw (sX (wpAny_Expr_any (tq (he AG s σ H _ _ I hq) (λv s1=>el5 λz H1 I1 r1 q1=>?_) λe s1 fl=>?_) I.quiet hsw))
 ·exact tj (tj #[_,H1,I1,q1])
 ·let#[H1,x,C,ty,dx,tb,rfl,I1,ob,tr,fx,fT,C',ec,hsub,q1]:=fl;cases ec;have fr:X.A.frames=AC (X.env::X.outer):=by rw[<- hst.1];exact I1.ok.frames
  have ff:s1.heap.FunFrames X.base (X.env::X.outer):=by rw[<- hst.1];exact I1.stack
  refine kL fr ff hst.2 hst.2 ob tr λh' T oT ts e1 nT oldT e2 d2 z2 k1 k2=>?_
  have fT':wo X AG H1 T:=by
   rcases oldT with z | z
   ·exact fT T z
   ·exact I1.fpOk z (I1.hok.fresh z)
  have tbs:∀b,tb=.ref b->H1 b=AD:=λb hb=>(fT b hb).1
  have nch:∀b o,s1.heap.get? b=AC o->b ∉ (x::T::tbL tb)->b≠x/\tb≠.ref b:=λb o Z hb=>by
   refine#[λz=>hb (by simp [z]),λz=>hb ?_];rw[z];simp [tbL]
  have un:Un (frs X.stack) (x::T::tbL tb) H1 H1 s1.heap h':=by
   rw[hst.1];refine#[λb o e n hb hc=>?_,λb o e n hb hc=>?_,λb o e n Z=>n,λb o e hc=>?_,λb xs e=>e,λb o u e=>e,λb ps e=>#[#[],by rw[e];simp]]
   ·let#[a1,a2]:=nch b o e hc;exact k1 b o a1 a2 hb e
   ·let#[a1,a2]:=nch b o e hc;exact k2 b o a1 a2 e
   ·let#[a1,a2]:=nch b o e hc;let#[sl,q]:=k2 b o a1 a2 e;exact#[_,q]
  have hok:HOk X.prog X.w H1 h':=λb u e=>by
   refine (I1.hok b u e).stay (λc v hc q=>k1 c v ?_ ?_ ?_ q) (λZ q=>q) λZ Z q=>q
   ·rintro rfl;rcases hc with rfl | hc
    ·rw[fx.1]at e;cases e
    ·rw[fx.1]at hc;cases hc
   ·intro z;have:=tbs c z;rcases hc with rfl | hc
    ·rw[this]at e;cases e
    ·rw[this]at hc;cases hc
   ·intro z;rw[<- hst.1]at z;have:=I1.stkFree c z;rcases hc with rfl | hc
    ·rw[this]at e;cases e
    ·rw[this]at hc;cases hc
  have I2:Inv X AG σ H1 { s1 with heap:=h' }:=I1.call' (s':={ s1 with heap:=h' }) rfl un hok I1.bare λb hb=>by
   have fb:wo X AG H1 b:=by
    rcases AM.mp hb with z | z
    ·rw[z];exact fx
    ·rcases AM.mp z with z | z
     ·rw[z];exact fT'
     ·cases tb with
      | ref b' =>
       have:b=b':=by simpa [tbL] using z
       rw[this];exact fT b' rfl
      | _=>simp [tbL]at z
   let#[_,a1,_,a3,a4,a5]:=fb;exact#[a3,a1,a4,a5]
  have I3:Inv X AG σ (upd H1 x (XP x C dx)) { s1 with heap:=h' }:=Inv.track I2 fx (zdg e1);have I3':=Inv.suite I3 (.ref x);have fT3:wo X AG (upd H1 x (XP x C dx)) T:=#[by rw[zk nT];exact fT'.1,fT'.2];refine Af (tV (yS (X:=Cx.suite X (.ref x)) I3' hgD hmD (JX I3.kIn xD e1 hsub ?_) hdbD)) (by intro q;cases q);refine tU ?_;unfold setFlight;refine rK (sr e1 rfl (x:=.ref T) rfl ?_);rw[y6 (show (r6 T != p9)=AE from by simp)];refine sL e2 d2 z2 ?_;let#[f0,f1,f2,f3,f4,f5]:=fT3
  have I4:Inv X AG σ (upd H1 x (XP x C dx)) { s1 with heap:=h'.update T (Obj.mapFields (·.setIfInBounds 3 ((AD:Option rQ).elim p9 λf=>rawInt f))) } :=
   I3.turned (t':=s1.toks) (λb o hb e=>(ar _ _ (Ne.symm hb)).trans e) f0 f1 f3 f4 f5
  have I4':=Inv.suite I4 (.ref x);refine wpAny_passesOwnAt (hp _) (sX (zae (K:=X.K) (y:=x) rfl (rY (yS (X:=Cx.suite X (.ref x)) I4' hg hm ?_ hdb))));refine aT (h₀:=X.base) I.ok.mod.kin xc.kp (sj (thn (ha (.ref x) cpos AG _ σ _ _ I4' (q1 x fx.1)) λus s5 ⟨vs,H5,I5,r,z,hy5,q⟩=>#[I5.kIn,?_])) hst1 hpl;have hl:us.length<=rO:=by rw[<- r.length];exact z
  have ob5:((s5.heap.push { cls:=.type "tuple",data:=.seq us.toArray }).push (xob C2 AD s5⁻¹ .none)).get? (s5⁻¹+1)=AC (xob C2 AD s5⁻¹ .none):=by heap_get
  have hfr:H5 (s5⁻¹+1)=AD:=I5.hok.fresh (bS _)
  have I6:Inv (Cx.suite X (.ref x)) AG σ (upd H5 (s5⁻¹+1) (XN (s5⁻¹+1) C2 AD)) { s5 with heap:=(s5.heap.push { cls:=.type "tuple",data:=.seq us.toArray }).push (xob C2 AD s5⁻¹ .none) } :=
   I5.laid (t':=s5.toks) (λb o e=>ac _ (ac _ e)) (bS _) (K6 ob5)
  have q6:=q _ hfr;have r2:Vals (V.ref (s5⁻¹+1)::vs) (r6 (s5⁻¹+1)::us):=.cons rfl r
  have hlen:(r6 (s5⁻¹+1)::us ++ ([]:List rR)).length=ps.length:=by
   rw[aR,<- r2.length];exact F.len _ _ _ _ q6
  have hb2:=hb { s5 with heap:=(s5.heap.push { cls:=.type "tuple",data:=.seq us.toArray }).push (xob C2 AD s5⁻¹ .none) } (r6 (s5⁻¹+1)::us) I6.kIn hlen;rw[aR]at hb2;have run:=F.run _ X.stack _ _ #[r6 (s5⁻¹+1)::us,[]] (r6 (s5⁻¹+1)::us) _ _ (RoomH.make (RoomH.mark hr (AC (.ref x))) C2 us []) (I6.env0.make C2 us []) hb2 r2 q6;have sz0:X.s₀.heap.objs.size<=s5⁻¹+1:=aS I5.sz (bS _);show rT (model X.prog X.w) (X.A.mark (AC (.ref x))) (call (.ref C2) us) _ _ s5;refine sJ ?_;refine Zc (h:=s5.heap) (g:=s5.gens) (d:=s5.drawn) (t:=s5.toks) (os:=s5.os) (rest:=us) I5.kIn xc.ok hi (λself=>eQ I5.kIn self (beq_iff_eq.mp hfn)) hl (sE run λr s' hq=>?_)
  cases r with
  | error e=>exact False.elim hq
  | ok fl =>
   cases fl with
   | ret u =>
    let#[v,H',I7,rv,ev,hy7,dx2,hx7,q7]:=I6.after hq;subst ev;refine#[rv,?_];let#[t7,ob7]:=Kw (I7.hok _ _ hx7);let#[ty7,tby7,oby7]:=zdX (I7.hok _ _ hy7)
    have hne:s5⁻¹+1≠x:=λz=>by
     rw[z,hy5]at hfr;cases hfr
    have I8:=Inv.untrack I7 hx7 sz0;refine#[_,C2,t7,dx2,C,dx,ty7,tby7,rfl,hne,I7.kIn,xc.ok,ob7,oby7,λh8 oth hsz8 ob8=>?_];have J8:Inv X AG σ (del H' (s5⁻¹+1)) s':=Inv.unsuite I4 I8;let#[g0,g1,g2,g3,g4,g5]:=(I5.fpOk (H':=del H' (s5⁻¹+1)) (bS _) Za:wo (Cx.suite X (.ref x)) AG (del H' (s5⁻¹+1)) (s5⁻¹+1));have J9:Inv X AG σ (del H' (s5⁻¹+1)) { s' with heap:=h8 }:=J8.turned (t':=s'.toks) (λb o hb e=>(oth b hb).trans e) g0 g1 g3 g4 g5;exact hx _ _ #[.ref x,AE,AG,σ,_,_,C2,t7,dx2,.none,rfl,J9,ob8,.inl rfl,#[g0,g1,g2,g3,g4,g5],λT z=>(by cases z),q7]
   | next=>exact False.elim hq
   | brk=>exact False.elim hq
   | cont=>exact False.elim hq
theorem YB(x y:rV)(i j:Int)(t u v v':Ad):Gives (Builtin.«str.find» #[[.str x t,.str y u,.int i v,.int j v'],[]]) (.int (match Builtin.Str.occurrences x y (fromIndex x.length i) (min (fromIndex x.length j) x.length) 1 with | k::_=>(k:Int) | []=>-1)):=by
 show Gives (match Builtin.Str.occurrences x y (fromIndex x.length i) (min (fromIndex x.length j) x.length) 1 with | k::_=>retInt k | []=>(do rule "str.find.not-found";retInt (-1))) _
 cases Builtin.Str.occurrences x y (fromIndex x.length i) (min (fromIndex x.length j) x.length) 1 with
 | nil=>exact .rule (.of_eq rfl)
 | cons k _=>exact .of_eq rfl
theorem Y3(x y:rV)(lo hi:Nat) :
  (Builtin.Str.occurrences x y lo hi 1=[]/\∀i,lo<=i->¬ StrLaws.At x y hi i) \/
  ∃i r,Builtin.Str.occurrences x y lo hi 1=i::r/\lo<=i/\StrLaws.At x y hi i/\∀k,lo<=k->k<i->¬ StrLaws.At x y hi k:=by
 rw[StrLaws.occ_eq];rcases StrLaws.occ_first x y hi 1 (ah 1) (List.range' lo (hi+1 - lo)) lo (λi hm=>(List.mem_range'_1.mp hm).1)with ⟨e,no⟩ | ⟨pre,a,post,e,e0,at_a,no⟩
 ·exact .inl #[by rw[e],λi h1 h2=>no i (by have:=h2.1;rw[List.mem_range'_1];lia) h2]
 ·have sp:=StrLaws.range'_split_from e;generalize (forIn (List.range' lo (hi+1 - lo)) ((#[]:Array Nat),lo) (StrLaws.occBody x y hi 1)).run.fst=z at e0 ⊢;let#[zs]:=z
  cases zs with
  | nil=>simp at e0
  | cons b r =>
   have:b=a:=by simpa using e0
   subst this;exact .inr #[b,r,rfl,sp.1,at_a,λk h1 h2=>no k (sp.2 k h1 h2)]
def za8(l p:())(hi i:Nat):StrLaws.At (tx l) (tx p) hi i ↔ i+p.length<=hi/\(l.drop i).take p.length=p:=by
 unfold StrLaws.At Builtin.Str.subAt;rw[zP,beq_iff_eq]
 have e1:((tx l).cps.extract i (i+p.length)).toList=(l.drop i).take p.length:=by
  show (l.toArray.extract i (i+p.length)).toList=_;simp [eD]
 have e2:((tx l).cps.extract i (i+p.length)=(tx p).cps) ↔ (l.drop i).take p.length=p:=by
  constructor
  ·intro h;rw[<- e1,h]
  ·intro h;apply Array.toList_inj.mp;rw[e1,h]
 rw[e2]
def J0:V->List V->Hp->VK->Prop:=λx xs H Q=>∃(l p:()) (lo hi:Int),x=⇑l/\xs=[⇑p,.int lo,.int hi]/\0<=lo/\0<=hi/\∀r:Int,((r=-1/\∀q:Nat,lo<=q->(q:Int)+p.length<=hi->q+p.length<=l.length->(l.drop q).take p.length≠p)\/∃k:Nat,r=k/\lo<=k/\(k:Int)+p.length<=hi/\k+p.length<=l.length/\(l.drop k).take p.length=p/\∀q:Nat,lo<=q->q<k->(l.drop q).take p.length≠p)->Q (.int r) H
theorem Kr : MtR X "str.find" J0:=by
 intros x xs v us Q I rx rv h;let#[l,p,lo,hi,rfl,rfl,h0,h1,q]:=h;let#[t,rfl]:=rx
 cases rv with
 | cons r1 r2 =>
  cases r2 with
  | cons r2 r3 =>
   let#[w3,rfl,t3,rfl]:=wY r3;let#[t1,rfl]:=r1;let#[t2,rfl]:=r2;have f0:fromIndex (tx l).length lo=lo.toNat:=by unfold fromIndex;rw[y9 ⋯];lia
   have f1:fromIndex (tx l).length hi=hi.toNat:=by unfold fromIndex;rw[y9 ⋯];lia
   refine call_gives F.slot_str_find (typeIs_str _ _ _) F.entry_str_find (F.args_str_find_4 _ _ _ _) (YB _ _ lo hi t t1 t2 t3) ?_;refine#[.int _,H,I.tok _,#[_,rfl],q _ ?_];rw[f0,f1];have hm:∀k:Nat,k+p.length<=min hi.toNat (tx l).length ↔ (k:Int)+p.length<=hi/\k+p.length<=l.length:=λk=>by rw[zP];lia
   rcases Y3 (tx l) (tx p) lo.toNat (min hi.toNat (tx l).length)with ⟨e,no⟩ | ⟨i,r,e,hl,ha,no⟩
   ·rw[e];exact .inl #[rfl,λk k1 k2 k3 k4=>no k ⋯ ((za8 l p _ k).mpr #[(hm k).mpr #[k2,k3],k4])]
   ·rw[e];let#[a1,a2]:=(za8 l p _ i).mp ha;let#[b1,b2]:=(hm i).mp a1;exact .inr #[i,rfl,⋯,b1,b2,a2,λk k1 k2 k4=>no k ⋯ k2 ((za8 l p _ k).mpr #[(hm k).mpr #[⋯,⋯],k4])]
end L3
set_option linter.unusedVariables false
namespace L3
def zdW(l p:())(r:Int):Prop:=(r=-1/\∀q:Nat,¬ (q+p.length<=l.length/\(l.drop q).take p.length=p))\/∃q:Nat,r=(q:Int)/\(q+p.length<=l.length/\(l.drop q).take p.length=p)/\∀q':Nat,q'<q->¬ (q'+p.length<=l.length/\(l.drop q').take p.length=p)
def zda:V->List V->Hp->VK->Prop:=λx xs H Q=>∃l p:(),x=⇑l/\xs=[⇑p]/\∀r:Int,zdW l p r->Q (.int r) H
def zat:MtR X "str.find" zda:=by
 intros x xs v us Q I rx rv h;let#[l,p,rfl,rfl,q]:=h;refine VY AG s σ H _ _ v us Q I rx rv #[_,_,rfl,rfl,q _ ?_];rcases find_whole (tx l) (tx p)with ⟨h1,h2⟩ | ⟨e,h1,h2,h3⟩
 ·exact .inl #[h1,λq hq=>h2 q ((za8 l p _ q).mpr (by rw[zP];exact hq))]
 ·refine .inr #[e,h1,?_,λk hk hq=>h3 k hk ((za8 l p _ k).mpr (by rw[zP];exact hq))];have:=(za8 l p _ e).mp h2;rw[zP]at this;exact this
theorem UP(hh:A.handled=AD)(hlI:l≠I)(hSI:S≠I)(hSl:S≠l)(xs:Array rR)(val:Nat->Int)(hv:∀i v,xs[i]? = AC v->∃t,v=Value.int (val i) t)(d:rR) :
  ∀(k j:Nat) (z:Int) (t:Ad) (s:rS) (c:Nat),xs.size - j=k->j<=xs.size->(∀i,i<j->val i<=z)->s.heap.IsListIter I l j->s.heap.IsList l xs->s.heap.get? S=AC (AA "list" (r8 [.int z t,.int z t]) c) ->
   (∀z' t' h' tk,(∀i,i<xs.size->val i<=z')->(∀b o,b≠I->b≠S->s.heap.get? b=AC o->h'.get? b=AC o)->R (.ok (.ret (.int z' t'))) { s with heap:=h',toks:=tk }) ->
   sP (model prog w) A (.builtin "max.loop" #[[.ref I,.none,.ref S],[(ck "default",d)]]) R s:=by
 have nm:(toString "max" ++ toString ".loop" : String)="max.loop":=∅;have W:=Walks.list (prog:=prog) (w:=w) (A:=A.in1) hh I l hlI xs;intro k
 induction k with
 | zero =>
  intro j z t s c hk hj hz hit hl hS hR;have e:j=xs.size:=⋯;refine sI (b:=Builtin.«max.loop») dF ?_;rw[Around.under_plainId (id:="max.loop") bF _];show rT _ A.in1 (seqItems? (r6 S) >>= _) _ _ s;refine rK (sB (items:=(r8 [.int z t,.int z t])) hS rfl ?_);show rT _ A.in1 (tryCatch (pyNext (r6 I)) _ >>= _) _ _ s;refine rK (sK (W.done s _ _ #[e ▸ hit,hl] λh' tk kp=>?_));have hS':=kp S _ ↥hSI hS;show rT _ A.in1 (updateSeq S (λZ=>(#[]:Array rR)) >>= _) _ _ _;refine rK (sZ hS' rfl (rK (sU (rL ?_))));exact hR z t _ tk (λi hi=>hz i ⋯) λb o hb hb' q=>(ar _ _ (Ne.symm hb')).trans (kp b o ↥hb q)
 | succ k ih =>
  intro j z t s c hk hj hz hit hl hS hR;refine sI (b:=Builtin.«max.loop») dF ?_;rw[Around.under_plainId (id:="max.loop") bF _];show rT _ A.in1 (seqItems? (r6 S) >>= _) _ _ s;refine rK (sB (items:=(r8 [.int z t,.int z t])) hS rfl ?_);show rT _ A.in1 (tryCatch (pyNext (r6 I)) _ >>= _) _ _ s;refine rK (sK (W.item j s _ _ ⋯ #[hit,hl] λv h' tk hP st kp=>?_));let#[t2,rfl]:=hv j v hP;have hS':=kp S _ ↥hSI hS;show rT _ A.in1 (tryCatch (holding [Value.int (val j) t2,Value.int (val j) t2] (richCompare .Gt (.int (val j) t2) (.int z t) >>= _)) _ >>= _) _ _ _;refine rK (sK (sC (rK (CmpOf.ints_gt (prog:=prog) (w:=w) (A:=A.in1) (P:=λi v=>∃t,v=Value.int (if i=0 then val j else z) t) (λi=>if i=0 then val j else z) (λi v h=>h) 0 1 _ _ _ _ _ #[t2,rfl] #[t,rfl] ?_))));refine rK (sC (su (rK (sU (rL ?_)))));by_cases g:val j > z
  ·erw[if_true,Nat.one_ne_zero,if_false,g,decide_true]
   refine rK (sZ hS' rfl (rK (sU ?_)));rw[nm];refine rL #[plainId_quiet bF _,ih (j+1) (val j) t2 _ _ ⋯ ⋯ (λi hi=>?_) (W.frame _ _ _ st λb hb o q=>?_).1 (W.frame _ _ _ st λb hb o q=>?_).2 (get?_update_seq hS' _) λz' t' h'' tk'' a1 a2=>hR z' t' h'' tk'' a1 λb o hb hb' q=>a2 b o hb hb' ((ar _ _ (Ne.symm hb')).trans (kp b o ↥hb q))]
   ·by_cases e:i=j
    ·rw[e];exact fW _
    ·have:=hz i ⋯;lia
   all_goals
    refine (ar _ _ (λe:S=b=>?_)).trans q;subst e;rcases AM.mp hb with e | e
    ·exact hSI e
    ·exact hSl (AL.mp e)
  ·erw[if_true,Nat.one_ne_zero,if_false,g,decide_false,cL]
   refine rK (sU ?_);rw[nm];refine rL #[plainId_quiet bF _,ih (j+1) z t _ _ ⋯ ⋯ (λi hi=>?_) st.1 st.2 hS' λz' t' h'' tk'' a1 a2=>hR z' t' h'' tk'' a1 λb o hb hb' q=>a2 b o hb hb' (kp b o ↥hb q)];by_cases e:i=j
   ·rw[e];lia
   ·exact hz i ⋯
def UU(a v:rR):argsOk "max" #[[a],[(ck "default",v)]]:=by unfold argsOk;kernel_rfl
def Vn(hh:A.handled=AD)(xs:Array rR)(val:Nat->Int)(hv:∀i v,xs[i]? = AC v->∃t,v=Value.int (val i) t)(hl:s.heap.IsList l xs)(d:rR)(h:∀v h' tk,(xs.size=0->v=d)->(0<xs.size->∃z t,v=Value.int z t/\∀i,i<xs.size->val i<=z)->(∀b o,s.heap.get? b=AC o->h'.get? b=AC o)->Q v { s with heap:=h',toks:=tk }) :
  rT (model prog w) A (call (.builtin "max") [.ref l] [(ck "default",d)]) Q E s:=by
 have nm:(toString "max" ++ toString ".loop" : String)="max.loop":=∅;have hlt:l<s⁻¹:=by let#[_,e,_]:=hl;exact ao e
 refine kmb_tree PySem.F.kind_max PySem.F.plain_max PySem.F.entry_max (UU _ _) ?_;show rT _ A.in1 (Builtin.Builtins.bindParams "max" ["key","default"] 0 #[[],[(ck "default",d)]] >>= _) _ _ s;refine rK (wpAny_of_eq (show Builtin.Builtins.bindParams "max" ["key","default"] 0 #[[],[(ck "default",d)]]=pure [AD,AC d]from rfl) (rK (rL ?_)));refine rK (tB hl (rK (wpAny_newList ?_ (aJ _))));rw[nm];refine rL #[plainId_quiet bF _,?_];have gI:(s.heap.push { cls:=.type "list_iterator",data:=.fields (r8 [.ref l,.int 0 0]) }).IsListIter s⁻¹ l 0:=#[_,aB _ rfl,rfl,rfl];have gl:=hl.push { cls:=.type "list_iterator",data:=.fields (r8 [.ref l,.int 0 0]) };have kp0:∀b o,s.heap.get? b=AC o->(s.heap.push { cls:=.type "list_iterator",data:=.fields (r8 [.ref l,.int 0 0]) }).get? b=AC o:=λb o q=>ac _ q;have hsz:(s.heap.push { cls:=.type "list_iterator",data:=.fields (r8 [.ref l,.int 0 0]) }).objs.size=s⁻¹+1:=bA _ _;have hold:∀b o,s.heap.get? b=AC o->b<s⁻¹:=λb o q=>ao q;have hlI:l≠s⁻¹:=ay hlt;generalize s.heap.push { cls:=.type "list_iterator",data:=.fields (r8 [.ref l,.int 0 0]) }=h1 at *;generalize hIe:s⁻¹=I at *;have W:=Walks.list (prog:=prog) (w:=w) (A:=A.in1) hh I l hlI xs;have gS:(h1.push { cls:=.type "list",data:=.seq ([]:List rR).toArray }).get? h1.objs.size=AC (AA "list" #[] 0):=aB _ rfl;have st0:=W.frame 0 _ (h1.push { cls:=.type "list",data:=.seq ([]:List rR).toArray }) #[gI,gl] λb Z o q=>ac _ q;have kp1:∀b o,s.heap.get? b=AC o->(h1.push { cls:=.type "list",data:=.seq ([]:List rR).toArray }).get? b=AC o:=λb o q=>ac _ (kp0 b o q);have hSI:h1.objs.size≠I:=by rw[hsz];exact Nat.succ_ne_self I
 have hSl:h1.objs.size≠l:=by rw[hsz];exact bJ (cX hlt)
 have hSb:∀b o,s.heap.get? b=AC o->b≠I/\b≠h1.objs.size:=λb o q=>#[ay (hold b o q),by rw[hsz];exact ay (cX (hold b o q))];generalize h1.push { cls:=.type "list",data:=.seq ([]:List rR).toArray }=h2 at *;generalize h1.objs.size=S at *;refine sI (b:=Builtin.«max.loop») dF ?_;rw[Around.under_plainId (id:="max.loop") bF _];show rT _ A.in1 (seqItems? (r6 S) >>= _) _ _ _;refine rK (sB (items:=#[]) gS rfl ?_);show rT _ A.in1 (tryCatch (pyNext (r6 I)) _ >>= _) _ _ _;by_cases hz:xs.size=0
 ·refine rK (sK (W.done _ _ _ (by rw[hz];exact st0) λh' tk kp=>?_));show rT _ A.in1 (rule _ >>= λZ=>_) _ _ _;refine rK (Aj (rL ?_));exact h d h' tk (λZ=>rfl) (λq=>y4 q ⋯) λb o q=>kp b o ↥(hSb b o q).1 (kp1 b o q)
 ·refine rK (sK (W.item 0 _ _ _ ⋯ st0 λv h' tk hP st kp=>?_));let#[t,rfl]:=hv 0 v hP;have hS':=kp S _ ↥hSI gS;show rT _ A.in1 (updateSeq S (λZ=>(r8 [Value.int (val 0) t,Value.int (val 0) t])) >>= _) _ _ _;refine rK (sZ hS' rfl ?_);rw[nm]
  have st':=W.frame _ _ (h'.update S (Obj.mapSeq λZ=>(r8 [Value.int (val 0) t,Value.int (val 0) t]))) st λb hb o q=>by
   refine (ar _ _ (λe:S=b=>?_)).trans q;subst e;rcases AM.mp hb with e | e
   ·exact hSI e
   ·exact hSl (AL.mp e)
  refine rL #[plainId_quiet bF _,UP hh hlI hSI hSl xs val hv d _ 1 (val 0) t _ _ rfl ⋯ (λi hi=>?_) st'.1 st'.2 (get?_update_seq hS' _) λz' t' h'' tk'' a1 a2=>?_]
  ·have:i=0:=⋯;rw[this];exact fW _
  ·exact h _ h'' tk'' (λq=>y4 q hz) (λZ=>#[z',t',rfl,a1]) λb o q=>a2 b o (hSb b o q).1 (hSb b o q).2 ((ar _ _ (Ne.symm (hSb b o q).2)).trans (kp b o ↥(hSb b o q).1 (kp1 b o q)))
def Kb(X:Cx)(id:String)(ks:List rV)(r:List V->List V->Hp->VK->Prop):Prop :=
 ∀(AG:List (rQ × tw)) (s:rS) (σ:L2.St) (H:Hp) (vs zs:List V) (us ws:List rR) (Q:VK),Inv X AG σ H s->Vals vs us->Vals zs ws->r vs zs H Q->rT (model X.prog X.w) X.A (call (.builtin id) us (ks.zip ws)) (EP X AG σ Q) X.xe s
def zeA(r:List V->List V->Hp->VK->Prop)(t tk:TA):TE:=λσ H Q=>t σ H λvs H1=>tk σ H1 λzs H2=>r vs zs H2 Q
def UX{X:Cx}{id:String}{x:rV}{e:sG}{es:List sG}{kws:List Ae}{ks:List rV}{p:Az}{pos:Az}{t:TA}{tk:TA}(hc:Kb X id ks r)(hg:Gl X x)(hm:X.mg x=AD)(hv:sN x=AC (.builtin id))(ha:PA X (e::es) t)(hk:PK X kws tk)(hks:‹(sM pos (sw kws X.env)).filterMap (·.1)=ks›)(hn:‹x≠"__name__"›)(hdb:‹(x ==("__debug__" : rV))=AF›)(he:‹sf pos (rN (e::es) X.env)=(AF,eval e X.env)::sf pos (rN es X.env)›)(hpl:‹(sf pos (rN (e::es) X.env)).any (·.1)=AF›)(hall:‹(sM pos (sw kws X.env)).all (·.1.isSome)=AE›)(hkw:‹(sM pos (sw kws X.env)).any (·.1.isNone)=AF›):PE X (.Call (.Name x p) (e::es) kws pos) (zeA r t tk):=by intros Q I h;refine rY (uP I hg hm hv ?_ hn hdb);refine callWith_kw (thn (ha pos AG s σ H _ I h) λus s1=>el5 λvs H1 I1 r1 q1=>thn (hk pos AG s1 σ H1 _ I1 q1) λws s2=>el5 λzs H2 I2 r2 q2=>?_) he hpl hall hkw;rw[hks];exact hc AG s2 σ H2 vs zs us ws Q I2 r1 r2 q2
def zd3(K:rP):List V->List V->Hp->VK->Prop:=λvs zs H Q=>∃(a:rQ) (ns:List Int) (d:Int),vs=[.ref a]/\zs=[.int d]/\SqL K H a (ns.map V.int)/\∀z:Int,(ns=[]->z=d)->(∀n ∈ ns,n<=z)->Q (.int z) H
def zcs(hc:X.calm=AE):Kb X "max" [ck "default"] (zd3 X.K):=by
 intros vs zs us ws Q I r1 r2 h;let#[a,ns,d,rfl,rfl,hS,q]:=h;let#[u,rfl,ru]:=wY r1;cases ru;let#[w',rfl,td,rfl]:=wY r2;let#[its,rv,pl,hz]:=I.list hS;have hlen:=rv.length;rw[aa]at hlen
 have hat:∀(i:Nat) (v:rR),its.toArray[i]? = AC v->∃t,v=Value.int (ns.getD i 0) t:=λi v hi=>by
  have hi':its[i]? = AC v:=by simpa using hi
  have hil:=(AJ.mp hi').1;let#[u,hu,t,rfl]:=uH rv (j:=i) (x:=.int (ns.getD i 0)) (by rw[ax,am,ak ⋯];rfl);rw[hi']at hu;cases hu;exact#[t,rfl]
 refine Vn (I.ok.hd hc) its.toArray (λi=>ns.getD i 0) hat pl.isList (.int d td) λv h' tk h0 h1 kp=>?_;by_cases hn:ns=[]
 ·have:=h0 (by rw[aj,<- hlen,hn];rfl);subst this;exact#[.int d,H,I.kept kp,#[_,rfl],q d (λZ=>rfl) (λn hm=>by rw[hn]at hm;cases hm)]
 ·let#[z,t,rfl,hzz]:=h1 (by rw[aj,<- hlen];exact AW.mpr hn);refine#[.int z,H,I.kept kp,#[_,rfl],q z (λe=>y4 e hn) λn hm=>?_];let#[i,hi,rfl]:=List.getElem_of_mem hm;have:=hzz i (by rw[aj,<- hlen];exact hi);rw[am,ak hi]at this;exact this
section
variable{prog:rX}{w:sk}{A:sD}{R:Result->rS->Prop}{I S:rQ}{fp wr:List rQ}{P:Nat->rR->Prop}{St:Nat->sq->Prop}
def X6:(toString "min" ++ toString ".loop" : String)="min.loop":=∅
def Wa(W:Walks prog w A.in1 I fp wr 2 P St)(hw:S ∉ wr)(st:St 2 s.heap)(hS:s.heap.get? S=AC (AA "list" (r8 [v,v]) c))(hR:∀h' tk,(∀b o,b ∉ wr->b≠S->s.heap.get? b=AC o->h'.get? b=AC o)->R (.ok (.ret v)) { s with heap:=h',toks:=tk }):sP (model prog w) A (.builtin "min.loop" #[[.ref I,.none,.ref S],[]]) R s:=by refine sI (b:=Builtin.«min.loop») dH ?_;rw[Around.under_plainId (id:="min.loop") bG _];show rT _ A.in1 (seqItems? (r6 S) >>= _) _ _ s;refine rK (sB (items:=(r8 [v,v])) hS rfl ?_);show rT _ A.in1 (tryCatch (pyNext (r6 I)) _ >>= _) _ _ s;refine rK (sK (W.done s _ _ st λh' tk kp=>?_));have hS':=kp S _ hw hS;show rT _ A.in1 (updateSeq S (λZ=>(#[]:Array rR)) >>= _) _ _ _;refine rK (sZ hS' rfl (rK (sU (rL ?_))));exact hR _ tk λb o hb hb' q=>(ar _ _ (Ne.symm hb')).trans (kp b o hb q)
theorem Wv(W:Walks prog w A.in1 I fp wr 2 P St)(hf:S ∉ fp)(hb:∀v,P 1 v->v=b)(st:St 1 s.heap)(hS:s.heap.get? S=AC (AA "list" (r8 [a,a]) c))(hc:∀h' tk,(∀b o,b ∉ wr->b≠S->s.heap.get? b=AC o->h'.get? b=AC o)->LtAt A.in1 { s with heap:=h',toks:=tk } b a bt)(hR:∀h' tk,(∀b o,b ∉ wr->b≠S->s.heap.get? b=AC o->h'.get? b=AC o)->R (.ok (.ret (if bt=AE then b else a))) { s with heap:=h',toks:=tk }):sP (model prog w) A (.builtin "min.loop" #[[.ref I,.none,.ref S],[]]) R s:=by
 have hw:S ∉ wr:=λh=>hf (W.sub _ h);refine sI (b:=Builtin.«min.loop») dH ?_;rw[Around.under_plainId (id:="min.loop") bG _];show rT _ A.in1 (seqItems? (r6 S) >>= _) _ _ s;refine rK (sB (items:=(r8 [a,a])) hS rfl ?_);show rT _ A.in1 (tryCatch (pyNext (r6 I)) _ >>= _) _ _ s;refine rK (sK (W.item 1 s _ _ ∅ st λv h' tk hP st' kp=>?_));obtain rfl:=hb v hP;have hS':=kp S _ hw hS;show rT _ A.in1 (tryCatch (holding [v,v] (richCompare .Lt v a >>= _)) _ >>= _) _ _ _;refine rK (sK (sC (rK (hc h' tk (λb o q Z e=>kp b o q e) prog w _ _ ?_))));refine rK (sC (su (rK (sU (rL ?_)))))
 cases bt with
 | true =>
  erw[if_true]
  refine rK (sZ hS' rfl (rK (sU ?_)));rw[X6];refine rL #[plainId_quiet bG _,Wa W hw (W.frame _ _ _ st' λb hbf o e=>?_) (get?_update_seq hS' _) λh'' tk'' k2=>?_]
  ·exact (ar _ _ (λz:S=b=>hf (by rw[z];exact hbf))).trans e
  ·exact hR h'' tk'' λb o q1 q2 e=>k2 b o q1 q2 ((ar _ _ (Ne.symm q2)).trans (kp b o q1 e))
 | false =>
  erw[cL,if_false]
  refine rK (sU ?_);rw[X6];refine rL #[plainId_quiet bG _,Wa W hw st' hS' λh'' tk'' k2=>?_];exact hR h'' tk'' λb o q1 q2 e=>k2 b o q1 q2 (kp b o q1 e)
def VQ(W:Walks prog w A.in1 I fp wr 2 P St)(hf:S ∉ fp)(ha:∀v,P 0 v->v=a)(hb:∀v,P 1 v->v=b)(st:St 0 s.heap)(hS:s.heap.get? S=AC (AA "list" #[] c))(hc:∀h' tk,(∀b o,b ∉ wr->b≠S->s.heap.get? b=AC o->h'.get? b=AC o)->LtAt A.in1 { s with heap:=h',toks:=tk } b a bt)(hR:∀h' tk,(∀b o,b ∉ wr->b≠S->s.heap.get? b=AC o->h'.get? b=AC o)->R (.ok (.ret (if bt=AE then b else a))) { s with heap:=h',toks:=tk }):sP (model prog w) A (.builtin "min.loop" #[[.ref I,.none,.ref S],[]]) R s:=by
  have hw:S ∉ wr:=λh=>hf (W.sub _ h);refine sI (b:=Builtin.«min.loop») dH ?_;rw[Around.under_plainId (id:="min.loop") bG _];show rT _ A.in1 (seqItems? (r6 S) >>= _) _ _ s;refine rK (sB (items:=#[]) hS rfl ?_);show rT _ A.in1 (tryCatch (pyNext (r6 I)) _ >>= _) _ _ s;refine rK (sK (W.item 0 s _ _ ∅ st λv h' tk hP st' kp=>?_));obtain rfl:=ha v hP;have hS':=kp S _ hw hS;show rT _ A.in1 (updateSeq S (λZ=>(r8 [v,v])) >>= _) _ _ _;refine rK (sZ hS' rfl ?_);rw[X6];have k1:∀b o,b ∉ wr->b≠S->s.heap.get? b=AC o->(h'.update S (Obj.mapSeq λZ=>(r8 [v,v]))).get? b=AC o:=λb o q1 q2 e=>(ar _ _ (Ne.symm q2)).trans (kp b o q1 e);refine rL #[plainId_quiet bG _,Wv (a:=v) (bt:=bt) W hf hb (W.frame _ _ _ st' λb hbf o e=>?_) (get?_update_seq hS' _) (λh'' tk'' k2=>?_) λh'' tk'' k2=>?_]
  . exact (ar _ _ (λz:S=b=>hf (by rw[z];exact hbf))).trans e
  . exact hc h'' tk'' λb o q1 q2 e=>k2 b o q1 q2 (k1 b o q1 q2 e)
  . exact hR h'' tk'' λb o q1 q2 e=>k2 b o q1 q2 (k1 b o q1 q2 e)
def Ql(hh:A.handled=AD)(hc:∀h' tk,(∀b o,s.heap.get? b=AC o->h'.get? b=AC o)->LtAt A.in1 { s with heap:=h',toks:=tk } b a bt)(h:∀h' tk,(∀b o,s.heap.get? b=AC o->h'.get? b=AC o)->Q (if bt=AE then b else a) { s with heap:=h',toks:=tk }):rT (model prog w) A (call (.builtin "min") [a,b]) Q E s:=by
  refine kmb_tree PySem.F.kind_min PySem.F.plain_min PySem.F.entry_min (PySem.F.args_min2 _ _) ?_;show rT _ A.in1 (Builtin.Builtins.bindParams "min" ["key","default"] 0 #[[],[]] >>= _) _ _ s;refine rK (wpAny_of_eq (show Builtin.Builtins.bindParams "min" ["key","default"] 0 #[[],[]]=pure [AD,AD]from rfl) ?_);show rT _ A.in1 (newTuple [a,b] >>= _) _ _ s;refine rK (tD ?_);have hT:(s.heap.push { cls:=.type "tuple",data:=.seq (r8 [a,b]) }).IsTuple s⁻¹ (r8 [a,b]):=#[_,aB _ rfl,rfl,0,rfl];have hz:(s.heap.push { cls:=.type "tuple",data:=.seq (r8 [a,b]) }).objs.size=s⁻¹+1:=bA ..;have k0:∀b' o,s.heap.get? b'=AC o->(s.heap.push { cls:=.type "tuple",data:=.seq (r8 [a,b]) }).get? b'=AC o:=λb' o q=>ac _ q;have hold:∀b o,s.heap.get? b=AC o->b<s⁻¹:=λb o q=>ao q;refine rK (tJ hT (rK (tD ?_)));rw[X6];refine rL #[plainId_quiet bG _,?_];generalize s.heap.push { cls:=.type "tuple",data:=.seq (r8 [a,b]) }=h1 at *;generalize hTe:s⁻¹=T at *;have gI:(h1.push { cls:=.type "tuple_iterator",data:=.fields (r8 [.ref T,.int 0 0]) }).IsTupleIter h1.objs.size T 0:=#[_,aB _ rfl,rfl,rfl];have gT:=hT.push { cls:=.type "tuple_iterator",data:=.fields (r8 [.ref T,.int 0 0]) };have k1:∀b' o,s.heap.get? b'=AC o->(h1.push { cls:=.type "tuple_iterator",data:=.fields (r8 [.ref T,.int 0 0]) }).get? b'=AC o:=λb' o q=>ac _ (k0 b' o q);have hz1:(h1.push { cls:=.type "tuple_iterator",data:=.fields (r8 [.ref T,.int 0 0]) }).objs.size=h1.objs.size+1:=bA ..;generalize h1.push { cls:=.type "tuple_iterator",data:=.fields (r8 [.ref T,.int 0 0]) }=h2 at *;generalize h1.objs.size=I at *;have a1:Nat.lt T I:=by rw[hz];exact cY _
  have a2:Nat.lt I h2.objs.size:=by rw[hz1];exact cY _
  have W:=Walks.tuple (prog:=prog) (w:=w) (A:=A.in1) hh I T (ay a1) (r8 [a,b]);refine VQ (S:=h2.objs.size) (a:=a) (b:=b) (bt:=bt) W (λq=>?_) (λv q=>?_) (λv q=>?_) (W.frame 0 _ _ #[gI,gT] λb Z o q=>ac _ q) (aB _ rfl) (λh' tk kp=>hc h' tk λb o q=>?_) λh' tk kp=>h h' tk λb o q=>?_
  . rcases AM.mp q with e | q
    . exact bJ a2 e
    . exact bJ (fK a1 a2) (AL.mp q)
  . cases q;rfl
  . cases q;rfl
  all_goals
    have b1:=fK (hold b o q) a1;exact kp b o (λz=>ay b1 (AL.mp z)) (ay (fK b1 a2)) (ac _ (k1 b o q))
end
mutual section
def zdC(K:rP):List V->Hp->VK->Prop:=λxs H Q=>∃(p r:rQ) (i j k m:Int),xs=[.ref p,.ref r]/\SqT K H p [.int i,.int j]/\SqT K H r [.int k,.int m]/\Q (if k<i\/(k=i/\m<j)then .ref r else .ref p) H
def Kk(i j k m:Int):ltD (.tup [.int k,.int m]) (.tup [.int i,.int j])=decide (k<i\/(k=i/\m<j)):=by
 erw[ltD,kR,eqD]
 by_cases h1:k=i
 ·subst h1;by_cases h2:m=j
  ·subst h2;simp
  ·simp [h2]
 ·simp [h1]
def zbm(hc:X.calm=AE)(hu:X.A.units+100<cLine):ww X (.builtin "min") (zdC X.K):=by
 intros xs us Q I r h;let#[p,q,i,j,k,m,rfl,hp,hq,hQ]:=h;let#[u,v,rfl,r1,r2]:=YH r;have d1:Is X.K H (.tup [.int i,.int j]) (.ref p):=by erw[Is,Iss];exact#[p,_,rfl,hp,_,_,rfl,rfl,_,_,rfl,rfl,rfl]
 have d2:Is X.K H (.tup [.int k,.int m]) (.ref q):=by erw[Is,Iss];exact#[q,_,rfl,hq,_,_,rfl,rfl,_,_,rfl,rfl,rfl]
 refine Ql (bt:=decide (k<i\/(k=i/\m<j))) (I.ok.hd hc) (λh' tk kp=>?_) λh' tk kp=>#[_,H,I.kept kp,?_,hQ]
 ·rw[<- Kk];exact JU (I.kept kp) 50 X.A.in1 _ _ _ _ _ _ (by show X.A.units+1+50<cLine;lia) (by erw[dpD,wv];decide) (by erw[okD,Yd,and_self]) d2 d1 r2 r1
 ·by_cases g:k<i\/(k=i/\m<j)
  ·rw[y6 g,y6 (u9 g)];exact r2
  ·rw[y9 g,y9 ↥g];exact r1
def zdH(y l:())(e:Nat):Prop:=e+y.length<=l.length/\(l.drop e).take y.length=y
instance (y l:()) (e:Nat):Decidable (zdH y l e):=by unfold zdH;infer_instance
def zeW(y l:()):Option (() × ()):=((aQ (l.length+1)).find? λe=>decide (zdH y l e)).map λe=>(l.take e,l.drop (e+y.length))
theorem Wu{D:rQ}(hg:Gl X cn)(hm:X.mg cn=AC (.ref D))(hdb:(cn ==("__debug__" : rV))=AF)(xc:Zo X.K D=AE)(hsu:∀e,PSs (Cx.suite X e) (b0::suite) th)(I:Inv X AG σ H s)(hob:∃t cx kx,s.heap.get? x=AC (xog C dx t (.ref T) cx kx))(hoT:∃oT ts,s.heap.get? T=AC oT/\oT.data=.fields ts/\3<ts.size)(fT:wo X AG H T)(hb:bL X.K (.ref C) (.ref D)=AC AE)(q:th Dd σ H):rT (model X.prog X.w) X.A (handleBy (.ref x) X.env (.ExceptHandler (AC (.Name cn np)) AD (b0::suite) hpos::hs)) (SP X AG Dd) X.xe s:=by
 let#[t,cx,kx,ob]:=hob;let#[oT,ts,eT,dT,zT]:=hoT;have I':=Inv.suite I (.ref x);refine Af (tV (yS (X:=Cx.suite X (.ref x)) I' hg hm (JX I.kIn xc ob hb ?_) hdb)) (by intro q;cases q);refine tU ?_;unfold setFlight;refine rK (sr ob rfl (x:=.ref T) rfl ?_);rw[y6 (show (r6 T != p9)=AE from by simp)];refine sL eT dT zT ?_;let#[f0,f1,f2,f3,f4,f5]:=fT
 have I2:Inv X AG σ H { s with heap:=s.heap.update T (Obj.mapFields (·.setIfInBounds 3 ((AD:Option rQ).elim p9 λf=>rawInt f))) } :=
  I.turned (t':=s.toks) (λb o hb e=>(ar _ _ (Ne.symm hb)).trans e) f0 f1 f3 f4 f5
 refine sj (thn (hsu _ AG _ σ H _ (Inv.suite I2 (.ref x)) q) λfl s4 q4=>?_)
 cases fl with
 | next =>
  let#[σ4,H4,I4,n4]:=q4;exact#[_,_,Inv.unsuite I I4,n4]
 | brk =>
  let#[σ4,H4,I4,n4]:=q4;exact#[_,_,Inv.unsuite I I4,n4]
 | cont =>
  let#[σ4,H4,I4,n4]:=q4;exact#[_,_,Inv.unsuite I I4,n4]
 | ret v =>
  let#[y,σ4,H4,I4,r4,n4]:=q4;exact#[y,_,_,Inv.unsuite I I4,r4,n4]
def We(K:rP)(D:rQ)(te:TX)(th:TS):TS:=λDd σ H=>te σ H (λz H1=>Dd.rt z H1) λcls dx H1=>∃C,cls=.ref C/\bL K (.ref C) (.ref D)=AC AE/\∀x,H1 x=AD->th Dd σ (upd H1 x (XT x C dx))
def Zh{D:rQ}(hst:X.stack=X.env::X.outer/\X.env.frame=AC X.env.locals)(he:PEX X e te)(hg:Gl X cn)(hm:X.mg cn=AC (.ref D))(xc:Zo X.K D=AE)(hsu:∀e,PSs (Cx.suite X e) (b0::suite) th)(hdb:‹(cn ==("__debug__" : rV))=AF›) :
  PS X (.Try [.Return (AC e) apos] (.ExceptHandler (AC (.Name cn np)) AD (b0::suite) hpos::hs) [] [] pos) (We X.K D te th):=by
 intros D I hq;refine Aw (sX (Ap (tq (he AG s σ H _ _ I hq) (λv s1=>el5 λz H1 I1 r1 q1=>?_) λe s1 fl=>?_)))
 ·exact#[z,σ,H1,I1,r1,q1]
 ·let#[cx,kx,H1,x,C,t,dx,tb,rfl,I1,ob,tr,fx,fT,C',ec,hsb,q1]:=fl;cases ec;have fr:X.A.frames=AC (X.env::X.outer):=by rw[<- hst.1];exact I1.ok.frames
  have ff:s1.heap.FunFrames X.base (X.env::X.outer):=by rw[<- hst.1];exact I1.stack
  refine kL fr ff hst.2 hst.2 ob tr λh' T oT ts e1 nT oldT e2 d2 z2 k1 k2=>?_
  have fT':wo X AG H1 T:=by
   rcases oldT with z | z
   ·exact fT T z
   ·exact I1.fpOk z (I1.hok.fresh z)
  have tbs:∀b,tb=.ref b->H1 b=AD:=λb hb=>(fT b hb).1
  have nch:∀b o,s1.heap.get? b=AC o->b ∉ (x::T::tbL tb)->b≠x/\tb≠.ref b:=λb o Z hb=>by
   refine#[λz=>hb (by simp [z]),λz=>hb ?_];rw[z];simp [tbL]
  have un:Un (frs X.stack) (x::T::tbL tb) H1 H1 s1.heap h':=by
   rw[hst.1];refine#[λb o e n hb hc=>?_,λb o e n hb hc=>?_,λb o e n Z=>n,λb o e hc=>?_,λb xs e=>e,λb o u e=>e,λb ps e=>#[#[],by rw[e];simp]]
   ·let#[a1,a2]:=nch b o e hc;exact k1 b o a1 a2 hb e
   ·let#[a1,a2]:=nch b o e hc;exact k2 b o a1 a2 e
   ·let#[a1,a2]:=nch b o e hc;let#[sl,q]:=k2 b o a1 a2 e;exact#[_,q]
  have hok:HOk X.prog X.w H1 h':=λb u e=>by
   refine (I1.hok b u e).stay (λc v hc q=>k1 c v ?_ ?_ ?_ q) (λZ q=>q) λZ Z q=>q
   ·rintro rfl;rcases hc with rfl | hc
    ·rw[fx.1]at e;cases e
    ·rw[fx.1]at hc;cases hc
   ·intro z;have:=tbs c z;rcases hc with rfl | hc
    ·rw[this]at e;cases e
    ·rw[this]at hc;cases hc
   ·intro z;rw[<- hst.1]at z;have:=I1.stkFree c z;rcases hc with rfl | hc
    ·rw[this]at e;cases e
    ·rw[this]at hc;cases hc
  have I2:Inv X AG σ H1 { s1 with heap:=h' }:=I1.call' (s':={ s1 with heap:=h' }) rfl un hok I1.bare λb hb=>by
   have fb:wo X AG H1 b:=by
    rcases AM.mp hb with z | z
    ·rw[z];exact fx
    ·rcases AM.mp z with z | z
     ·rw[z];exact fT'
     ·cases tb with
      | ref b' =>
       have:b=b':=by simpa [tbL] using z
       rw[this];exact fT b' rfl
      | _=>simp [tbL]at z
   let#[_,a1,_,a3,a4,a5]:=fb;exact#[a3,a1,a4,a5]
  have I3:Inv X AG σ (upd H1 x (XT x C dx)) { s1 with heap:=h' }:=Inv.track I2 fx (zc3 e1);exact Wu hg hm hdb xc hsu I3 #[t,_,_,e1] #[oT,ts,e2,d2,z2] #[by rw[zk nT];exact fT'.1,fT'.2] hsb (q1 x fx.1)
def zeu{AG:List (rQ × tw)}{s:rS}{σ:St}{H:Hp}{r:R2}{Q:VK}{E:XK}{Q':rR->rR->rS->Prop}(ha:PEX X a ta)(hb:PE X.nox b tb)(I:Inv X AG σ H s)(h:ta σ H (λx H1=>tb σ H1 λy H2=>r x y H2 Q) E)(f:∀v u s2 x y H2,Inv X.nox AG σ H2 s2->RelV x v->RelV y u->r x y H2 Q->Q' v u s2) :
  rT (model X.prog X.w) X.A (eval a X.env) (λv s1=>rT (model X.prog X.w) X.A (eval b X.env) (Q' v) (Yv X AG σ E) s1) (Yv X AG σ E) s :=
 thn (ha AG s σ H _ E I h) λv s1=>el5 λx H1 I1 r1 q1=>sj (thn (hb AG s1 σ H1 _ (I1.wish _) q1) λu s2=>el5 λy H2 I2 r2 q2=>f v u s2 x y H2 I2 r1 r2 q2)
def zbD{r:R2}(hr:IxR X.nox r)(ha:PEX X a ta)(hb:PE X.nox b tb)(hs:Xi b):PEX X (.Subscript a b pos) (λσ H Q E=>ta σ H (λx H1=>tb σ H1 λy H2=>r x y H2 Q) E):=by intros Q E I h;exact Al (zeu ha hb I h λv u s2 x y H2 I2 rx ry q=>sj (thn (hr a b AG s2 σ H2 x y v u Q I2 rx ry q (hs _ _)) λZ Z z=>EP.unwish (X:=X) z))
def zaP{op:As}{r:R2}(ho:OpR X.nox (rZ op) r)(ha:PEX X a ta)(hb:PE X.nox b tb)(hm:behindInMarks op b=AF:=by first | exact Xv _ ∅ ∅ | rfl):PEX X (.Compare a [op] [b] pos) (λσ H Q E=>ta σ H (λx H1=>tb σ H1 λy H2=>r x y H2 Q) E):=by intros Q E I h;exact Aa (zeu ha hb I h λv u s2 x y H2 I2 rx ry q=>sj (thn (ho AG s2 σ H2 x y v u Q I2 rx ry q) λZ Z z=>EP.unwish (X:=X) z)) hm
def UF{k j:Nat}{ps:List rV}{sp:Sp}{x:rV}{p:Az}{e:sG}{es:List sG}{te:TX}{t:TA}(D:Df X.prog X.w X.K X.mg X.base CX0 k x ps [] sp)(hr:Room j X.A)(hg:Gl X x)(he:PEX X e te)(ha:PA X.nox es t)(hdb:‹(x ==("__debug__" : rV))=AF›)(hs:‹rN (e::es) X.env=(AF,eval e X.env)::rN es X.env›) (hpl:‹(sf pos (rN es X.env)).any (·.1)=AF›) (hj:‹k<=j›) :
  PEX X (.Call (.Name x p) (e::es) [] pos) (λσ H Q E=>te σ H (λv H1=>t σ H1 λvs H2=>sp (v::vs) H2 Q E0) E):=by let#[f,fd,F,hm,hk,hb]:=D.ex;intros Q E I h;refine rY (yS I hg hm ?_ hdb);refine aT (h₀:=X.base) I.ok.mod.kin hk ?_ hs hpl;rw[hs];show rT _ _ (spliced ((AF,eval e X.env)::sf pos (rN es X.env))) _ _ s;refine Calls.spliced_cons (thn (he AG s σ H _ E I h) λu s1=>el5 λv H1 I1 r1 q1=>?_);refine sj (thn (ha pos AG s1 σ H1 _ (I1.wish _) q1) λus s2=>el5 λvs H2 I2 r2 q2=>?_);have I2':Inv X AG σ H2 s2:=I2.unwish;refine#[I2'.kIn,sj (thn (qy (X:=X.nox) (us:=u::us) (vs:=v::vs) (dvs:=[]) F (hr.mono hj) hb .nil kW I2 (.cons r1 r2) (by rw[aR];exact q2)) λZ Z z=>EP.unwish (X:=X) z)]
theorem UO(bs:List Bool):(aQ bs.length).any (λi=>bs.getD i AF)=bs.any id:=by
 induction bs with
 | nil=>rfl
 | cons b bs ih =>
  rw[au,dD,List.any_cons,List.any_map,List.any_cons,<- ih];rfl
def zeN(K:rP):List V->Hp->VK->Prop:=λxs H Q=>∃(p:rQ) (bs:List Bool),xs=[.ref p]/\SqL K H p (bs.map V.bl)/\Q (.bl (bs.any id)) H
def zd4(hc:X.calm=AE):ww X (.builtin "any") (zeN X.K):=by
 intros xs us Q I r h;let#[p,bs,rfl,hS,q]:=h;let#[u,rfl,ru]:=wY r;cases ru;let#[its,rv,pl,hz]:=I.list hS
 have hlen:its.length=bs.length:=by
  have:=rv.length;rw[aa]at this;exact this.symm
 have hh:X.A.in1.handled=AD:=I.ok.hd hc
 have hne:p≠s⁻¹:=by
  let#[o,n,e,_]:=pl;exact ay (ao e)
 let#[f0,f1,f2,f3,f4,f5]:=I.fpOk (H':=H) (ah _) (I.hok.fresh (ah _));have I1:=I.kept (t':=s.toks) (h':=s.heap.push { cls:=.type "list_iterator",data:=.fields (r8 [.ref p,.int 0 0]) }) λb o e=>ac _ e;refine call_any_walk (tB pl.isList ?_);refine#[s⁻¹,_,_,_,_,_,λi=>bs.getD i AF,rfl,Walks.list hh s⁻¹ p hne its.toArray,#[#[_,aB _ rfl,rfl,rfl],?_],?_,?_]
 ·let#[o,n,e,c,d,dt]:=pl;exact#[o,ac _ e,c,n,dt]
 ·intro i v s' Q' E' hv hq;have:=kj rv (i:=i) (v:=v) ↥hv;rw[this];exact su hq
 ·intro h' tk hk
  have e:(aQ its.toArray.size).any (λi=>bs.getD i AF)=bs.any id:=by
   rw[aj,hlen,UO]
  rw[e];refine#[.bl _,H,?_,rfl,q];exact I1.turned (t':=tk) (it:=s⁻¹) (λb o hb q=>hk b o ↥hb q) f0 f1 f3 f4 f5
end
open PySem PySem.W PyProof.Rows
mutual section
def zep(lt:Nat->Nat->Bool){α:Type}:KasT α->α
 | .ret a=>a
 | .ask i j k=>zep lt (k (lt i j))
def Kok(lt:Nat->Nat->Bool)(n:Nat){α:Type}:KasT α->(α->Prop)->Prop
 | .ret a,Q=>Q a
 | .ask i j k,Q=>i<n/\j<n/\Kok lt n (k (lt i j)) Q
theorem Kok.bind{lt:Nat->Nat->Bool}:∀(t:KasT α),Kok lt n t (λa=>Kok lt n (f a) Q)->Kok lt n (t.bind f) Q
 | .ret _,h=>h
 | .ask _ _ k,h=>#[h.1,h.2.1,Kok.bind (k _) h.2.2]
theorem Kok.run{lt:Nat->Nat->Bool}:∀(t:KasT α),Kok lt n t Q->Q (zep lt t)
 | .ret _,h=>h
 | .ask _ _ k,h=>Kok.run (k _) h.2.2
structure Wk(lt:Nat->Nat->Bool):Prop where
 asym:∀a b,lt a b=AE->lt b a=AF
 ntr:∀a b c,lt b a=AF->lt c b=AF->lt c a=AF
abbrev pg(p:Array Nat)(i:Nat):Nat:=p.getD i 0
def zci(p:Array Nat)(i:Nat):pg p i=(p[i]?).getD 0:=by simp [pg,Array.getD_eq_getD_getElem?]
def Rg(n:Nat)(p:Array Nat):Prop:=p.toList.Perm (aQ n)
def Rg.size(h:Rg n p):p.size=n:=by have:=h.length_eq;simpa using this
def XQ(hj:j<=p.size)(k:Nat):pg (kas_rev p i j) k=if i<=k/\k<j then pg p (i+j - 1 - k)else pg p k:=by rw[zci,kas_rev,getElem?_mirror_all hj];split <;> rw[zci]
def Rg.rev(h:Rg n p)(i j:Nat):Rg n (kas_rev p i j):=(Array.perm_iff_toList_perm.mp (mirror_perm p i j _)).trans h
def mid(h:l<r):l<=(l+r) / 2/\(l+r) / 2<r:=⋯
structure WkO{α:Type}(lt:α->α->Bool):Prop where
 asym:∀a b,lt a b=AE->lt b a=AF
 ntr:∀a b c,lt b a=AF->lt c b=AF->lt c a=AF
end
end L3
namespace L3
open PySem PySem.W PyProof.Rows
def Sq(lt:Nat->Nat->Bool)(a b:Nat):Prop:=lt a b=AE\/(lt b a=AF/\a<b)
def DnS(lt:Nat->Nat->Bool)(p:Array Nat)(m:Nat):Prop:=∀i j,i<j->j<m->Sq lt (pg p j) (pg p i)
structure Idp(n:Nat)(p:Array Nat)(m:Nat):Prop where
 r:Rg n p
 lo:∀i,i<m->pg p i<m
 hi:∀i,m<=i->i<n->pg p i=i
def Idp.up(h:Idp n p m)(hk:m<=k)(hn:k<=n):Idp n p k:=#[h.r,λi hi=>by
 by_cases e:i<m
 ·have:=h.lo i e;lia
 ·rw[h.hi i ⋯ ⋯];exact hi,λi a b=>h.hi i ⋯ b]
def Idp.rev(h:Idp n p m)(hm:m<=n):Idp n (kas_rev p a m) m:=by
 have hs:=h.r.size;refine#[h.r.rev _ _,λi hi=>?_,λi hi hn=>?_]
 ·rw[XQ ⋯];split
  ·exact h.lo _ ⋯
  ·exact h.lo _ hi
 ·rw[XQ ⋯,y9 ⋯];exact h.hi i hi hn
structure DsI(lt:Nat->Nat->Bool)(n:Nat)(p:Array Nat)(k q:Nat):Prop where
 hq:q+1<=k
 hk:k<=n
 id:Idp n p (k - (q+1))
 dn:DnS lt p (k - (q+1))
 st:∀i j,i<k - (q+1)->k - (q+1)<=j->j<k->lt (pg p j) (pg p i)=AE
 ev:∀i j,k - (q+1)<=i->i<k->k - (q+1)<=j->j<k->lt (pg p i) (pg p j)=AF
def DsI.rev{lt:Nat->Nat->Bool}(W:Wk lt)(h:DsI lt n p k q):DnS lt (kas_rev p (k - (q+1)) k) k/\Idp n (kas_rev p (k - (q+1)) k) k:=by
 have hs:=h.id.r.size;have hq:=h.hq;have hk:=h.hk;refine#[λi j hij hj=>?_,(h.id.up ⋯ hk).rev hk];rw[XQ ⋯,XQ ⋯];by_cases e:k - (q+1)<=i
 ·rw[y6 ⋯,y6 ⋯];refine .inr #[h.ev _ _ ⋯ ⋯ ⋯ ⋯,?_];rw[h.id.hi _ ⋯ ⋯,h.id.hi _ ⋯ ⋯];lia
 ·rw[y9 (c:=_/\i<k) ⋯];split
  ·exact .inl (h.st _ _ ⋯ ⋯ ⋯)
  ·exact h.dn _ _ hij ⋯
end L3
namespace L3
mutual section
structure KeyFam(α:Type) where
 dec:α->List D
 lt:α->α->Bool
 fst:Bool
 d0:α
structure KeyFam.Ok{α:Type}(F:KeyFam α):Prop where
 w:WkO F.lt
 eq:∀a b,kR (F.dec a) (F.dec b)=F.lt a b
 ok:∀a b,Yd (F.dec a) (F.dec b)
 dp:∀a,wv (F.dec a)<40
 sh:∀a,∃d r,F.dec a=d::r/\((F.fst=AE/\∃n,d=.int n)\/(F.fst=AF/\∃l,d=.tup l))
def okF:List D->List D->Prop
 | d::l,e::m=>if eqD d e=AE then okF l m else okD d e
 | _,_=>True
structure KeyFam.OkF{α:Type}(F:KeyFam α):Prop where
 w:WkO F.lt
 eq:∀a b,kR (F.dec a) (F.dec b)=F.lt a b
 ok:∀a b,okF (F.dec a) (F.dec b)
 dp:∀a,wv (F.dec a)<40
 sh:∀a,∃d r,F.dec a=d::r/\((F.fst=AE/\∃n,d=.int n)\/(F.fst=AF/\∃l,d=.tup l))
theorem Kd:∀{l m:List D},Yd l m->okF l m
 | [],m,_=>by erw[okF]
 | d::l,[],_=>by erw[okF]
 | d::l,e::m,h=>by
  erw[Yd]at h
  erw[okF]
  split
  ·exact Kd h.2
  ·exact h.1
def KeyFam.Ok.f{F:KeyFam α}(h:F.Ok):F.OkF:=#[h.w,h.eq,λa b=>Kd (h.ok a b),h.dp,h.sh]
def cdE(c':rQ)(q:rV):HO:=.ext λh=>h.CodeRec (.ref c') q
def fnE(f:rQ)(o:tw):HO:=.ext λh=>h.get? f=AC o
def TabOk(H:Hp)(P:rQ)(pos:Az)(q:rV):Prop :=
 ∃ps:Array rR,H P=AC (.tbl ps)/\Ac ps.toList/\(codeAmong pos ps.toList=AD\/∃c',codeAmong pos ps.toList=AC (.ref c')/\H c'=AC (cdE c' q))
def SamT(P:rQ)(H H':Hp):Prop:=∀b o,b≠P->H b=AC o->H' b=AC o
def UJ(H:Hp)(f:rQ)(name qual:rV)(params:Ax)(body:sG)(scope:tL)(cl:List (rV × rQ)):Prop :=
 ∃(c':rQ) (pm ctv:rR),H c'=AC (cdE c' qual)/\H f=AC (fnE f { cls:=.type "function",data:=.func (bN name qual params body scope cl pm (.ref c') ctv) })
def zcz(x:h.CodeRec (.ref c') q):ObjOk P w H h c' (cdE c' q):=by
 refine#[x,?_,λh1 h2 a k=>?_]
 ·let#[c,o,vs,t,e,g,_]:=x;cases e;exact#[o,g]
 ·let#[c,o,vs,t,e,g,r]:=a;cases e;exact#[_,o,vs,t,rfl,k o g,r]
def JP(x:h.get? f=AC o):ObjOk P w H h f (fnE f o) :=
 #[x,#[o,x],λh1 h2 a k=>k o a]
def Inv.grow(I:Inv X AG σ H s)(hP:H P=AC (.tbl ps))(hk:∀b u,b≠P->s.heap.get? b=AC u->h'.get? b=AC u)(hP':h'.get? P=AC { cls:=.none,data:=.fields (ps ++ more) })(hc:s⁻¹<=c')(hf:s⁻¹<=f)(hcf:c'≠f)(hcr:h'.CodeRec (.ref c') q)(hfo:h'.get? f=AC o) :
  Inv X AG σ (upd (upd (upd H P (.tbl (ps ++ more))) c' (cdE c' q)) f (fnE f o)) { s with heap:=h',toks:=tk }:=by
 have Pl:P<s⁻¹:=I.hok.lt hP;have hPc:P≠c':=ay (aq Pl hc);have hPf:P≠f:=ay (aq Pl hf)
 have old:∀b,b<s⁻¹->b≠P->(upd (upd (upd H P (.tbl (ps ++ more))) c' (cdE c' q)) f (fnE f o)) b=H b:=λb hb hbP=>by
  rw[zk (ay (aq hb hf)),zk (ay (aq hb hc)),zk hbP]
 have atP:(upd (upd (upd H P (.tbl (ps ++ more))) c' (cdE c' q)) f (fnE f o)) P=AC (.tbl (ps ++ more)):=by
  rw[zk hPf,zk hPc,zc]
 have neP:∀b,H b=AD->b≠P:=λb e z=>by rw[z,hP]at e;cases e
 refine I.un #[λb u e n Z Z=>hk b u (neP b n) e,λb u e n Z Z=>#[u.slots,hk b u (neP b n) e],λb u e n Z=>?_,λb u e Z=>?_,λb xs e=>?_,λb ob u e=>?_,λb qs e=>?_] λb u e=>?_
 ·rw[old b (ao e) (neP b n)];exact n
 ·by_cases hb:b=P
  ·subst hb;exact#[_,hP']
  ·exact#[u,hk b u hb e]
 ·rw[old b (I.hok.lt e) (λz=>by rw[z,hP]at e;cases e)];exact e
 ·rw[old b (I.hok.lt e) (λz=>by rw[z,hP]at e;cases e)];exact e
 ·by_cases hb:b=P
  ·subst hb;rw[hP]at e;cases e;exact#[more,atP]
  ·rw[old b (I.hok.lt e) hb];exact#[#[],by rw[e];simp]
 ·by_cases hbf:b=f
  ·subst hbf;rw[zc]at e;cases e;exact JP hfo
  ·rw[zk hbf]at e;by_cases hbc:b=c'
   ·subst hbc;rw[zc]at e;cases e;exact zcz hcr
   ·rw[zk hbc]at e;by_cases hbP:b=P
    ·subst hbP;rw[zc]at e;cases e;exact hP'
    ·rw[zk hbP]at e;refine (I.hok b u e).stay (λd v hd g=>hk d v ?_ g) (λd g=>?_) λd xs g=>?_
     ·rcases hd with z | z
      ·rw[z];exact hbP
      ·intro z';rw[z',hP]at z;cases z
     ·rw[old d (I.hok.lt g) (λz=>by rw[z,hP]at g;cases g)];exact g
     ·rw[old d (I.hok.lt g) (λz=>by rw[z,hP]at g;cases g)];exact g
theorem wG : ∀(l:List rR),Ac l->Ac (l ++ [rawInt a,rawInt b,v])
 | [],_=>trivial
 | .int _ _::.int _ _::_::rest,h=>wG rest h
def Z9{h h':sq}(x:h.BuiltinsAt mg T)(k:∀b o,h.get? b=AC o->h'.get? b=AC o):h'.BuiltinsAt mg T:=by let#[bm,o,b1,b2,b3,b4,b5,b6]:=x;exact#[bm,o,b1,b2,b3,b4,k _ _ b5,b6]
def zew(R:V->Hp->Prop):List V->Hp->Prop
 | [v],H=>R v H
 | _,_=>False
theorem KZ : ∀{vs:List V} {H:Hp},zew R vs H->∃v,vs=[v]/\R v H
 | [v],_,h=>#[v,rfl,h]
end
section
variable{K:rP}
def SamT.of(s:Same H H'):SamT T H H':=λb o Z e=>s b o e
def SamT.trans(s:SamT T H H')(s':SamT T H' H''):SamT T H H'':=λb o n e=>s' b o n (s b o n e)
def SamT.at(s:SamT T H H')(hT:H T=AC (.tbl ps))(e:H b=AC o)(ho:∀qs,o≠.tbl qs):H' b=AC o:=s b o (λz=>by rw[z,hT]at e;cases e;exact ho _ rfl) e
def SamT.seqL(s:SamT T H H')(hT:H T=AC (.tbl ps))(h:SqL K H a xs):SqL K H' a xs:=by
 rcases h with (h | ⟨o,h⟩) | h
 ·exact .inl (.inl (s.at hT h λZ z=>by cases z))
 ·exact .inl (.inr #[o,s.at hT h λZ z=>by cases z])
 ·exact .inr h
def SamT.seqT(s:SamT T H H')(hT:H T=AC (.tbl ps))(h:SqT K H a xs):SqT K H' a xs:=by
 rcases h with (h | ⟨o,h⟩) | h
 ·exact .inl (.inl (s.at hT h λZ z=>by cases z))
 ·exact .inl (.inr #[o,s.at hT h λZ z=>by cases z])
 ·exact .inr h
mutual
theorem Is.samT(s:SamT T H H')(hT:H T=AC (.tbl ps)):∀(d:D) (v:V),Is K H d v->Is K H' d v
 | .non,v,h=>by erw[Is]at h ⊢;exact h
 | .bl b,v,h=>by erw[Is]at h ⊢;exact h
 | .int b,v,h=>by erw[Is]at h ⊢;exact h
 | .str b,v,h=>by erw[Is]at h ⊢;exact h
 | .lst l,v,h=>by
  erw[Is]at h ⊢
  let#[a,xs,e1,e2,e3]:=h;exact#[a,xs,e1,s.seqL hT e2,Iss.samT s hT l xs e3]
 | .tup l,v,h=>by
  erw[Is]at h ⊢
  let#[a,xs,e1,e2,e3]:=h;exact#[a,xs,e1,s.seqT hT e2,Iss.samT s hT l xs e3]
theorem Iss.samT(s:SamT T H H')(hT:H T=AC (.tbl ps)):∀(l:List D) (vs:List V),Iss K H l vs->Iss K H' l vs
 | [],vs,h=>by erw[Iss]at h ⊢;exact h
 | d::l,vs,h=>by
  erw[Iss]at h ⊢
  let#[v,r,e1,e2,e3]:=h;exact#[v,r,e1,Is.samT s hT d v e2,Iss.samT s hT l r e3]
end
def LsA.samT(h:LsA K H a ds)(s:SamT T H H')(hT:H T=AC (.tbl ps)):LsA K H' a ds:=by let#[xs,h1,h2]:=h;exact#[xs,s.at hT h1 (λZ z=>by cases z),Iss.samT s hT _ _ h2]
end
end in def KQ(K:rP):Bool:=K.all λp=>match p.2 with
 | ⟨.none,_,.fields _,_⟩=>AF
 | _=>AE
theorem XW : ∀{K:rP},K.lookup T=AC o->(T,o) ∈ K
 | [],h=>by cases h
 | p::K,h=>by
  rw[aZ]at h;by_cases hp:T=p.1
  ·rw[show (T == p.1)=AE by simpa using hp]at h;cases h;rw[hp];exact aH
  ·rw[show (T == p.1)=AF by simpa using hp]at h;exact aA _ (XW h)
theorem Qw{K:rP}(e:KQ K=AE)(X:K.In h)(hT:h.get? T=AC { cls:=.none,data:=.fields ps }):K.lookup T=AD:=by
 cases q:K.lookup T with
 | none=>rfl
 | some o =>
  have g:=X _ _ q;rw[hT]at g;cases g;have:=AQ.mp e _ (XW q);simp at this
def YS{K:rP}{st:si}(F:Fun K x qual st f fd)(hcc:fd.code=.ref cc)(S:zl N ps (zg st))(len:∀vs H Q E,sp vs H Q E->vs.length=ps.length)(hbody:∀(A:sD) (outer:List Am) (s:rS) (H:Hp) (vs:List V) (Q:VK) (E:XK),Room k (A.deeper (tu qual (zg st) s⁻¹ f (.ref cc)))->sp vs H Q E ->
   ∃t,PSs (wb CX0 P w K mg base N qual (zg st) f (.ref cc) A outer s H E).nox (zZ st) t/\t { nx:=λZ H'=>Q .non H',rt:=Q } (start N vs) H):FnOk P w K mg base CX0 (k+1) f fd ps sp:=by let#[oc,od,kV,doc,pm,an,cdv,ct,osl,rfl,lk,hcd]:=F.ex;have e:cdv=.ref cc:=hcc;subst e;refine Ue lk hcd S len λA outer s H vs Q E hr hsp=>?_;let#[t,h,q]:=hbody A outer s H vs Q E hr hsp;exact#[t,h.nox,q]
theorem kC{pos pos':Az}(l:List rR)(h:Ac l)(hl:pos'.line≠pos.line):codeAmong pos' (l ++ [rawInt pos.line,rawInt pos.col,c])=codeAmong pos' l:=by
 fun_induction Ac l with
 | case1 =>
  erw[cP,codeAmong,rawInt]
  rw[y9]
  erw[ce,beq_iff_eq]
  intro z;exact hl (by have:=z.1;lia)
 | case2 a t b u x rest ih =>
  erw[ba,codeAmong]
  split
  ·rfl
  ·exact ih h
 | case3 l h1 h2=>exact h.elim
def zeU(P:rQ)(pos:Az)(H H':Hp):Prop:=∀pos' q',pos'.line≠pos.line->TabOk H P pos' q'->TabOk H' P pos' q'
def TabOk.same'(h:TabOk H T pos q)(s:Same H H'):TabOk H' T pos q:=by
 let#[ps,h1,h2,h3]:=h;refine#[ps,s _ _ h1,h2,?_];rcases h3 with h3 | ⟨c',h4,h5⟩
 ·exact .inl h3
 ·exact .inr #[c',h4,s _ _ h5]
section
variable{P:rX}{w:sk}{K:rP}{mg mb:rV->Option rR}{CX:CXT}{k:Nat}{fa a:rQ}{TS:List rQ}{fd:rW}{x:rV}{sp:Sp}{s₁:rS}{vs:List rR}{ns:List Int}
end in def zcL:tw:={ cls:=.none,data:=.fields #[] }
def jZ(KX:K.In s₁.heap)(hTS:∀T ∈ TS,K.lookup T=AD/\s₁.heap.get? T=AC zcL/\Ay s₁.heap T)(hns:s₁.heap.Ns rM mg)(hb:s₁.heap.Ns builtinsNs mb)(hbb:∀x:rV,x≠"__name__"->mb x=sN x)(hlim:s₁.heap.NoLimit)(hg:s₁.gens=#[])(ha:s₁.heap.get? a=AC { cls:=.type "list",data:=.seq vs.toArray }) (hr:Room k callerA)(F:∀base:sq,K.In base->base.Ns rM mg->(∀T,s₁.heap.BuiltinsAt mg T->base.BuiltinsAt mg T)->(∀c T,PySem.W.CodeHd s₁.heap c T->PySem.W.CodeHd base c T)->FnOk P w K mg base CX k fa fd [x] sp) (hbind:∀(s:rS) (u:rR),tN s fd #[[u],[]] [(x,u)])(hCX:∀H e s',CX [] H s₁ (λZ Z Z=>False) e s'->False) (H:Hp) (h1:∀T ∈ TS,H T=AC (.tbl #[])) (h2:∀b u,H b=AC u->b ∈ TS\/(b=a/\K.lookup a=AD/\u=.frz { cls:=.type "list",data:=.seq vs.toArray } (.lst (ns.map V.int))))(hok:HOk P w H s₁.heap) (hsp:sp [.ref a] H (λv Z=>v=.bl AE) λZ Z Z=>False) :
  sP (model P w) callerA (.call (.ref fa) #[[.ref a],[]]) (λr s'=>r=.ok (.ret (.bool AE))/\OldK s₁.heap s'.heap/\s'.os=s₁.os/\tG s'.gens) s₁:=by
 have stay:∀b o,s₁.heap.get? b=AC o->b ∉ TS->b≠a->(W5 s₁.heap H).get? b=AC o:=λb o e n1 n2=>Xw e (by
  cases q:H b with
  | none=>rfl
  | some u =>
   rcases h2 b u q with z | z
   ·exact y4 z n1
   ·exact y4 z.1 n2)
 have dat:∀b o,s₁.heap.get? b=AC o->(∀vs,o.data≠.fields vs\/o.cls≠.none)->(∀vs n,o.data≠.seq vs n)->(W5 s₁.heap H).get? b=AC o:=λb o e h1 h2=>stay b o e (λz=>by
  rw[(hTS b z).2.1]at e;cases e
  rcases h1 #[]with q | q <;> exact q rfl) λz=>by
  rw[z,ha]at e;cases e;exact h2 _ _ rfl
 have nsStay:∀(b:rQ) (m:rV->Option rR),s₁.heap.Ns b m->(W5 s₁.heap H).Ns b m:=λb m hN=>by
  let#[o,es,ep,e,d,rest]:=hN;exact#[o,es,ep,dat b o e (λvs=>.inl λz=>by rw[d]at z;cases z) (λvs n z=>by rw[d]at z;cases z),d,rest]
 have kStay:K.In (W5 s₁.heap H):=λb o e=>by
  have g:=KX b o e;refine Xw g ?_
  cases q:H b with
  | none=>rfl
  | some u =>
   rcases h2 b u q with z | z
   ·rw[(hTS b z).1]at e;cases e
   ·rw[z.1,z.2.1]at e;cases e
 have bStay:∀T0,s₁.heap.BuiltinsAt mg T0->(W5 s₁.heap H).BuiltinsAt mg T0:=λT0 hbm=>by
  let#[bm,o,b1,b2,b3,b4,b5,b6,b7,b8]:=hbm;exact#[bm,o,b1,b2,b3,b4,dat bm o b5 (λvs=>.inr λz=>by rw[b6]at z;cases z) (λvs n z=>by rw[b8]at z;cases z),b6,b7,b8]
 have cStay:∀c0 T0,PySem.W.CodeHd s₁.heap c0 T0->PySem.W.CodeHd (W5 s₁.heap H) c0 T0:=λc0 T0 hcd=>by
  let#[o,vs',file,tf,flags,tg,inF,text,tt,c1,c2,c3,c4,c5,c6,c7,c8,c9,c10]:=hcd;exact#[o,vs',file,tf,flags,tg,inF,text,tt,dat c0 o c1 (λvs=>.inr λz=>by rw[c2]at z;cases z) (λvs n z=>by rw[c3]at z;cases z),c2,c3,c4,c5,c6,c7,c8,c9,c10]
 let#[mc,l1,l2]:=hlim;have M0:Mod K mg (W5 s₁.heap H):={ kin:=kStay,glob:=nsStay _ _ hns,blt:=#[mb,nsStay _ _ hb,hbb],nolimit:=#[mc,nsStay _ _ l1,l2] };have E0:Env0 P w K mg (W5 s₁.heap H) callerA [] s₁ H:={ frames:=rfl,mod:=M0,bs:=λb o e=>zaX e,bsz:=Nat.le_of_eq (VB _ _),funs:=trivial,frf:=λb z=>(nomatch (show b ∈ ([]:List rQ)from z)),hok:=hok,bare:=.of_eq hg };refine sE ((F _ kStay (nsStay _ _ hns) bStay cStay).run callerA [] s₁ H #[[.ref a],[]] [.ref a] [.ref a] (λv Z=>v=.bl AE) (λZ Z Z=>False) hr E0 (hbind s₁ (.ref a)) (.cons rfl .nil) hsp) λr s' hq=>?_;rcases r with e | fl
 ·exact (hCX H e s' hq).elim
 rcases fl with _ | _ | _ | u
 all_goals first | exact False.elim hq | skip
 let#[v,H',e1,e2,un,hok',rv,ev]:=hq;have ev':v=V.bl AE:=ev;subst ev';have eu:u=Value.bool AE:=rv;subst eu
 have tabs:∀T0 ∈ TS,∃more,s'.heap.get? T0=AC { cls:=.none,data:=.fields (#[] ++ more) }:=λT0 hh=>by
  let#[more,hT2]:=un.tbls T0 #[] (h1 T0 hh);exact#[more,hok' T0 _ hT2]
 have each:∀b o,s₁.heap.get? b=AC o->b ∉ TS->s'.heap.get? b=AC o:=λb o e n=>by
  cases q:H b with
  | none=>exact un.keep b o e q (λz=>(nomatch (show b ∈ ([]:List rQ)from z))) (λz=>(nomatch z))
  | some ob =>
   rcases h2 b ob q with z | ⟨z,_,zz⟩
   ·exact y4 z n
   ·subst zz;have g:=(hok' b _ (un.frzs b _ _ q)).1;rw[z,ha]at e;cases e;exact g
 refine#[rfl,#[λb o e=>?_,λb o e=>?_],e1,e2]
 ·by_cases hbT:b ∈ TS
  ·let#[_,g2,g3]:=hTS b hbT;let#[m1,t1]:=tabs b hbT;rw[g2]at e;cases e;exact .inr (.inl #[g3,rfl,#[],m1,rfl,t1])
  ·exact .inl (each b o e hbT)
 ·by_cases hbT:b ∈ TS
  ·let#[m1,t1]:=tabs b hbT;exact#[_,t1]
  ·exact#[o,each b o e hbT]
end in def Ky(TS:List rQ):Hp:=λb=>if b ∈ TS then AC (.tbl #[])else AD
theorem YW{b:rQ}{u:HO}(e:Ky TS b=AC u):b ∈ TS/\u=.tbl #[]:=by
 unfold Ky at e;split at e
 ·cases e;exact#[by assumption,rfl]
 ·cases e
def WD(KX:K.In s₁.heap)(hTS:∀T ∈ TS,K.lookup T=AD/\s₁.heap.get? T=AC zcL/\Ay s₁.heap T)(hns:s₁.heap.Ns rM mg)(hb:s₁.heap.Ns builtinsNs mb)(hbb:∀x:rV,x≠"__name__"->mb x=sN x)(hlim:s₁.heap.NoLimit)(hg:s₁.gens=#[])(ha:s₁.heap.get? a=AC { cls:=.type "list",data:=.seq vs.toArray }) (hi:Ar vs ns) (hl:ns.length<=rO) (hr:Room k callerA)(F:∀base:sq,K.In base->base.Ns rM mg->(∀T,s₁.heap.BuiltinsAt mg T->base.BuiltinsAt mg T)->(∀c T,PySem.W.CodeHd s₁.heap c T->PySem.W.CodeHd base c T)->FnOk P w K mg base CX k fa fd [x] sp) (hbind:∀(s:rS) (u:rR),tN s fd #[[u],[]] [(x,u)])(hCX:∀H e s',CX [] H s₁ (λZ Z Z=>False) e s'->False) (hsp:∀H:Hp,(∀T ∈ TS,H T=AC (.tbl #[]))->SqL K H a (ns.map V.int)->sp [.ref a] H (λv Z=>v=.bl AE) λZ Z Z=>False) :
  sP (model P w) callerA (.call (.ref fa) #[[.ref a],[]]) (λr s'=>r=.ok (.ret (.bool AE))/\OldK s₁.heap s'.heap/\s'.os=s₁.os/\tG s'.gens) s₁:=by
 have rv:=ZG hi;have hlv:=hi.length
 have hTa:∀T ∈ TS,T≠a:=λT hT z=>by
  have:=(hTS T hT).2.1;rw[z,ha]at this;cases this
 have g1:∀T ∈ TS,Ky TS T=AC (.tbl #[]):=λT hT=>by
  unfold Ky;rw[y6 hT]
 have okT:∀(H:Hp) b u,Ky TS b=AC u->ObjOk P w H s₁.heap b u:=λH b u h=>by
  let#[hm,rfl]:=YW h;exact (hTS b hm).2.1
 rcases hk:K.lookup a with _ | o
 ·refine jZ (ns:=ns) KX hTS hns hb hbb hlim hg ha hr F hbind hCX (upd (Ky TS) a (.frz { cls:=.type "list",data:=.seq vs.toArray } (.lst (ns.map V.int)))) (λT hT=>?_) (λb u e=>?_) (λb u e=>?_) ?_
  ·rw[zk (hTa T hT)];exact g1 T hT
  ·by_cases hba:b=a
   ·subst hba;rw[zc]at e;cases e;exact .inr #[rfl,hk,rfl]
   ·rw[zk hba]at e;exact .inl (YW e).1
  ·by_cases hba:b=a
   ·subst hba;rw[zc]at e;cases e;exact#[ha,by rw[aa];exact hl,vs,_,rv,ha]
   ·rw[zk hba]at e;exact okT _ b u e
  ·exact hsp _ (λT hT=>by rw[zk (hTa T hT)];exact g1 T hT) (.inl (.inr #[_,zc]))
 ·have e:=KX a o hk;rw[ha]at e;cases e;exact jZ (ns:=ns) KX hTS hns hb hbb hlim hg ha hr F hbind hCX (Ky TS) g1 (λb u e=>.inl (YW e).1) (λb u e=>okT _ b u e) (hsp _ g1 (.inr #[_,vs.toArray,_,hk,rfl,rfl,rfl,by rw[aj,hlv];exact hl,by simpa using rv]))
end
def vv(mg:rV->Option rR)(h:sq)(nm:rV)(cc T:rQ):Prop:=(∃a o fd,mg nm=AC (.ref a)/\h.get? a=AC o/\o.data=.func fd/\fd.code=.ref cc)/\rM≠T
def ux(mg:rV->Option rR)(base:sq)(cc T:rQ):Prop:=base.BuiltinsAt mg T/\PySem.W.CodeHd base cc T
def walk_ofT3{l:PySem.W.OpenLaw}{n k:Nat}{q:rX}{loose:List rV}{XP:(rV->Option rR)->sq->Prop}{YP:sk->sq->Prop}{d da db dc:DefRec}{K:Params->rP}{CX:sk->CXT}{sp:sk->rQ->rQ->rQ->Sp}{x:rV}(hn:l.most=AC n) (hn2:n<=rO) (hdf:d.params.defaults=[]) (hr:Room k callerA) (hda:da ∈ recsOf q) (hdb:db ∈ recsOf q) (hdc:dc ∈ recsOf q)(hY:∀(w:sk) (h:sq),YP w h->(K w.params).In h) (hno:∀w:sk,KQ (K w.params)=AE)(F:∀(w:sk) (mg:rV->Option rR) (fa:rQ) (h:sq) (c1 T1 c2 T2 c3 T3:rQ),(K w.params).In h->h.Ns rM mg->mg d.name=AC (.ref fa)->vv mg h da.name c1 T1->vv mg h db.name c2 T2->vv mg h dc.name c3 T3 ->
   ∃fd:rW,(∀(s:rS) (u:rR),tN s fd #[[u],[]] [(x,u)]) /\
    ∀base:sq,(K w.params).In base->base.Ns rM mg->ux mg base c1 T1->ux mg base c2 T2->ux mg base c3 T3->FnOk l.prog w (K w.params) mg base (CX w) k fa fd [x] (sp w T1 T2 T3))(hsp:∀(w:sk) (H:Hp) (a:rQ) (ns:List Int) (T1 T2 T3:rQ),ns.length<=n->(∀z ∈ ns,w8 z)->H T1=AC (.tbl #[])->H T2=AC (.tbl #[])->H T3=AC (.tbl #[])->SqL (K w.params) H a (ns.map V.int)->sp w T1 T2 T3 [.ref a] H (λv Z=>v=.bl AE) λZ Z Z=>False)(hCX:∀(w:sk) (H:Hp) (s:rS) (e:rR) (s':rS),CX w [] H s (λZ Z Z=>False) e s'->False) :
  PySem.W.WalkO q loose XP YP l.row.toRowW d [] (λf vs=>gd f vs):=by
 refine Yh hn hdf λw s₀ s₁ mg mb fa o pm cd doc a vs ns G Y ho hd hcd hmg hobj hints hlen hb' hg=>?_;have X0:=hY w _ Y
 have key:∀dn:DefRec,dn ∈ recsOf q->∃cc T,vv mg s₁.heap dn.name cc T/\ux mg s₁.heap cc T/\(K w.params).lookup T=AD/\s₁.heap.get? T=AC zcL/\Ay s₁.heap T:=λdn hdn=>by
  let#[ai,oi,fdi,cc,T,m1,m2,m3,m4,m5,m6]:=G.T.tab dn hdn;have hTo:s₁.heap.get? T=AC zcL:=m6.2;refine#[cc,T,#[#[ai,oi,fdi,m1,m2,m3,m4],λz=>?_],#[?_,PySem.W.CodeHd.of m5 m6],Qw (hno w) X0 hTo,hTo,m6.isCodeTable]
  ·let#[o,es,ep,e,hd',_]:=G.T.g;rw[z,hTo]at e;cases e;cases hd'
  ·let#[bm,ob,b1,b2,b3,b4,b5,b6]:=G.T.bmain;refine#[bm,ob,b1,b2,λz=>?_,λz=>?_,b3,b4,b5,b6]
   ·let#[o,es,ep,e,hd',_]:=G.T.g;rw[z,e]at b3;cases b3;rw[hd']at b6;cases b6
   ·rw[z,hTo]at b3;cases b3;cases b4
 let#[c1,T1,p1,q1,r1]:=key da hda;let#[c2,T2,p2,q2,r2]:=key db hdb;let#[c3,T3,p3,q3,r3]:=key dc hdc;let#[fd,hbd,hF]:=F w mg fa _ c1 T1 c2 T2 c3 T3 X0 G.T.g hmg p1 p2 p3;refine WD (TS:=[T1,T2,T3]) X0 (λT hT=>?_) G.T.g G.T.b G.T.builtins G.T.nolimit hg hobj hints (aS hlen hn2) hr (λbase a b c d=>hF base a b #[c _ q1.1,d _ _ q1.2] #[c _ q2.1,d _ _ q2.2] #[c _ q3.1,d _ _ q3.2]) hbd (λH e s'=>hCX w H s₁ e s') λH h1 h2=>hsp w H a ns T1 T2 T3 hlen hb' (h1 _ (by simp)) (h1 _ (by simp)) (h1 _ (by simp)) h2;rcases AM.mp hT with rfl | hT
 ·exact r1
 rcases AM.mp hT with rfl | hT
 ·exact r2
 rw[AL.mp hT];exact r3
end L3
namespace L3
mutual section
structure uK(p:rV)(ys:List rV)(scope:tL):Prop where
 kind:scope.kind=.function
 co:scope.isCoroutine=AF
 gen:scope.isGenerator=AF
 nocell:∀z ∈ scope.names,z.2≠.cell
 par:scope.names.lookup p=AC .local
 fre:∀y ∈ ys,scope.names.lookup y=AC .free
 one:∀q ∈ scope.names,q.2=.free->q.1 ∈ ys
structure KI(X:Cx)(ys:List rV)(ixs:())(cl:List (rV × rQ)):Prop where
 len:ixs.length=ys.length
 at_:∀(j:Nat) (y:rV),ys[j]? = AC y->∃(i:Nat) (c:rQ),ixs[j]? = AC i/\X.N[i]? = AC y/\X.env.scope.names.lookup y=AC .cell/\X.env.cells.lookup y=AC c/\cl.lookup y=AC c
 mem:∀z d,cl.lookup z=AC d->z ∈ ys
def zbF(σ:L2.St)(ixs:()):L2.St:=ixs.map λi=>(σ[i]?).getD AD
def Vm(hcode:X.env.code=.ref cc)(hC:PySem.W.CodeHd X.base cc P)(hB:X.base.BuiltinsAt X.mg P)(hgP:rM≠P)(hcl:closureFor scope X.env=pure cl)(hdef:defaultsOf params X.env=([],[]))(I:Inv X AG σ H s)(hT:TabOk H P pos (X.env.qual ++ "<lambda>"))(h:∀f H',H f=AD->UJ H' f "<lambda>" (X.env.qual ++ "<lambda>") params body scope cl->TabOk H' P pos (X.env.qual ++ "<lambda>")->SamT P H H'->zeU P pos H H'->Q (.ref f) H') :
  rT (model X.prog X.w) X.A (eval (.Lambda params body scope pos) X.env) (EP X AG σ Q) X.xe s:=by
 refine PySem.W.kla_eval hdef ?_;let#[ps,hP,ht,hh]:=hT;have hPo:s.heap.get? P=AC (PySem.W.tabObj ps):=I.hok _ _ hP;have hg:=I.mod.glob.keeps I.bk;have Pl:P<s⁻¹:=I.hok.lt hP;rcases hh with hn | ⟨c',hit,hc'⟩
 ·refine PySem.W.kla_makeFunction (mg:=X.mg) hcl I.ok.glob hg hcode (hC.keeps I.bk) hPo ht hn hgP (Z9 hB I.bk) λc' ctv h' tk hx hge hlt hrec htb=>?_;have hsz:s⁻¹<=h'.objs.size:=dq (cN hge hlt)
  have I1:=Inv.grow (P:=P) (c':=c') (f:=h'.objs.size) (more:=(r8 [rawInt pos.line,rawInt pos.col,.ref c'])) (tk:=tk) (o:={ cls:=.type "function",data:=.func (bN "<lambda>" (X.env.qual ++ "<lambda>") params body scope cl ((X.mg "__name__").getD .none) (.ref c') ctv) }) I hP
   (λb u hb e=>ac _ (hx b u hb e)) (ac _ htb) hge hsz (ay hlt) (hrec.push _) (aB _ rfl)
  have hPc:P≠c':=ay (aq Pl hge);have hPf:P≠h'.objs.size:=ay (aq Pl hsz)
  have atc:(upd (upd (upd H P (.tbl (ps ++ (r8 [rawInt pos.line,rawInt pos.col,.ref c'])))) c' (cdE c' (X.env.qual ++ "<lambda>"))) h'.objs.size (fnE h'.objs.size { cls:=.type "function",data:=.func (bN "<lambda>" (X.env.qual ++ "<lambda>") params body scope cl ((X.mg "__name__").getD .none) (.ref c') ctv) })) c'=AC (cdE c' (X.env.qual ++ "<lambda>")):=by
   rw[zk (ay hlt),zc]
  refine#[.ref h'.objs.size,_,I1,rfl,h _ _ (I.hok.fresh hsz) #[c',_,ctv,atc,zc] #[ps ++ (r8 [rawInt pos.line,rawInt pos.col,.ref c']),?_,?_,.inr #[c',?_,atc]] (λb o hb e=>?_) λpos' q' hl' ht'=>?_]
  ·rw[zk hPf,zk hPc,zc]
  ·rw[dj];exact wG _ ht
  ·rw[dj];exact codeAmong_snoc _ ht hn
  ·have hl:=I.hok.lt e;rw[zk (ay (aq hl hsz)),zk (ay (aq hl hge)),zk hb];exact e
  ·let#[ps',hP2,ht2,hh2]:=ht';rw[hP]at hP2;cases hP2;refine#[ps ++ (r8 [rawInt pos.line,rawInt pos.col,.ref c']),?_,?_,?_]
   ·rw[zk hPf,zk hPc,zc]
   ·rw[dj];exact wG _ ht
   ·rw[dj];show codeAmong pos' (ps.toList ++ [rawInt pos.line,rawInt pos.col,.ref c'])=AD\/∃c_1,codeAmong pos' (ps.toList ++ [rawInt pos.line,rawInt pos.col,.ref c'])=AC (.ref c_1)/\_;rw[kC _ ht hl'];rcases hh2 with q | ⟨c2,q,e2⟩
    ·exact .inl q
    ·refine .inr #[c2,q,?_];have hl:=I.hok.lt e2;rw[zk (ay (aq hl hsz)),zk (ay (aq hl hge)),zk (λz=>by rw[z,hP]at e2;cases e2)];exact e2
 ·refine PySem.W.kla_makeFunctionHit (mg:=X.mg) hcl I.ok.glob hg hcode (hC.keeps I.bk) hPo ht hit (Z9 hB I.bk) λctv h' tk hk hsz=>?_;have hfr:H h'.objs.size=AD:=I.hok.fresh hsz
  have I1:=I.laid (a:=h'.objs.size) (t':=tk) (h':=h'.push { cls:=.type "function",data:=.func (bN "<lambda>" (X.env.qual ++ "<lambda>") params body scope cl ((X.mg "__name__").getD .none) (.ref c') ctv) })
   (o:=fnE h'.objs.size { cls:=.type "function",data:=.func (bN "<lambda>" (X.env.qual ++ "<lambda>") params body scope cl ((X.mg "__name__").getD .none) (.ref c') ctv) })
   (λb u e=>ac _ (hk b u e)) hsz (JP (aB _ rfl))
  have sm:=zd (o:=fnE h'.objs.size { cls:=.type "function",data:=.func (bN "<lambda>" (X.env.qual ++ "<lambda>") params body scope cl ((X.mg "__name__").getD .none) (.ref c') ctv) }) hfr;exact#[.ref h'.objs.size,_,I1,rfl,h _ _ hfr #[c',_,ctv,sm _ _ hc',zc] #[ps,sm _ _ hP,ht,.inr #[c',hit,sm _ _ hc']] (λb o Z e=>sm _ _ e) λpos' q' Z ht'=>ht'.same' sm]
def qF(X:Cx)(N:List rV)(s:rS)(H:Hp)(qual:rV)(scope:tL)(f:rQ)(cd:rR)(cl:List (rV × rQ)):Cx where
 prog:=X.prog
 w:=X.w
 K:=X.K
 mg:=X.mg
 base:=X.base
 A:=X.A.deeper (eJ qual scope s⁻¹ f cd cl)
 N:=N
 s₀:=s
 H₀:=H
 env:=eJ qual scope s⁻¹ f cd cl
 outer:=X.stack
 stack:=eJ qual scope s⁻¹ f cd cl::X.stack
 ex:=[]
 calm:=AE
 fn:=λZ=>AF
 pn:=[]
 xe:=λZ Z=>False
structure CellsAt(s:rS)(H:Hp)(ys:List rV)(cl:List (rV × rQ))(vs:List V):Prop where
 len:vs.length=ys.length
 at_:∀(j:Nat) (y:rV),ys[j]? = AC y->∃c u v,cl.lookup y=AC c/\vs[j]? = AC v/\RelV v u/\s.heap.IsCell c (AC u)/\H c=AD
 mem:∀z d,cl.lookup z=AC d->z ∈ ys
 inj:∀z z' d,cl.lookup z=AC d->cl.lookup z'=AC d->z=z'
def CellsAt.of(I:Inv X AG σ H s)(hcap:KI X ys ixs cl)(hσ:zbF σ ixs=vs.map AC):CellsAt s H ys cl vs:=by
 have hlen:vs.length=ys.length:=by
  have:=congrArg fV hσ;unfold zbF at this;rw[aa,aa]at this;rw[<- this,hcap.len]
 let#[m,hn,hl]:=I.loc
 have key:∀(j:Nat) (y:rV),ys[j]? = AC y->∃c u v,X.env.cells.lookup y=AC c/\cl.lookup y=AC c/\vs[j]? = AC v/\RelV v u/\s.heap.IsCell c (AC u):=λj y hj=>by
  let#[i,c,h1,h2,h3,h4,h5]:=hcap.at_ j y hj;have hc:(zbF σ ixs)[j]? =(vs.map AC)[j]?:=by rw[hσ]
  unfold zbF at hc;rw[ax,ax,h1]at hc
  cases hv:vs[j]? with
  | none =>
   rw[hv]at hc;cases hc
  | some v =>
   rw[hv]at hc;have hc':(σ[i]?).getD AD=AC v:=Option.some.inj hc
   have hs:σ[i]? = AC (AC v):=by
    cases q:σ[i]? with
    | none=>rw[q]at hc';cases hc'
    | some z =>
     rw[q]at hc';exact congrArg AC hc'
   let#[uy,ry,lk]:=hl i y v h2 hs (.inr (.inl h3));rcases lk with ⟨z,_⟩ | ⟨_,c2,e2,z⟩
   ·have z':X.env.scope.names.lookup y=AC .local:=z;rw[h3]at z';cases z'
   ·rw[h4]at e2;cases e2;exact#[c,uy,v,h4,h5,rfl,ry,z]
 have lkc:∀z d,cl.lookup z=AC d->X.env.cells.lookup z=AC d:=λz d h=>by
  let#[j,hj]:=AY.mp (hcap.mem z d h);let#[c,_,_,g1,g2,_]:=key j z hj;rw[h]at g2;cases g2;exact g1
 refine#[hlen,λj y hj=>?_,hcap.mem,λz z' d h1 h2=>I.ok.inj z z' d (lkc z d h1) (lkc z' d h2)];let#[c,u,v,g1,g2,g3,g4,g5]:=key j y hj;exact#[c,u,v,g2,g3,g4,g5,I.freeC y c g1]
def CellsAt.keep(h:CellsAt X.s₀ X.H₀ ys cl vs)(hex:X.ex=[])(I:Inv X AG σ H s):CellsAt s H ys cl vs:=by
 refine#[h.len,λj y hj=>?_,h.mem,h.inj];let#[c,u,v,g1,g2,g3,#[o,e,d],g5]:=h.at_ j y hj;have hx:c ∉ X.ex:=by rw[hex];exact ci
 let#[sl,q]:=I.base.any e g5 hx;exact#[c,u,v,g1,g2,g3,#[_,q,d],I.base.free c o e g5 hx]
def QB(S:uK p ys scope)(hd:X.A.handled=AD)(I:Inv X AG σ H s)(hC:CellsAt s H ys cl vs)(rx:RelV x u){h₁:sq}{tk:Nat}(hns:h₁.Ns s⁻¹ (λz=>[(p,u)].reverse.lookup z)) (hk₁:∀b o,s.heap.get? b=AC o->h₁.get? b=AC o) :
  Inv (qF X (p::ys) s H qual scope f cv cl) [] (AC x::vs.map AC) H { s with heap:=h₁,toks:=tk }:=by
 have key:∀(j:Nat) (y:rV),ys[j]? = AC y->∃c uy vy,cl.lookup y=AC c/\vs[j]? = AC vy/\RelV vy uy/\h₁.IsCell c (AC uy)/\H c=AD:=λj y hj=>by
  let#[c,u,v,g1,g2,g3,#[o,e,d],g5]:=hC.at_ j y hj;exact#[c,u,v,g1,g2,g3,#[o,hk₁ _ _ e,d],g5]
 have lkc:∀z d,cl.lookup z=AC d->H d=AD/\∃uy,h₁.IsCell d (AC uy):=λz d h=>by
  let#[j,hj]:=AY.mp (hC.mem z d h);let#[c,uy,vy,g2,_,_,g5,g6]:=key j z hj;rw[h]at g2;cases g2;exact#[g6,uy,g5]
 have e0:=I.env0;have noA:∀b:rQ,b ∉ (qF X (p::ys) s H qual scope f cv cl).ex:=λb z=>y4 (show b ∈ ([]:List rQ)from z) (by simp)
 refine#[#[e0.mod,S.kind,rfl,rfl,ah _,λz z' d h1 h2=>hC.inj z z' d h1 h2,λz hz=>?_,λz d h Z=>?_,λZ=>hd,Around.frames_deeper e0.frames,.inr #[rfl,rfl],λb z=>y4 z (noA b),e0.bs,e0.bsz,λb Z Z=>noA b,λb z=>y4 z (noA b),e0.funs,e0.frf],
  rfl,e0.bare,Un.kept hk₁,#[_,hns,λi z v h1 h2 h3=>?_],λz d h=>?_,e0.hok.fresh (ah _),λz d h=>?_,λq hq=>y4 (show q ∈ ([]:List (rQ × tw))from hq) (by simp),e0.hok.kept hk₁,?_]
 ·have hz':scope.names.lookup z=AC .cell\/scope.names.lookup z=AC .free:=hz;rcases hz' with hz' | hz'
  ·exact y4 rfl (S.nocell _ (bx hz'))
  ·let#[j,hj]:=AY.mp (S.one _ (bx hz') rfl);let#[c,_,_,g2,_]:=key j z hj;exact#[c,g2]
 ·exact y4 (show (AF:Bool)=AE from h) ∅
 ·match i,h1,h2 with
  | 0,h1,h2 =>
   cases h1;cases h2;refine#[u,rx,.inl #[S.par,?_]];show bn p [(p,u)].reverse=AC u;simp [bn]
  | i+1,h1,h2 =>
   have h1':ys[i]? = AC z:=h1;let#[c,uy,vy,g2,g3,g4,g5,_]:=key i z h1';have h2':(vs.map AC)[i]? = AC (AC v):=h2;rw[ax,g3]at h2';cases h2';exact#[uy,g4,.inr #[.inr (S.fre z (af h1')),c,g2,g5]]
 ·let#[_,uy,g]:=lkc z d h;exact#[_,g]
 ·exact (lkc z d h).1
 ·show (vs.map AC).length+1=ys.length+1;rw[aa,hC.len]
def Qg(S:uK p ys scope)(hr:Room (k+1) X.A)(hbind:bindArgs (bN name qual params body scope cl pm cv ctv) #[[u],[]]=pure [(p,u)])(I:Inv X AG σ H s)(ho:s.heap.get? f=AC { cls:=.type "function",data:=.func (bN name qual params body scope cl pm cv ctv) }) (hcd:s.heap.CodeRec cv qual) (hC:CellsAt s H ys cl vs)(rx:RelV x u) (hb:PE (qF X (p::ys) s H qual scope f cv cl) body t) (h:t (AC x::vs.map AC) H Q) :
  rT (model X.prog X.w) X.A (call (.ref f) [u]) (EP X AG σ Q) X.xe s:=by
 refine sJ (PySem.W.kla_callFunE hr.depth ho rfl S.co S.gen rfl hcd ?_);rw[hbind];refine rL (tX S.nocell (λz hz=>?_) (λh₁ hns hsb=>?_) S.kind)
 ·have e:z=(p,u):=by simpa using hz
  subst e;exact S.par
 have hk₁:∀b o,s.heap.get? b=AC o->h₁.get? b=AC o:=λb o e=>hsb.extBut b o (ay (ao e)) (ac _ e);refine#[I.nolimit.keeps hk₁,?_];have I1:=QB (qual:=qual) (f:=f) (cv:=cv) (tk:=s.toks+1) S hr.hd I hC rx hns hk₁;show sP _ _ (.expr body (eJ qual scope s⁻¹ f cv cl)) _ _;refine PySem.W.kla_codeExpr (tq (hb [] _ _ H Q I1 h) (λv s' hv=>?_) λZ Z z=>False.elim z);let#[w',H',J,rw',q]:=hv;exact I.after #[w',H',J.os,J.bare,J.base,J.hok,rw',q]
def Vi(i:Nat)(LA:Hp->rQ->Prop)(te tb:TE)(vs:List V):TE:=λσ H Q=>onSl σ i λfv=>∃f,fv=.ref f/\LA H f/\te σ H λv H1=>LA H1 f/\tb (AC v::vs.map AC) H1 Q
def Qm{i:Nat}{z:rV}{e:sG}{te tb:TE}{zp pos:Az}(S:uK p ys scope)(hr:Room (k+1) X.A)(hN:X.N[i]? = AC z)(hv:X.env.scope.names.lookup z=AC .local)(hC:CellsAt X.s₀ X.H₀ ys cl vs)(hex:X.ex=[])(ha:PA X [e] (zE te yT))(hbind:∀(cv pm ctv u:rR),bindArgs (bN name qual params body scope cl pm cv ctv) #[[u],[]]=pure [(p,u)])(hb:∀(s:rS) (H:Hp) (f:rQ) (cv:rR),Room k (qF X (p::ys) s H qual scope f cv cl).A->PE (qF X (p::ys) s H qual scope f cv cl) body tb)(hst:‹rN [e] X.env=(AF,eval e X.env)::rN [] X.env›) (hd:‹(z ==("__debug__" : rV))=AF›) :
  PE X (.Call (.Name z zp) [e] [] pos) (Vi i (λH f=>UJ H f name qual params body scope cl) te tb vs):=by
 intros Q I h;let#[fv,e1,f,rfl,hL,h]:=onSl.of h;let#[m,hn,hl]:=I.loc;let#[u,r,lk]:=hl i z _ hN e1 (.inl hv);cases r
 have fnAt:∀{H':Hp} {s':rS} {σ':L2.St} {pins':List (rQ × tw)},Inv X pins' σ' H' s'->UJ H' f name qual params body scope cl->PySem.W.FnAt f s'.heap:=λI' hL'=>by
  let#[c',pm,ctv,_,e2]:=hL';exact#[_,_,_,_,(I'.hok _ _ e2).1]
 refine rY ?_
 have fin:∀{Q':rR->rS->Prop},Q' (.ref f) s->rT (model X.prog X.w) X.A (eval (.Name z zp) X.env) Q' X.xe s:=λhq=>by
  rcases lk with ⟨hk,hm⟩ | ⟨hk,_⟩
  ·exact Ak (tZ I.ok.kind hk hn hm hq) hd
  ·have hk':X.env.scope.names.lookup z=AC .cell\/X.env.scope.names.lookup z=AC .free:=hk;rw[hv]at hk';rcases hk' with hk' | hk' <;> cases hk'
 refine fin ?_;have h':(zE te yT) σ H (zew λv H1=>UJ H1 f name qual params body scope cl/\tb (AC v::vs.map AC) H1 Q):=h;refine PySem.W.callWith_F (fnAt I hL) (thn (ha pos AG s σ H _ I h') λus s1=>el5 λws H1 I1 r1 q1=>?_) hst rfl;let#[v,rfl,hL1,q1]:=KZ q1;let#[u,rfl,ru]:=wY r1;refine#[fnAt I1 hL1,?_];let#[c',pm,ctv,g1,g2]:=hL1;exact Qg (k:=k) S hr (hbind _ _ _ _) I1 (I1.hok _ _ g2).1 (I1.hok _ _ g1).1 (hC.keep hex I1) ru (hb s1 H1 f (.ref c') (hr.deeper _)) q1
structure Jf(P:rX)(w:sk)(K:rP)(mg:rV->Option rR)(base:sq)(k:Nat)(f:rQ)(fd:rW)(ps:List rV)(φ:rS->Hp->Prop)(sp:Sp):Prop where
 len:∀vs H Q E,sp vs H Q E->vs.length=ps.length
 run:∀(A:sD) (outer:List Am) (s:rS) (H:Hp) (args:Args) (us:List rR) (vs:List V) (Q:VK) (E:XK),Room k A->Env0 P w K mg base A outer s H->tN s fd args (ps.zip us)->Vals vs us->φ s H->sp vs H Q E ->
  sP (model P w) A (.call (.ref f) args) (CR CX0 outer P w H s Q E) s
theorem KG{P:rX}{w:sk}{K:rP}{mg:rV->Option rR}{base:sq}{x qual:rV}{st:si}{f:rQ}{fd:rW}{N ps:List rV}{k:Nat}{φ:rS->Hp->Prop}{sp:Sp}(F:Fun K x qual st f fd)(S:zl N ps (zg st))(len:∀vs H Q E,sp vs H Q E->vs.length=ps.length)(hbody:∀(cdv:rR) (A:sD) (outer:List Am) (s:rS) (H:Hp) (vs:List V) (Q:VK) (E:XK),Room k (A.deeper (tu qual (zg st) s⁻¹ f cdv))->φ s H->sp vs H Q E ->
   ∃t,PSs (wb CX0 P w K mg base N qual (zg st) f cdv A outer s H E).nox (zZ st) t/\t { nx:=λZ H'=>Q .non H',rt:=Q } (start N vs) H):Jf P w K mg base (k+1) f fd ps φ sp:=by
 refine#[len,λA outer s H args us vs Q E hr e0 hb r hφ hsp=>?_];let#[oc,od,kV,doc,pm,an,cdv,ct,osl,rfl,lk,hcd]:=F.ex;have hl:=len _ _ _ _ hsp;have KX:K.In s.heap:=e0.mod.kin.keeps λb o e=>(e0.bs b o e).1;have lim:s.heap.NoLimit:=e0.mod.nolimit.keeps λb o e=>(e0.bs b o e).1
 have hkind:∀y ∈ ps.zip us,(zg st).names.lookup y.1=AC .local\/((zg st).names.lookup y.1=AC .cell/\((cellsFrom (s⁻¹+1) (zg st).names []).lookup y.1).isSome=AE):=λy hy=>by
  rcases S.par y.1 (cK (show (y.1,y.2) ∈ ps.zip us from hy)).1 with q | q
  ·exact .inl q
  ·exact .inr #[q,cU _ _ _ (.inl q)]
 refine tF hr.depth (KX _ _ lk) rfl S.co S.gen rfl (ee KX hcd) (hb _ _ _ _ ?_);refine tm S.kind hkind λenv he s1 x=>?_;subst he;refine#[lim.keeps x.toInCall.keep,Aq ?_];let#[t,ht,hq]:=hbody cdv A outer s H vs Q E (hr.deeper _) hφ hsp;have I:Inv (wb CX0 P w K mg base N qual (zg st) f cdv A outer s H E) [] (start N vs) H s1:=jc S hr.hd e0 hl r x;refine tq (ht.nox [] s1 (start N vs) H _ I hq) (λfl s' hs=>?_) λe s' hs=>hs
 have fin:∀{σ':St} {H':Hp} {v:V} {u:rR},Inv (wb CX0 P w K mg base N qual (zg st) f cdv A outer s H E) [] σ' H' s'->RelV v u->Q v H'->CE outer P w H s Q u s' :=
  λ{σ' H' v u} J rv q=>#[v,H',J.os,J.bare,J.base,J.hok,rv,q]
 cases fl with
 | ret u =>
  let#[v,σ',H',J,rv,q]:=hs;exact fin J rv q
 | next =>
  let#[σ',H',J,q]:=hs;exact fin (v:=V.non) (u:=p9) J rfl q
 | brk =>
  let#[_,_,_,q]:=hs;exact False.elim q
 | cont =>
  let#[_,_,_,q]:=hs;exact False.elim q
def jW(sp:List V->Sp)(ixs:())(t:TA):TE:=λσ H Q=>t σ H λvs H1=>∃cvs,zbF σ ixs=cvs.map AC/\sp cvs vs H1 Q E0
theorem Jw{X:Cx}{k j:Nat}{ps ys:List rV}{sp:List V->Sp}{f:rQ}{fd:rW}{x:rV}{p pos:Az}{e:sG}{es:List sG}{t:TA}{ixs:()}{cl:List (rV × rQ)}(F:∀cvs,Jf X.prog X.w X.K X.mg X.base k f fd ps (λs H=>CellsAt s H ys cl cvs) (sp cvs)) (hr:Room j X.A) (hg:Gl X x) (hm:X.mg x=AC (.ref f)) (hk:aE X.K (.ref f)=AE) (hb:Binds X.K fd ps []) (hcap:KI X ys ixs cl) (ha:PA X (e::es) t)(hdb:‹(x ==("__debug__" : rV))=AF›) (he:‹rN (e::es) X.env=(AF,eval e X.env)::rN es X.env›) (hpl:‹(sf pos (rN es X.env)).any (·.1)=AF›) (hj:‹k<=j›) :
  PE X (.Call (.Name x p) (e::es) [] pos) (jW sp ixs t):=by
 intros Q I h;refine rY (yS I hg hm ?_ hdb);refine aT (h₀:=X.base) I.ok.mod.kin hk (thn (ha pos AG s σ H _ I h) λus s1=>el5 λvs H1 I1 r q=>#[I1.kIn,?_]) he hpl;let#[cvs,hσ,q]:=q;have hl:(us ++ []).length=ps.length:=by rw[aR,<- r.length];exact (F cvs).len _ _ _ _ q
 refine sJ (sE ((F cvs).run X.A X.stack s1 H1 #[us,[]] (us ++ []) vs Q E0 (hr.mono hj) I1.env0 (hb s1 us I1.kIn hl) (by rw[aR];exact r) (CellsAt.of I1 hcap hσ) q) λr s' hq=>?_)
 cases r with
 | error e=>exact kW AG σ H1 s1 e s' I1 hq
 | ok fl =>
  cases fl with
  | ret u=>exact I1.after hq
  | next=>exact False.elim hq
  | brk=>exact False.elim hq
  | cont=>exact False.elim hq
structure LamD where
 p:rV
 ys:List rV
 qual:rV
 params:Ax
 body:sG
 scope:tL
 tb:TE
def LamD.At(L:LamD)(cl:List (rV × rQ))(H:Hp)(f:rQ):Prop:=UJ H f "<lambda>" L.qual L.params L.body L.scope cl
structure Z2(K:rP)(mg:rV->Option rR)(L:LamD):Prop where
 S:uK L.p L.ys L.scope
 bind:∀(cl:List (rV × rQ)) (cv pm ctv u:rR),bindArgs (bN "<lambda>" L.qual L.params L.body L.scope cl pm cv ctv) #[[u],[]]=pure [(L.p,u)]
 rd:∀(X:Cx) (s:rS) (H:Hp) (f:rQ) (cv:rR) (cl:List (rV × rQ)),X.K=K->X.mg=mg->PE (qF X (L.p::L.ys) s H L.qual L.scope f cv cl) L.body L.tb
structure DfE(P:rX)(w:sk)(K:rP)(mg:rV->Option rR)(base:sq)(k:Nat)(nm:rV)(ps:List rV)(sp:LamD->List (rV × rQ)->List V->Sp):Prop where
 ex:∃f fd,(∀(L:LamD) (cl:List (rV × rQ)) (cvs:List V),Z2 K mg L->Jf P w K mg base k f fd ps (λs H=>CellsAt s H L.ys cl cvs) (sp L cl cvs))/\mg nm=AC (.ref f)/\aE K (.ref f)=AE/\Binds K fd ps []
def Js{X:Cx}{L:LamD}{k i:Nat}{cl:List (rV × rQ)}{vs:List V}{z:rV}{e:sG}{te:TE}{zp pos:Az}(hL:Z2 X.K X.mg L)(hr:Room (k+1) X.A)(hN:X.N[i]? = AC z)(hv:X.env.scope.names.lookup z=AC .local)(hC:CellsAt X.s₀ X.H₀ L.ys cl vs)(hex:X.ex=[])(ha:PA X [e] (zE te yT))(hst:‹rN [e] X.env=(AF,eval e X.env)::rN [] X.env›) (hd:‹(z ==("__debug__" : rV))=AF›) :
  PE X (.Call (.Name z zp) [e] [] pos) (Vi i (L.At cl) te L.tb vs) :=
 Qm hL.S hr hN hv hC hex ha (hL.bind cl) (λs H f cv Z=>hL.rd X s H f cv cl rfl rfl) hst hd
def clE{X:Cx}{L:LamD}{k j:Nat}{ps:List rV}{sp:LamD->List (rV × rQ)->List V->Sp}{x:rV}{p pos:Az}{e:sG}{es:List sG}{t:TA}{ixs:()}{cl:List (rV × rQ)}(D:DfE X.prog X.w X.K X.mg X.base k x ps sp)(hL:Z2 X.K X.mg L)(hr:Room j X.A)(hg:Gl X x)(hcap:KI X L.ys ixs cl)(ha:PA X (e::es) t)(hdb:‹(x ==("__debug__" : rV))=AF›) (he:‹rN (e::es) X.env=(AF,eval e X.env)::rN es X.env›) (hpl:‹(sf pos (rN es X.env)).any (·.1)=AF›) (hj:‹k<=j›) :
  PE X (.Call (.Name x p) (e::es) [] pos) (jW (sp L cl) ixs t):=by let#[f,fd,F,hm,hk,hb]:=D.ex;exact Jw (λcvs=>F L cl cvs hL) hr hg hm hk hb hcap ha hdb he hpl hj
def TabOk.nil{H:Hp}{P:rQ}{pos:Az}{q:rV}(h:H P=AC (.tbl #[])):TabOk H P pos q:=#[#[],h,trivial,.inl rfl]
def Vu(P:rQ)(LA:Hp->rQ->Prop):TE:=λZ H Q=>H P=AC (.tbl #[])/\∀f H',H f=AD->LA H' f->SamT P H H'->Q (.ref f) H'
def j8{X:Cx}{L:LamD}{cc P:rQ}{cl:List (rV × rQ)}{e:sG}{lpos:Az}(hcode:X.env.code=.ref cc)(hC:PySem.W.CodeHd X.base cc P)(hB:X.base.BuiltinsAt X.mg P)(hgP:rM≠P)(hcl:closureFor L.scope X.env=pure cl)(hdef:defaultsOf L.params X.env=([],[]))(hq:X.env.qual ++ "<lambda>" = L.qual)(he:e=.Lambda L.params L.body L.scope lpos):PE X e (Vu P (L.At cl)):=by subst he;intros Q I h;refine Vm hcode hC hB hgP hcl hdef I (TabOk.nil h.1) λf H' h1 h2 Z h3 Z=>h.2 f H' h1 ?_ h3;rw[hq]at h2;exact h2
end
end L3
namespace PySem
namespace F
end F
def Heap.IsRevS(h:sq)(a:rQ)(x:rV)(t:Ad)(i:Int):Prop:=∃o,h.get? a=AC o/\o.cls=.type "reversed"/\o.data=.fields (r8 [.str x t,rawInt i])
def Heap.IsRevS.typeIs{s:rS}(z:s.heap.IsRevS a x t i):s.TypeIs (.ref a) "reversed":=let #[o,ho,hc,_]:=z; #[o,ho,hc]
def Heap.IsRevS.at{h h':sq}(z:h.IsRevS a x t i)(e:∀o,h.get? a=AC o->h'.get? a=AC o):h'.IsRevS a x t i:=let #[o,ho,r]:=z; #[o,e _ ho,r]
end PySem
namespace L3
end L3
namespace L2
end L2
namespace L3
open PySem L2
end L3
namespace L3
open PySem.AutoSeq1 (wpAny_loadPart')
open MeetsSeq MeetsSeq2 MeetsSeq3 SeqRoads2 SeqAt
end L3
namespace L3
theorem XA{α:Type}[DecidableEq α](k:α)(v:rR)(x:α):∀kvs:List (α × rR),(kvs.map λkv=>if kv.1=k then (kv.1,v)else kv).find? (λkv=>kv.1=x)=(kvs.find? λkv=>kv.1=x).map λkv=>if kv.1=k then (kv.1,v)else kv
 | []=>rfl
 | p::kvs=>by
  have e:(if p.1=k then (p.1,v)else p).1=p.1:=by split <;> rfl
  rw[aw,List.find?_cons,List.find?_cons,XA k v x kvs]
  erw[e]
  by_cases h:p.1=x
  ·simp [h]
  ·simp [h]
set_option tactic.hygienic true in
mutual section
def WO[DecidableEq α](kvs:List (α × rR))(k:α)(v:rR)(x:α):valueAt (stored kvs k v) x=if x=k then AC v else valueAt kvs x:=by
 unfold stored valueAt;split
 ·rename_i h;rw[XA];by_cases e:x=k
  ·subst e;rw[y6 rfl];let#[p,hp,hk]:=Bc.mp h
   cases hf:kvs.find? λkv=>kv.1=x with
   | none =>
    have:=Bd.mp hf p hp;exact y4 hk this
   | some q =>
    have hq:=cQ hf;have hq':q.1=x:=by simpa using hq
    simp [hq']
  ·rw[y9 e]
   cases hf:kvs.find? λkv=>kv.1=x with
   | none=>rfl
   | some q =>
    have hq:=cQ hf;have hq':q.1=x:=by simpa using hq
    have:¬ q.1=k:=λz=>e (hq'.symm.trans z);simp [this]
 ·rename_i h;rw[List.find?_append];by_cases e:x=k
  ·subst e;rw[y6 rfl]
   have:kvs.find? (λkv=>kv.1=x)=AD:=by
    rw[fL];intro p hp hk;exact h (Bc.mpr #[p,hp,hk])
   rw[this];simp
  ·have e':¬ k=x:=λz=>e z.symm;rw[y9 e];simp [e']
def jM(P:rX)(w:sk)(a:rQ)(m:rV->Option V)(n:Nat):HO:=.ext λh=>(a == sysModules)=AF/\∃kvs:List (rV × rR),h.DictOf (dh P w) a kvs/\kvs.length<=n/\∀k,RelO (m k) (valueAt kvs k)
def Va(hs:(a == sysModules)=AF)(d:h.DictOf (dh P w) a kvs)(hl:kvs.length<=n)(r:∀k,RelO (m k) (valueAt kvs k)):ObjOk P w H h a (jM P w a m n) :=
 #[#[hs,kvs,d,hl,r],(let #[o,es,ep,ho,_]:=d; #[o,ho]),λh1 h2 ⟨hs,kvs,⟨o,es,ep,ho,rest⟩,z⟩ k=>#[hs,kvs,#[o,es,ep,k _ ho,rest],z]]
def Inv.beyond(I:Inv X AG σ H s):(s⁻¹ == sysModules)=AF:=by let#[o,es,ep,e,_]:=I.ok.mod.glob;have h1:=ao e;have h2:=I.ok.bsz;have h3:=I.sz;have h4:1<=rM:=∅;have h5:1<s⁻¹:=aq (cN h4 h1) (aS h2 h3);rw[beq_eq_false_iff_ne];intro z;exact bJ h5 z
def zb1(P:rX)(w:sk):TE:=λZ H Q=>∀p,H p=AD->Q (.ref p) (upd H p (jM P w p (λZ=>AD) 0))
def zal:PE X (.Dict [] [] pos) (zb1 X.prog X.w):=λAG s σ H Q I h =>
 wpAny_Dict_empty #[.ref s⁻¹,_,I.laid (a:=s⁻¹) (t':=s.toks) (λZ Z q=>ac _ q) (ah _) (Va (m:=λZ=>AD) (Inv.beyond I) (Heap.DictOf.new s.heap) (ah _) λZ=>trivial),rfl,h _ (I.hok.fresh (ah _))]
def Inv.tdic(I:Inv X AG σ H s)(h:H a=AC (jM X.prog X.w a m n)):(a == sysModules)=AF/\∃kvs:List (rV × rR),s.heap.DictOf (dh X.prog X.w) a kvs/\kvs.length<=n/\∀k,RelO (m k) (valueAt kvs k):=(I.hok _ _ h).1
def zd7(P:rX)(w:sk):R2:=λx y H Q=>∃a m n k v,x=.ref a/\y=.str k/\H a=AC (jM P w a m n)/\m k=AC v/\Q v H
def KN:IxR X (zd7 X.prog X.w):=by intro value slice AG s σ H x y v u Q I rx ry h hs;let#[a,m,n,k,z,rfl,rfl,ha,hk,q]:=h;cases rx;let#[t,rfl]:=ry;let#[_,kvs,dd,hl,r]:=Inv.tdic I ha;let#[w',hw,rw']:=RelO.some_of (v:=z) (o:=valueAt kvs k) (by rw[<- hk];exact r k);exact tail_any dd.typeIs slot_dict_getitem.lookup (wpAny_getItem_of (knd:=dh X.prog X.w) (strKind_is _ _ _ _) dd.mapOf hw #[z,H,I.tok _,rw',q]) hs
def zbx(P:rX)(w:sk):V->V->V->Hp->(Hp->Prop)->Prop:=λo i v H Q=>∃a m n k,o=.ref a/\i=.str k/\H a=AC (jM P w a m n)/\n<=100000/\Q (upd H a (jM P w a (λx=>if x=k then AC v else m x) (n+1)))
def Qt:zc4 X (zbx X.prog X.w):=by
 intros o i v ov iv u Q I ro ri rv h;let#[a,m,n,k,rfl,rfl,ha,hn,q]:=h;cases ro;let#[t,rfl]:=ri;let#[hsm,kvs,dd,hl,r]:=Inv.tdic I ha;have s16:=yd;refine wpAny_setItem_pairs (knd:=dh X.prog X.w) (hsz:=by lia) (strKind_is _ _ _ _) dd λh' dd' hs=>#[_,?_,q];have he:∃q,h'.get? a=AC q:=let #[q,_,_,hq,_]:=dd'; #[q,hq];refine I.write (x:=a) (e:=a) (by rw[ha];exact True.intro) (.inl rfl) (λb q hb z=>(hs.2 b hb).trans z) he (Va hsm dd' (aS (stored_length_le _ _ _) ⋯) λx=>?_);rw[WO];by_cases e:x=k
 ·rw[y6 e,y6 e];exact rv
 ·rw[y9 e,y9 e];exact r x
def zb5(P:rX)(w:sk):R2:=λx y H Q=>∃a m n k,x=.str k/\y=.ref a/\H a=AC (jM P w a m n)/\Q (.bl (m k).isNone) H
def Q6:OpR X (rZ .NotIn) (zb5 X.prog X.w):=by
 intros x y v u Q I rx ry h;let#[a,m,n,k,rfl,rfl,ha,q]:=h;let#[t,rfl]:=rx;cases ry;let#[hsm,kvs,dd,hl,r]:=Inv.tdic I ha;refine wpAny_notIn_of (knd:=dh X.prog X.w) (strKind_is _ _ _ _) hsm dd.mapOf ?_
 have e:(!(valueAt kvs k).isSome)=(m k).isNone:=by
  have:=r k
  cases hm:m k with
  | none =>
   cases hv:valueAt kvs k with
   | none=>rfl
   | some z=>rw[hm,hv]at this;exact this.elim
  | some z0 =>
   cases hv:valueAt kvs k with
   | none=>rw[hm,hv]at this;exact this.elim
   | some z=>rfl
 rw[e];exact#[.bl _,H,I.tok _,rfl,q]
def uS(hc:X.calm=AE)(S:jV X scope own caps ix)(hg:∀cl C AG s3 H3 fp,PG (yz X scope cl C (own ++ caps) AG s3 H3 fp λZ Z=>False) tg g)(ht:∀cl C AG s3 H3 fp xe,XE (yz X scope cl C (own ++ caps) AG s3 H3 fp xe) EX->PTs (yz X scope cl C (own ++ caps) AG s3 H3 fp xe) ifs tt)(hst:X.stack=X.env::X.outer/\X.env.frame=AC X.env.locals)(hxe:XE X EX)(he:∀cl C AG s3 H3 fp xe,XE (yz X scope cl C (own ++ caps) AG s3 H3 fp xe) EX->PE (yz X scope cl C (own ++ caps) AG s3 H3 fp xe) elt te)(hc1:∀y c,cl.lookup y=AC c->X.env.cells.lookup y=AC c)(hc2:∀y,(y,NameKind.free) ∈ scope.names->∃c,cl.lookup y=AC c){Q:VK}(I2:Inv X AG σ H2 s2)(T:JY X.prog X.w X.K tg J fp it tn)(st2:tn 0 s2.heap)(f2:∀b ∈ fp,wo X AG H2 b)(q:∀D,H2 D=AD->∃W:Nat->Nat->List V->Hp->Prop,(∃m,W 0 m [] (upd H2 D (.lst []))) /\
   ∀i m AI H',W i m AI H'->(J.stop i H'/\Q (.ref D) H')\/(J.go i H'/\∀x H2,J.yld i H' x H2->g x (ue σ own.length ix) H2 λσ3 H3=>xC (ue σ own.length ix) σ3/\tt σ3 H3 λb H4=>if b=AE then
    te σ3 H4 λv H5=>H5 D=AC (.lst AI)/\AI.length<rO/\∃m',m'<m/\W (i+1) m' (AI ++ [v]) (upd H5 D (.lst (AI ++ [v])))
    else ∃m',m'<m/\W (i+1) m' AI H4)) {RR:rR->rQ->Result->rS->Prop} (hRR:∀D C m s' H',H2 D=AD->s'.heap.Ns C m->wo X AG H' C->Inv X AG σ H' s'->Q (.ref D) H'->RR (.ref D) C (.ok .next) s') (hRE:∀D C m s' x,s'.heap.Ns C m->(∀h',Heap.SameBut C s'.heap h'->∀cenv:Am,cenv.locals=C->rT (model X.prog X.w) X.A (fJ "comprehension.variables-let-go" x cenv:Sem rR) (λZ Z=>False) X.xe { s' with heap:=h' })->RR (.ref D) C (.error x) s') :
  rT (model X.prog X.w) X.A (newList []) (λAI s3=>rT (model X.prog X.w) X.A (newFunctionEnv scope X.env.globals cl [] X.env.qual AD .none (AC X.env)) (λcenv s4 =>
   sP (model X.prog X.w) X.A (.compStart (.ListComp elt [#[tg,iter,ifs,0]] scope pos) 0 (.ref it) AI { cenv with scope:=relabel scope X.env }) (RR AI cenv.locals) s4) E s3) E s2:=by
 have hD:H2 s2⁻¹=AD:=I2.hok.fresh (ah _);let#[W,#[m0,w0],turn]:=q _ hD;refine tD (tX S.nocell (by intro y hy;simp at hy) (λh1 hns1 hsb1=>?_) S.kind);dsimp only at hns1 hsb1 ⊢
 have I3:Inv X AG σ (upd H2 s2⁻¹ (.lst [])) { s2 with heap:=s2.heap.push { cls:=.type "list",dict:=AD,data:=.seq ([]:List rR).toArray } } :=
  I2.lnew (its:=[]) (t':=s2.toks) .nil (aJ _)
 generalize hs3:({ s2 with heap:=s2.heap.push { cls:=.type "list",dict:=AD,data:=.seq ([]:List rR).toArray } }:rS)=s3 at I3;have e3:s2.heap.push { cls:=.type "list",dict:=AD,data:=.seq ([]:List rR).toArray }=s3.heap:=by rw[<- hs3]
 rw[e3]at hns1 hsb1 ⊢;have k1:∀b o,s3.heap.get? b=AC o->h1.get? b=AC o:=λb o e=>(hsb1.2 b (ay (ao e))).trans (ac _ e);have k23:∀b o,s2.heap.get? b=AC o->s3.heap.get? b=AC o:=λb o e=>by rw[<- e3];exact ac _ e
 have hz:s3⁻¹=s2⁻¹+1:=by rw[<- e3,bA]
 have fpObj:∀b ∈ fp,∃o,s2.heap.get? b=AC o:=λb hb=>let #[o,e,_]:=T.obj 0 _ st2 b hb; #[o,e];have fplt:∀b ∈ fp,b<s2⁻¹:=λb hb=>let #[o,e]:=fpObj b hb;ao e;have f3:∀b ∈ fp,wo X AG (upd H2 s2⁻¹ (.lst [])) b:=λb hb=>#[by rw[zk (ay (fplt b hb))];exact (f2 b hb).1,(f2 b hb).2]
 have I4:Inv (yz X scope cl s3⁻¹ (own ++ caps) AG s3 (upd H2 s2⁻¹ (.lst [])) fp λZ Z=>False) [] (ue σ own.length ix) (upd H2 s2⁻¹ (.lst [])) { s3 with heap:=h1,toks:=s3.toks+([]:List (rV × rR)).length } :=
  WU S hc1 hc2 I3 f3 (λb hb=>by rw[hz];exact cX (fplt b hb)) hns1 k1
 have st4:tn 0 h1:=T.keep 0 _ _ st2 λb hb o e=>k1 b o (k23 b o e);generalize hs4:({ s3 with heap:=h1,toks:=s3.toks+([]:List (rV × rR)).length }:rS)=s4 at I4;have es4:({ s2 with heap:=h1,toks:=s2.toks+([]:List (rV × rR)).length }:rS)=s4:=by rw[<- hs4,<- hs3]
 have e4:h1=s4.heap:=by rw[<- hs4]
 have loop:sP (model X.prog X.w) X.A (.compLoop (.ListComp elt [#[tg,iter,ifs,0]] scope pos) 0 (.ref it) (.ref s2⁻¹) (compEnvC scope cl s3⁻¹ X.env)) (RR (.ref s2⁻¹) s3⁻¹) s4:=by
  let X':=yz X scope cl s3⁻¹ (own ++ caps) AG s3 (upd H2 s2⁻¹ (.lst [])) fp λZ Z=>False
  have fp':∀{H':Hp},(∀b ∈ fp,H' b=AD)->∀b ∈ fp,wo X' [] H' b:=λ{H'} hn b hb=>by
   let#[_,a1,a2,a3,a4,a5]:=f3 b hb;refine#[hn b hb,ay (show b<s3⁻¹ from by rw[hz];exact cX (fplt b hb)),λz=>?_,.inl hb,λx c e=>a4 x c (hc1 x c e),λp hp=>?_]
   ·rcases AM.mp (I3.stkSub b z)with e | e
    ·exact a1 e
    ·exact a2 e
   ·have:p ∈ (X.pn ++ AG) ++ []:=hp;rw[aR]at this;exact a5 p this
  refine U7 (λn s'=>∃i AI H',Inv X' [] (ue σ own.length ix) H' s'/\tn i s'.heap/\(∀b ∈ fp,H' b=AD)/\W i n AI H') rfl ?_ m0 #[0,[],_,I4,by rw[<- e4];exact st4,λb hb=>(f3 b hb).1,w0];rintro n s5 ⟨i,AI,H5,I5,st5,fr5,w5⟩;refine sj ?_;rcases turn i n AI H5 w5 with ⟨stop,qn⟩ | ⟨go,step⟩
  ·refine thn (T.done X' rfl rfl rfl hc i [] s5 _ H5 _ I5 (fp' fr5) st5 stop) λr s6 ⟨hr,I6⟩=>?_;subst hr;let#[m,hm,_]:=I6.loc;refine hRR _ _ m s6 H5 hD hm (I3.fpOk (ah _) I6.free) (I3.call' (s':=s6) I6.os I6.base I6.hok I6.bare λb hb=>?_) qn;let#[_,a1,a2,a3,a4,a5]:=f3 b hb;exact#[a3,a1,a4,a5]
  ·refine thn (T.item X' rfl rfl rfl hc i [] s5 _ H5 (λZ Z=>False) I5 (fp' fr5) st5 go) λr s6 ⟨u,hr,h6⟩=>?_;subst hr;refine sj (thn h6 λZ s7=>el5 λx H7 I7 r7 q_z=>?_);let#[y7,st7,fr7]:=q_z;have I7':=I7.pinned (fp' fr7) (T.obj _ _ st7);refine sj (thn (hg _ _ _ _ _ _ _ s7 _ H7 x u _ I7' r7 (step x H7 y7)) λZ s8=>el5 λσ8 H8 I8 ks q8=>?_);refine thn (ht cl _ AG s3 (upd H2 s2⁻¹ (.lst [])) fp _ (λe s hfl=>Ur (RE:=λe s'=>RR (.ref s2⁻¹) s3⁻¹ (.error e) s') hst hxe hc1 I3 f3 hfl λm s' x a b=>hRE _ _ m s' x a b) _ s8 σ8 H8 _ (I8.wish _) q8) λb s9=>el3 λH9 I9' q9=>?_;have I9:=Inv.unwish (X:=X') I9'
   have back:∀{s':rS} {H':Hp} {acc':List V} {m':Nat},Inv X' ([] ++ Yf fp s7.heap) σ8 H' s'->m'<n->W (i+1) m' acc' H'->∃m,m<n/\∃i AI H',Inv X' [] (ue σ own.length ix) H' s'/\tn i s'.heap/\(∀b ∈ fp,H' b=AD)/\W i m AI H':=λ{s' H' acc' m'} J' hm w'=>by
    refine#[m',hm,i+1,acc',H',(J'.unpinned).weak ks.1 ks.2,T.keep _ _ _ st7 λb hb o e=>(J'.pin (b,o) (bf _ (bf _ (vd hb e)))).1,λb hb=>?_,w'];let#[o,e,d]:=T.obj _ _ st7 b hb;exact (J'.pin (b,o) (bf _ (bf _ (vd hb e)))).2.1
   cases b with
   | false =>
    rw[y9 az]at q9 ⊢;let#[m',hm,w']:=q9;exact back I9 hm w'
   | true =>
    rw[y6 rfl]at q9 ⊢;refine thn (he cl _ AG s3 (upd H2 s2⁻¹ (.lst [])) fp _ (λe s hfl=>Ur (RE:=λe s'=>RR (.ref s2⁻¹) s3⁻¹ (.error e) s') hst hxe hc1 I3 f3 hfl λm s' x a b=>hRE _ _ m s' x a b) _ s9 σ8 H9 _ (I9.wish _) q9) λv s10=>el5 λy H10 I10' r10 q_z=>?_;let#[hD10,hsz,m',hm,w']:=q_z;have I10:=Inv.unwish (X:=X') I10';refine sj ?_;have:=yR (X:=X') _ s10 σ8 H10 (.ref s2⁻¹) [y] (.ref s2⁻¹) [v] (λZ H'=>H'=upd H10 s2⁻¹ (.lst (AI ++ [y]))) I10 rfl (.cons r10 .nil) #[AI,hD10,hsz,rfl];refine thn this λ_ s11 ⟨_,H11,I11,_,eH⟩=>?_;subst eH;exact back I11 hm w'
 have goal:sP (model X.prog X.w) X.A (.compStart (.ListComp elt [#[tg,iter,ifs,0]] scope pos) 0 (.ref it) (.ref s2⁻¹) (compEnvC scope cl s3⁻¹ X.env)) (RR (.ref s2⁻¹) s3⁻¹) s4 :=
  codeAny_compStart_list loop (T.self _ 0 s4 _ _ (by rw[<- e4];exact st4) loop)
 rw[<- es4]at goal;exact goal
def UB(hc:X.calm=AE)(S:jV X scope own caps ix)(hst:X.stack=X.env::X.outer/\X.env.frame=AC X.env.locals)(hxe:XE X EX)(hi:PI X tg iter wi)(hg:∀cl C AG s3 H3 fp,PG (yz X scope cl C (own ++ caps) AG s3 H3 fp λZ Z=>False) tg g)(ht:∀cl C AG s3 H3 fp xe,XE (yz X scope cl C (own ++ caps) AG s3 H3 fp xe) EX->PTs (yz X scope cl C (own ++ caps) AG s3 H3 fp xe) ifs tt)(he:∀cl C AG s3 H3 fp xe,XE (yz X scope cl C (own ++ caps) AG s3 H3 fp xe) EX->PE (yz X scope cl C (own ++ caps) AG s3 H3 fp xe) elt te)(hs:‹∀x,foldedSetIterable iter X.env x=pure x›) :
  PE X (.ListComp elt [#[tg,iter,ifs,0]] scope pos) (jz wi g tt te own.length ix):=by
 intros Q I h;let#[cl,hclos,hc1,hc2]:=vU (scope:=scope) (env:=X.env) λy hy=>I.ok.has y (S.free y hy);rw[eval_ListComp];refine tO (use:=AD) rfl hs hclos S.kind S.names (thn (hi AG s σ H _ I h) λv s1 h1=>thn h1 λitv s2 h2=>?_);let#[it,fp,tn,J,H2,e,I2,T,st2,f2,q]:=h2;subst e;refine uS (RR:=λAI C=>compPost (model X.prog X.w) X.A X.xe AD (EP X AG σ Q) AI C) hc S hg ht hst hxe he hc1 hc2 I2 T st2 f2 q ?_ ?_
 ·intro D C m s' H' _ hn fc I' qn;let#[a0,a1,a2,a3,a4,a5]:=fc;exact#[m,hn,λh' sb=>#[.ref D,H',I'.turned (t':=s'.toks) (λb o hb e=>(sb.2 b hb).trans e) a0 a1 a3 a4 a5,rfl,qn]]
 ·intro D C m s' x hn hp;exact#[m,hn,hp]
def xeN:XE X E0:=λe s h=>by
 let#[_,_,_,_,_,_,_,_,_,_,_,_,_,_,h]:=h;exact h.elim
def zbf(h:PE (X.wish λZ Z=>False) e t):PE X e t:=λAG s σ H Q I hq=>sj (thn (h AG s σ H Q (I.wish _) hq) λv s'=>el5 λx H' I' r q=>#[x,H',I'.unwish,r,q])
def JZ(h:PTs (X.wish λZ Z=>False) ifs t):PTs X ifs t:=λAG s σ H Q I hq=>sj (thn (h AG s σ H Q (I.wish _) hq) λv s'=>el3 λH' I' q=>#[H',I'.unwish,q])
def yO(hc:X.calm=AE)(S:jV X scope own caps ix)(hi:PI X tg iter wi)(hg:∀cl C AG s3 H3 fp,PG (yz X scope cl C (own ++ caps) AG s3 H3 fp λZ Z=>False) tg g)(ht:∀cl C AG s3 H3 fp,PTs (yz X scope cl C (own ++ caps) AG s3 H3 fp λZ Z=>False) ifs tt)(he:∀cl C AG s3 H3 fp,PE (yz X scope cl C (own ++ caps) AG s3 H3 fp λZ Z=>False) elt te)(hst:‹X.stack=X.env::X.outer/\X.env.frame=AC X.env.locals›) (hs:‹∀x,foldedSetIterable iter X.env x=pure x›) :
  PE X (.ListComp elt [#[tg,iter,ifs,0]] scope pos) (jz wi g tt te own.length ix) :=
 UB hc S hst xeN hi hg (λa b c d e f Z Z=>JZ (ht a b c d e f)) (λa b c d e f Z Z=>zbf (he a b c d e f)) hs
def uG(hN:X.N.Nodup)(hy:X.N[i]? = AC y)(hly:Loc X.env.scope y)(hf:X.fn y=AE\/X.env.scope.names.lookup y=AC .local)(hc:X.calm=AE)(S:jV X scope own caps ix)(hi:PI X tg iter wi)(hg:∀cl C AG s3 H3 fp,PG (yz X scope cl C (own ++ caps) AG s3 H3 fp λZ Z=>False) tg g)(ht:∀cl C AG s3 H3 fp,PTs (yz X scope cl C (own ++ caps) AG s3 H3 fp λZ Z=>False) ifs tt)(he:∀cl C AG s3 H3 fp,PE (yz X scope cl C (own ++ caps) AG s3 H3 fp λZ Z=>False) elt te)(hst:‹X.stack=X.env::X.outer/\X.env.frame=AC X.env.locals›)(hsw:‹swapsWith (.ListComp elt [#[tg,iter,ifs,0]] scope pos) (AC (.Name y py)) spos.line X.env=pure AE›)(hs:‹∀x,foldedSetIterable iter X.env x=pure x›) :
  PS X (.Assign [.Name y py] (.ListComp elt [#[tg,iter,ifs,0]] scope pos) spos) (xm i (jz wi g tt te own.length ix)):=by
 intros D I h;let#[cl,hclos,hc1,hc2]:=vU (scope:=scope) (env:=X.env) λy hy=>I.ok.has y (S.free y hy);rw[exec_Assign_Name_used _ _ _ _ hsw];refine rK (sx (rK ?_));show rT _ X.A (do let _ <- comprehension (.ListComp elt [#[tg,iter,ifs,0]] scope pos) scope X.env _ (newList []) AF (eval iter X.env) (AC (assign (.Name y py) X.env))) _ _ s;refine rK (thn (tO (use:=AC (assign (.Name y py) X.env)) (Q:=λZ s'=>SP X AG D .next s') rfl hs hclos S.kind S.names (thn (hi AG s σ H _ I h) λv s1 h1=>thn h1 λitv s2 h2=>?_)) λZ s' hq=>rL (rL hq));let#[it,fp,tn,J,H2,e,I2,T,st2,f2,q]:=h2;subst e;refine uS (Q:=λx H1=>D.nx (σ.set i (AC x)) H1) (RR:=λAI C=>compPost (model X.prog X.w) X.A X.xe (AC (assign (.Name y py) X.env)) (λZ s'=>SP X AG D .next s') AI C) hc S hg (λa b c d e f Z Z=>JZ (ht a b c d e f)) hst xeN (λa b c d e f Z Z=>zbf (he a b c d e f)) hc1 hc2 I2 T st2 f2 q ?_ λD C m s' x hn hp=>#[m,hn,hp];intro D' C m s' H1 hD' hn fc I1 nx;let#[a0,a1,a2,a3,a4,a5]:=fc;show rT _ X.A (assign (.Name y py) X.env (.ref D')) _ _ s';refine Ao (Yn I1 hN hy hly (v:=.ref D') rfl (λs'' I2' ⟨a,sb,ha⟩=>?_) hf)
 have hCa:C≠a:=by
  rcases ha with e | e
  ·rw[e];exact a1
  ·exact λz=>a4 _ _ e z.symm
 refine#[m,hn.sameBut sb hCa,λh' sb'=>#[_,H1,I2'.turned (t':=s''.toks) (λb o hb e=>(sb'.2 b hb).trans e) a0 a1 a3 a4 a5,nx]]
end
end L3
namespace LL
open PySem L2 L3
open L2.SqL renaming of→x4
open L2.SqT renaming of→x6
open CNx renaming mk→x8
open L2.Same renaming refl→x9
open SamT renaming of→ja0
open Iss renaming same→ja1
open ForL renaming «by»→ja2
open ForEL renaming «by»→ja3
open CompL renaming «by»→jb0
open PySem.Pv renaming boot_list→jb1,boot_bool→jb2
mutual section
def top(i:Nat):si:=PySem.Challenge.pw_letterlaw_k87_papers_looked_at.main.body.getD i (.Pass #[0,0,0,0])
abbrev yy:si:=yr (top 5) 0
abbrev ye:si:=yr (top 6) 0
abbrev yY:si:=top 11
abbrev w4:si:=top 12
abbrev vF:si:=top 13
abbrev zaV:si:=top 14
abbrev Vf:si:=top 16
abbrev kD:si:=top 17
abbrev xB:si:=top 20
abbrev wy:si:=top 21
abbrev vz:si:=top 22
abbrev wp:si:=yr (top 23) 0
abbrev yH:si:=yr (top 23) 1
abbrev yX:si:=yr (top 23) 6
abbrev YD:si:=top 25
abbrev uh:si:=top 26
abbrev Vj:si:=top 27
abbrev qL:si:=top 28
abbrev kr:si:=top 29
abbrev vc:si:=top 31
abbrev vG:si:=top 32
abbrev ve:si:=top 35
abbrev wS:si:=yr (top 36) 0
abbrev wm:si:=yr (top 36) 1
abbrev vC:si:=yr (top 36) 3
abbrev xJ:si:=yr (top 36) 5
abbrev xE:si:=yr (top 36) 6
abbrev wf:si:=top 38
abbrev Yr:si:=top 41
abbrev xO:si:=top 42
abbrev ul:si:=top 43
abbrev wg:si:=top 44
abbrev wa:si:=top 45
abbrev xK:si:=top 46
abbrev ke:si:=top 47
abbrev wX:si:=yr (top 50) 0
abbrev xG:si:=yr (top 50) 1
abbrev wA:si:=yr (top 50) 2
abbrev xw:si:=yr (top 50) 3
abbrev xF:si:=yr (top 50) 4
abbrev xh:si:=yr (top 51) 0
abbrev xg:si:=yr (top 52) 0
abbrev yu:si:=yr (top 52) 1
abbrev U0:si:=top 54
abbrev YI:si:=top 55
abbrev jf:si:=top 56
abbrev Vb:si:=top 57
abbrev Vr:si:=top 58
abbrev Yy:si:=top 59
abbrev kT:si:=top 60
abbrev VA:si:=top 61
abbrev Xa:si:=top 62
abbrev KM:si:=top 63
abbrev YQ:si:=top 64
abbrev jF:si:=top 65
abbrev UN:si:=top 66
abbrev Vo:si:=top 67
abbrev zW:si:=top 68
abbrev vf:si:=top 69
abbrev zan:si:=top 70
abbrev Yq:si:=top 71
abbrev ko:si:=top 72
abbrev yh:si:=top 73
abbrev yo:si:=top 74
abbrev zL:si:=top 75
abbrev vL:si:=top 76
abbrev zaM:si:=top 77
abbrev vQ:si:=top 78
abbrev wn:si:=top 79
abbrev qM:si:=top 80
end
section
variable{P:rX}{w:sk}{K:rP}{mg:rV->Option rR}{base:sq}
seal L2.PE L2.PS L2.PA L2.PT L2.PSs L2.PI L2.PG L2.PW L2.PGs
local macro_rules | `($a<<<$b)=>`(Df $(mkIdent `P) $(mkIdent `w) $(mkIdent `K) $(mkIdent `mg) $(mkIdent `base) CX0 $a $b)
local macro_rules | `($a>>>$b)=>`(Df $(mkIdent `P) $(mkIdent `w) $(mkIdent `K) $(mkIdent `mg) $(mkIdent `base) (CXx $(mkIdent `P) $(mkIdent `w)) $a $b)
local macro_rules | `($a&&&$b)=>`(FnOk $(mkIdent `P) $(mkIdent `w) $(mkIdent `K) $(mkIdent `mg) $(mkIdent `base) CX0 $a $(mkIdent `f) $(mkIdent `fd) $b)
local macro_rules | `($a|||$b)=>`(FnOk $(mkIdent `P) $(mkIdent `w) $(mkIdent `K) $(mkIdent `mg) $(mkIdent `base) (CXx $(mkIdent `P) $(mkIdent `w)) $a $(mkIdent `f) $(mkIdent `fd) $b)
local macro_rules | `(!!$a)=>`(AC (.ref $a))
local macro_rules | `(~~~$a)=>`(AC (.str (tx $a)))
local macro_rules | `(-~~~$a)=>`(AC (.int (($a):Nat)))
local macro_rules | `(~~~!$a)=>`(AC (.int $a))
local macro_rules | `($a^^^$b)=>`(Fun $(mkIdent `K) $a $a $b $(mkIdent `f) $(mkIdent `fd))
end in abbrev sQz(n:Nat)(a:List PySem.Str)(s:PySem.Stmt):=zl a (a.take n) (zg s)
local macro_rules | `(tactic| rfl')=>do
 let A0←("zdq zdu zdF zd1 zeb zdz zdr zcZ zed zdJ KH KJ zdQ zdE zc7 zdn zdi zaR zaU zaH K0 zai K2 zaj zaT zaA zdy zdV zc5 zdP zdx zdD zdK zdZ zaD Kx zaw zaL Kp zak zaJ K3".splitOn " ").toArray.mapM fun s=>`(Lean.Parser.Tactic.simpLemma| ↓$(mkIdent s.toName):ident)
 let A1←("zcB Jk KL zcK Y7 tOp tUn tC xt zE yT tCB za6 yZ QQ zcI zcF tOr V4 Qy jP tIf rI rI0 rU rGe zbc xN Km zbe za4 zcw tSl qZ Ve WJ zaS tBM zaO zaz L2.start zec cxK cxP cxW aw aL au aO bZ dZ Nat.reduceAdd Nat.reduceSub cH bY aU aV cP ba ue eK eL".splitOn " ").toArray.mapM fun s=>`(Lean.Parser.Tactic.simpLemma| $(mkIdent s.toName):ident)
 let A2←("zbZ Kc JM J7 zeq zdq zdu zdF zd1 zeb zdz zdr zcZ zed zdJ KH KJ zdQ zdE zc7 zdn zdi zaR zaU zaH K0 zai K2 zaj zaT zaA zdy zdV zc5 zdP zdx zdD zdK zdZ zaD Kx zaw zaL Kp zak zaJ K3".splitOn " ").toArray.mapM fun s=>`(Lean.Parser.Tactic.simpLemma| ↓$(mkIdent s.toName):ident)
 let A3←("zcB ue eK eL rU xm JE zb9 zbh Jk KL zcK Y7 tOp tUn VO tC xt zE yT tCB za6 yZ QQ zcI zcF tOr V4 Qy jP tIf rI rI0 rEq_is rNe_is zbc xN Km za4 zcw zbe tSl qZ Ve zcT rGe decide_false decide_true Prod.mk.injEq rLen_is zby zcO X7 UL Y5 tyV tBM if_true if_false cL decide_eq_true_eq decide_eq_false_iff_not et Bool.not_true e9 lt1 WJ zaS za7 Z1 za5 YG Yp zbt zcl zcn zbH zcr zco Value.ref.injEq L2.start zbp zce zev zeD zef zbJ zeg zaO zaz zei Qf zca za3 zd2 jn Vl Zp yC jh zP zec JK zbk cxK cxP cxW aw aL au aO bZ dZ Nat.reduceAdd Nat.reduceSub and_assoc zcq exists_eq exists_eq' exists_eq_left' exists_eq_left exists_eq_right exists_eq_right' exists_and_left exists_and_right V.int.injEq V.ref.injEq V.str.injEq V.bl.injEq V.ty.injEq reduceCtorEq false_and and_false true_and and_true or_false false_or exists_false exists_const cH bY Option.some.injEq aU aV List.cons.injEq aR cP ba Ki JO JI JW".splitOn " ").toArray.mapM fun s=>`(Lean.Parser.Tactic.simpLemma| $(mkIdent s.toName):ident)
 `(tactic| first | (dsimp only[$A0,*,$A1,*];try simp only[$A2,*,$A3,*]) | simp only[$A2,*,$A3,*])
local macro_rules | `(tactic| ac_rfl)=>do
 let A0←("xv zQ yj xL xI zM".splitOn " ").toArray.mapM fun s=>`(Lean.Parser.Tactic.simpLemma| $(mkIdent s.toName):ident)
 `(tactic| repeat (first | rfl' | simp only[$A0,*]))
mutual section
def nmB{α β:Type}{P B:α->β->Prop}(h:∀G:α->β->Prop,G=B->∀a b,P a b->G a b):∀a b,P a b->B a b:=h _ rfl
def nmC{α β γ:Type}{P B:α->β->γ->Prop}(h:∀G:α->β->γ->Prop,G=B->∀a b c,P a b c->G a b c):∀a b c,P a b c->B a b c:=h _ rfl
def nmE{α β γ δ ε:Type}{P R S B:α->β->γ->δ->ε->Prop}(h:∀G:α->β->γ->δ->ε->Prop,G=B->∀a b c d e,P a b c d e->R a b c d e->S a b c d e->G a b c d e):∀a b c d e,P a b c d e->R a b c d e->S a b c d e->B a b c d e:=h _ rfl
def xe0 : XE X E0:=λe s h=>by
 let#[_,_,_,_,_,_,_,_,_,_,_,_,_,_,h]:=h;exact h.elim
def YK(l:()):Prop:=∀c ∈ l,97<=c/\c<=122
instance (l:()):Decidable (YK l):=by unfold YK;infer_instance
def vm(l:()):Bool:=decide (1<=l.length/\l.length<=6/\YK l/\l.Nodup)
def Zi:Sp:=λvs H Q Z=>∃c:Nat,vs=[⇑[c]]/\Q (.bl (decide (97<=c/\c<=122))) H
def Jv:sQz 1 ["sign"] yY:=by nofun
def Jr(F:("is_small_letter"^^^yY)):(1&&&["sign"]) Zi:=by
 exists F.ok Jv
 ·let#[c,rfl,q]:=h;refine#[_,(zf (zm (Xo xX xX z8 (pv 0) z8))),?_];have ea:cs (("a" : rV))=[97]:=rfl;have ez:cs (("z" : rV))=[122]:=rfl
  rfl'
  erw[ea,ez,jh,lt1]
  refine yl (λh=>?_) λh=>?_
  ·have e:decide (97<=c/\c<=122)=!decide (122<c):=by
    by_cases h2:122<c
    ·rw[u9 h2,y3 ⋯];rfl
    ·rw[y3 h2,u9 ⋯];rfl
   rw[e]at q;exact q
  ·rw[y3 ⋯]at q;exact q
structure zeh(K:rP)(mg:rV->Option rR)(C:rQ):Prop where
 xi:XI K C
 ini:ae K (.ref C) "__init__" = AC (AC (.builtin "ValueError.__init__"))
 g:mg "NoLetters" = AC (.ref C)
 most:∃t,mg "MOST_LETTERS" = AC (.int 6 t)
def xZ(C:rQ):Sp:=λvs H Q E=>∃l:(),vs=[⇑l]/\l.length<=1000/\(vm l=AE->Q ⇑l H)/\(vm l=AF->E (.ref C) AD H)
def ng:sQz 1 ["text","sign"] w4:=by nofun
def kK(B:Bt mg)(T:zeh K mg C)(F:("letters_of"^^^w4))(Ds:(1<<<"is_small_letter") ["sign"] [] Zi):(2|||["text"]) (xZ C):=by
 exists Fun.okX F ng,0
 ·let#[l,rfl,hl,q1,q2]:=h;let#[t6,g6]:=T.most
  refine#[_,(zx (zI (yv (vj xX xX zb (zG B.len (pv 0)) (ug (v:=.int 6) rfl g6 #[t6,rfl]))) (zf (yP hx rfl T.xi.toXC T.ini rfl T.g (za z8 ze)))
    zo) (zx (zX PassesOwn.leaving rfl (qW (pv 0)) (zq (i:=1) ng.nd rfl (.inl rfl)) (zx (zI (yv (Wt (cl0 Ds hr .nil rfl (za (pv 1) ze)) (λZ=>rfl))) (zf (yP hx rfl T.xi.toXC T.ini rfl T.g (za z8 ze)))
     zo) (zf (zI (zu JV (wV bd eW eX U5 (pv 0) (za (pv 1) ze)) zb (zw _)) (zf (yP hx rfl T.xi.toXC T.ini rfl T.g (za z8 ze)))
     zo)))) (zf (zm (pv 0))))),?_]
  have s16:=yd
  rfl'
  have bad:(¬ (1<=l.length/\l.length<=6/\YK l/\l.Nodup))->∀H':Hp,H'=H->E (.ref C) AD H':=λh H' e=>by
   rw[e];exact q2 (y3 h)
  refine#[⋯,yl (λc=>yl (λc2=>#[⋯,bad (λh=>by have:=h.2.1;lia) H rfl]) (λc2=>?_)) (λc=>#[⋯,bad (λh=>by have:=h.1;lia) H rfl])];refine ForS.by (λi σ H'=>H'=H/\∃v,σ=[~~~l,v]/\YK (l.take i)/\∀c ∈ l.take i,l.count c<=1) #[rfl,AD,rfl,λc h=>y4 h (by simp),λc h=>y4 h (by simp)] ?_ ?_
  ·refine nm4 ?_;rintro i c σ H' hg ⟨eH,v,rfl,hs,hn⟩:_;have hc:=af hg;right
   rfl'
   erw[Zi]
   rfl'
   refine yl (λh=>#[⋯,bad (λz=>by have:=z.2.2.1 c hc;lia) _ eH]) (λh=>yl (λh2=>#[⋯,bad (λz=>?_) _ eH]) (λh2=>#[eH,?_,?_]))
   ·have:=Be.mp z.2.2.2 c;lia
   ·rw[zK hg];intro x hx;rcases AK.mp hx with q | q
    ·exact hs x q
    ·have:x=c:=by simpa using q
     subst this;lia
   ·rw[zK hg];intro x hx;rcases AK.mp hx with q | q
    ·exact hn x q
    ·have:x=c:=by simpa using q
     subst this;lia
  ·refine nmB ?_;rintro σ H' ⟨eH,v,rfl,hs,hn⟩:_;rw[aD]at hs hn;right
   rfl'
   rw[eH];refine q1 (u9 #[⋯,⋯,hs,Be.mpr λc=>?_]);by_cases hc:c ∈ l
   ·exact hn c hc
   ·rw[List.count_eq_zero.mpr hc];lia
def zB(l:())(k:Int)(p:()):Bool:=decide (0<=k/\k+p.length<=l.length/\(l.drop k.toNat).take p.length=p)
def wJ:Sp:=λvs H Q Z=>∃(l p:()) (k:Int),vs=[⇑l,.int k,⇑p]/\l.length<=10000/\p.length<=10000/\Q (.bl (zB l k p)) H
def kN(h1:l.length<=10000)(h2:p.length<=10000)(h:Q (.bl (zB l k p)) H):wJ [⇑l,.int k,⇑p] H Q E:=#[l,p,k,rfl,h1,h2,h]
def ZD:sQz 3 ["word","place","part"] vF:=by nofun
def ZJ(B:Bt mg)(F:("stands_at"^^^vF)):(1&&&["word","place","part"]) wJ:=by
 exists F.ok ZD
 ·let#[l,p,k,rfl,hl,hp,q]:=h
  refine#[_,(zx (zI (yv (vj xX xX zb (pv 1) (zv wM (zG B.len (pv 0)) (zG B.len (pv 2))))) (zf (zm yw))
    zo) (zf (zm (yn yq (zO yK (pv 0) (zS (pv 1)) (zS (zv yf (pv 1) (zG B.len (pv 2))))) (pv 2) (zw _))))),?_]
  have s16:=yd
  rfl'
  have no:¬ (0<=k/\k+p.length<=l.length/\(l.drop k.toNat).take p.length=p)->Q (.bl AF) H:=λh=>by
   have e:zB l k p=AF:=y3 h;rw[e]at q;exact q
  refine yl (λh0=>#[⋯,⋯,yl (λh1=>no λh=>y4 h.2.1 ⋯) λh1=>#[⋯,⋯,?_]]) λh0=>no λh=>h0 h.1;rw[kG _ h0 ⋯ ⋯];have e:(k+(p.length:Int) - k).toNat=p.length:=⋯;rw[e]
  have e2:zB l k p=decide ((l.drop k.toNat).take p.length=p):=by
   unfold zB;exact decide_eq_decide.mpr #[λh=>h.2.2,λh=>#[h0,⋯,h]]
  rw[<- e2];exact q
def vt(l:())(k:Int)(o n:()):():=l.take k.toNat ++ n ++ l.drop (k.toNat+o.length)
def vR(h:zB l k o=AE):l.take k.toNat ++ o ++ l.drop (k.toNat+o.length)=l/\(l.take k.toNat).length=k.toNat/\0<=k/\k+o.length<=l.length:=by
 unfold zB at h;rw[decide_eq_true_eq]at h;let#[h0,h1,h2]:=h;refine#[?_,by rw[av];lia,h0,h1]
 have e:l.drop k.toNat=o ++ l.drop (k.toNat+o.length):=by
  have:=bH o.length (l.drop k.toNat);rw[h2,fj]at this;exact this.symm
 rw[bb,<- e,bH]
def zaq(h0:0<=k):cut l AD (AC k) ++ n ++ cut l (AC (k + ↑o.length)) AD=vt l k o n:=by rw[uQ _ h0,xn _ ⋯];have:(k+(o.length:Int)).toNat=k.toNat+o.length:=⋯;rw[this];rfl
structure TNU(K:rP)(mg:rV->Option rR)(C:rQ):Prop where
 xi:XI K C
 g:mg "NoUse" = AC (.ref C)
 na:NoAttr K C "at"
def vK:sQz 2 ["self","at"] yy:=by nofun
def kg(T:TNU K mg C)(F:Fun K "__init__" "NoUse.__init__" yy f fd):(1&&&["self","at"]) (xz C "at"):=by
 exists F.ok vK
 ·let#[x,v,rfl,hx,q]:=h;refine#[_,(zf (Y9 (pv 0) (pv 1) rfl)),?_]
  erw[Je]
  rfl'
  exact#[C,hx,T.xi.toXC,T.na,q]
structure DNU(P:rX)(w:sk)(K:rP)(mg:rV->Option rR)(base:sq)(C:rQ):Prop extends TNU K mg C where
 ini:∃f fd,ae K (.ref C) "__init__" = AC (AC (.ref f))/\aP K (.ref f)=AE/\(1&&&["self","at"]) (xz C "at")/\Binds K fd ["self","at"] []
def jC(C:rQ):Sp:=λvs H Q E=>∃(l o n:()) (k:Int),vs=[⇑l,.int k,⇑o,⇑n]/\l.length<=10000/\o.length<=10000/\n.length<=10000/\(zB l k o=AE->Q ⇑(vt l k o n) H)/\(zB l k o=AF->∀d H',Fell H d "at" (.int 0) H'->E (.ref C) (AC d) H')
def zbz:sQz 4 ["word","place","old","new"] zaV:=by nofun
def zbT(B:Bt mg)(T:DNU P w K mg base C)(F:("put"^^^zaV))(pO:(1<<<"stands_at") ["word","place","part"] [] wJ):(3|||["word","place","old","new"]) (jC C):=by
 let#[fi,fdi,hi,hfn,Fi,Bi]:=T.ini
 exists Fun.okX F zbz,0
 ·let#[l,o,n,k,rfl,hl,ho,hn,q1,q2]:=h
  refine#[_,(zx (zI (yv (Wt (cl0 pO hr .nil rfl (za (pv 0) (za (pv 1) (za (pv 2) ze)))) (λZ=>rfl))) (zf (qI hx rfl T.xi.toXC hi hfn Fi hr Bi rfl T.g (za zb ze)))
    zo) (zf (zm (zv zU (zv zU (zO yK (pv 0) yc (zS (pv 1))) (pv 3)) (zO yK (pv 0) (zS (zv yf (pv 1) (zG B.len (pv 2)))) yc))))),?_]
  have s16:=yd
  rfl'
  refine kN hl ho ?_
  rfl'
  refine yl (λhb=>#[⋯,qG (q2 hb)]) λhb=>?_;have hb':zB l k o=AE:=by simpa using hb
  let#[_,_,h0,h1]:=vR hb';have c1:=wI l AD (AC k);have c2:=wI l (AC (k + ↑o.length)) AD;refine#[⋯,⋯,⋯,⋯,?_,?_]
  ·erw[ag]
   lia
  ·have e:cut l AD (AC k) ++ n ++ cut l (AC (k + ↑o.length)) AD=vt l k o n:=by
    rw[uQ _ h0,xn _ ⋯];have:(k+(o.length:Int)).toNat=k.toNat+o.length:=⋯;rw[this];rfl
   rw[e];exact q1 hb'
structure TOrd(K:rP)(mg:rV->Option rR)(CO CR CW:rQ):Prop where
 cO:Cls K CO
 cR:Cls K CR
 cW:Cls K CW
 gO:mg "Order" = AC (.ref CO)
 gR:mg "FromRight" = AC (.ref CR)
 gW:mg "ByWeights" = AC (.ref CW)
 lO:NoAttr K CO "letters"
 lR:NoAttr K CR "letters"
 lW:NoAttr K CW "letters"
 wW:NoAttr K CW "weights"
def OrdAt(CO CR CW:rQ)(H:Hp)(o:rQ)(k:Nat)(l:())(ns:List Int):Prop:=∃dx,(k=0/\H o=AC (.ins CO dx [("letters",⇑l)]))\/(k=1/\H o=AC (.ins CR dx [("letters",⇑l)])) \/
 (k=2/\ns.length=l.length/\∃w,H o=AC (.ins CW dx [("letters",⇑l),("weights",.ref w)])/\H w=AC (.tup (ns.map V.int)))
def OrdAt.same{CO CR CW:rQ}{H H':Hp}{o:rQ}{k:Nat}{l:()}{ns:List Int}(h:OrdAt CO CR CW H o k l ns)(e:Same H H'):OrdAt CO CR CW H' o k l ns:=by
 obtain⟨dx,⟨h1,h2⟩ | ⟨h1,h2⟩ | ⟨h1,h2,w,h3,h4⟩⟩:=h
 ·exact#[dx,.inl #[h1,e _ _ h2]]
 ·exact#[dx,.inr (.inl #[h1,e _ _ h2])]
 ·exact#[dx,.inr (.inr #[h1,h2,w,e _ _ h3,e _ _ h4])]
def W4(l:())(ns:List Int)(w:()):Int:=((l.zip ns).map λp=>(w.count p.1:Int) * p.2).sum
def zr(k:Nat)(l:())(ns:List Int)(w:()):Int:=if k=2 then W4 l ns w else (w.length:Int)
def yt(k:Nat)(w:()):():=if k=1 then w.reverse else w
def u7(K:rP):Sp:=λvs H Q Z=>∃(x C dx:rQ) (l:()),vs=[.ref x,⇑l]/\vm l=AE/\Cls K C/\NoAttr K C "letters"/\H x=AC (.ins C dx [])/\Q .non (upd H x (.ins C dx [("letters",⇑l)]))
def Zb:sQz 2 ["self","letters"] wX:=by nofun
def wc(B:Bt mg)(F:Fun K "__init__" "Order.__init__" wX f fd)(lY:(2>>>"letters_of") ["text"] [] (xZ C)):(3&&&["self","letters"]) (u7 K):=by
 exists F.ok Zb
 ·let#[x,C,dx,l,rfl,hg,hC,hN,hx,q]:=h;refine#[_,(zf (jN (pv 0) (clP xe0 lY hr .nil rfl (za (pv 1) ze)) rfl)),?_];have s16:=yd
  rfl'
  exact#[l,rfl,by have:=u6 hg;lia,λZ=>#[_,_,_,hx,hC,hN,∅,q],λe=>by rw[hg]at e;cases e]
def kd:Sp:=λvs H Q Z=>∃(o:rQ) (w:()),vs=[.ref o,⇑w]/\w.length<=1000/\Q (.int (w.length:Nat)) H
def jj:sQz 2 ["self","word"] xG:=by nofun
def wz(B:Bt mg)(F:Fun K "weight" "Order.weight" xG f fd):(1&&&["self","word"]) kd:=by
 exists F.ok jj
 ·let#[o,w,rfl,hw,q]:=h;refine#[_,(zf (zm (zG B.len (pv 1)))),?_];have s16:=yd
  rfl'
  exact#[⋯,q]
def X8:Sp:=λvs H Q Z=>∃(o:rQ) (w:()),vs=[.ref o,⇑w]/\Q ⇑w H
def j6:sQz 2 ["self","word"] wA:=by nofun
def v0(B:Bt mg)(F:Fun K "seen" "Order.seen" wA f fd):(1&&&["self","word"]) X8:=by
 exists F.ok j6
 ·let#[o,w,rfl,q]:=h;refine#[_,(zf (zm (pv 1))),?_];have s16:=yd
  rfl'
  exact q
def YL:Sp:=λvs H Q Z=>∃(o:rQ) (w:()),vs=[.ref o,⇑w]/\w.length<=1000/\Q ⇑w.reverse H
def uz:sQz 2 ["self","word"] xh:=by nofun
def uf(B:Bt mg)(F:Fun K "seen" "FromRight.seen" xh f fd):(1&&&["self","word"]) YL:=by
 exists F.ok uz
 ·let#[o,w,rfl,hw,q]:=h;refine#[_,(zf (zm (KB (pv 1) (Uw ZB zb)))),?_];have s16:=yd;ac_rfl;exact#[⋯,q]
structure zeC(K:rP)(mg:rV->Option rR)(C:rQ):Prop where
 xi:XI K C
 ini:ae K (.ref C) "__init__" = AC (AC (.builtin "ValueError.__init__"))
 g:mg "NoOrder" = AC (.ref C)
 most:∃t,mg "MOST_WEIGHT" = AC (.int 1000000 t)
abbrev DOI(P:rX)(w:sk)(K:rP)(mg:rV->Option rR)(base:sq)(CO:rQ):Prop:=DC P w K mg base CX0 3 CO "__init__" ["self","letters"] (u7 K)
def kM(K:rP)(CW:rQ):Sp:=λvs H Q Z=>∃(x dx a:rQ) (l:()) (ns:List Int),vs=[.ref x,⇑l,.ref a]/\vm l=AE/\SqL K H a (ns.map V.int)/\ns.length=l.length/\(∀n ∈ ns,1<=n/\n<=1000000)/\H x=AC (.ins CW dx []) /\
 ∀w H',H w=AD->w≠x->(∀b o,b≠x->H b=AC o->H' b=AC o)->H' w=AC (.tup (ns.map V.int))->H' x=AC (.ins CW dx [("letters",⇑l),("weights",.ref w)])->Q .non H'
def lX:sQz 3 ["self","letters","weights","weight"] xg:=by nofun
def uu{f CO CR CW CN:rQ}{fd:rW}(B:Bt mg)(T:TOrd K mg CO CR CW)(TN:zeC K mg CN)(DI:DOI P w K mg base CO)(F:Fun K "__init__" "ByWeights.__init__" xg f fd) :(4|||["self","letters","weights"]) (kM K CW):=by
 let#[t6,g6]:=TN.most
 exists Fun.okX F lX,0
 ·let#[x,dx,a,l,ns,rfl,hg,hS,hl,hb,hX,q]:=h
  refine#[_,(zh (wQ (zaY DI hr rfl T.gO (za (pv 0) (za (pv 1) ze)))) (zh (zI (zu uC (zG B.len (pv 2)) (zG B.len (pv 1)) (zw _)) (zf (yP hx rfl TN.xi.toXC TN.ini rfl TN.g (za z8 ze)))
    zo) (zh (zX PassesOwn.leaving rfl (ya (pv 2)) (zq (i:=3) lX.nd rfl (.inl rfl)) (zf (zI (yv (vj xX xX zb (pv 3) (ug (v:=.int 1000000) rfl g6 #[t6,rfl]))) (zf (yP hx rfl TN.xi.toXC TN.ini rfl TN.g (za z8 ze)))
     zo))) (zf (jN (pv 0) (yA Zl rfl B.tuple PySem.Pv.boot_tuple (za (pv 2) ze)) rfl))))),?_]
  have s16:=yd;have hbx:∀b o,b≠x->H b=AC o->upd H x (.ins CW dx [("letters",⇑l)]) b=AC o:=λb o hb e=>by rw[zk hb];exact e
  have hS1:SqL K (upd H x (.ins CW dx [("letters",⇑l)])) a (ns.map V.int):=by
   rcases hS with (h | ⟨o,h⟩) | h
   ·exact .inl (.inl (hbx _ _ (λe=>by rw[e,hX]at h;cases h) h))
   ·exact .inl (.inr #[o,hbx _ _ (λe=>by rw[e,hX]at h;cases h) h])
   ·exact .inr h
  change H'=upd H x (.ins CW dx [("letters",⇑l)])/\σ=[!!x,~~~l,!!a,AD]
  ·ac_rfl;exact#[x,CW,dx,l,rfl,hg,T.cW,T.lW,hX,rfl]
  rintro σ H1 ⟨rfl,rfl⟩:0;change H'=upd H x (.ins CW dx [("letters",⇑l)])/\σ=[!!x,~~~l,!!a,AD]
  ·have hl6:l.length<=6:=by have:=u6 hg;lia
   ac_rfl;refine#[ns.length,.inl #[_,hS1,by rw[aa]],⋯,yl (λh=>y4 ⋯ h) λZ=>trivial]
  rintro σ H1 ⟨rfl,rfl⟩:0;change H'=upd H x (.ins CW dx [("letters",⇑l)])/\∃v3,σ=[!!x,~~~l,!!a,v3]
  ·ac_rfl;refine#[#[_,hS1],ja2 (xs:=ns.map V.int) (λi σ H'=>H'=upd H x (.ins CW dx [("letters",⇑l)])/\∃v3,σ=[!!x,~~~l,!!a,v3]) #[rfl,AD,rfl] (λi σ H' Z h=>by rw[h.1];exact hS1) ?_ λσ H' h=>h];refine nm4 ?_;rintro i y σ H' hy ⟨rfl,v3,rfl⟩:_;rw[ax]at hy;let#[n,hn,rfl]:=AO.mp hy;let#[n1,n2]:=hb n (af hn);right;ac_rfl;exact yl (λZ=>yl (λh=>y4 n2 h) λZ=>trivial) λh=>y4 n1 h
  rintro σ H1 ⟨rfl,v3,rfl⟩:0;ac_rfl;refine#[_,.inl #[hS1,λw hw=>?_]];have hwx:w≠x:=λe=>by rw[e,zc]at hw;cases hw
  have hwH:H w=AD:=by rw[zk hwx]at hw;exact hw
  have hX2:=zd (o:=.tup (ns.map V.int)) hw _ _ (zc (H:=H) (a:=x) (o:=.ins CW dx [("letters",⇑l)]));refine#[_,_,_,hX2,T.cW,T.wW,by show 1<1000;decide,q w _ hwH hwx (λb o hb' e=>?_) ?_ zc]
  ·rw[zk hb'];exact zd hw _ _ (hbx b o hb' e)
  ·rw[zk hwx];exact zc
theorem zbw : xC (AD::AD::r) (AC x::AC y::r):=#[rfl,λi v h=>by
 cases i with
 | zero=>cases h
 | succ i =>
  cases i with
  | zero=>cases h
  | succ i=>exact h]
def Y4(CW:rQ):Sp:=λvs H Q Z=>∃(o dx t:rQ) (w l:()) (ns:List Int),vs=[.ref o,⇑w]/\w.length<=1000/\l.length<=6/\ns.length=l.length/\(∀n ∈ ns,1<=n/\n<=1000000)/\H o=AC (.ins CW dx [("letters",⇑l),("weights",.ref t)])/\H t=AC (.tup (ns.map V.int))/\∀H',Same H H'->Q (.int (W4 l ns w)) H'
def vB:sQz 2 ["self","word"] yu:=by nofun
def vE{f CO CR CW:rQ}{fd:rW}(B:Bt mg)(T:TOrd K mg CO CR CW)(F:Fun K "weight" "ByWeights.weight" yu f fd) :(1&&&["self","word"]) (Y4 CW):=by
 exists F.ok vB
 ·let#[o,dx,t,w,l,ns,rfl,hw,hl,hn,hb,ho,ht,q]:=h;refine#[_,(zf (zm (yQ (zbE rfl) rfl B.sum fk (za (yO (g:=za7 K 2 (Z1 (yZ 0) (Z1 (yZ 1) za5))) (own:=["letter","weight"]) (caps:=["word"]) (ix:=[1]) (tt:=yW) (te:=(tOp QF (tBM K "str" X7 (zV 2) (zE (zV 0) yT)) (zV 1))) rfl (zJ (sc:=zg yu) rfl (!0) (!0) (!0) rfl (!0) (!0) rfl) (zcj rfl B.zip (za (vN (pv 0) rfl) (za (vN (pv 0) rfl) ze))) (λZ Z Z Z Z Z=>xS (n:=2) rfl (zR (zq (i:=0) (show List.Nodup [_,_,_] by decide) rfl (.inl rfl)) (zR (zq (i:=1) (show List.Nodup [_,_,_] by decide) rfl (.inl rfl)) y8))) (λZ Z Z Z Z Z=>z7) (λZ Z Z Z Z Z=>(zv wj (wV bd eW eX U5 (pv 2) (za (pv 0) ze)) (pv 1)))) ze)))),?_];have s16:=yd;ac_rfl;refine#[_,_,_,ho,T.cW,T.lW,_,rfl,_,_,_,ho,T.cW,T.wW,_,rfl,l,rfl,t,rfl,#[_,x6 ht],λD hD=>CompZ.by (ys:=ns.map V.int) (λi AI H'=>Same H H'/\H' D=AC (.lst AI)/\AI=((((l.zip ns).map λp=>(w.count p.1:Int) * p.2).take i).map V.int)) (by rw[aa];lia) #[zd hD,zc,rfl] (λi AI H' Z h=>x6 (h.1 _ _ ht)) ?_ ?_]
  ·rintro i c y AI H' p hc hy ⟨hs,hH,rfl⟩ hp;have hi:=(AJ.mp hc).1;rw[ax]at hy;let#[n,hn',rfl]:=AO.mp hy
   have hz:((l.zip ns).map λp=>(w.count p.1:Int) * p.2)[i]? = AC ((w.count c:Int) * n):=by
    rw[ax,(List.getElem?_zip_eq_some (z:=(c,n))).mpr #[hc,hn']];rfl
   let#[n1,n2]:=hb n (af hn');have hcl:w.count c<=w.length:=fA;have hcn:(w.count c:Int) * n=(w.count c:Int) * n:=rfl
   erw[yW]
   ac_rfl;refine#[_,x6 zc,rfl,_,_,rfl,_,_,rfl,rfl,zbw,_,rfl,_,rfl,?_,zd hp _ _ hH,by rw[aa,av];lia,?_]
   ·exact .inr #[⋯,⋯]
   ·rw[Y5];refine x8 hi #[zy (hs.trans (zd hp)) hD,zc,?_];rw[zK hz,al];rfl
  ·refine nmB ?_;rintro AI H' ⟨hs,hH,rfl⟩:_;have e:l.length=((l.zip ns).map λp=>(w.count p.1:Int) * p.2).length:=by rw[aa,List.length_zip];lia
   right;refine#[D,rfl,_,x4 hH,?_];rw[e,aD];exact q _ hs
def zdA(l:())(c e:Nat):StrLaws.At (tx l) (tx [c]) (tx l).length e ↔ l[e]? = AC c:=by
 unfold StrLaws.At Builtin.Str.subAt;rw[zP,zP];have h1:[c].length=1:=rfl;rw[h1,beq_iff_eq]
 have e1:((tx l).cps.extract e (e+1)).toList=(l.drop e).take 1:=by
  show (l.toArray.extract e (e+1)).toList=_;simp [eD]
 have e2:((tx l).cps.extract e (e+1)=(tx [c]).cps) ↔ (l.drop e).take 1=[c]:=by
  constructor
  ·intro h;rw[<- e1,h]
  ·intro h;apply Array.toList_inj.mp;rw[e1,h]
 constructor
 ·rintro⟨h2,h3⟩;have:=e2.mp h3;rw[aY ⋯,dk,cj]at this;rw[ak ⋯];injection this with h _;rw[h]
 ·intro h;let#[he,hx]:=AJ.mp h;refine#[⋯,e2.mpr ?_];rw[aY he,dk,cj,hx]
def ZY(h:c ∈ l):Txt.find (tx l) (tx [c])=((l.idxOf c:Nat):Int):=by
 have hlt:=bR h;have hg:l[l.idxOf c]? = AC c:=by rw[ak hlt,List.getElem_idxOf]
 rcases PyProof.Rows.find_whole (tx l) (tx [c])with ⟨h1,h2⟩ | ⟨e,h1,h2,h3⟩
 ·exact y4 ((zdA l c _).mpr hg) (h2 _)
 ·have he:=(zdA l c e).mp h2
  have:e=l.idxOf c:=by
   rcases eC e (l.idxOf c)with q | q | q
   ·have:=List.not_of_lt_findIdx (p:=(· == c)) q;let#[h4,h5]:=AJ.mp he;simp [h5]at this
   ·exact q
   ·exact y4 ((zdA l c _).mpr hg) (h3 _ q)
  rw[h1,this]
abbrev MkO(P:rX)(w:sk)(K:rP)(mg:rV->Option rR)(base:sq)(C:rQ):Prop:=DMk P w K mg base CX0 3 C ["self","letters"] (u7 K)
abbrev MkW(P:rX)(w:sk)(K:rP)(mg:rV->Option rR)(base:sq)(C:rQ):Prop:=DMk P w K mg base (CXx P w) 4 C ["self","letters","weights"] (kM K C)
abbrev MW(P:rX)(w:sk)(K:rP)(mg:rV->Option rR)(base:sq)(C:rQ)(m:rV)(sp:Sp):Prop:=DM P w K mg base CX0 1 C m ["self","word"] sp
structure TWS(P:rX)(w:sk)(K:rP)(mg:rV->Option rR)(base:sq)(CO CR CW:rQ):Prop extends TOrd K mg CO CR CW where
 mO:MkO P w K mg base CO
 mR:MkO P w K mg base CR
 mW:MkW P w K mg base CW
 wO:MW P w K mg base CO "weight" kd
 wR:MW P w K mg base CR "weight" kd
 wW':MW P w K mg base CW "weight" (Y4 CW)
 sO:MW P w K mg base CO "seen" X8
 sR:MW P w K mg base CR "seen" YL
 sW:MW P w K mg base CW "seen" X8
structure OG(l:())(ns:List Int)(k:Nat):Prop where
 g:vm l=AE
 k3:k<3
 nl:ns.length=l.length
 nb:∀n ∈ ns,1<=n/\n<=1000000
def uU(l:())(w:()):List Int:=w.map λc=>((l.idxOf c:Nat):Int)
def wx(k:Nat)(l:())(w:()):List Int:=uU l (yt k w)
def zdR(CO CR CW:rQ):rQ->Prop:=λC=>C=CO\/C=CR\/C=CW
def OrdAt.fam{CO CR CW:rQ}(h:OrdAt CO CR CW H o k l ns):∃C dx fs,zdR CO CR CW C/\H o=AC (.ins C dx fs)/\(∀m:rV,m≠"letters"->m≠"weights"->fs.lookup m=AD)/\fs.lookup ("letters" : rV)=AC (V.str (tx l)):=by
 have e1:∀m:rV,m≠"letters"->(m ==("letters" : rV))=AF:=λm hm=>by simpa using hm
 have e2:∀m:rV,m≠"weights"->(m ==("weights" : rV))=AF:=λm hm=>by simpa using hm
 obtain⟨dx,⟨h1,h2⟩ | ⟨h1,h2⟩ | ⟨h1,h2,w,h3,h4⟩⟩:=h
 ·exact#[_,_,_,.inl rfl,h2,λm hm Z=>by simp [bn,e1 m hm],rfl]
 ·exact#[_,_,_,.inr (.inl rfl),h2,λm hm Z=>by simp [bn,e1 m hm],rfl]
 ·exact#[_,_,_,.inr (.inr rfl),h3,λm hm hm2=>by simp [bn,e1 m hm,e2 m hm2],rfl]
def Xg(CO CR CW:rQ):Sp:=λvs H Q Z=>∃(o:rQ) (k:Nat) (l:()) (ns:List Int) (w:()),vs=[.ref o,⇑w]/\OrdAt CO CR CW H o k l ns/\OG l ns k/\w.length<=1000/\(∀c ∈ w,c ∈ l)/\∀(p q:rQ) (H':Hp),Same H H'->H' p=AC (.tup [.int (zr k l ns w),.ref q])->H' q=AC (.lst ((wx k l w).map V.int))->Q (.ref p) H'
def Q9{CO CR CW o D:rQ}(T:TOrd K mg CO CR CW)(ho:OrdAt CO CR CW H o k l ns)(hl:v.length<=1000)(hm:∀c ∈ v,c ∈ l)(hD:H D=AD)(q:∀H',Same H H'->H' D=AC (.lst ((uU l v).map V.int))->Q (.ref D) H') :
  CompS (tx v) (yZ 0) yW (tBM K "str" zM (za3 K (zV 1) "letters") (zE (zV 0) yT)) 1 [0] [!!o,a1] H Q D:=by
 have s16:=yd;refine CompS.by (λi AI H'=>Same H H'/\H' D=AC (.lst AI)/\AI=(uU l (v.take i)).map V.int) #[zd hD,zc,rfl] ?_ ?_
 ·refine nm4 ?_;rintro i c AI H' hc ⟨hs,hH,rfl⟩:_;have hci:=(AJ.mp hc).1;have hcl:=hm c (af hc);let#[C,dx,fs,hf,ho',_,hlk]:=(ho.same hs).fam
  have hC:Cls K C/\NoAttr K C "letters":=by
   rcases hf with rfl | rfl | rfl
   ·exact#[T.cO,T.lO]
   ·exact#[T.cR,T.lR]
   ·exact#[T.cW,T.lW]
  right
  erw[yW]
  ac_rfl;refine#[yx,_,_,_,ho',hC.1,hC.2,_,hlk,trivial,_,rfl,_,ZY hcl,hH,by rw[aa];unfold uU;rw[aa,av];lia,x8 hci #[zy hs hD,zc,?_]];unfold uU;rw[zK hc,al,al];rfl
 ·refine nmB ?_;rintro AI H' ⟨hs,hH,rfl⟩:_;rw[aD]at hH;right;exact q H' hs hH
def Zj:sQz 2 ["self","word"] xw:=by nofun
def we{f CO CR CW:rQ}(B:Bt mg)(T:TWS P w K mg base CO CR CW)(F:Fun K "rank" "Order.rank" xw f fd):(2&&&["self","word"]) (Xg CO CR CW):=by
 exists F.ok Zj
 ·let#[o,k,l,ns,w,rfl,ho,hG,hw,hm,q]:=h;refine#[_,(zf (zm (zH (za (zbv T.wO T.wR T.wW' T.cO T.cR T.cW hr (pv 0) (za (pv 1) ze)) (za (yO (own:=["letter"]) (caps:=["self"]) (ix:=[0]) (tt:=yW) (te:=(tBM K "str" zM (za3 K (zV 1) "letters") (zE (zV 0) yT))) rfl (zJ (sc:=zg xw) rfl (!0) (!0) (!0) rfl (!0) (!0) rfl) (qW (zbv T.sO T.sR T.sW T.cO T.cR T.cW hr (pv 0) (za (pv 1) ze))) (λZ Z Z Z Z Z=>zq (i:=0) (show List.Nodup [_,_] by decide) rfl (.inl rfl)) (λZ Z Z Z Z Z=>z7) (λZ Z Z Z Z Z=>(wV bd eY eZ U4 (vN (pv 1) rfl) (za (pv 0) ze)))) ze))))),?_];have s16:=yd
  have hsl:(yt k w).length<=1000:=by
   unfold yt;split
   ·rw[cb];exact hw
   ·exact hw
  have hsm:∀c ∈ yt k w,c ∈ l:=λc hc=>by
   unfold yt at hc;split at hc
   ·exact hm c (AX.mp hc)
   ·exact hm c hc
  have l6:l.length<=6:=(u6 hG.g).2.1;have fin:∀H1,Same H H1->∀D,H1 D=AD->CompS (tx (yt k w)) (yZ 0) yW (tBM K "str" zM (za3 K (zV 1) "letters") (zE (zV 0) yT)) 1 [0] [!!o,~~~w] H1 (λx5 H1=>2<=rO/\∀p,H1 p=AD->Q (.ref p) (upd H1 p (.tup [.int (zr k l ns w),x5]))) D:=λH1 s1 D hD=>Q9 T.toTOrd (ho.same s1) hsl hsm hD λH' s' hH=>#[⋯,λp hp=>q p D _ (s1.trans (s'.trans (zd hp))) zc (zd hp _ _ hH)];ac_rfl;obtain⟨dx',⟨h1,h2⟩ | ⟨h1,h2⟩ | ⟨h1,h2,t',h3,h4⟩⟩:=id ho
  ·have e1:zr k l ns w=(w.length:Int):=by unfold zr;rw[y9 ⋯]
   have e2:yt k w=w:=by unfold yt;rw[y9 ⋯]
   rw[e1,e2]at fin;exact .inl #[_,_,h2,rfl,o,w,rfl,hw,.inl #[_,_,h2,rfl,o,w,rfl,_,rfl,fin H (x9 _)]]
  ·have e1:zr k l ns w=(w.length:Int):=by unfold zr;rw[y9 ⋯]
   have e2:yt k w=w.reverse:=by unfold yt;rw[y6 h1]
   rw[e1,e2]at fin;exact .inr (.inl #[_,_,h2,rfl,o,w,rfl,hw,.inr (.inl #[_,_,h2,rfl,o,w,rfl,hw,_,rfl,fin H (x9 _)])])
  ·have e1:zr k l ns w=W4 l ns w:=by unfold zr;rw[y6 h1]
   have e2:yt k w=w:=by unfold yt;rw[y9 ⋯]
   rw[e1,e2]at fin;exact .inr (.inr #[_,_,h3,rfl,o,dx',t',w,l,ns,rfl,hw,l6,hG.nl,hG.nb,h3,h4,λH' s'=>.inr (.inr #[_,_,s' _ _ h3,rfl,o,w,rfl,_,rfl,fin H' s'])])
def z6(k:Nat)(l:())(ns:List Int)(u v:()):Bool:=if zr k l ns u=zr k l ns v then ltI (wx k l u) (wx k l v)else decide (zr k l ns u<zr k l ns v)
abbrev DR(P:rX)(w:sk)(K:rP)(mg:rV->Option rR)(base:sq)(CO CR CW:rQ):Prop:=DMF P w K mg base CX0 2 (zdR CO CR CW) "rank" ["self","word"] (λZ=>Xg CO CR CW)
def kh{ns:List Int}(hp:H p=AC (.tup [.int z,.ref q]))(hq:H q=AC (.lst (ns.map V.int))):Is K H (.tup [.int z,.lst (ns.map L3.D.int)]) (.ref p):=by
 erw[Is,Iss]
 exact#[p,_,rfl,x6 hp,_,_,rfl,rfl,_,_,rfl,#[q,_,rfl,x4 hq,Iss.ints ns],rfl]
theorem vg:∀x:List Int,ltI x x=AF
 | []=>rfl
 | a::x=>by
  rw[ltI,y6 rfl];exact vg x
def VG(a b:Int)(x y:List Int):ltD (.tup [.int a,.lst (x.map L3.D.int)]) (.tup [.int b,.lst (y.map L3.D.int)])=if a=b then ltI x y else decide (a<b):=by
 erw[ltD,kR,eqD,Qa,ZI]
 by_cases h:a=b
 ·subst h;by_cases h2:x=y
  ·subst h2;simp [vg]
  ·simp [h2]
 ·simp [h]
def Vv(CO CR CW:rQ):Sp:=λvs H Q Z=>∃(o:rQ) (k:Nat) (l:()) (ns:List Int) (u v:()),vs=[.ref o,⇑u,⇑v]/\OrdAt CO CR CW H o k l ns/\OG l ns k/\u.length<=1000/\v.length<=1000/\(∀c ∈ u,c ∈ l)/\(∀c ∈ v,c ∈ l)/\∀H':Hp,Same H H'->Q (.bl (z6 k l ns u v)) H'
def qX:sQz 3 ["self","one","other"] xF:=by nofun
def xq{f CO CR CW:rQ}(B:Bt mg)(DRk:DR P w K mg base CO CR CW)(F:Fun K "before" "Order.before" xF f fd):(3&&&["self","one","other"]) (Vv CO CR CW):=by
 exists F.ok qX
 ·let#[o,k,l,ns,u,v,rfl,ho,hG,hu,hv,hmu,hmv,q]:=h;refine#[_,(zf (zm (yn (Wn (wl hr)) (zcN DRk hr (pv 0) (za (pv 1) ze)) (zcN DRk hr (pv 0) (za (pv 2) ze)) (zw _)))),?_];have s16:=yd;ac_rfl;let#[C,dx,fs,hf,ho1,hn,_]:=ho.fam;have h1:fs.lookup ("rank" : rV)=AD:=hn _ ∅ ∅;refine#[C,hf,dx,fs,ho1,h1,o,k,l,ns,u,rfl,ho,hG,hu,hmu,λp x H1 s1 hp hx=>#[C,hf,dx,fs,s1 _ _ ho1,h1,o,k,l,ns,v,rfl,ho.same s1,hG,hv,hmv,λp' x' H2 s2 hp' hx'=>?_]];refine VI (kh (s2 _ _ hp) (s2 _ _ hx)) (kh hp' hx') (by erw[dpD,wv,Vx];decide) (by erw[okD,Yd];exact#[trivial,qC _ _,trivial]) ?_;rw[VG];exact q H2 (s1.trans s2)
abbrev DB(P:rX)(w:sk)(K:rP)(mg:rV->Option rR)(base:sq)(CO CR CW:rQ):Prop:=DMF P w K mg base CX0 3 (zdR CO CR CW) "before" ["self","one","other"] (λZ=>Vv CO CR CW)
def Jd(k:Int)(ls:())(ns:List Int)(w:()):Int:=(w.map λc=>if k=2 then ns.getD (ls.idxOf c) 0 else 1).sum
theorem Jo{w:()}(h:k≠2):Jd k ls ns w=(w.length:Int):=by
 unfold Jd
 induction w with
 | nil=>rfl
 | cons c w ih =>
  rw[aw,bp,ih,y9 h,au];lia
theorem ja{ls:()}(f g:Nat->Int):((ls.zip ns).map λp=>(f p.1+g p.1) * p.2).sum=((ls.zip ns).map λp=>f p.1 * p.2).sum+((ls.zip ns).map λp=>g p.1 * p.2).sum:=by
 induction ls.zip ns with
 | nil=>rfl
 | cons p r ih =>
  rw[aw,aw,aw,bp,bp,bp,ih,Int.add_mul];lia
theorem V3:∀{ls:()} {ns:List Int} {c:Nat},ls.Nodup->ns.length=ls.length->c ∈ ls->((ls.zip ns).map λp=>(if p.1=c then (1:Int)else 0) * p.2).sum=ns.getD (ls.idxOf c) 0
 | [],ns,c,_,_,hc=>(nomatch hc)
 | d::ls,[],c,_,hl,_=>by cases hl
 | d::ls,n::ns,c,hn,hl,hc=>by
  rw[fM,aw,bp];have hnd:=AV.mp hn;by_cases h:d=c
  ·subst h
   have h0:∀(l:()) (m:List Int),d ∉ l->((l.zip m).map λp=>(if p.1=d then (1:Int)else 0) * p.2).sum=0:=by
    intro l
    induction l with
    | nil=>intro m _;rfl
    | cons x l ih =>
     intro m hx
     cases m with
     | nil=>rfl
     | cons y m =>
      rw[fM,aw,bp,ih m (λq=>hx (aA _ q)),y9 (show ¬ x=d from λe=>hx (by rw[e];exact aH))];lia
   rw[h0 ls ns hnd.1,y6 rfl,List.idxOf_cons_self];simp
  ·have hc':c ∈ ls:=by
    rcases AM.mp hc with e | e
    ·exact y4 e.symm h
    ·exact e
   rw[V3 hnd.2 ↥hl hc',y9 h,dQ,show (d == c)=AF by simpa using h];simp
theorem j7(hn:ls.Nodup)(hl:ns.length=ls.length):∀{w:()},(∀x ∈ w,x ∈ ls)->Jd 2 ls ns w=W4 ls ns w
 | [],_=>by
  have h0:∀r:List (Nat × Int),(r.map λp=>((([]:()).count p.1:Nat):Int) * p.2).sum=0:=by
   intro r
   induction r with
   | nil=>rfl
   | cons p r ih=>rw[aw,bp,ih];simp
  exact (h0 _).symm
 | c::w,h=>by
  have ih:=j7 hn hl (w:=w) λx hx=>h x (aA _ hx)
  have e1:Jd 2 ls ns (c::w)=ns.getD (ls.idxOf c) 0+Jd 2 ls ns w:=by
   unfold Jd;rw[aw,bp,y6 rfl]
  rw[e1,ih,<- V3 hn hl (h c aH)];unfold W4;rw[<- ja (λx=>if x=c then 1 else 0) (λx=>(w.count x:Int))];refine congrArg List.sum (cG λp Z=>?_);rw[dm];by_cases e:c=p.1
  ·rw[y6 e.symm,y6 ↥e];simp [Int.add_comm]
  ·rw[y9 (λz=>e z.symm),y9 ↥e];simp
def wt(k:Nat)(ns:List Int)(i:Int):Int:=if k=2 then ns.getD i.toNat 0 else 1
theorem xU{g:Int->Int}:∀{x:List Int},(∀i ∈ x,0<g i)->0<=(x.map g).sum
 | [],_=>by simp
 | a::x,h=>by
  have h1:=h a aH;have h2:=xU (x:=x) λi hi=>h i (aA _ hi);rw[aw,bp];lia
theorem Zu:∀{x y z:List Int},ltI x y=AE->ltI y z=AE->ltI x z=AE
 | [],[],_,h,_=>by cases h
 | [],_::_,[],_,h=>by cases h
 | [],_::_,_::_,_,_=>rfl
 | _::_,[],_,h,_=>by cases h
 | _::_,_::_,[],_,h=>by cases h
 | a::x,b::y,c::z,h1,h2=>by
  rw[ltI]at h1 h2 ⊢;by_cases e:a=b
  ·subst e;rw[y6 rfl]at h1;by_cases f:a=c
   ·rw[y6 f]at h2 ⊢;exact Zu h1 h2
   ·rw[y9 f]at h2 ⊢;exact h2
  ·rw[y9 e]at h1;have h1':=u6 h1;by_cases f:b=c
   ·subst f;rw[y9 e];exact h1
   ·rw[y9 f]at h2;have h2':=u6 h2;rw[y9 ⋯];exact u9 ⋯
theorem Yt:∀(c x y:List Int),ltI (c ++ x) (c ++ y)=ltI x y
 | [],_,_=>rfl
 | a::c,x,y=>by
  rw[ba,ba,ltI,y6 rfl];exact Yt c x y
theorem XG{g:Int->Int}:∀{x y:List Int},(∀i ∈ x,0<g i)->(∀i ∈ y,0<g i)->(x.map g).sum=(y.map g).sum->ltI (x ++ c) (y ++ c)=ltI x y
 | [],[],_,_,_=>vg c
 | [],b::y,_,hy,h=>by
  have h1:=hy b aH;have h2:=xU (x:=y) λi hi=>hy i (aA _ hi);rw[aw,bp,aL,List.sum_nil]at h;lia
 | a::x,[],hx,_,h=>by
  have h1:=hx a aH;have h2:=xU (x:=x) λi hi=>hx i (aA _ hi);rw[aw,bp,aL,List.sum_nil]at h;lia
 | a::x,b::y,hx,hy,h=>by
  rw[ba,ba,ltI,ltI];by_cases e:a=b
  ·rw[y6 e,y6 e];rw[aw,bp,aw,bp,e]at h;exact XG (λi hi=>hx i (aA _ hi)) (λi hi=>hy i (aA _ hi)) ⋯
  ·rw[y9 e,y9 e]
end
section
mutual section
variable{k:Nat}{l:()}{ns:List Int}{t u v:()}
def Jh(a b:()):W4 l ns (a ++ b)=W4 l ns a+W4 l ns b:=by unfold W4;rw[<- ja (λx=>(a.count x:Int)) (λx=>(b.count x:Int))];refine congrArg List.sum (cG λp Z=>?_);rw[dA];simp
theorem xQ(a b:()):zr k l ns (a ++ b)=zr k l ns a+zr k l ns b:=by
 unfold zr;by_cases h:k=2
 ·rw[y6 h,y6 h,y6 h,Jh]
 ·rw[y9 h,y9 h,y9 h,ag];lia
theorem yV(G:OG l ns k):∀{w:()},(∀c ∈ w,c ∈ l)->zr k l ns w=((uU l w).map (wt k ns)).sum:=by
 intro w hm;have hn:l.Nodup:=(u6 G.g).2.2.2
 have e:((uU l w).map (wt k ns)).sum=Jd (k:Int) l ns w:=by
  unfold uU Jd;rw[List.map_map];refine congrArg List.sum (cG λc Z=>?_);show wt k ns _=_;unfold wt;by_cases h:k=2
  ·rw[y6 h,y6 ⋯,aF]
  ·rw[y9 h,y9 ⋯]
 rw[e];unfold zr;by_cases h:k=2
 ·rw[y6 h,h];exact (j7 hn G.nl hm).symm
 ·rw[y9 h,Jo ⋯]
theorem Zv(G:OG l ns k)(hm:∀c ∈ u,c ∈ l):∀i ∈ uU l u,0<wt k ns i:=by
 intro i hi;let#[c,hc,rfl]:=AN.mp hi;have hlt:=bR (hm c hc);have hl:=G.nl;unfold wt;split
 ·rw[aF,am,ak ⋯];have:=(G.nb _ (List.getElem_mem (l:=ns) (n:=l.idxOf c) ⋯)).1;show 0<ns[l.idxOf c];lia
 ·decide
def Zg(G:OG l ns k)(hm:∀c ∈ u,c ∈ l):0<=zr k l ns u:=by rw[yV G hm];exact xU (Zv G hm)
theorem WV(G:OG l ns k)(hm:∀c ∈ u,c ∈ l)(h:u≠[]):0<zr k l ns u:=by
 cases u with
 | nil=>exact y4 rfl h
 | cons a u =>
  have h1:=Zv G hm (l.idxOf a:Nat) (AN.mpr #[a,aH,rfl]);have h2:0<=((uU l u).map (wt k ns)).sum:=xU (Zv (u:=u) G λc hc=>hm c (aA _ hc));rw[yV G hm];show 0<((((l.idxOf a:Nat):Int)::uU l u).map (wt k ns)).sum;rw[aw,bp];lia
def wB:z6 k l ns u u=AF:=by unfold z6;rw[y6 rfl,vg]
theorem vJ(h1:z6 k l ns t u=AE)(h2:z6 k l ns u v=AE):z6 k l ns t v=AE:=by
 unfold z6 at h1 h2 ⊢;generalize zr k l ns t=a at *;generalize zr k l ns u=b at *;generalize zr k l ns v=c at *;by_cases e:a=b
 ·subst e;rw[y6 rfl]at h1;by_cases f:a=c
  ·rw[y6 f]at h2 ⊢;exact Zu h1 h2
  ·rw[y9 f]at h2 ⊢;exact h2
 ·rw[y9 e]at h1;have h1':=u6 h1;by_cases f:b=c
  ·subst f;rw[y9 e];exact h1
  ·rw[y9 f]at h2;have h2':=u6 h2;rw[y9 ⋯];exact u9 ⋯
def Xs(a b:()):uU l (a ++ b)=uU l a ++ uU l b:=al
def ZL(G:OG l ns k)(hu:∀c ∈ u,c ∈ l)(hv:∀c ∈ v,c ∈ l)(e:zr k l ns u=zr k l ns v)(c:List Int):ltI (uU l u ++ c) (uU l v ++ c)=ltI (uU l u) (uU l v):=by rw[yV G hu,yV G hv]at e;exact XG (Zv G hu) (Zv G hv) e
def jX(G:OG l ns k)(hu:∀c ∈ u,c ∈ l):zr k l ns u.reverse=zr k l ns u:=by rw[yV G hu,yV G λc hc=>hu c (AX.mp hc)];unfold uU;rw[List.map_reverse,List.map_reverse,List.sum_reverse]
theorem Zy(G:OG l ns k)(ht:∀c ∈ t,c ∈ l)(hu:∀c ∈ u,c ∈ l)(hv:∀c ∈ v,c ∈ l):z6 k l ns (t ++ u) (t ++ v)=z6 k l ns u v/\z6 k l ns (u ++ t) (v ++ t)=z6 k l ns u v:=by
 have hur:∀c ∈ u.reverse,c ∈ l:=λc hc=>hu c (AX.mp hc);have hvr:∀c ∈ v.reverse,c ∈ l:=λc hc=>hv c (AX.mp hc);unfold z6;rw[xQ,xQ,xQ,xQ];by_cases e:zr k l ns u=zr k l ns v
 ·rw[y6 ⋯,y6 e,y6 ⋯];unfold wx yt;by_cases f:k=1
  ·erw[y6 f,List.reverse_append,Xs]
   exact#[ZL G hur hvr (by rw[jX G hu,jX G hv,e]) _,Yt _ _ _]
  ·erw[y9 f,Xs]
   exact#[Yt _ _ _,ZL G hu hv e _]
 ·rw[y9 ⋯,y9 e,y9 ⋯];exact#[by congr 1;exact propext ⋯,by congr 1;exact propext ⋯]
end
end
mutual section
def stJ(l:())(ps:List zF)(q j:Nat):Bool:=((ps[j]?).map λp=>zB l (q:Int) p.1).getD AF
def jB(h:ps[j]? = AC p):stJ l ps q j=zB l (q:Int) p.1:=by unfold stJ;rw[h];rfl
theorem vZ(h:stJ l ps q j=AE):j<ps.length/\∃p,ps[j]? = AC p/\zB l (q:Int) p.1=AE:=by
 unfold stJ at h
 cases e:ps[j]? with
 | none=>rw[e]at h;cases h
 | some p =>
  rw[e]at h;exact#[(AJ.mp e).1,p,rfl,h]
def qK(l:())(ps:List zF)(q i:Nat):List (Nat × Nat):=((aQ i).filter (stJ l ps q)).map λj=>(j,q)
def xW(l:())(ps:List zF)(k:Nat):List (Nat × Nat):=(aQ k).flatMap λq=>qK l ps q ps.length
def WP(l:())(ps:List zF)(q i:Nat):qK l ps q (i+1)=qK l ps q i ++ (if stJ l ps q i=AE then [(i,q)]else []):=by
 unfold qK;rw[cS,fN,al];congr 1;by_cases h:stJ l ps q i=AE
 ·rw[y6 h,List.filter_cons_of_pos h];rfl
 ·rw[y9 h,List.filter_cons_of_neg h];rfl
def jI(l:())(ps:List zF)(k:Nat):xW l ps (k+1)=xW l ps k ++ qK l ps k ps.length:=by unfold xW;rw[cS,d4];simp
def UZ(l:())(ps:List zF)(q i:Nat):(qK l ps q i).length<=i:=by unfold qK;rw[aa];have:=fo (stJ l ps q) (aQ i);rw[dB]at this;exact this
theorem Ua(l:())(ps:List zF):∀k,(xW l ps k).length<=k * ps.length
 | 0=>by simp [xW]
 | k+1=>by
  rw[jI,ag,dr];have:=Ua l ps k;have:=UZ l ps k ps.length;lia
def usesN_mem : u ∈ qK l ps q i ↔ u.2=q/\u.1<i/\stJ l ps q u.1=AE:=by
 unfold qK;rw[List.mem_map];constructor
 ·rintro⟨j,hj,rfl⟩;rw[List.mem_filter,fq]at hj;exact#[rfl,hj.1,hj.2]
 ·rintro⟨h1,h2,h3⟩;exact#[u.1,AU.mpr #[AR.mpr h2,h3],by rw[<- h1]]
def usesK_mem : u ∈ xW l ps k ↔ u.2<k/\stJ l ps u.2 u.1=AE:=by
 unfold xW;rw[List.mem_flatMap];constructor
 ·rintro⟨q,hq,hu⟩;let#[h1,h2,h3]:=usesN_mem.mp hu;rw[fq]at hq;rw[h1];exact#[hq,h3]
 ·rintro⟨h1,h2⟩;exact#[u.2,AR.mpr h1,usesN_mem.mpr #[rfl,(vZ h2).1,h2]]
def uLt(a b:Nat × Nat):Prop:=a.2<b.2\/(a.2=b.2/\a.1<b.1)
theorem uN(l:())(ps:List zF)(q:Nat):∀i,(qK l ps q i).Pairwise uLt
 | 0=>by simp [qK]
 | i+1=>by
  rw[WP];refine Bf.mpr #[uN l ps q i,?_,λa ha b hb=>?_]
  ·split
   ·exact List.pairwise_singleton _ _
   ·exact List.Pairwise.nil
  ·let#[h1,h2,_]:=usesN_mem.mp ha;split at hb
   ·rw[AL.mp hb];exact .inr #[h1,h2]
   ·cases hb
theorem wC(l:())(ps:List zF):∀k,(xW l ps k).Pairwise uLt
 | 0=>by simp [xW]
 | k+1=>by
  rw[jI];refine Bf.mpr #[wC l ps k,uN l ps k _,λa ha b hb=>?_];have h1:=(usesK_mem.mp ha).1;have h2:=(usesN_mem.mp hb).1;exact .inl ⋯
def FirstN(l:())(ps:List zF)(lo hi n:Nat)(r:Option (Nat × Nat)):Prop :=
 (r=AD/\∀j q,j<n->lo<=q->q<hi->stJ l ps q j=AF) \/
 ∃n0 q0,r=AC (n0,q0)/\n0<n/\lo<=q0/\q0<hi/\stJ l ps q0 n0=AE/\∀j q,j<n->lo<=q->stJ l ps q j=AE->q0<q\/(q0=q/\n0<=j)
def FirstN.uniq{lo hi n:Nat}(h:FirstN l ps lo hi n r)(h':FirstN l ps lo hi n r'):r=r':=by
 rcases h with ⟨rfl,h⟩ | ⟨n0,q0,rfl,a1,a2,a3,a4,a5⟩
 ·rcases h' with ⟨rfl,_⟩ | ⟨n0,q0,rfl,a1,a2,a3,a4,a5⟩
  ·rfl
  ·rw[h n0 q0 a1 a2 a3]at a4;cases a4
 ·rcases h' with ⟨rfl,h⟩ | ⟨n1,q1,rfl,b1,b2,b3,b4,b5⟩
  ·rw[h n0 q0 a1 a2 a3]at a4;cases a4
  ·have x1:=a5 n1 q1 b1 b2 b4;have x2:=b5 n0 q0 a1 a2 a4;have e1:q0=q1:=⋯;have e2:n0=n1:=⋯;rw[e1,e2]
theorem WB(h:FirstN l ps 0 l.length ps.length r):r=(xW l ps l.length).head?:=by
 have hs:=wC l ps l.length;refine h.uniq ?_
 cases e:xW l ps l.length with
 | nil =>
  refine .inl #[rfl,λj q Z Z hq=>?_]
  cases hb:stJ l ps q j with
  | false=>rfl
  | true =>
   have:(j,q) ∈ xW l ps l.length:=usesK_mem.mpr #[hq,hb];rw[e]at this;cases this
 | cons u us =>
  rw[e]at hs;have hu:u ∈ xW l ps l.length:=by rw[e];exact aH
  let#[h1,h2]:=usesK_mem.mp hu;refine .inr #[u.1,u.2,rfl,(vZ h2).1,aJ _,h1,h2,λj q hj Z hb=>?_];by_cases hq:q<l.length
  ·have:(j,q) ∈ xW l ps l.length:=usesK_mem.mpr #[hq,hb];rw[e]at this;rcases AM.mp this with e2 | e2
   ·rw[<- e2];exact .inr #[rfl,ah _]
   ·rcases (Bg.mp hs).1 _ e2 with h | ⟨h,h'⟩
    ·exact .inl h
    ·exact .inr #[h,dq h']
  ·exact .inl ⋯
def ZA{q:Nat}(hp:p≠[])(h:zB l (q:Int) p=AE):q<l.length:=by let#[h0,h1,_]:=u6 h;have:0<p.length:=AW.mpr hp;lia
def FirstN.keep{lo hi n:Nat}(h:FirstN l ps lo hi n r)(hp:ps[n]? = AC p)(hn:∀q:Nat,lo<=q->q<(r.map Prod.snd).getD hi->zB l (q:Int) p.1=AF):FirstN l ps lo hi (n+1) r:=by
 rcases h with ⟨rfl,h⟩ | ⟨n0,q0,rfl,a1,a2,a3,a4,a5⟩
 ·refine .inl #[rfl,λj q hj h1 h2=>?_];by_cases e:j<n
  ·exact h j q e h1 h2
  ·have:j=n:=⋯;subst this;rw[jB hp];exact hn q h1 h2
 ·refine .inr #[n0,q0,rfl,⋯,a2,a3,a4,λj q hj h1 h2=>?_];by_cases e:j<n
  ·exact a5 j q e h1 h2
  ·have:j=n:=⋯;subst this;rw[jB hp]at h2;by_cases hq:q<q0
   ·rw[hn q h1 hq]at h2;cases h2
   ·lia
def FirstN.take{lo hi n k:Nat}(h:FirstN l ps lo hi n r)(hp:ps[n]? = AC p)(h1:lo<=k)(h2:k<(r.map Prod.snd).getD hi)(h3:zB l (k:Int) p.1=AE)(hn:∀q:Nat,lo<=q->q<k->zB l (q:Int) p.1=AF):FirstN l ps lo hi (n+1) (AC (n,k)):=by
 have hk:k<hi/\∀j q,j<n->lo<=q->stJ l ps q j=AE->k<q:=by
  rcases h with ⟨rfl,h⟩ | ⟨n0,q0,rfl,a1,a2,a3,a4,a5⟩
  ·refine#[h2,λj q hj hl hb=>?_];by_cases hq:q<hi
   ·rw[h j q hj hl hq]at hb;cases hb
   ·have h2':k<hi:=h2;lia
  ·have h2':k<q0:=h2;refine#[⋯,λj q hj hl hb=>?_];have:=a5 j q hj hl hb;lia
 refine .inr #[n,k,rfl,⋯,h1,hk.1,by rw[jB hp];exact h3,λj q hj hl hb=>?_];by_cases e:j<n
 ·exact .inl (hk.2 j q e hl hb)
 ·have:j=n:=⋯;subst this;rw[jB hp]at hb;by_cases hq:q<k
  ·rw[hn q hl hq]at hb;cases hb
  ·lia
def FirstN.window{lo mid hi n:Nat}(h0:FirstN l ps lo mid n AD)(hm:lo<=mid)(h:FirstN l ps mid hi n r):FirstN l ps lo hi n r:=by
 have h0':∀j q,j<n->lo<=q->q<mid->stJ l ps q j=AF:=by
  rcases h0 with ⟨_,h⟩ | ⟨_,_,h,_⟩
  ·exact h
  ·cases h
 rcases h with ⟨rfl,h⟩ | ⟨n0,q0,rfl,a1,a2,a3,a4,a5⟩
 ·refine .inl #[rfl,λj q hj h1 h2=>?_];by_cases e:q<mid
  ·exact h0' j q hj h1 e
  ·exact h j q hj ⋯ h2
 ·refine .inr #[n0,q0,rfl,a1,⋯,a3,a4,λj q hj h1 h2=>?_];by_cases e:q<mid
  ·rw[h0' j q hj h1 e]at h2;cases h2
  ·exact a5 j q hj ⋯ h2
def NeL(ps:List zF):Prop:=∀p ∈ ps,p.1≠[]
def FirstN.toEnd{lo hi n:Nat}(hN:NeL ps)(h:FirstN l ps lo hi n r)(hl:r=AD->l.length<=hi):FirstN l ps lo l.length n r:=by
 have hlt:∀j q,stJ l ps q j=AE->q<l.length:=λj q hb=>by
  let#[_,p,hp,hs]:=vZ hb;exact ZA (hN p (af hp)) hs
 rcases h with ⟨rfl,h⟩ | ⟨n0,q0,rfl,a1,a2,a3,a4,a5⟩
 ·exact .inl #[rfl,λj q hj h1 h2=>h j q hj h1 (by have:=hl rfl;lia)]
 ·exact .inr #[n0,q0,rfl,a1,a2,hlt _ _ a4,a4,a5]
def zN(l:())(ps:List zF):Option (Nat × Nat):=(xW l ps l.length).head?
def ku(h:FirstN l ps 0 l.length ps.length r):r=zN l ps:=WB h
theorem XY(l:())(ps:List zF)(hN:NeL ps):FirstN l ps 0 l.length ps.length (zN l ps):=by
 have hs:=wC l ps l.length;unfold zN
 cases e:xW l ps l.length with
 | nil =>
  refine .inl #[rfl,λj q Z Z hq=>?_]
  cases hb:stJ l ps q j with
  | false=>rfl
  | true =>
   have:(j,q) ∈ xW l ps l.length:=usesK_mem.mpr #[hq,hb];rw[e]at this;cases this
 | cons u us =>
  rw[e]at hs;have hu:u ∈ xW l ps l.length:=by rw[e];exact aH
  let#[h1,h2]:=usesK_mem.mp hu;refine .inr #[u.1,u.2,rfl,(vZ h2).1,aJ _,h1,h2,λj q hj Z hb=>?_]
  have hq:q<l.length:=by
   let#[_,p,hp,hs]:=vZ hb;exact ZA (hN p (af hp)) hs
  have:(j,q) ∈ xW l ps l.length:=usesK_mem.mpr #[hq,hb];rw[e]at this;rcases AM.mp this with e2 | e2
  ·rw[<- e2];exact .inr #[rfl,ah _]
  ·rcases (Bg.mp hs).1 _ e2 with h | ⟨h,h'⟩
   ·exact .inl h
   ·exact .inr #[h,dq h']
def XH(ps:List zF)(n:Nat):zF:=ps.getD n ([],[])
def vX(h:ps[n]? = AC p):XH ps n=p:=by unfold XH;rw[am,h];rfl
def YF(l:())(ps:List zF)(u:Nat × Nat):():=vt l (u.2:Int) (XH ps u.1).1 (XH ps u.1).2
def Kv(ps:List zF)(l:()):():=((zN l ps).map (YF l ps)).getD l
def wAt(ps:List zF)(l:()):Nat->()
 | 0=>l
 | j+1=>Kv ps (wAt ps l j)
def sAt(ps:List zF)(l:())(j:Nat):List (Nat × Nat):=(aQ j).map λi=>(zN (wAt ps l i) ps).getD (0,0)
def Jz(ps:List zF)(l:())(j:Nat):sAt ps l (j+1)=sAt ps l j ++ [(zN (wAt ps l j) ps).getD (0,0)]:=by unfold sAt;rw[cS,al];rfl
def KF(ps:List zF)(l:())(j:Nat):(sAt ps l j).length=j:=by unfold sAt;rw[aa,dB]
def vb(h:zN (wAt ps l j) ps=AC u):wAt ps l (j+1)=YF (wAt ps l j) ps u:=by show Kv ps (wAt ps l j)=_;unfold Kv;rw[h];rfl
def kF(ps:List zF)(l:())(j:Nat):Prop:=∀i,i<j->zN (wAt ps l i) ps≠AD
def XV(h1:kF ps l i)(h2:zN (wAt ps l i) ps=AD)(h3:kF ps l j)(h4:zN (wAt ps l j) ps=AD):i=j:=by
 rcases eC i j with h | h | h
 ·exact y4 h2 (h3 i h)
 ·exact h
 ·exact y4 h4 (h1 j h)
def Ww{n q M lo:Nat}(h:FirstN l ps 0 l.length ps.length (AC (n,q)))(hN:NeL ps)(hM:∀p ∈ ps,p.1.length<=M)(hlo:lo=0\/lo+M<=q+1):FirstN (YF l ps (n,q)) ps 0 lo ps.length AD:=by
 refine .inl #[rfl,λj x hj Z hx=>?_];rcases h with ⟨h,_⟩ | ⟨n0,q0,e,a1,a2,a3,a4,a5⟩
 ·cases h
 ·injection e with e;injection e with e1 e2;subst e1 e2
  cases hb:stJ (YF l ps (n,q)) ps x j with
  | false=>rfl
  | true =>
   let#[_,p,hp,hs]:=vZ hb;have hpm:=hM p (af hp);have hpn:=AW.mpr (hN p (af hp));have hxq:x+p.1.length<=q:=⋯;let#[s0,s1,s2]:=u6 hs;rw[aF]at s2;let#[_,p2,hp2,hs2]:=vZ a4;let#[t0,t1,t2]:=u6 hs2
   have e4:(YF l ps (n,q)).take q=l.take q:=by
    unfold YF vt;rw[aF,bb,bI (by rw[av];lia),List.take_take,eF]
   have e5:∀z:(),((z.take q).drop x).take p.1.length=(z.drop x).take p.1.length:=λz=>by
    rw[List.drop_take,List.take_take];congr 1;lia
   have s3:(l.drop x).take p.1.length=p.1:=by rw[<- e5,<- e4,e5,s2]
   have:stJ l ps x j=AE:=by
    rw[jB hp];exact u9 #[⋯,⋯,by rw[aF];exact s3]
   have:=a5 j x hj (aJ _) this;lia
def UseAt(H:Hp)(r:Option (Nat × Nat))(v:V):Prop:=(r=AD/\v=.non)\/∃(n q:Nat) (p:rQ),r=AC (n,q)/\v=.ref p/\H p=AC (.tup [.int (n:Nat),.int (q:Nat)])
def UseAt.same{H H':Hp}{r:Option (Nat × Nat)}{v:V}(h:UseAt H r v)(s:Same H H'):UseAt H' r v:=by
 rcases h with h | ⟨n,q,p,h1,h2,h3⟩
 ·exact .inl h
 ·exact .inr #[n,q,p,h1,h2,s _ _ h3]
def VC{lo hi:Int}(h0:0<=lo)(h1:0<=hi)(h:∀r:Int,((r=-1/\∀q:Nat,lo<=q->(q:Int)+p.length<=hi->zB l q p=AF)\/∃k:Nat,r=k/\lo<=k/\(k:Int)+p.length<=hi/\zB l k p=AE/\∀q:Nat,lo<=q->q<k->zB l q p=AF)->Q (.int r) H):J0 ⇑l [⇑p,.int lo,.int hi] H Q:=by
 refine#[l,p,lo,hi,rfl,rfl,h0,h1,λr hr=>h r ?_]
 have no:∀q:Nat,((l.drop q).take p.length≠p\/¬ q+p.length<=l.length)->zB l q p=AF:=λq hq=>y3 λ⟨_,b,c⟩=>by
  rcases hq with hq | hq
  ·exact hq c
  ·lia
 rcases hr with ⟨rfl,hn⟩ | ⟨k,rfl,k1,k2,k3,k4,hn⟩
 ·refine .inl #[rfl,λq q1 q2=>no q ?_];by_cases e:q+p.length<=l.length
  ·exact .inl (hn q q1 q2 e)
  ·exact .inr e
 ·exact .inr #[k,rfl,k1,k2,u9 #[⋯,⋯,k4],λq q1 q2=>no q (.inl (hn q q1 q2))]
def ut(K:rP):Sp:=λvs H Q Z=>∃(a:rQ) (l:()) (ps:List zF) (st en:Nat),vs=[.ref a,⇑l,.int (st:Nat),.int (en:Nat)]/\LsA K H a (ps.map dR)/\NeL ps/\(∀p ∈ ps,p.1.length<=1000)/\∀(r:Option (Nat × Nat)) (v:V) (H':Hp),Same H H'->UseAt H' r v->FirstN l ps st en ps.length r->Q v H'
def YT{st en:Nat}{s e:Int}(hs:s=(st:Nat))(he:e=(en:Nat))(hA:LsA K H a (ps.map dR))(hN:NeL ps)(hP:∀p ∈ ps,p.1.length<=1000)(q:∀(r:Option (Nat × Nat)) (v:V) (H':Hp),Same H H'->UseAt H' r v->FirstN l ps st en ps.length r->Q v H'):ut K [.ref a,⇑l,.int s,.int e] H Q E:=by subst hs he;exact#[a,l,ps,st,en,rfl,hA,hN,hP,q]
def gu:sQz 4 ["rules","word","start","end","found","number","rule","place"] xB:=by nofun
def qD(B:Bt mg)(F:("first_within"^^^xB)):(1&&&["rules","word","start","end"]) (ut K):=by
 exists F.ok gu
 ·let#[a,l,ps,st,en,rfl,hA,hN,hP,q]:=h
  refine#[_,(zh (zC 4 gu.nd vx) (zh (zX p8 rfl (yN rfl B.enum (za (pv 0) ze)) (xS (n:=2) rfl (zR (zq (i:=5) gu.nd rfl (.inl rfl)) (zR (zq (i:=6) gu.nd rfl (.inl rfl)) y8))) (zx (zC 7 gu.nd (wV bd cq cr Kr (pv 1) (za (!-6) (za (pv 2) (za (zv yf (zv wM (pv 3) zb) (zG B.len (!-6))) ze))))) (zf (zI (zu op_ge' (pv 7) zb (zw _)) (zx (zC 4 gu.nd (zH (za (pv 5) (za (pv 7) ze)))) (zf (zC 3 gu.nd (pv 7))))
     zo)))) (zf (zm (pv 4))))),?_]
  have s16:=yd;let#[xs,hX,hI]:=id hA;have hxl:=hI.len;rw[aa]at hxl;have s16:=yd;change H'=H/\σ=%[!!a,~~~l,-~~~st,-~~~en,AC (.non)|3]
  ·rfl'
  rintro σ H1 ⟨rfl,rfl⟩:0;change Same H1 H'/\∃(r:Option (Nat × Nat)) (v:V) (v3 v5 v6 v7:Option V),UseAt H' r v/\FirstN l ps st en ps.length r/\σ=[!!a,~~~l,-~~~st,v3,AC (v),v5,v6,v7]
  ·rfl'
   refine#[#[_,x4 hX],ja3 (xs:=xs) (λi σ H'=>Same H1 H'/\∃(r:Option (Nat × Nat)) (v:V) (v5 v6 v7:Option V),UseAt H' r v/\FirstN l ps st en i r/\σ=[!!a,~~~l,-~~~st,AC (.int (((r.map Prod.snd).getD en:Nat):Int)),AC (v),v5,v6,v7]) #[x9 _,AD,.non,AD,AD,AD,.inl #[rfl,rfl],.inl #[rfl,λj q h=>y4 h (bv j)],rfl] (λi σ H' Z h=>x4 (h.1 _ _ hX)) ?_ ?_]
   ·refine nmE ?_;rintro i y σ H' p hy ⟨hs,r,v,v5,v6,v7,hu,hF,rfl⟩ hpn:_;let#[rl,pr,hri,rfl,hqr]:=hI.getR hy;have hm:=af hri;have hne:=AW.mpr (hN rl hm);have hrl:=hP rl hm;have s2:=hs.trans (zd (o:=.tup [.int (i:Nat),.ref pr]) hpn);have hq2:=zt s2 hqr;have hu2:=hu.same (zd (o:=.tup [.int (i:Nat),.ref pr]) hpn);right
    rfl'
    refine#[_,x6 zc,rfl,_,_,rfl,_,_,rfl,rfl,_,rfl,_,hq2,_,rfl,_,rfl,_,hq2,_,rfl,_,#[by rw[zP];lia,rfl],VC ⋯ (by rw[zP];lia) λz hz=>#[z,rfl,?_]];rw[zP]at hz;rcases hz with ⟨rfl,hn⟩ | ⟨k,rfl,k1,k2,k3,hn⟩
    ·rw[y9 ∅];exact#[s2,r,v,hu2,hF.keep hri λq q1 q2=>hn q ⋯ ⋯,rfl,rfl]
    ·rw[y6 ⋯];refine#[⋯,λp2 hp2=>#[s2.trans (zd hp2),AC (i,k),.ref p2,.inr #[i,k,p2,rfl,rfl,zc],hF.take hri ⋯ ⋯ k3 λq q1 q2=>hn q ⋯ q2,rfl,rfl]]
   ·refine nmB ?_;rintro σ H' ⟨hs,r,v,v5,v6,v7,hu,hF,rfl⟩:_;rw[hxl]at hF;right;exact#[hs,r,v,hu,hF,_,_,_,_,rfl]
  rintro σ H2 ⟨s2,r,v,v3,v5,v6,v7,hu,hF,rfl⟩:0
  rfl'
  exact q r v H2 s2 hu hF
structure zeo(mg:rV->Option rR):Prop where
 g:∃t,mg "WINDOW" = AC (.int 128 t)
def kE(K:rP):Sp:=λvs H Q Z=>∃(a:rQ) (l:()) (ps:List zF) (st:Nat),vs=[.ref a,⇑l,.int (st:Nat)]/\LsA K H a (ps.map dR)/\NeL ps/\(∀p ∈ ps,p.1.length<=1000)/\l.length<=100000/\∀(r:Option (Nat × Nat)) (v:V) (H':Hp),Same H H'->UseAt H' r v->FirstN l ps st l.length ps.length r->Q v H'
def ZT{st:Nat}{s:Int}(hs:s=(st:Nat))(hA:LsA K H a (ps.map dR))(hN:NeL ps)(hP:∀p ∈ ps,p.1.length<=1000)(hl:l.length<=100000)(q:∀(r:Option (Nat × Nat)) (v:V) (H':Hp),Same H H'->UseAt H' r v->FirstN l ps st l.length ps.length r->Q v H'):kE K [.ref a,⇑l,.int s] H Q E:=by subst hs;exact#[a,l,ps,st,rfl,hA,hN,hP,hl,q]
def gN:sQz 3 ["rules","word","start","size","found"] wy:=by nofun
def kJ(B:Bt mg)(T:zeo mg)(F:("first_from"^^^wy))(oR:(1<<<"first_within") ["rules","word","start","end"] [] (ut K)):(2&&&["rules","word","start"]) (kE K):=by
 let#[t8,g8]:=T.g
 exists F.ok gN
 ·let#[a,l,ps,st,rfl,hA,hN,hP,hl,q]:=h
  refine#[_,(zh (zC 3 gN.nd (ug (v:=.int 128) rfl g8 #[t8,rfl])) (zh (j4 p8 (zu Zq (pv 2) (zG B.len (pv 1)) (zw _)) (zx (zC 4 gN.nd (cl0 oR hr .nil rfl (za (pv 0) (za (pv 1) (za (pv 2) (za (zv yf (pv 2) (pv 3)) ze)))))) (zx (zI (zu op_notN' (pv 4) vx (zw _)) (zf (zm (pv 4)))
     zo) (zx (zC 2 gN.nd (zv yf (pv 2) (pv 3))) (zf (zC 3 gN.nd (zv jL (pv 3) zb))))))) (zf (zm vx)))),?_]
  have s16:=yd;change H'=H/\σ=[!!a,~~~l,-~~~st,~~~!128,AD]
  ·rfl'
  rintro σ H1 ⟨rfl,rfl⟩:0;change Same H1 H'/\FirstN l ps st l.length ps.length AD
  ·unfold Wb;refine#[λm σ H'=>∃(s z:Nat) (v4:Option V),m=l.length - s/\st<=s/\1<=z/\Same H1 H'/\FirstN l ps st s ps.length AD/\σ=[!!a,~~~l,-~~~s,-~~~z,v4],#[_,st,128,AD,rfl,ah _,∅,x9 _,.inl #[rfl,λj q Z h1 h2=>by lia],rfl],?_];refine nmC ?_;rintro m σ H' ⟨s,z,v4,rfl,hs,hz,sm,hF,rfl⟩:0
   rfl'
   refine#[⋯,yl (λhlt=>?_) λhge=>#[sm,hF.toEnd hN λZ=>by lia]];refine#[λσ' H''=>∃v4:Option V,Same H1 H''/\FirstN l ps st (s+z) ps.length AD/\σ'=[!!a,~~~l,AC (.int ((s+z:Nat):Int)),AC (.int ((z * 2:Nat):Int)),v4],λσ' H'' ⟨v4,a1,a2,a3⟩=>#[l.length - (s+z),⋯,s+z,rfl,⋯,z * 2,⋯,a1,a2,v4,a3],?_];refine YT (en:=s+z) rfl ⋯ (hA.same sm) hN hP λr v H2 s2 hu hF2=>?_;rcases hu with ⟨rfl,rfl⟩ | ⟨n,qq,p,rfl,rfl,hp⟩
   ·rw[y9 (λh=>h rfl)];exact#[.inr #[∅,∅],AC .non,sm.trans s2,hF.window hs hF2,by push_cast;rfl]
   ·rw[y6 (by intro h;cases h)];exact q _ _ H2 (sm.trans s2) (.inr #[n,qq,p,rfl,rfl,hp]) ((hF.window hs hF2).toEnd hN (λe=>by cases e))
  rintro σ H2 ⟨s2,hF⟩:0
  rfl'
  exact q AD .non H2 s2 (.inl #[rfl,rfl]) hF
def LsA.pushT{D p:rQ}(h1:H D=AC (.lst xs))(h2:Iss K H ds xs)(hp:H p=AD)(hv:Iss K H es vs)(f:z9 ds)(fe:z9 es):LsA K (upd (upd H p (.tup vs)) D (.lst (xs ++ [.ref p]))) D (ds ++ [.tup es]):=by have e:(upd H p (.tup vs)) D=AC (.lst xs):=zd hp _ _ h1;exact LsA.snoc e (ja1 (zd hp) _ _ h2) f (by erw[xf];exact fe) (Is.tup hp hv)
structure zee(K:rP)(mg:rV->Option rR)(C:rQ):Prop where
 xi:XI K C
 ini:ae K (.ref C) "__init__" = AC (AC (.builtin "ValueError.__init__"))
 g:mg "TooFar" = AC (.ref C)
def dG(u:Nat × Nat):L3.D:=.tup [.int (u.1:Nat),.int (u.2:Nat),.bl AE]
def za1(u:Nat × Nat):xf (dG u):=by erw[dG,xf,z9,and_self]
def Qr(us:List (Nat × Nat)):z9 (us.map dG):=wH λd h=>by let#[r,_,rfl]:=AN.mp h;exact za1 r
def zdh : Iss K H [.int (n:Nat),.int (q:Nat),.bl AE] [.int (n:Nat),.int (q:Nat),.bl AE]:=by
 erw[Iss,Is]
 exact#[_,_,rfl,rfl,_,_,rfl,rfl,_,_,rfl,rfl,rfl]
structure Rd(ps:List zF)(l:())(J:Nat):Prop where
 live:kF ps l J
 len:∀j,j<=J->(wAt ps l j).length<=10000
 most:J<=10000
def vI(K:rP)(CF:rQ):Sp:=λvs H Q E=>∃(a:rQ) (l:()) (ps:List zF) (m:Int) (J:Nat),vs=[.ref a,⇑l,.int m]/\LsA K H a (ps.map dR)/\NeL ps/\ps.length<=100/\(∀p ∈ ps,p.1.length<=1000/\p.2.length<=1000)/\Rd ps l J /\
 ((zN (wAt ps l J) ps=AD/\(J:Int)<=m/\∀(p S:rQ) (H':Hp),Same H H'->H' p=AC (.tup [.ref S,⇑(wAt ps l J)])->LsA K H' S ((sAt ps l J).map dG)->H S=AD->Q (.ref p) H') \/
  (zN (wAt ps l J) ps≠AD/\(J:Int)=m/\∀H',Same H H'->E (.ref CF) AD H'))
def Qh{ps:List zF}{D:rQ}(hA:LsA K H a (ps.map dR))(hP:∀p ∈ ps,p.1.length<=1000)(hpl:ps.length<=100)(hD:H D=AD)(q:∀H',Same H H'->H' D=AC (.lst ((ps.map λp=>(p.1.length:Int)).map V.int))->Q (.ref D) H') :
  CompL K a (yZ 0) yW (tCB (W7 K) (zE (tOp (xN K) (zV 0) (tC (.int 0))) yT)) 1 [] σ H Q D:=by
 have s16:=yd;let#[xs,hX,hI]:=hA;have hxl:=hI.len;rw[aa]at hxl;refine jb0 (xs:=xs) (λi AI H'=>Same H H'/\H' D=AC (.lst AI)/\AI=((ps.take i).map λp=>(p.1.length:Int)).map V.int) #[zd hD,zc,rfl] (λi AI H' Z h=>x4 (h.1 _ _ hX)) ?_ ?_
 ·refine nm4 ?_;rintro i x AI H' hx ⟨hs,hH,rfl⟩:_;have hil:=(AJ.mp hx).1;let#[r,pr,hri,rfl,hqr]:=hI.getR hx;have hm:=hP r (af hri);right
  erw[yW]
  rfl'
  refine#[yx,_,zt hs hqr,_,rfl,_,#[by rw[zP];lia,rfl],hH,by rw[aa,aa,av];lia,x8 hil #[zy hs hD,zc,?_]];rw[zK hri,al,al,zP];rfl
 ·refine nmB ?_;rintro AI H' ⟨hs,hH,rfl⟩:_;rw[hxl,aD]at hH;right;exact q H' hs hH
def zea{rs:List zF}{i:Nat}(hI:Iss K H (rs.map dR) xs)(hi:rs[i]? = AC r):∃p,atI xs (i:Int)=AC (.ref p)/\SqT K H p [⇑r.1,⇑r.2]:=by have hl:=hI.len;rw[aa]at hl;have hil:=(AJ.mp hi).1;let#[v,a1,b1]:=qt (xs:=xs) (i:=(i:Int)) ⋯ ⋯;let#[r',p,h1,rfl,h3]:=hI.getR (j:=i) b1;rw[hi]at h1;cases h1;exact#[p,a1,h3]
def iP:sQz 3 ["rules","word","most","longest","steps","use","number","place"] vz:=by nofun
def Kq(B:Bt mg)(T:zee K mg CF)(TU:DNU P w K mg base CU)(F:FunD K "gone" "gone" vz dV f fd)(nv:(2<<<"first_from") ["rules","word","start"] [] (kE K))(mV:(3>>>"put") ["word","place","old","new"] [] (jC CU)):(4|||["rules","word","most"]) (vI K CF):=by
 exists FunD.okX F iP,0
 ·let#[a,l,ps,m,J,rfl,hA,hN,hpl,hP,hR,hq]:=h
  refine#[_,(zh (zC 3 iP.nd (UX (zcs rfl) rfl B.max Xl (za (yO (own:=["rule"]) (caps:=[]) (ix:=[]) (tt:=yW) (te:=(tCB (W7 K) (zE (tOp (xN K) (zV 0) (tC (.int 0))) yT))) rfl (zJ (sc:=zg vz) rfl (!0) (!0) (!0) rfl (!0) (!0) rfl) (ya (pv 0)) (λZ Z Z Z Z Z=>zq (i:=0) (show List.Nodup [_] by decide) rfl (.inl rfl)) (λZ Z Z Z Z Z=>z7) (λZ Z Z Z Z Z=>(zG B.len (!-0)))) ze) (Ko zb zb0))) (zh (zC 4 iP.nd (yM ze)) (zh (zC 5 iP.nd (cl0 nv hr .nil rfl (za (pv 0) (za (pv 1) (za zb ze))))) (zh (j4 PassesOwn.leaving (zu op_notN' (pv 5) vx (zw _)) (zh (zI (zu op_ge' (zG B.len (pv 4)) (pv 2) (zw _)) (zf (yP hx rfl T.xi.toXC T.ini rfl T.g (za z8 ze)))
     zo) (zh (zC 6 iP.nd (!-5)) (zh (zC 7 iP.nd (!-5)) (zh (zC 1 iP.nd (clP hx mV hr .nil rfl (za (pv 1) (za (pv 7) (za (zi r9 (zi ix_list (pv 0) (pv 6)) zb) (za (zi r9 (zi ix_list (pv 0) (pv 6)) zb) ze)))))) (zh (wQ (wV bu bq br yR (pv 4) (za (zH (za (pv 6) (za (pv 7) (za yw ze)))) ze))) (zf (zC 5 iP.nd (cl0 nv hr .nil rfl (za (pv 0) (za (pv 1) (za (yQ (zbU rfl) rfl B.max Xl (za zb (za (zv yf (zv wM (pv 7) (pv 3)) zb) ze))) ze)))))))))))) (zf (zm (zH (za (pv 4) (za (pv 1) ze))))))))),?_]
  have s16:=yd;change Same H H'/\∃M:Int,(∀p ∈ ps,(p.1.length:Int)<=M)/\σ=%[!!a,~~~l,~~~!m,~~~!M|4]
  ·rfl'
   erw[zeA]
   rfl'
   let#[xs,hX,hI]:=id hA;exact#[#[_,x4 hX],λD hD=>Qh hA (λp hp=>(hP p hp).1) hpl hD λH' s' hH=>#[D,_,0,rfl,rfl,x4 hH,λz Z hz=>#[s',z,λp hp=>hz _ (AN.mpr #[p,hp,rfl]),rfl]]]
  rintro σ H1 ⟨s1,M,hM,rfl⟩:0;change Same H H'/\∃S:rQ,H S=AD/\H' S=AC (.lst [])/\σ=%[!!a,~~~l,~~~!m,~~~!M,!!S|3]
  ·rfl'
   exact#[⋯,λp hp=>#[s1.trans (zd hp),p,s1.free hp,zc,rfl]]
  rintro σ H2 ⟨s2,S,hSn,hS,rfl⟩:0;change Same H H'/\H' S=AC (.lst [])/\∃uv:V,UseAt H' (zN l ps) uv/\σ=%[!!a,~~~l,~~~!m,~~~!M,!!S,AC (uv)|2]
  ·rfl'
   exact ZT (st:=0) rfl (hA.same s2) hN (λp hp=>(hP p hp).1) (by have:=hR.len 0 (aJ _);exact aS this ∅) λr v H' s' hu hF=>#[s2.trans s',s' _ _ hS,(by rw[ku hF]at hu;exact hu)]
  rintro σ H3 ⟨s3,hS3,uv,hu,rfl⟩:0;change Same H H'/\zN (wAt ps l J) ps=AD/\LsA K H' S ((sAt ps l J).map dG)/\∃v5 v6 v7,σ=[!!a,AC ⇑(wAt ps l J),~~~!m,~~~!M,!!S,v5,v6,v7]
  ·unfold Wb;refine#[λk σ H'=>∃(j:Nat) (uv:V) (v6 v7:Option V),k=J - j/\j<=J/\Same H H'/\LsA K H' S ((sAt ps l j).map dG)/\UseAt H' (zN (wAt ps l j) ps) uv/\σ=[!!a,AC ⇑(wAt ps l j),~~~!m,~~~!M,!!S,AC (uv),v6,v7],#[_,0,uv,AD,AD,rfl,aJ _,s3,#[[],hS3,by erw[sAt,List.range_zero,aL,Iss]],hu,rfl],?_];refine nmC ?_;rintro k σ H' ⟨j,uv,v6,v7,rfl,hj,hs,hL,hu,rfl⟩:_;have hlj:=hR.len j hj;have hRm:=hR.most;let#[xs,hX,hI]:=id hA;right
   rfl'
   refine yl (λhne=>?_) λhne=>?_
   ·rcases hu with ⟨_,h⟩ | ⟨n,q0,p,hf,rfl,hp⟩
    ·exact y4 h hne
    have hF:=XY (wAt ps l j) ps hN;rw[hf]at hF
    have hjJ:j<J\/(j=J/\(J:Int)=m/\∀H',Same H H'->E (.ref CF) AD H'):=by
     by_cases e:j=J
     ·subst e;rcases hq with ⟨h,_⟩ | ⟨_,h1,h2⟩
      ·rw[hf]at h;cases h
      ·exact .inr #[rfl,h1,h2]
     ·exact .inl ⋯
    have hJm:(J:Int)<=m:=by
     rcases hq with ⟨_,h,_⟩ | ⟨_,h,_⟩ <;> lia
    obtain⟨rl,hrl,hst⟩:∃rl,ps[n]? = AC rl/\zB (wAt ps l j) (q0:Int) rl.1=AE:=by
     rcases hF with ⟨h,_⟩ | ⟨n0,q1,e,_,_,_,a4,_⟩
     ·cases h
     ·cases e;exact (vZ a4).2
    have hlp:=hP rl (af hrl);have hw:=vb hf;let#[pr,hai,hqr]:=zea hI hrl;refine#[λσ' H''=>∃(uv:V) (v6 v7:Option V),j<J/\Same H H''/\LsA K H'' S ((sAt ps l (j+1)).map dG)/\UseAt H'' (zN (wAt ps l (j+1)) ps) uv/\σ'=[!!a,AC ⇑(wAt ps l (j+1)),~~~!m,~~~!M,!!S,AC (uv),v6,v7],λσ' H'' ⟨uv,v6,v7,a0,a1,a2,a3,a4⟩=>#[J - (j+1),⋯,j+1,rfl,⋯,a1,a2,uv,a3,v6,v7,a4],?_];let#[ys,hY,hJ2]:=id hL;have hyl:=hJ2.len;rw[aa,KF]at hyl;refine zj (λσ' H''=>H''=H'/\j<J/\σ'=[!!a,AC ⇑(wAt ps l j),~~~!m,~~~!M,!!S,!!p,v6,v7]) ?_ ?_
    ·rfl'
     refine#[_,.inl #[_,x4 hY,rfl],yl (λhge=>?_) λhge=>?_]
     ·rcases hjJ with h | ⟨_,_,h⟩
      ·lia
      ·exact#[⋯,h _ hs]
     ·rcases hjJ with h | ⟨e,h,_⟩
      ·exact h
      ·lia
    rintro σ' G1 ⟨rfl,hlt,rfl⟩:0;refine zj (λσ' H''=>H''=G1/\σ'=[!!a,AC ⇑(wAt ps l j),~~~!m,~~~!M,!!S,!!p,-~~~n,v7]) ?_ ?_
    ·rfl'
     exact#[_,x6 hp,rfl]
    rintro σ' G2 ⟨rfl,rfl⟩:0;refine zj (λσ' H''=>H''=G2/\σ'=[!!a,AC ⇑(wAt ps l j),~~~!m,~~~!M,!!S,!!p,-~~~n,-~~~q0]) ?_ ?_
    ·rfl'
     exact#[_,x6 hp,rfl]
    rintro σ' G3 ⟨rfl,rfl⟩:0;refine zj (λσ' H''=>H''=G3/\σ'=[!!a,AC ⇑(wAt ps l (j+1)),~~~!m,~~~!M,!!S,!!p,-~~~n,-~~~q0]) ?_ ?_
    ·rfl'
     have hq2:=zt hs hqr;exact#[_,x4 (hs _ _ hX),_,hai,_,rfl,_,hq2,_,rfl,_,x4 (hs _ _ hX),_,hai,_,rfl,_,hq2,_,rfl,wAt ps l j,rl.1,rl.2,(q0:Nat),rfl,hlj,by have:=hlp.1;lia,by have:=hlp.2;lia,λZ=>#[rfl,by rw[hw];unfold YF;rw[vX hrl]],λh=>by rw[hst]at h;cases h]
    rintro σ' G4 ⟨rfl,rfl⟩:0;refine zj (λσ' H''=>Same H H''/\LsA K H'' S ((sAt ps l (j+1)).map dG)/\σ'=[!!a,AC ⇑(wAt ps l (j+1)),~~~!m,~~~!M,!!S,!!p,-~~~n,-~~~q0]) ?_ ?_
    ·rfl'
     refine#[.inl #[_,x4 hY],⋯,λt ht=>#[_,zd ht _ _ hY,⋯,zy (hs.trans (zd ht)) hSn,?_]];rw[Jz,hf,al];exact LsA.pushT hY hJ2 ht zdh (Qr _) (by erw[z9,xf,and_self])
    rintro σ' G5 ⟨s5,hL5,rfl⟩:_;have hl1:=hR.len (j+1) hlt;have hM0:=hM rl (af hrl);right
    rfl'
    refine ZT (st:=(if (q0:Int) - M+1 > 0 then (q0:Int) - M+1 else 0).toNat) (by split <;> lia) (hA.same s5) hN (λp hp=>(hP p hp).1) (aS hl1 ∅) λr v H' s' hu hF2=>#[hlt,s5.trans s',hL5.same s',?_];have hb:=Ww (M:=M.toNat) (lo:=(if (q0:Int) - M+1 > 0 then (q0:Int) - M+1 else 0).toNat) hF hN (λp hp=>by have:=hM p hp;lia) (by split <;> lia);rw[<- hw]at hb;rw[ku (hb.window (aJ _) hF2)]at hu;exact hu
   ·have hv:uv=.non:=Decidable.not_not.mp hne
    have hf:zN (wAt ps l j) ps=AD:=by
     rcases hu with ⟨h,_⟩ | ⟨_,_,_,_,h,_⟩
     ·exact h
     ·rw[hv]at h;cases h
    have e:j=J:=by
     rcases eG j J with h | h
     ·exact y4 hf (hR.live j h)
     ·lia
    subst e;exact#[hs,hf,hL,rfl]
  rintro σ H4 ⟨s4,hF,hL,v5,v6,v7,rfl⟩:0
  rfl'
  rcases hq with ⟨_,_,hq⟩ | ⟨h,_⟩
  ·exact#[⋯,λp hp=>hq p S _ (s4.trans (zd hp)) zc (hL.same (zd hp)) hSn]
  ·exact y4 hF h
abbrev Stp:=Int × Int × Bool
def dSt(t:Stp):D:=.tup [.int t.1,.int t.2.1,.bl t.2.2]
def sdl(r:zF)(f:Bool):zF:=if f=AE then r else (r.2,r.1)
def yg(ps:List zF)(w:())(t:Stp):Option (()) :=
 if 0<=t.1/\t.1<ps.length then (if zB w t.2.1 (sdl (ps.getD t.1.toNat ([],[])) t.2.2).1=AE then AC (vt w t.2.1 (sdl (ps.getD t.1.toNat ([],[])) t.2.2).1 (sdl (ps.getD t.1.toNat ([],[])) t.2.2).2)else AD)else AD
def Jq{D p:rQ}(h1:H D=AC (.lst xs))(h2:Iss K H ds xs)(hp:H p=AD)(hv:Iss K H es vs)(f:z9 ds)(fe:z9 es):LsA K (upd (upd H p (.tup vs)) D (.lst (xs ++ [.ref p]))) D (ds ++ [.tup es]):=by have e:(upd H p (.tup vs)) D=AC (.lst xs):=zd hp _ _ h1;exact LsA.snoc e (ja1 (zd hp) _ _ h2) f (by erw[xf];exact fe) (Is.tup hp hv)
def V0 : Iss K H [dS l,dS m] [⇑l,⇑m]:=by
 erw[Iss,Is]
 exact#[_,_,rfl,rfl,_,_,rfl,rfl,rfl]
def wN(rs:List zF):Prop:=rs.length<=30/\∀r ∈ rs,r.1.length<=100/\r.2.length<=100
def ZM(h:Is K H (dSt t) v):∃p,v=.ref p/\SqT K H p [.int t.1,.int t.2.1,.bl t.2.2]:=by
 erw[dSt,Is,Iss]at h
 let#[a,xs,e,hs,v1,r1,rfl,rfl,v2,r2,rfl,rfl,v3,r3,rfl,rfl,rfl]:=h;exact#[a,e,hs]
def uM(h:SqT K H p [.int t.1,.int t.2.1,.bl t.2.2]):Is K H (dSt t) (.ref p):=by
 erw[dSt,Is,Iss]
 exact#[p,_,rfl,h,_,_,rfl,rfl,_,_,rfl,rfl,_,_,rfl,rfl,rfl]
def Yg(rs:List Stp):z9 (rs.map dSt):=wH λd h=>by let#[r,_,rfl]:=AN.mp h;erw[dSt,xf,z9,and_self]
def Uf(rs:List Stp):wv (rs.map dSt)<=1:=uq λd h=>by let#[r,_,rfl]:=AN.mp h;erw[dSt,dpD,wv];lia
def uY{rs:List Stp}{j:Nat}(h:Iss K H (rs.map dSt) vs)(q:vs[j]? = AC v):∃r p,rs[j]? = AC r/\v=.ref p/\SqT K H p [.int r.1,.int r.2.1,.bl r.2.2]:=by let#[d,e,i]:=h.get q;rw[ax]at e;let#[r,hr,rfl]:=AO.mp e;let#[p,e1,e2]:=ZM i;exact#[r,p,hr,e1,e2]
def zac{rs:List zF}{i:Int}(hI:Iss K H (rs.map dR) xs)(h0:0<=i)(hi:i<rs.length):∃p,atI xs i=AC (.ref p)/\rs[i.toNat]? = AC (rs.getD i.toNat ([],[]))/\SqT K H p [⇑(rs.getD i.toNat ([],[])).1,⇑(rs.getD i.toNat ([],[])).2]:=by
 have hl:=hI.len;rw[aa]at hl;let#[v,a1,b1]:=qt (xs:=xs) (i:=i) h0 ⋯;let#[r,p,h1,rfl,h3]:=hI.getR b1;have e:rs.getD i.toNat ([],[])=r:=by rw[am,h1];rfl
 rw[e];exact#[p,a1,h1,h3]
theorem k7(h:wN rs)(i:Nat):(rs.getD i ([],[])).1.length<=100/\(rs.getD i ([],[])).2.length<=100:=by
 rw[am]
 cases e:rs[i]? with
 | none=>exact#[aJ _,aJ _]
 | some r=>exact h.2 r (af e)
def yI{w:()}{t:Stp}(h:¬ (0<=t.1/\t.1<ps.length)):yg ps w t=AD:=y9 h
def xA{w:()}{t:Stp}(h:0<=t.1/\t.1<ps.length):yg ps w t=if zB w t.2.1 (sdl (ps.getD t.1.toNat ([],[])) t.2.2).1=AE then AC (vt w t.2.1 (sdl (ps.getD t.1.toNat ([],[])) t.2.2).1 (sdl (ps.getD t.1.toNat ([],[])) t.2.2).2)else AD:=y6 h
def Ch(rs:List zF)(ws:List (()))(ss:List Stp):Prop:=ws.length=ss.length+1/\∀i s,ss[i]? = AC s->∃w w',ws[i]? = AC w/\ws[i+1]? = AC w'/\yg rs w s=AC w'
def bk(s:Stp):Stp:=(s.1,s.2.1,!s.2.2)
def mvL(ss:List Stp)(z:Int):List Stp:=ss.map λs=>(s.1,s.2.1+z,s.2.2)
def Xt{a w b:()}(h:k<=w.length):(a ++ w ++ b).drop (a.length+k)=w.drop k ++ b:=by rw[bb,<- fj,ft,dW h]
def k8{a w b o:()}(h:zB w k o=AE):zB (a ++ w ++ b) (k+(a.length:Int)) o=AE:=by let#[_,_,h0,h1]:=vR h;unfold zB at h ⊢;rw[decide_eq_true_eq]at h ⊢;let#[_,_,h2]:=h;refine#[⋯,by erw[ag];lia,?_];rw[show (k+(a.length:Int)).toNat=a.length+k.toNat by lia,Xt ⋯,bI (by rw[aG];lia),h2]
def WQ{a w b o n:()}(h:zB w k o=AE):vt (a ++ w ++ b) (k+(a.length:Int)) o n=a ++ vt w k o n ++ b:=by
 let#[_,_,h0,h1]:=vR h;unfold vt;rw[show (k+(a.length:Int)).toNat=a.length+k.toNat by lia]
 have e1:(a ++ w ++ b).take (a.length+k.toNat)=a ++ w.take k.toNat:=by
  rw[bb,List.take_length_add_append,bI ⋯]
 have e2:(a ++ w ++ b).drop (a.length+k.toNat+o.length)=w.drop (k.toNat+o.length) ++ b:=by
  rw[Nat.add_assoc];exact Xt ⋯
 rw[e1,e2];simp [bb]
def ZV{w w':()}(a b:())(h:yg rs w s=AC w'):yg rs (a ++ w ++ b) (s.1,s.2.1+(a.length:Int),s.2.2)=AC (a ++ w' ++ b):=by
 by_cases hb:0<=s.1/\s.1<rs.length
 ·rw[xA hb]at h;rw[xA (by exact hb)];simp only;generalize sdl (rs.getD s.1.toNat ([],[])) s.2.2=r at *;by_cases hs:zB w s.2.1 r.1=AE
  ·rw[y6 hs]at h;cases h;rw[y6 (k8 hs),WQ hs]
  ·rw[y9 hs]at h;cases h
 ·rw[yI hb]at h;cases h
def Ch.within(a b:())(h:Ch rs ws ss):Ch rs (ws.map λw=>a ++ w ++ b) (mvL ss (a.length:Int)):=by let#[hl,hs]:=h;refine#[by simp [mvL,hl],λi s hi=>?_];unfold mvL at hi;rw[ax]at hi;let#[s0,h0,rfl]:=AO.mp hi;let#[w,w',e1,e2,e3]:=hs _ _ h0;exact#[a ++ w ++ b,a ++ w' ++ b,by rw[ax,e1];rfl,by rw[ax,e2];rfl,ZV a b e3]
def Fit(rs:List zF)(w:())(m:Int)(s:Stp):Prop:=∃w',yg rs w s=AC w'/\(w'.length:Int)<=m
def X5{w o n:()}(h:zB w k o=AE):(vt w k o n).length+o.length=w.length+n.length:=by
 let#[e,hl,h0,h1]:=vR h;unfold vt
 erw[ag,aG,hl]
 lia
def Qe(K:rP)(C:rQ):Sp:=λvs H Q E=>∃(a t:rQ) (rs:List zF) (w:()) (s:Stp),vs=[.ref a,⇑w,.ref t]/\Is K H (.lst (rs.map dR)) (.ref a)/\wN rs/\w.length<=900/\SqT K H t [.int s.1,.int s.2.1,.bl s.2.2] /\
 (∀w',yg rs w s=AC w'->Q ⇑w' H)/\(yg rs w s=AD->∀d H',Fell H d "at" (.int 0) H'->E (.ref C) (AC d) H')
def pR:sQz 3 ["pacts","word","step","pact"] Vf:=by nofun
def zaI{f CU:rQ}{fd:rW}(B:Bt mg)(T:DNU P w K mg base CU)(F:("used"^^^Vf))(mV:(3>>>"put") ["word","place","old","new"] [] (jC CU)):(4|||["pacts","word","step"]) (Qe K CU):=by
 let#[fi,fdi,hi,hfn,Fi,Bi]:=T.ini
 exists Fun.okX F pR,0
 ·let#[a,t,rs,w,s,rfl,hR,ok,hw,ht,q1,q2]:=h
  refine#[_,(zh (zI (yv (vj xX Uo zb (!-2) (zG B.len (pv 0)))) (zf (qI hx rfl T.xi.toXC hi hfn Fi (hr.mono ∅) Bi rfl T.g (za zb ze)))
    zo) (zh (zC 3 pR.nd (zi ix_list (pv 0) (!-2))) (zx (zI (xH (!-2) (λZ=>rfl)) (zf (zm (clP hx mV hr .nil rfl (za (pv 1) (za (!-2) (za (!-3) (za (!-3) ze)))))))
    zo) (zf (zm (clP hx mV hr .nil rfl (za (pv 1) (za (!-2) (za (!-3) (za (!-3) ze)))))))))),?_]
  have s16:=yd
  erw[Is]at hR
  let#[_,xs,e,hX,hI]:=hR;cases e;have hxl:=hI.len;rw[aa]at hxl;change H'=H/\(0<=s.1/\s.1<rs.length)/\σ=[!!a,~~~w,!!t,AD]
  ·rfl'
   exact#[_,ht,_,rfl,_,rfl,yl (λh=>#[_,.inl #[_,hX,rfl],_,rfl,yl (λh'=>#[⋯,qG (q2 (yI λz=>of_decide_eq_false h' ⋯))]) λh'=>#[rfl,h,Classical.byContradiction λz=>h' (y3 ⋯)]]) λh=>#[⋯,qG (q2 (yI λz=>h z.1))]]
  rintro σ H1 ⟨rfl,hb,rfl⟩:_;let#[p,a1,_,hp]:=zac hI hb.1 hb.2;have gl:=k7 ok s.1.toNat;right;change H'=H1/\σ=[!!a,~~~w,!!t,!!p]
  ·rfl'
   exact#[_,ht,_,rfl,_,rfl,_,hX,a1]
  rintro σ H2 ⟨rfl,rfl⟩:_;have ha:=xA (w:=w) hb;right;generalize rs.getD s.1.toNat ([],[])=r at *
  have put:∀o n:(),sdl r s.2.2=(o,n)->o.length<=100->n.length<=100->jC CU [⇑w,.int s.2.1,⇑o,⇑n] H2 Q E:=λo n e ho hn=>by
   rw[e]at ha;refine#[w,o,n,s.2.1,rfl,⋯,⋯,⋯,λhs=>q1 _ (by rw[ha,y6 hs]),λhs=>q2 (by rw[ha,hs,y9 az])]
  rfl'
  refine#[_,ht,_,rfl,_,rfl,yl (λh=>#[_,ht,_,rfl,_,hp,_,rfl,_,hp,_,rfl,put _ _ ?_ gl.1 gl.2]) λh=>#[_,ht,_,rfl,_,hp,_,rfl,_,hp,_,rfl,put _ _ ?_ gl.2 gl.1]]
  ·rw[h];rfl
  ·unfold sdl;rw[y9 h]
def jr{f C:rQ}{fd:rW}(T:TNU K mg C)(F:Fun K "__init__" "NoUse.__init__" yy f fd):U9 P w K mg base 1 f fd ["self","at"] (xz C "at"):=by
 refine Fun.okH F vK (λvs H Q E h=>?_) (λcdv A outer s H vs Q hr h=>?_)
 ·let#[x,v,rfl,_]:=h;rfl
 ·let#[x,v,rfl,hx,q]:=h;refine#[_,(zf (Y9 (pv 0) (pv 1) rfl)),?_]
  erw[Je]
  rfl'
  exact#[C,hx,T.xi.toXC,T.na,q]
structure DNH(P:rX)(w:sk)(K:rP)(mg:rV->Option rR)(base:sq)(C:rQ):Prop extends TNU K mg C where
 ini:∃f fd,ae K (.ref C) "__init__" = AC (AC (.ref f))/\aP K (.ref f)=AE/\U9 P w K mg base 1 f fd ["self","at"] (xz C "at")/\Binds K fd ["self","at"] []
def QC{E:XK}{C y:rQ}{o:HO}{f:rV}{v:V}{H:Hp}(hy:H y=AC o)(h:∀d H',Fell H d f v H'->E (.ref C) (AC d) H'):∀x,H x=AD->xz C f [.ref x,v] (upd H x (XN x C AD)) (λu H2=>u=.non/\H2 y=AC o/\∃dx,H2 x=AC (XN x C dx)/\E (.ref C) dx (del H2 x)) E0:=by
 intro x hx;let#[x',v',e,h1,h2]:=qG (E:=λcl dx H'=>H' y=AC o->E cl dx H') (C:=C) (λd H' hf Z=>h d H' hf) x hx;cases e;refine#[_,_,rfl,h1,λdx hd=>?_];let#[e1,dx2,e2,e3]:=h2 dx hd;have nyx:y≠x:=λz=>by rw[z,hx]at hy;cases hy
 have nyd:y≠dx:=λz=>by
  rw[<- z,zk nyx,hy]at hd;cases hd
 have hyy:(upd (upd (upd H x (XN x C AD)) dx (.xd [(f,v)])) x (XN x C (AC dx))) y=AC o:=by rw[zk nyx,zk nyd,zk nyx];exact hy
 exact#[e1,hyy,dx2,e2,e3 (by rw[XZ nyx];exact hyy)]
theorem Fell.back{H H1 H':Hp}{d:rQ}{f:rV}{v:V}(s:Same H H1)(h:Fell H1 d f v H'):Fell H d f v H':=by
 refine#[?_,s.trans h.2.1,h.2.2]
 cases e:H d with
 | none=>rfl
 | some u =>
  have:=s _ _ e;rw[h.1]at this;cases this
def Wk(rs:List zF)(ws:List (()))(ss:List Stp):Prop:=ws.length<=ss.length+1/\∀i s v,ss[i]? = AC s->ws[i]? = AC v->(∀w',yg rs v s=AC w'->ws[i+1]? = AC w')/\(yg rs v s=AD->ws.length=i+1)
def zcH(H:Hp)(a:rQ)(ws:List (())):Prop:=H a=AC (.lst (ws.map λl=>V.str (tx l)))
def ZF(K:rP)(C:rQ):Sp:=λvs H Q E=>∃(a t:rQ) (rs:List zF) (w:()) (ss:List Stp) (ws:List (())),vs=[.ref a,⇑w,.ref t]/\Is K H (.lst (rs.map dR)) (.ref a)/\wN rs/\Is K H (.lst (ss.map dSt)) (.ref t)/\ss.length<=1000/\Wk rs ws ss/\ws[0]? = AC w/\(∀w ∈ ws,w.length<=900) /\
 (ws.length=ss.length+1->∀(D:rQ) (H':Hp),H D=AD->Same H H'->zcH H' D ws->Q (.ref D) H')/\(ws.length<=ss.length->∀d H',Fell H d "at" (.int ((ws.length:Int) - 1)) H'->E (.ref C) (AC d) H')
def mH:sQz 3 ["pacts","word","steps","words","at","step"] kD:=by nofun
def Vw{f CU:rQ}{fd:rW}(B:Bt mg)(T:DNH P w K mg base CU)(hsub:bL K (.ref CU) (.ref CU)=AC AE)(F:("walked"^^^kD))(rD:(4>>>"used") ["pacts","word","step"] [] (Qe K CU)):FnOk P w K mg base (CXg P w) 5 f fd ["pacts","word","steps"] (ZF K CU):=by
 let#[fi,fdi,hi,hfn,Fi,Bi]:=T.ini;refine Fun.okG F mH (λvs H Q E h=>?_) (λcdv A outer s H vs Q E hr hx h=>?_)
 ·let#[a,t,rs,w,ss,ws,rfl,_]:=h;rfl
 ·let#[a,t,rs,w,ss,ws,rfl,hR,ok,hT,hsl,hc,hw0,hwb,q1,q2]:=h
  refine#[_,(zx (zC 3 mH.nd (yM (za (pv 1) ze))) (zx (zX PassesOwn.leaving rfl (yN rfl B.enum (za (pv 2) ze)) (xS (n:=2) rfl (zR (zq (i:=4) mH.nd rfl (.inl rfl)) (zR (zq (i:=5) mH.nd rfl (.inl rfl)) y8))) (zf (zaN hx (λZ=>PassesOwnAt.leaving) #[rfl,rfl] (KP bu bq br yR (pv 3) (zeT rD hr .nil rfl (za (pv 0) (za (zi ix_list (pv 3) (Uw ZB zb)) (za (pv 5) ze)))))
     rfl T.g T.xi.ok T.xi.toXC hi hfn Fi (RoomH.of (hr.mono ∅)) Bi rfl T.g (λZ=>(za (pv 4) ze))))) (zf (zm (pv 3))))),?_]
  have s16:=yd
  rfl'
  erw[Is]at hR hT
  let#[_,xs,e,hX,hI]:=hR;cases e;let#[_,ts,e,hTs,hJ]:=hT;cases e;have htl:=hJ.len;rw[aa]at htl;have hwp:0<ws.length:=(AJ.mp hw0).1;refine#[⋯,λD hD=>#[#[_,(zd hD).seq hTs],ja3 (xs:=ts) (λi σ H'=>i<ws.length/\Same H H'/\zcH H' D (ws.take (i+1))/\∃v4 v5,σ=[!!a,~~~w,!!t,!!D,v4,v5]) #[hwp,zd hD,?_,AD,AD,rfl] (λi σ H' Z h=>h.2.1.seq hTs) ?_ ?_]]
  ·unfold zcH;rw[zc,zK hw0];rfl
  ·refine nmE ?_;rintro i x σ H' p hx ⟨hiw,hs,hL,v4,v5,rfl⟩ hp:_;let#[s,ps,hsi,rfl,hqs]:=uY hJ hx;have e1:ws[i]? = AC ws[i]:=ak hiw;right;generalize ws[i]=w1 at e1;let#[c1,c2]:=hc.2 i s w1 hsi e1
   rfl'
   refine#[_,x6 zc,rfl,_,_,rfl,_,_,rfl,rfl,?_];have sA:=hs.trans (zd (o:=.tup [.int (i:Nat),.ref ps]) hp);have hL1:=zd (o:=.tup [.int (i:Nat),.ref ps]) hp _ _ hL;have hil:=(AJ.mp hsi).1
   erw[zbO]
   rfl'
   refine#[.inl #[_,x4 hL1],_,x4 hL1,⇑w1,?_,a,ps,rs,w1,s,rfl,?_,ok,hwb w1 (af e1),zt sA hqs,λw' e=>?_,λe d Hd hf=>?_]
   ·rw[zK e1,al];exact XS _ _
   ·erw[Is]
    exact#[a,xs,rfl,sA.seq hX,ja1 sA _ _ hI]
   ·have e2:=c1 w' e;refine#[_,hL1,by rw[aa,av];lia,(AJ.mp e2).1,zy sA hD,?_];unfold zcH;rw[zc,zK e2,al];rfl
   ·have e2:=c2 e;refine#[CU,rfl,hsub,λy hy=>#[⋯,zc,QC zc λd2 H2 h2=>q2 ⋯ d2 H2 ?_]];rw[show ((ws.length:Int) - 1)=(i:Nat) by lia];exact Fell.back (sA.trans (hf.2.1.trans (zd hy))) h2
  ·refine nmB ?_;rintro σ H' ⟨hiw,hs,hL,v4,v5,rfl⟩:0
   rfl'
   have hl1:=hc.1;rw[htl]at hiw hL;have he:ws.length=ss.length+1:=⋯;rw[<- he,aD]at hL;exact q1 he D H' hD hs hL
def vS{D p:rQ}(h1:H D=AC (.lst xs))(h2:Iss K H ds xs)(hp:H p=AD)(hv:Iss K H es vs)(f:z9 ds)(fe:z9 es):Iss K (upd (upd H p (.tup vs)) D (.lst (xs ++ [.ref p]))) (ds ++ [.tup es]) (xs ++ [.ref p]):=by let#[ys,hy1,hy2]:=Jq h1 h2 hp hv f fe;rw[zc]at hy1;cases hy1;exact hy2
abbrev Ent:=() × () × List Stp
def dE(e:Ent):L3.D:=.tup [dS e.1,dS e.2.1,.lst (e.2.2.map dSt)]
def zdm(h:Is K H (dE e) v):∃p s,v=.ref p/\SqT K H p [⇑e.1,⇑e.2.1,.ref s]/\Is K H (.lst (e.2.2.map dSt)) (.ref s):=by
 erw[dE,Is,Iss]at h
 let#[a,xs,e0,hs,v1,r1,rfl,rfl,v2,r2,rfl,rfl,v3,r3,rfl,#[s,zs,rfl,h1,h2],rfl]:=h;refine#[a,s,e0,hs,?_]
 erw[Is]
 exact#[s,zs,rfl,h1,h2]
def yk(rs:List zF):()->List Stp->Option (())
 | w,[]=>AC w
 | w,s::ss=>(yg rs w s).bind λw'=>yk rs w' ss
theorem u0(rs:List zF):∀(ss ts:List Stp) (w:()),yk rs w (ss ++ ts)=(yk rs w ss).bind λw'=>yk rs w' ts
 | [],ts,w=>rfl
 | s::ss,ts,w=>by
  erw[ba,yk]
  cases yg rs w s with
  | none=>rfl
  | some w1=>exact u0 rs ss ts w1
def ZQ{w w1 w2:()}(h:yk rs w ss=AC w1)(h2:yg rs w1 s=AC w2):yk rs w (ss ++ [s])=AC w2:=by
 rw[u0,h]
 erw[yk,dJ]
 rw[h2];rfl
def zA(es:List Ent):List zF:=es.map λe=>(e.1,e.2.1)
def ZE(ok:wN rs){w w':()}(h:yg rs w s=AC w'):w'.length<=w.length+100:=by
 have hb:0<=s.1/\s.1<rs.length:=cC λhb=>by rw[yI hb]at h;cases h
 rw[xA hb]at h;have g:=k7 ok s.1.toNat;generalize rs.getD s.1.toNat ([],[])=r at *;by_cases hs:zB w s.2.1 (sdl r s.2.2).1=AE
 ·rw[y6 hs]at h;cases h;have:=X5 (n:=(sdl r s.2.2).2) hs
  have h2:(sdl r s.2.2).2.length<=100:=by
   cases s.2.2
   ·exact g.1
   ·exact g.2
  lia
 ·rw[y9 hs]at h;cases h
def Wp(D:rQ)(H:Hp):Hp:=λb=>if b=D then AD else H b
def vH{D b:rQ}(h:b≠D):Wp D H b=H b:=by unfold Wp;rw[y9 h]
def qP{D:rQ}:Wp D H D=AD:=by unfold Wp;rw[y6 rfl]
def Ym{D:rQ}:Same (Wp D H) H:=λb o e=>by
 by_cases hb:b=D
 ·rw[hb,qP]at e;cases e
 ·rw[vH hb]at e;exact e
def qm{D:rQ}(s:Same H H'):Same (Wp D H) (Wp D H'):=λb o e=>by
 by_cases hb:b=D
 ·rw[hb,qP]at e;cases e
 ·rw[vH hb]at e ⊢;exact s _ _ e
def qh{D:rQ}:Same (Wp D H) (Wp D (upd H D o)):=λb o' e=>by
 by_cases hb:b=D
 ·rw[hb,qP]at e;cases e
 ·rw[vH hb]at e ⊢;rw[zk hb];exact e
def Vp{D a:rQ}(hD:H D=AC (.lst ys))(h:SqT K H a xs):SqT K (Wp D H) a xs:=by
 rcases h with (h | ⟨o,h⟩) | h
 ·exact .inl (.inl (by rw[vH (λe=>by rw[e,hD]at h;cases h)];exact h))
 ·exact .inl (.inr #[o,by rw[vH (λe=>by rw[e,hD]at h;cases h)];exact h])
 ·exact .inr h
theorem Wf{D:rQ}(hD:H D=AC (.lst ys)):∀(ss:List Stp) (vs:List V),Iss K H (ss.map dSt) vs->Iss K (Wp D H) (ss.map dSt) vs
 | [],vs,h=>by erw[aL,Iss]at h ⊢;exact h
 | s::ss,vs,h=>by
  erw[aw,Iss]at h ⊢
  let#[v,r,rfl,h1,h2]:=h;let#[p,rfl,h3]:=ZM h1;exact#[_,r,rfl,uM (Vp hD h3),Wf hD ss r h2]
def zdk(h1:SqT K H p [⇑e.1,⇑e.2.1,.ref s])(h2:Is K H (.lst (e.2.2.map dSt)) (.ref s)):Is K H (dE e) (.ref p):=by
 erw[dE,Is,Iss]
 erw[Is]at h2
 exact#[p,_,rfl,h1,_,_,rfl,rfl,_,_,rfl,rfl,_,_,rfl,h2,rfl]
def Ji{es:List Ent}{j:Nat}(h:Iss K H (es.map dE) vs)(q:vs[j]? = AC v):∃e p s,es[j]? = AC e/\v=.ref p/\SqT K H p [⇑e.1,⇑e.2.1,.ref s]/\Is K H (.lst (e.2.2.map dSt)) (.ref s):=by let#[d,e,i]:=h.get q;rw[ax]at e;let#[r,hr,rfl]:=AO.mp e;let#[p,s,e1,e2,e3]:=zdm i;exact#[r,p,s,hr,e1,e2,e3]
def Zf(h:Is K H d v):Iss K H [d] [v]:=by
 erw[Iss]
 exact#[v,[],rfl,h,rfl]
def EnA(K:rP)(H:Hp)(e:Ent)(v:V):Prop:=∃p s,v=.ref p/\SqT K H p [⇑e.1,⇑e.2.1,.ref s]/\LsA K H s (e.2.2.map dSt)
def EnsA(K:rP)(H:Hp):List Ent->List V->Prop
 | [],vs=>vs=[]
 | e::es,vs=>∃v r,vs=v::r/\EnA K H e v/\EnsA K H es r
def EnsL(K:rP)(H:Hp)(a:rQ)(es:List Ent):Prop:=∃xs,SqL K H a xs/\EnsA K H es xs
def EnsM(K:rP)(H:Hp)(a:rQ)(es:List Ent):Prop:=∃xs,H a=AC (.lst xs)/\EnsA K H es xs
def EnA.is(h:EnA K H e v):Is K H (dE e) v:=by let#[p,s,rfl,h1,h2]:=h;exact zdk h1 h2.is
def EnA.same{H H':Hp}{e:Ent}{v:V}(h:EnA K H e v)(q:Same H H'):EnA K H' e v:=by let#[p,s,e0,h1,h2]:=h;exact#[p,s,e0,zt q h1,h2.same q]
theorem EnsA.iss : ∀{es:List Ent} {vs:List V},EnsA K H es vs->Iss K H (es.map dE) vs
 | [],vs,h=>by erw[EnsA]at h;erw[aL,Iss];exact h
 | e::es,vs,h=>by
  erw[EnsA]at h
  let#[v,r,rfl,h1,h2]:=h
  erw[aw,Iss]
  exact#[v,r,rfl,h1.is,h2.iss]
def EnsA.len(h:EnsA K H es vs):vs.length=es.length:=by have:=h.iss.len;rw[aa]at this;exact this
theorem EnsA.same{H H':Hp}(q:Same H H'):∀{es:List Ent} {vs:List V},EnsA K H es vs->EnsA K H' es vs
 | [],vs,h=>by erw[EnsA]at h ⊢;exact h
 | e::es,vs,h=>by
  erw[EnsA]at h ⊢
  let#[v,r,e0,h1,h2]:=h;exact#[v,r,e0,h1.same q,h2.same q]
theorem EnsA.snoc(hv:EnA K H e v):∀{es:List Ent} {vs:List V},EnsA K H es vs->EnsA K H (es ++ [e]) (vs ++ [v])
 | [],vs,h=>by
  erw[EnsA]at h
  subst h
  erw[cP,EnsA]
  exact#[v,[],rfl,hv,rfl]
 | e'::es,vs,h=>by
  erw[EnsA]at h
  let#[x,r,rfl,hx,hr]:=h
  erw[ba,EnsA]
  exact#[x,r ++ [v],rfl,hx,hr.snoc hv]
theorem EnsA.get : ∀{es:List Ent} {vs:List V} {j:Nat} {v:V},EnsA K H es vs->vs[j]? = AC v->∃e p s,es[j]? = AC e/\v=.ref p/\SqT K H p [⇑e.1,⇑e.2.1,.ref s]/\LsA K H s (e.2.2.map dSt)
 | [],vs,j,v,h,q=>by
  erw[EnsA]at h
  subst h;simp at q
 | e::es,vs,0,v,h,q=>by
  erw[EnsA]at h
  let#[x,r,rfl,#[p,s,rfl,h1,h2],_]:=h;cases q;exact#[e,p,s,rfl,rfl,h1,h2]
 | e::es,vs,j+1,v,h,q=>by
  erw[EnsA]at h
  let#[x,r,rfl,_,hr]:=h;exact hr.get (j:=j) ↥q
def EnsL.is(h:EnsL K H a es):Is K H (.lst (es.map dE)) (.ref a):=by
 let#[xs,h1,h2]:=h
 erw[Is]
 exact#[a,xs,rfl,h1,h2.iss]
def EnsM.l(h:EnsM K H a es):EnsL K H a es:=by let#[xs,h1,h2]:=h;exact#[xs,x4 h1,h2]
def EnsM.same{H H':Hp}{a:rQ}{es:List Ent}(h:EnsM K H a es)(q:Same H H'):EnsM K H' a es:=by let#[xs,h1,h2]:=h;exact#[xs,q _ _ h1,h2.same q]
def EnA.new{D p s:rQ}{H:Hp}{e:Ent}{ys:List V}(hD:H D=AC (.lst ys))(hp:H p=AC (.tup [⇑e.1,⇑e.2.1,.ref s]))(hs:LsA K H s (e.2.2.map dSt))(hsD:s≠D):EnA K (Wp D H) e (.ref p):=by
 let#[zs,hz,hi]:=hs;have hpD:p≠D:=λz=>by rw[z,hD]at hp;cases hp
 exact#[p,s,rfl,x6 (by rw[vH hpD];exact hp),zs,by rw[vH hsD];exact hz,Wf hD _ _ hi]
def xY(es:List Ent):(zA es).length=es.length:=by unfold zA;rw[aa]
def kP(K:rP):Sp:=λvs H Q Z=>∃(a:rQ) (es:List Ent),vs=[.ref a]/\Is K H (.lst (es.map dE)) (.ref a)/\es.length<=1000/\∀(D:rQ) (H':Hp),H D=AD->Same H H'->LsA K H' D ((zA es).map dR)->Q (.ref D) H'
def VM(h1:Is K H (.lst (es.map dE)) (.ref a))(h2:es.length<=1000)(h:∀(D:rQ) (H':Hp),H D=AD->Same H H'->LsA K H' D ((zA es).map dR)->Q (.ref D) H'):kP K [.ref a] H Q E:=#[a,es,rfl,h1,h2,h]
def YE:sQz 1 ["entries"] vc:=by nofun
def YA(B:Bt mg)(F:("pairs_of"^^^vc)):(1&&&["entries"]) (kP K):=by
 exists F.ok YE
 ·let#[a,es,rfl,hA,hl,q]:=h;refine#[_,(zf (zm (yO (own:=["entry"]) (caps:=[]) (ix:=[]) (tt:=yW) (te:=(WJ (zE (tOp (xN K) (zV 0) (tC (.int 0))) (zE (tOp (xN K) (zV 0) (tC (.int 1))) yT)))) rfl (zJ (sc:=zg vc) rfl (!0) (!0) (!0) rfl (!0) (!0) rfl) (ya (pv 0)) (λZ Z Z Z Z Z=>zq (i:=0) (show List.Nodup [_] by decide) rfl (.inl rfl)) (λZ Z Z Z Z Z=>z7) (λZ Z Z Z Z Z=>(zH (za (!-0) (za (!-0) ze))))))),?_];have s16:=yd
  rfl'
  erw[Is]at hA
  let#[_,xs,e,hX,hI]:=hA;cases e;have hxl:=hI.len;rw[aa]at hxl;have hpl:=xY es;refine#[#[xs,hX],λD hD=>jb0 (xs:=xs) (λi AI H'=>Same H H'/\H' D=AC (.lst AI)/\Iss K H' (((zA es).take i).map dR) AI) #[zd hD,zc,by erw[cj,aL,Iss]] (λi AI H' Z h=>h.1.seq hX) ?_ ?_]
  ·refine nm4 ?_;rintro i x AI H' hx ⟨hs,hH,hA⟩:_;have hi:=(AJ.mp hx).1;let#[e,pe,se,hei,rfl,hqe,_]:=Ji hI hx;have hm:(zA es)[i]? = AC (e.1,e.2.1):=by unfold zA;rw[ax,hei];rfl
   have hal:=hA.len;rw[aa,av]at hal;right
   erw[yW]
   rfl'
   refine#[yx,_,zt hs hqe,_,rfl,_,zt hs hqe,_,rfl,⋯,λp hp=>#[zd hp _ _ hH,⋯,x8 hi #[zy (hs.trans (zd hp)) hD,zc,?_]]];rw[zK hm,al];exact vS hH hA hp V0 (va _) (by erw[z9,xf,and_self])
  ·refine nmB ?_;rintro AI H' ⟨hs,hH,hA⟩:_;rw[hxl,<- hpl,aD]at hA;right;exact q D H' hD hs #[AI,hH,hA]
structure EB(l:())(e:Ent):Prop where
 a:e.1.length<=60
 b:e.2.1.length<=60
 s:e.2.2.length<=240
 ma:∀c ∈ e.1,c ∈ l
 mb:∀c ∈ e.2.1,c ∈ l
def YC{w:()}(hb:∀n ∈ ns,1<=n/\n<=1000000):0<=W4 l ns w:=by
 unfold W4
 have key:∀xs:List Int,(∀x ∈ xs,0<=x)->0<=xs.sum:=by
  intro xs
  induction xs with
  | nil=>intro _;simp
  | cons x xs ih =>
   intro h;rw[bp];have h1:=h x aH;have h2:=ih λy hy=>h y (aA _ hy);lia
 refine key _ λx hx=>?_;let#[p,hp,rfl]:=AN.mp hx;have h1:=(hb p.2 (cK (show (p.1,p.2) ∈ l.zip ns from hp)).2).1;exact Int.mul_nonneg ⋯ ⋯
def Qb(hb:∀n ∈ ns,1<=n/\n<=1000000)(h:z6 k l ns u v=AE):v≠[]:=by
 intro e;subst e
 have h0:zr k l ns []=0:=by
  unfold zr;split
  ·unfold W4
   have z:∀xs:List (Nat × Int),(xs.map λp=>(([]:()).count p.1:Int) * p.2).sum=0:=by
    intro xs
    induction xs with
    | nil=>rfl
    | cons x xs ih=>rw[aw,bp,ih];simp
   exact z _
  ·rfl
 have h1:0<=zr k l ns u:=by
  unfold zr;split
  ·exact YC hb
  ·lia
 have h2:wx k l []=[]:=by
  unfold wx yt;split <;> rfl
 unfold z6 at h;rw[h0,h2]at h;split at h
 ·cases hr:wx k l u with
  | nil=>rw[hr]at h;cases h
  | cons a r=>rw[hr]at h;cases h
 ·have:=u6 h;lia
structure BG(k:Nat)(l:())(ns:List Int)(bs:List Ent):Prop where
 n:bs.length<64
 e:∀e ∈ bs,EB l e
 lt:∀e ∈ bs,z6 k l ns e.2.1 e.1=AE
def BG.ne(h:BG k l ns bs)(G:OG l ns k):NeL (zA bs):=λp hp=>by
 unfold zA at hp;let#[e,he,rfl]:=AN.mp hp;exact Qb G.nb (h.lt e he)
def BG.mem(h:BG k l ns bs):∀p ∈ zA bs,∀c ∈ p.2,c ∈ l:=λp hp=>by
 unfold zA at hp;let#[e,he,rfl]:=AN.mp hp;exact (h.e e he).mb
def zex(hx:XE X E)(D:DMk X.prog X.w X.K X.mg X.base (CXx X.prog X.w) k C ps sp)(hr:Room j X.A)(hg:Gl X x)(hm:X.mg x=AC (.ref C))(ha:PA X (e::es) t)(hdb:‹(x ==("__debug__" : rV))=AF›)(he:‹rN (e::es) X.env=(AF,eval e X.env)::rN es X.env›)(hpl:‹(sf pos (rN es X.env)).any (·.1)=AF›)(hj:‹k+1<=j›):PE X (.Call (.Name x p) (e::es) [] pos) (Vl C sp [] E t):=by let#[f,fd,M,F,hb]:=D.ex;exact UG M F (hr.mono hj) hg hm hb .nil (kc hx) ha hdb he hpl
def Wo(K:rP)(CO CR CW:rQ):Sp:=λvs H Q Z=>∃(z:Int) (l:()) (D:rQ) (ws:List Int),vs=[.int z,⇑l,.ref D]/\0<=z/\z<3/\vm l=AE/\H D=AC (.lst (ws.map V.int))/\ws.length=l.length/\(∀n ∈ ws,1<=n/\n<=1000000)/\∀(o:rQ) (H':Hp),Same H H'->OrdAt CO CR CW H' o z.toNat l ws->Q (.ref o) H'
def JA:sQz 3 ["_law_kind","_law_letters_here","_law_weights"] YQ:=by nofun
def QD{f CO CR CW:rQ}(B:Bt mg)(T:TWS P w K mg base CO CR CW)(F:("_law_order"^^^YQ)):(6&&&["_law_kind","_law_letters_here","_law_weights"]) (Wo K CO CR CW):=by
 exists F.ok JA
 ·let#[z,l,D,ws,rfl,z0,z3,hg,hD,hwl,hwb,q]:=h
  refine#[_,(zx (zI (zu yq (pv 0) zb (zw _)) (zf (zm (mkC T.mR hr rfl T.gR (za (pv 1) ze))))
    zo) (zx (zI (zu yq (pv 0) zb (zw _)) (zf (zm (zex xe0 T.mW hr rfl T.gW (za (pv 1) (za (yA ym rfl B.list jb1 (za (pv 2) ze)) ze)))))
    zo) (zf (zm (mkC T.mO hr rfl T.gO (za (pv 1) ze)))))),?_]
  have s16:=yd;ac_rfl;refine yl (λh1=>?_) λh1=>yl (λh2=>?_) λh2=>?_
  ·intro x dx hx hdx hne;have sd:=zd (o:=.own x) hdx;refine#[x,CR,dx,l,rfl,hg,T.cR,T.lR,zc,rfl,q x _ (λb o' e=>?_) #[dx,.inr (.inl #[by rw[h1];rfl,zc])]];rw[zk (zD e hx),zk (zD e hx)];exact sd _ _ e
  ·refine#[_,.inl (x4 hD),λE1 hE=>?_];have se:=zd (o:=.lst (ws.map V.int)) hE;intro x dx hx hdx hne;have sd:=zd (o:=.own x) hdx
   have k1:∀b o',(upd H E1 (.lst (ws.map V.int))) b=AC o'->(upd (upd (upd H E1 (.lst (ws.map V.int))) dx (.own x)) x (.ins CW dx [])) b=AC o':=λb o' e=>by
    rw[zk (zD e hx)];exact sd _ _ e
   exact#[x,dx,E1,l,ws,rfl,hg,x4 (k1 _ _ zc),hwl,hwb,zc,λw H' hw hwx kp ht hx'=>#[rfl,q x _ (λb o' e=>kp b o' (zD (se _ _ e) hx) (k1 b o' (se _ _ e))) #[dx,.inr (.inr #[⋯,hwl,w,hx',ht])]]]
  ·intro x dx hx hdx hne;have sd:=zd (o:=.own x) hdx;refine#[x,CO,dx,l,rfl,hg,T.cO,T.lO,zc,rfl,q x _ (λb o' e=>?_) #[dx,.inl #[⋯,zc]]];rw[zk (zD e hx),zk (zD e hx)];exact sd _ _ e
structure TNT(K:rP)(mg:rV->Option rR)(C:rQ):Prop where
 xi:XI K C
 g:mg "NotTurned" = AC (.ref C)
 na:NoAttr K C "number"
def uF:sQz 2 ["self","number"] ye:=by nofun
def uB(T:TNT K mg C)(F:Fun K "__init__" "NotTurned.__init__" ye f fd):(1&&&["self","number"]) (xz C "number"):=by
 exists F.ok uF
 ·let#[x,v,rfl,hx,q]:=h;refine#[_,(zf (Y9 (pv 0) (pv 1) rfl)),?_]
  erw[Je]
  rfl'
  exact#[C,hx,T.xi.toXC,T.na,q]
structure DNT(P:rX)(w:sk)(K:rP)(mg:rV->Option rR)(base:sq)(C:rQ):Prop extends TNT K mg C where
 ini:∃f fd,ae K (.ref C) "__init__" = AC (AC (.ref f))/\aP K (.ref f)=AE/\(1&&&["self","number"]) (xz C "number")/\Binds K fd ["self","number"] []
structure za9(K:rP)(mg:rV->Option rR)(CH:rQ):Prop where
 cl:Cls K CH
 g:mg "System" = AC (.ref CH)
 no:NoAttr K CH "order"
 nr:NoAttr K CH "rules"
def wD(k:Nat)(l:())(ns:List Int):List zF->Nat->Option Nat
 | [],_=>AD
 | r::rs,i=>if z6 k l ns r.2 r.1=AE then wD k l ns rs (i+1)else AC i
theorem XB : ∀{ps:List zF} {j i:Nat} {r:zF},(∀(m:Nat) (p:zF),m<i->ps[m]? = AC p->z6 k l ns p.2 p.1=AE)->ps[i]? = AC r->z6 k l ns r.2 r.1=AF->wD k l ns ps j=AC (j+i)
 | [],_,_,_,_,h,_=>by simp at h
 | p::ps,j,0,r,_,h,hl=>by
  cases h;rw[wD,hl,y9 az];rfl
 | p::ps,j,i+1,r,hb,h,hl=>by
  rw[wD,y6 (hb 0 p (Nat.succ_pos _) rfl),XB (i:=i) (λm q hm e=>hb (m+1) q ⋯ e) h hl];congr 1;lia
theorem uJ : ∀{ps:List zF} {j:Nat},(∀(m:Nat) (p:zF),ps[m]? = AC p->z6 k l ns p.2 p.1=AE)->wD k l ns ps j=AD
 | [],_,_=>rfl
 | p::ps,j,hb=>by
  rw[wD,y6 (hb 0 p rfl)];exact uJ λm q e=>hb (m+1) q e
def InL(l:())(ps:List zF):Prop:=∀p ∈ ps,p.1.length<=1000/\p.2.length<=1000/\(∀c ∈ p.1,c ∈ l)/\∀c ∈ p.2,c ∈ l
def qe(K:rP)(CO CR CW CT CH:rQ):Sp:=λvs H Q E=>∃(x dx o a:rQ) (k:Nat) (l:()) (ns:List Int) (ps:List zF) (xs:List V),vs=[.ref x,.ref o,.ref a]/\H x=AC (.ins CH dx [])/\OrdAt CO CR CW H o k l ns/\OG l ns k/\H a=AC (.lst xs)/\Iss K H (ps.map dR) xs/\InL l ps /\
 (∀i,wD k l ns ps 0=AC i->∀H1,Same H H1->∀d H',Fell H1 d "number" (.int (i:Nat)) H'->E (.ref CT) (AC d) H') /\
 (wD k l ns ps 0=AD->∀(q:rQ) (H':Hp),(∀b o',b≠x->H b=AC o'->H' b=AC o')->H' x=AC (.ins CH dx [("order",.ref o),("rules",.ref q)])->H' q=AC (.lst xs)->H q=AD->Q .non H')
def lm:sQz 3 ["self","order","rules","number","rule"] wp:=by nofun
def jA{f CO CR CW CT CH:rQ}(B:Bt mg)(T:DNT P w K mg base CT)(TS:za9 K mg CH)(DBk:DB P w K mg base CO CR CW)(F:Fun K "__init__" "System.__init__" wp f fd):(5|||["self","order","rules"]) (qe K CO CR CW CT CH):=by
 let#[fi,fdi,hi,hfn,Fi,Bi]:=T.ini
 exists Fun.okX F lm,0
 ·let#[x,dx,o,a,k,l,ns,ps,xs,rfl,hx0,ho,hG,hA,hI,hP,q1,q2]:=h
  refine#[_,(zh (zX PassesOwn.leaving rfl (yN rfl B.enum (za (pv 2) ze)) (xS (n:=2) rfl (zR (zq (i:=3) lm.nd rfl (.inl rfl)) (zR (zq (i:=4) lm.nd rfl (.inl rfl)) y8))) (zf (zI (yv (xH (zcN DBk hr (pv 1) (za (!-4) (za (!-4) ze))) (λZ=>rfl))) (zf (qI hx rfl T.xi.toXC hi hfn Fi (hr.mono ∅) Bi rfl T.g (za (pv 3) ze)))
     zo))) (zh (jN (pv 0) (pv 1) rfl) (zf (jN (pv 0) (yA ym rfl B.list jb1 (za (pv 2) ze)) rfl)))),?_]
  have s16:=yd;change Same H H'/\wD k l ns ps 0=AD/\∃v3 v4,σ=[!!x,!!o,!!a,v3,v4]
  ·ac_rfl;refine#[#[_,x4 hA],ja3 (xs:=xs) (λi σ H'=>Same H H'/\(∀(j:Nat) (p:zF),j<i->ps[j]? = AC p->z6 k l ns p.2 p.1=AE)/\∃v3 v4,σ=[!!x,!!o,!!a,v3,v4]) #[x9 _,λj p h=>y4 h (bv j),_,_,rfl] ?_ ?_ ?_]
   ·rintro i σ H' _ ⟨hs,_⟩;exact x4 (hs _ _ hA)
   ·refine nmE ?_;rintro i y σ H' p hy ⟨hs,hb,v3,v4,rfl⟩ hpn:_;let#[r,pr,hri,rfl,hqr]:=hI.getR hy;have hm:=hP r (af hri);have s2:=hs.trans (zd (o:=.tup [.int (i:Nat),.ref pr]) hpn);have ho2:=ho.same s2;have hq2:=zt s2 hqr;let#[C,dy,fs,hf,hoC,hn,_]:=ho2.fam;have hn1:fs.lookup ("before" : rV)=AD:=hn _ ∅ ∅;right;ac_rfl;refine#[_,x6 zc,rfl,_,_,rfl,_,_,rfl,rfl,C,hf,dy,fs,hoC,hn1,_,rfl,_,hq2,_,rfl,_,rfl,_,hq2,_,rfl,o,k,l,ns,r.2,r.1,rfl,ho2,hG,hm.2.1,hm.1,hm.2.2.2,hm.2.2.1,λH3 s3=>?_];have s16:=yd;refine#[_,rfl,yl (λe=>#[⋯,qG (q1 i (by have:=XB (j:=0) hb hri e;simpa using this) H3 (s2.trans s3))]) λe=>#[s2.trans s3,λj p' hj hp'=>?_]];by_cases hj':j<i
    ·exact hb j p' hj' hp'
    ·have:j=i:=⋯;rw[this,hri]at hp';cases hp';simpa using e
   ·refine nmB ?_;rintro σ H' ⟨hs,hb,v3,v4,rfl⟩:_;have hxl:=hI.len;rw[aa]at hxl;right;exact#[hs,uJ λm p e=>hb m p (by have:=(AJ.mp e).1;lia) e,v3,v4,rfl]
  rintro σ H1 ⟨s1,hf,v3,v4,rfl⟩:0;change H'=upd H1 x (.ins CH dx [("order",.ref o)])/\σ=[!!x,!!o,!!a,v3,v4]
  ·ac_rfl;exact#[_,_,_,s1 _ _ hx0,TS.cl,TS.no,∅,rfl]
  rintro σ H2 ⟨rfl,rfl⟩:0;ac_rfl;have hax:a≠x:=λe=>by rw[e,hx0]at hA;cases hA
  refine#[xs,.inl (x4 (by rw[zk hax];exact s1 _ _ hA)),λq hq=>?_];have hqx:q≠x:=λe=>by rw[e,zc]at hq;cases hq
  rw[zk hqx]at hq
  have hqH:H q=AD:=by
   cases e:H q with
   | none=>rfl
   | some o'=>rw[s1 _ _ e]at hq;cases hq
  refine#[CH,dx,_,by rw[zk hqx.symm,zc],TS.cl,TS.nr,by show 1<1000;decide,q2 hf q _ (λb o' hb e=>?_) zc (by rw[zk hqx,zc]) hqH];rw[zk hb,zk (λz=>by rw[z,hqH]at e;cases e),zk hb];exact s1 _ _ e
def SysAt(K:rP)(CH:rQ)(H:Hp)(y o q:rQ)(ps:List zF):Prop:=∃dx xs,H y=AC (.ins CH dx [("order",.ref o),("rules",.ref q)])/\H q=AC (.lst xs)/\Iss K H (ps.map dR) xs
def SysAt.same{K:rP}{CH:rQ}{H H':Hp}{y o q:rQ}{ps:List zF}(h:SysAt K CH H y o q ps)(s:Same H H'):SysAt K CH H' y o q ps:=by let#[dx,xs,h1,h2,h3]:=h;exact#[dx,xs,s _ _ h1,s _ _ h2,ja1 s _ _ h3]
theorem K1(h:SqT K H p [a,b])(k:R ((σ.set i (AC a)).set j (AC b)) H):za7 K 2 (Z1 (yZ i) (Z1 (yZ j) za5)) (.ref p) σ H R:=by
 erw[za7,Z1,yZ,za5]
 first
 | exact⟨_,_,rfl,h,rfl,_,_,rfl,_,_,rfl,rfl,k⟩
 | exact⟨_,_,rfl,.inr h,rfl,_,_,rfl,_,_,rfl,rfl,k⟩
abbrev MkS(P:rX)(w:sk)(K:rP)(mg:rV->Option rR)(base:sq)(CO CR CW CT CH:rQ):Prop:=DMk P w K mg base (CXx P w) 5 CH ["self","order","rules"] (qe K CO CR CW CT CH)
def KT{Q:rQ->Hp->Prop}{CO CR CW CT CH o a:rQ}(ho:OrdAt CO CR CW H o k l ns)(hG:OG l ns k)(hA:LsA K H a (ps.map dR))(hin:InL l ps)(hf:wD k l ns ps 0=AD)(q:∀(y qa:rQ) (H':Hp),Same H H'->SysAt K CH H' y o qa ps->Q y H'):∀x dx,H x=AD->H dx=AD->dx≠x->qe K CO CR CW CT CH [.ref x,.ref o,.ref a] (upd (upd H dx (.own x)) x (.ins CH dx [])) (λv H'=>v=.non/\Q x H') E0:=by
 intro x dx hx hdx hne;let#[xs,hX,hI]:=hA;have sd:=zd (o:=.own x) hdx
 have k1:Same H (upd (upd H dx (.own x)) x (.ins CH dx [])):=λb' o' e=>by
  rw[zk (zD e hx)];exact sd _ _ e
 refine#[x,dx,o,a,k,l,ns,ps,xs,rfl,zc,ho.same k1,hG,k1 _ _ hX,ja1 k1 _ _ hI,hin,(λi e=>by rw[hf]at e;cases e),λZ q1 H'' kp hx' hq' hqn=>#[rfl,?_]];have k3:Same H H'':=λb' o' e=>kp b' o' (λz=>by rw[z,hx]at e;cases e) (k1 _ _ e);exact q x q1 H'' k3 #[dx,xs,hx',hq',ja1 k3 _ _ hI]
def BG.inL(h:BG k l ns bs):InL l (zA bs):=λp hp=>by
 let#[e,he,rfl]:=AN.mp hp;have b:=h.e e he;exact#[aS b.a ∅,aS b.b ∅,b.ma,b.mb]
def BG.fault(h:BG k l ns bs):wD k l ns (zA bs) 0=AD:=uJ λm p e=>by
 let#[e',he,rfl]:=AN.mp (af e);exact h.lt e' he
def X2(K:rP)(CO CR CW CH:rQ):Sp:=λvs H Q Z=>∃(o a:rQ) (k:Nat) (l:()) (ns:List Int) (bs:List Ent),vs=[.ref o,.ref a]/\OrdAt CO CR CW H o k l ns/\OG l ns k/\EnsL K H a bs/\BG k l ns bs/\∀(y qa:rQ) (H':Hp),Same H H'->SysAt K CH H' y o qa (zA bs)->Q (.ref y) H'
def Ye:sQz 2 ["order","entries"] vG:=by nofun
def Zr{f CO CR CW CT CH:rQ}(B:Bt mg)(TS:za9 K mg CH)(MS:MkS P w K mg base CO CR CW CT CH)(F:("system_by"^^^vG))(pS:(1<<<"pairs_of") ["entries"] [] (kP K)):(7&&&["order","entries"]) (X2 K CO CR CW CH):=by
 exists F.ok Ye
 ·let#[o,a,k,l,ns,bs,rfl,ho,hG,hA,hB,q]:=h;refine#[_,(zf (zm (zex xe0 MS hr rfl TS.g (za (pv 0) (za (cl0 pS hr .nil rfl (za (pv 1) ze)) ze))))),?_];have s16:=yd;ac_rfl;refine VM hA.is (by have:=hB.n;lia) λD H' Z s' hL=>?_;exact KT (ho.same s') hG hL hB.inL hB.fault λy qa H'' s'' hy=>q y qa H'' (s'.trans s'') hy
def qg(K:rP)(CH:rQ):Sp:=λvs H Q E=>∃(y o q:rQ) (l:()) (ps:List zF) (J:Nat),vs=[.ref y,⇑l]/\SysAt K CH H y o q ps/\NeL ps/\ps.length<=100/\(∀p ∈ ps,p.1.length<=1000/\p.2.length<=1000)/\Rd ps l J/\zN (wAt ps l J) ps=AD/\J<=4000/\∀(H':Hp),Same H H'->Q ⇑(wAt ps l J) H'
def uc:sQz 2 ["self","word"] yX:=by nofun
def vP{f CF CH:rQ}{fd:rW}{mP:Ad}(B:Bt mg)(TS:za9 K mg CH)(F:Fun K "shortest" "System.shortest" yX f fd)(pX:(4>>>"gone") ["rules","word","most"] [] (vI K CF))(DD_gone:(4>>>"gone") ["rules","word","most"] [.int 4000 mP] (vI K CF)):(5|||["self","word"]) (qg K CH):=by
 exists Fun.okX F uc,0
 ·let#[y,o,q,l,ps,J,rfl,hy,hN,hpl,hP,hR,hf,hJ,hq]:=h;refine#[_,(zf (zm (zi r9 (clP (dvs:=[.int 4000]) hx DD_gone hr (.cons #[_,rfl] .nil) rfl (za (vN (pv 0) rfl) (za (pv 1) ze))) zb))),?_];have s16:=yd
  rfl'
  let#[dx,xs,h1,h2,h3]:=id hy;exact#[_,_,_,h1,TS.cl,TS.nr,_,rfl,_,l,ps,4000,J,rfl,#[xs,h2,h3],hN,hpl,hP,hR,.inl #[hf,⋯,λp S H' s' hp hL hS=>#[_,rfl,_,x6 hp,_,rfl,hq H' s']]]
def xk(l m:())(k:Nat):Bool:=decide ((l.drop k).take m.length=m.take (l.length - k))
def lf(rs:List zF)(i:Nat):():=(rs.getD i ([],[])).1
def vn(h:rs[i]? = AC r):lf rs i=r.1:=by unfold lf;rw[am,h];rfl
def Ya(rs:List zF)(i j n:Nat):List N3:=((aQ n).filter λk=>(decide (i≠j) || decide (k≠0)) && xk (lf rs i) (lf rs j) k).map λk=>(i,j,k)
def ovI(rs:List zF)(i m:Nat):List N3:=(aQ m).flatMap λj=>Ya rs i j (lf rs i).length
def ovA(rs:List zF)(m:Nat):List N3:=(aQ m).flatMap λi=>ovI rs i rs.length
def wT(rs:List zF)(i j n:Nat):Ya rs i j (n+1)=Ya rs i j n ++ (if ((decide (i≠j) || decide (n≠0)) && xk (lf rs i) (lf rs j) n)=AE then [(i,j,n)]else []):=by
 unfold Ya;rw[cS,fN,al];congr 1
 erw[List.filter_cons,List.filter_nil]
 split <;> rfl
def ub(rs:List zF)(i m:Nat):ovI rs i (m+1)=ovI rs i m ++ Ya rs i m (lf rs i).length:=by unfold ovI;rw[cS,d4];simp
def qc(rs:List zF)(m:Nat):ovA rs (m+1)=ovA rs m ++ ovI rs m rs.length:=by unfold ovA;rw[cS,d4];simp
def uX(rs:List zF)(i j n:Nat):(Ya rs i j n).length<=n:=by unfold Ya;rw[aa];have:=fo (λk=>(decide (i≠j) || decide (k≠0)) && xk (lf rs i) (lf rs j) k) (aQ n);rw[dB]at this;exact this
theorem zbS(h:wN rs)(i:Nat):(lf rs i).length<=100:=by
 cases e:rs[i]? with
 | none=>unfold lf;rw[am,e];exact aJ _
 | some r=>rw[vn e];exact (h.2 r (af e)).1
theorem Yu(h:wN rs)(i m:Nat):(ovI rs i m).length<=m * 100:=by
 induction m with
 | zero=>exact aJ _
 | succ m ih =>
  rw[ub,ag];have h1:=uX rs i m (lf rs i).length;have h2:=zbS h i;lia
theorem Vk(h:wN rs)(m:Nat):(ovA rs m).length<=m * 3000:=by
 induction m with
 | zero=>exact aJ _
 | succ m ih =>
  rw[qc,ag];have h1:=Yu h m rs.length;have h2:=h.1;lia
def Zk:Sp:=λvs H Q Z=>∃(l m:()) (k:Nat),vs=[⇑l,⇑m,.int (k:Nat)]/\l.length<=1000/\m.length<=1000/\k<=l.length/\Q (.bl (xk l m k)) H
def Zx(h1:l.length<=1000)(h2:m.length<=1000)(h3:k<=l.length)(h:Q (.bl (xk l m k)) H):Zk [⇑l,⇑m,.int (k:Nat)] H Q E:=#[l,m,k,rfl,h1,h2,h3,h]
def Q2:sQz 3 ["one","other","place"] YD:=by nofun
def Jy(B:Bt mg)(F:("agree"^^^YD)):(1&&&["one","other","place"]) Zk:=by
 exists F.ok Q2
 ·let#[l,m,k,rfl,hl,hm,hk,q]:=h;refine#[_,(zf (zm (yn yq (zO yK (pv 0) (zS (pv 2)) (zS (zv yf (pv 2) (zG B.len (pv 1))))) (zO yK (pv 1) yc (zS (zv wM (zG B.len (pv 0)) (pv 2)))) (zw _)))),?_];have s16:=yd
  rfl'
  refine#[⋯,⋯,⋯,⋯,?_];rw[JQ _ ⋯ ⋯,uQ _ ⋯];have e1:((k:Int)+(m.length:Int) - (k:Int)).toNat=m.length:=⋯;have e2:((l.length:Int) - (k:Int)).toNat=l.length - k:=⋯;rw[e1,e2];exact q
def vD(K:rP):Sp:=λvs H Q Z=>∃(a:rQ) (rs:List zF),vs=[.ref a]/\Is K H (.lst (rs.map dR)) (.ref a)/\wN rs/\∀D H',H D=AD->Same H H'->LsA K H' D ((ovA rs rs.length).map d3)->Q (.ref D) H'
def Yj(h1:Is K H (.lst (rs.map dR)) (.ref a))(h2:wN rs)(h:∀D H',H D=AD->Same H H'->LsA K H' D ((ovA rs rs.length).map d3)->Q (.ref D) H'):vD K [.ref a] H Q E:=#[a,rs,rfl,h1,h2,h]
def gG:sQz 1 ["rules","found","i","one","j","other","place"] uh:=by nofun
def Ys(B:Bt mg)(F:("overlaps"^^^uh))(rj:(1<<<"agree") ["one","other","place"] [] Zk):(2&&&["rules"]) (vD K):=by
 exists F.ok gG
 ·let#[a,rs,rfl,hR,ok,q]:=h
  refine#[_,(zx (zC 1 gG.nd (yM ze)) (zx (zX p8 rfl (yN rfl B.enum (za (pv 0) ze)) (xS (n:=2) rfl (zR (zq (i:=2) gG.nd rfl (.inl rfl)) (zR (zq (i:=3) gG.nd rfl (.inl rfl)) y8))) (zf (zX p8 rfl (yN rfl B.enum (za (pv 0) ze)) (xS (n:=2) rfl (zR (zq (i:=4) gG.nd rfl (.inl rfl)) (zR (zq (i:=5) gG.nd rfl (.inl rfl)) y8))) (zf (zX p8 rfl (ZC rfl B.range (za (kz (zu yq (pv 2) (pv 4) (zw _)) zb zb) (za (zG B.len (!-3)) ze))) (zq (i:=6) gG.nd rfl (.inl rfl)) (zf (zI (xH (cl0 rj hr .nil rfl (za (!-3) (za (!-5) (za (pv 6) ze)))) (λZ=>rfl)) (zf (wQ (wV bu bq br yR (pv 1) (za (zH (za (pv 2) (za (pv 4) (za (pv 6) ze)))) ze))))
       zo))))))) (zf (zm (pv 1))))),?_]
  have s16:=yd
  rfl'
  erw[Is]at hR
  let#[_,xs,e,hX,hI]:=hR;cases e;refine#[⋯,λD hD=>#[#[_,(zd hD).seq hX],ja3 (xs:=xs) (λi σ H'=>∃v2 v3 v4 v5 v6,σ=[!!a,!!D,v2,v3,v4,v5,v6]/\Same H H'/\LsA K H' D ((ovA rs i).map d3)) #[AD,AD,AD,AD,AD,rfl,zd hD,LsA.nil] ?_ ?_ ?_]]
  ·refine nm3 ?_;rintro i σ H' hi ⟨v2,v3,v4,v5,v6,rfl,hs,_⟩:0;exact hs.seq hX
  ·refine nmE ?_;rintro i x σ H' p hx ⟨v2,v3,v4,v5,v6,rfl,hs,hL⟩ hp:_;let#[r,pr,hri,rfl,hqr]:=hI.getR hx;have er:=vn hri;have hr1:=(ok.2 r (af hri)).1;right
   rfl'
   refine#[_,x6 zc,rfl,_,_,rfl,_,_,rfl,rfl,#[_,((hs.trans (zd hp)).seq hX)],ja3 (xs:=xs) (λj σ H''=>∃v4 v5 v6,σ=[!!a,!!D,-~~~i,!!pr,v4,v5,v6]/\Same H H''/\LsA K H'' D ((ovA rs i ++ ovI rs i j).map d3)) #[v4,v5,v6,rfl,hs.trans (zd hp),by rw[show ovI rs i 0=[]from rfl,aR];exact hL.same (zd hp)] ?_ ?_ ?_]
   ·refine nm3 ?_;rintro j σ H2 hj ⟨v4,v5,v6,rfl,hs2,_⟩:0;exact hs2.seq hX
   ·refine nmE ?_;rintro j y σ H2 p2 hy ⟨v4,v5,v6,rfl,hs2,hL2⟩ hp2:_;let#[r2,pr2,hri2,rfl,hqr2]:=hI.getR hy;have er2:=vn hri2;have hr2:=(ok.2 r2 (af hri2)).1;have hs3:=hs2.trans (zd (o:=.tup [.int (j:Nat),.ref pr2]) hp2);have hq1:=zt hs3 hqr;have el:(tx r.1).length=r.1.length:=zP _;right
    rfl'
    refine#[_,x6 zc,rfl,_,_,rfl,_,_,rfl,rfl,rfl,yl (λh=>?_) λh=>?_]
    ·have hij:i=j:=by injection h with h;lia
     have z0:Ya rs i j (1+0)=[]:=by
      subst hij;rw[show 1+0=0+1 from rfl,wT];simp [Ya]
     have zn:Ya rs i j (1+((r.1.length:Int) - 1).toNat)=Ya rs i j r.1.length:=by
      by_cases h0:r.1.length=0
      ·rw[h0];exact z0
      ·rw[show 1+((r.1.length:Int) - 1).toNat=r.1.length by lia]
     refine#[_,hq1,_,rfl,_,#[⋯,rfl],∅,∅,⋯,⋯,ForR.by (λt σ H3=>∃v6,σ=[!!a,!!D,-~~~i,!!pr,-~~~j,!!pr2,v6]/\Same H H3/\LsA K H3 D ((ovA rs i ++ ovI rs i j ++ Ya rs i j (1+t)).map d3)) #[v6,rfl,hs3,(by rw[z0,aR];exact hL2.same (zd hp2))] ?_ ?_]
     ·refine nm3 ?_;rintro n σ H3 hn ⟨v6,rfl,hs4,hL4⟩:_;have hn':1+n<r.1.length:=⋯;have en:((1:Int)+(n:Int))=((1+n:Nat):Int):=⋯;right;dsimp only;rw[en];let#[ys,hY,hJ]:=hL4;have hlen:=hJ.len;have l1:=Vk ok i;have l2:=Yu ok i j;have l3:=uX rs i j (1+n);have i1:=(AJ.mp hri).1;have i2:=(AJ.mp hri2).1;have i3:=ok.1
      erw[aa,ag]at hlen
      have es:=wT rs i j (1+n);have etest:(decide (i≠j) || decide (1+n≠0))=AE:=by rw[show decide (1+n≠0)=AE from u9 ⋯,du]
      rw[etest,di,er,er2]at es
      rfl'
      refine#[_,zt hs4 hqr,_,rfl,_,zt hs4 hqr2,_,rfl,Zx ⋯ ⋯ ⋯ #[_,rfl,yl (λhb=>#[.inl #[_,x4 hY],⋯,λt ht=>#[_,zd ht _ _ hY,⋯,zy (hs4.trans (zd ht)) hD,?_]]) λhb=>#[hs4,ys,hY,?_]]]
      ·rw[hb,y6 rfl]at es;rw[show 1+(n+1)=1+n+1 by lia,es,<- bb,al];exact LsA.pushT hY hJ ht zcy (Wm _) (by erw[z9,xf,and_self])
      ·have hb':xk r.1 r2.1 (1+n)=AF:=by simpa using hb
       rw[hb',y9 az,aR]at es;rw[show 1+(n+1)=1+n+1 by lia,es];exact hJ
     ·refine nmB ?_;rintro σ H3 ⟨v6,rfl,hs4,hL4⟩:0;refine#[#[_,_,_,rfl],hs4,?_];rw[ub,er,<- bb];rw[el,zn]at hL4;exact hL4
    ·have hij:i≠j:=λz=>h (by rw[z]);refine#[_,hq1,_,rfl,_,#[⋯,rfl],∅,∅,⋯,⋯,ForR.by (λt σ H3=>∃v6,σ=[!!a,!!D,-~~~i,!!pr,-~~~j,!!pr2,v6]/\Same H H3/\LsA K H3 D ((ovA rs i ++ ovI rs i j ++ Ya rs i j (0+t)).map d3)) #[v6,rfl,hs3,(by rw[show Ya rs i j (0+0)=[]from rfl,aR];exact hL2.same (zd hp2))] ?_ ?_]
     ·refine nm3 ?_;rintro n σ H3 hn ⟨v6,rfl,hs4,hL4⟩:_;have hn':0+n<r.1.length:=⋯;have en:((0:Int)+(n:Int))=((0+n:Nat):Int):=⋯;right;dsimp only;rw[en];let#[ys,hY,hJ]:=hL4;have hlen:=hJ.len;have l1:=Vk ok i;have l2:=Yu ok i j;have l3:=uX rs i j (0+n);have i1:=(AJ.mp hri).1;have i2:=(AJ.mp hri2).1;have i3:=ok.1
      erw[aa,ag]at hlen
      have es:=wT rs i j (0+n);have etest:(decide (i≠j) || decide (0+n≠0))=AE:=by rw[show decide (i≠j)=AE from u9 hij,Bool.true_or]
      rw[etest,di,er,er2]at es
      rfl'
      refine#[_,zt hs4 hqr,_,rfl,_,zt hs4 hqr2,_,rfl,Zx ⋯ ⋯ ⋯ #[_,rfl,yl (λhb=>#[.inl #[_,x4 hY],⋯,λt ht=>#[_,zd ht _ _ hY,⋯,zy (hs4.trans (zd ht)) hD,?_]]) λhb=>#[hs4,ys,hY,?_]]]
      ·rw[hb,y6 rfl]at es;rw[show 0+(n+1)=0+n+1 by lia,es,<- bb,al];exact LsA.pushT hY hJ ht zcy (Wm _) (by erw[z9,xf,and_self])
      ·have hb':xk r.1 r2.1 (0+n)=AF:=by simpa using hb
       rw[hb',y9 az,aR]at es;rw[show 0+(n+1)=0+n+1 by lia,es];exact hJ
     ·refine nmB ?_;rintro σ H3 ⟨v6,rfl,hs4,hL4⟩:0;refine#[#[_,_,_,rfl],hs4,?_];rw[ub,er,<- bb];rw[el,show 0+((r.1.length:Int) - 0).toNat=r.1.length by lia]at hL4;exact hL4
   ·refine nmB ?_;rintro σ H2 ⟨v4,v5,v6,rfl,hs2,hL2⟩:_;have e:=hI.len;rw[aa]at e;rw[e,<- qc]at hL2;right;exact#[#[_,_,_,_,_,rfl],hs2,hL2]
  ·refine nmB ?_;rintro σ H' ⟨v2,v3,v4,v5,v6,rfl,hs,hL⟩:_;have e:=hI.len;rw[aa]at e;rw[e]at hL;right
   rfl'
   exact q D H' hD hs hL
def xp(l m:())(k:Nat):():=l ++ m.drop (l.length - k)
def ql(l m:())(k:Nat)(hk:k<=l.length):(xp l m k).length=max l.length (k+m.length):=by unfold xp;rw[ag,aG];lia
def jT(l m:())(k:Nat):zB (xp l m k) 0 l=AE:=by unfold zB xp;refine u9 #[∅,by rw[ag];lia,?_];rw[show (0:Int).toNat=0 from rfl,e8,bI (ah _),aD]
def qE(hk:k<=l.length)(h:xk l m k=AE):zB (xp l m k) (k:Nat) m=AE:=by
 unfold xk at h;rw[decide_eq_true_eq]at h;have hl:=ql l m k hk;unfold zB;refine u9 #[⋯,⋯,?_];rw[show ((k:Nat):Int).toNat=k from rfl];unfold xp;rw[dW hk];by_cases hm:m.length<=l.length - k
 ·rw[bI (by rw[aG];lia),h,bc hm]
 ·rw[bc (by rw[aG];lia)]at h;rw[h,bH,aD]
def Jc(h:t ∈ Ya rs i j n):t.1=i/\t.2.1=j/\t.2.2<n/\xk (lf rs i) (lf rs j) t.2.2=AE:=by unfold Ya at h;let#[k,hk,rfl]:=AN.mp h;rw[List.mem_filter,fq,ce]at hk;exact#[rfl,rfl,hk.1,hk.2.2]
def YY(h:t ∈ ovA rs rs.length):t.1<rs.length/\t.2.1<rs.length/\t.2.2<(lf rs t.1).length/\xk (lf rs t.1) (lf rs t.2.1) t.2.2=AE:=by unfold ovA ovI at h;let#[i,hi,h]:=AT.mp h;let#[j,hj,h]:=AT.mp h;let#[e1,e2,e3,e4]:=Jc h;rw[e1,e2];exact#[AR.mp hi,AR.mp hj,e3,e4]
def Xh(K:rP):Sp:=λvs H Q Z=>∃(a t:rQ) (rs:List zF) (i j k:Nat) (r r2:zF),vs=[.ref a,.ref t]/\Is K H (.lst (rs.map dR)) (.ref a)/\SqT K H t [.int (i:Nat),.int (j:Nat),.int (k:Nat)]/\wN rs/\rs[i]? = AC r/\rs[j]? = AC r2/\k<=r.1.length/\xk r.1 r2.1 k=AE /\
 ∀p H',H p=AD->Same H H'->H' p=AC (.tup [⇑(xp r.1 r2.1 k),⇑(vt (xp r.1 r2.1 k) 0 r.1 r.2),⇑(vt (xp r.1 r2.1 k) (k:Nat) r2.1 r2.2)])->Q (.ref p) H'
def QS(h1:Is K H (.lst (rs.map dR)) (.ref a))(h2:SqT K H t [.int (i:Nat),.int (j:Nat),.int (k:Nat)])(h3:wN rs)(h4:rs[i]? = AC r)(h5:rs[j]? = AC r2)(h6:k<=r.1.length)(h7:xk r.1 r2.1 k=AE)(h:∀p H',H p=AD->Same H H'->H' p=AC (.tup [⇑(xp r.1 r2.1 k),⇑(vt (xp r.1 r2.1 k) 0 r.1 r.2),⇑(vt (xp r.1 r2.1 k) (k:Nat) r2.1 r2.2)])->Q (.ref p) H'):Xh K [.ref a,.ref t] H Q E:=#[a,t,rs,i,j,k,r,r2,rfl,h1,h2,h3,h4,h5,h6,h7,h]
def UI(h1:l.length<=10000)(h2:o.length<=10000)(h3:n.length<=10000)(hs:zB l k o=AE)(q:Q ⇑(vt l k o n) H):jC CU [⇑l,.int k,⇑o,⇑n] H Q E:=#[l,o,n,k,rfl,h1,h2,h3,λZ=>q,λh=>by rw[hs]at h;cases h]
def mQ:sQz 2 ["rules","overlap","one","other","place","word"] Vj:=by nofun
def zaK(B:Bt mg)(F:("peak"^^^Vj))(mV:(3>>>"put") ["word","place","old","new"] [] (jC CU)):(4&&&["rules","overlap"]) (Xh K):=by
 exists F.ok mQ
 ·let#[a,t,rs,i,j,k,r,r2,rfl,hR,ht,ok,hr1,hr2,hk,hag,q]:=h
  refine#[_,(zh (zC 2 mQ.nd (zi ix_list (pv 0) (!-1))) (zh (zC 3 mQ.nd (zi ix_list (pv 0) (!-1))) (zh (zC 4 mQ.nd (!-1)) (zh (zC 5 mQ.nd (zv zU (!-2) (zO Uz (!-3) (zS (zv wM (zG B.len (!-2)) (pv 4))) yc))) (zf (zm (zH (za (pv 5) (za (clP xe0 mV hr .nil rfl (za (pv 5) (za zb (za (!-2) (za (!-2) ze))))) (za (clP xe0 mV hr .nil rfl (za (pv 5) (za (pv 4) (za (!-3) (za (!-3) ze))))) ze)))))))))),?_]
  have s16:=yd
  erw[Is]at hR
  let#[_,xs,e,hX,hI]:=hR;cases e;let#[p1,a1,q1]:=zea hI hr1;let#[p2,a2,q2]:=zea hI hr2;have b1:=ok.2 r (af hr1);have b2:=ok.2 r2 (af hr2);change H'=H/\σ=%[!!a,!!t,!!p1|3]
  ·rfl'
   exact#[_,ht,_,rfl,_,rfl,_,hX,a1]
  rintro σ H1 ⟨rfl,rfl⟩:0;change H'=H1/\σ=%[!!a,!!t,!!p1,!!p2|2]
  ·rfl'
   exact#[_,ht,_,rfl,_,rfl,_,hX,a2]
  rintro σ H2 ⟨rfl,rfl⟩:0;change H'=H2/\σ=[!!a,!!t,!!p1,!!p2,-~~~k,AD]
  ·rfl'
   exact#[_,ht,rfl]
  rintro σ H3 ⟨rfl,rfl⟩:0;change H'=H3/\σ=[!!a,!!t,!!p1,!!p2,-~~~k,AC ⇑(xp r.1 r2.1 k)]
  ·rfl'
   refine#[_,q1,_,rfl,_,q2,_,rfl,_,q1,_,rfl,_,#[by rw[zP];lia,rfl],#[by rw[zP];lia,_,rfl,_,rfl,?_,rfl,?_]]
   ·erw[zP,jh]
    have:=wI r2.1 (AC ((r.1.length:Int) - (k:Int))) AD;lia
   ·rw[zP,jh,yC,xn _ ⋯,show ((r.1.length:Int) - (k:Int)).toNat=r.1.length - k by lia];rfl
  rintro σ H4 ⟨rfl,rfl⟩:_;have hw:=ql r.1 r2.1 k hk;right
  rfl'
  exact#[_,q1,_,rfl,_,q1,_,rfl,UI ⋯ ⋯ ⋯ (jT _ _ _) #[_,q2,_,rfl,_,q2,_,rfl,UI ⋯ ⋯ ⋯ (qE hk hag) #[⋯,λp hp=>q p _ hp (zd hp) zc]]]
def FmOk(ps:List zF)(most:Int)(m:rV->Option V):Prop:=∀k v,m k=AC v->∃(w:()) (J:Nat),k=tx w/\v=⇑(wAt ps w J)/\kF ps w J/\zN (wAt ps w J) ps=AD/\(J:Int)<=most
def FmOk.get(h:FmOk ps most m){w:()}(e:m (tx w)=AC v)(hl:kF ps w J)(hf:zN (wAt ps w J) ps=AD):v=⇑(wAt ps w J):=by let#[w',J',e1,e2,e3,e4,_]:=h _ _ e;have e5:=xP e1;subst e5;rw[e2,XV e3 e4 hl hf]
def FmOk.put(h:FmOk ps most m){w:()}(hl:kF ps w J)(hf:zN (wAt ps w J) ps=AD)(hJ:(J:Int)<=most):FmOk ps most (λx=>if x=tx w then AC ⇑(wAt ps w J)else m x):=λk v e=>by
 by_cases hk:k=tx w
 ·erw[hk,if_true]at e
  cases e;exact#[w,J,hk,rfl,hl,hf,hJ]
 ·erw[hk,if_false]at e
  exact h k v e
def YZ(P:rX)(w:sk)(K:rP)(CF:rQ):Sp:=λvs H Q E=>∃(a F:rQ) (l:()) (ps:List zF) (m:Int) (J n:Nat) (mp:rV->Option V),vs=[.ref a,⇑l,.int m,.ref F]/\LsA K H a (ps.map dR)/\NeL ps/\ps.length<=100/\(∀p ∈ ps,p.1.length<=1000/\p.2.length<=1000)/\Rd ps l J/\H F=AC (jM P w F mp n)/\FmOk ps m mp/\n<=10000 /\
 ((zN (wAt ps l J) ps=AD/\(J:Int)<=m/\∀(mp':rV->Option V) (n':Nat) (H':Hp),SamT F H H'->H' F=AC (jM P w F mp' n')->FmOk ps m mp'->n'<=n+1->Q ⇑(wAt ps l J) H') \/
  (zN (wAt ps l J) ps≠AD/\(J:Int)=m/\∀H',Same H H'->E (.ref CF) AD H'))
def Wx:sQz 4 ["rules","word","most","forms"] qL:=by nofun
def WH(B:Bt mg)(F:("form_of"^^^qL))(pX:(4>>>"gone") ["rules","word","most"] [] (vI K CF))(DD_gone:(4>>>"gone") ["rules","word","most"] [.int 4000 mP] (vI K CF)):(5|||["rules","word","most","forms"]) (YZ P w K CF):=by
 exists Fun.okX F Wx,0
 ·let#[a,F0,l,ps,m,J,n,mp,rfl,hA,hN,hpl,hP,hR,hF,hM,hn,hq]:=h
  refine#[_,(zh (zI (zu Q6 (pv 1) (pv 3) (by with_unfolding_all rfl)) (zf (Um (zi r9 (clP hx pX hr .nil rfl (za (pv 0) (za (pv 1) (za (pv 2) ze)))) zb) (Ut (pv 3) (pv 1) Qt (by intro _;rfl))))
    zo) (zf (zm (zi KN (pv 3) (pv 1))))),?_]
  have s16:=yd;change SamT F0 H H'/\zN (wAt ps l J) ps=AD/\(J:Int)<=m/\(∃(mp':rV->Option V) (n':Nat),H' F0=AC (jM P w F0 mp' n')/\FmOk ps m mp'/\n'<=n+1/\mp' (tx l)=AC ⇑(wAt ps l J))/\σ=[!!a,~~~l,~~~!m,!!F0]
  ·rfl'
   refine#[F0,mp,n,tx l,rfl,rfl,hF,_,rfl,yl (λhnone=>#[a,l,ps,m,J,rfl,hA,hN,hpl,hP,hR,?_]) λhsome=>?_]
   ·rcases hq with ⟨hf,hJ,_⟩ | h
    ·refine .inl #[hf,hJ,λp S H' s' hp Z Z=>#[p,rfl,_,x6 hp,_,rfl,?_]]
     erw[zbQ]
     rfl'
     exact#[F0,mp,n,tx l,rfl,rfl,s' _ _ hF,⋯,λb o hb e=>by rw[zk hb];exact s' _ _ e,hf,hJ,_,_,zc,hM.put hR.live hf hJ,ah _,y6 rfl]
    ·exact .inr h
   ·cases hv:mp (tx l)with
    | none=>rw[hv]at hsome;exact y4 rfl hsome
    | some v =>
     let#[w',J',e1,e2,e3,e4,e5]:=hM _ _ hv;have e6:=xP e1;subst e6;rcases hq with ⟨hf,hJ,_⟩ | ⟨hf,hJ,_⟩
     ·exact#[λb o Z e=>e,hf,hJ,mp,n,hF,hM,⋯,by rw[hM.get hv hR.live hf]at hv;exact hv]
     ·exfalso;rcases eG J' J with h | h
      ·exact hR.live J' h e4
      ·have:J'=J:=⋯;subst this;exact hf e4
  rintro σ H1 ⟨s1,hf,hJ,⟨mp',n',h1,h2,h3,h4⟩,rfl⟩:0
  rfl'
  refine#[F0,mp',n',tx l,_,rfl,rfl,h1,h4,?_];rcases hq with ⟨_,_,q⟩ | ⟨h,_⟩
  ·exact q mp' n' H1 s1 h1 h2 h3
  ·exact y4 hf h
def pkA(ps:List zF)(t:N3):():=vt (xp (lf ps t.1) (lf ps t.2.1) t.2.2) 0 (lf ps t.1) (ps.getD t.1 ([],[])).2
def pkB(ps:List zF)(t:N3):():=vt (xp (lf ps t.1) (lf ps t.2.1) t.2.2) (t.2.2:Nat) (lf ps t.2.1) (ps.getD t.2.1 ([],[])).2
inductive zba(ps:List zF)(m:Int)(l:()):Option Nat->Prop where
 | yes {J:Nat} (h:Rd ps l J) (h1:zN (wAt ps l J) ps=AD) (h2:(J:Int)<=m):zba ps m l (AC J)
 | no {J:Nat} (h:Rd ps l J) (h1:zN (wAt ps l J) ps≠AD) (h2:(J:Int)=m):zba ps m l AD
def Wd(P:rX)(w:sk)(K:rP)(CF:rQ):Sp:=λvs H Q E=>∃(a t F:rQ) (ps:List zF) (tr:N3) (m:Int) (n:Nat) (mp:rV->Option V) (g1 g2:Option Nat),vs=[.ref a,.ref t,.int m,.ref F]/\LsA K H a (ps.map dR)/\NeL ps/\wN ps/\SqT K H t [.int (tr.1:Nat),.int (tr.2.1:Nat),.int (tr.2.2:Nat)]/\tr ∈ ovA ps ps.length/\H F=AC (jM P w F mp n)/\FmOk ps m mp/\n<=9000/\zba ps m (pkA ps tr) g1/\zba ps m (pkB ps tr) g2 /\
 (∀(J1 J2:Nat) (mp':rV->Option V) (n':Nat) (H':Hp),g1=AC J1->g2=AC J2->SamT F H H'->H' F=AC (jM P w F mp' n')->FmOk ps m mp'->n'<=n+2->Q (.bl (decide (wAt ps (pkA ps tr) J1=wAt ps (pkB ps tr) J2))) H') /\
 ((g1=AD\/g2=AD)->∀H',SamT F H H'->E (.ref CF) AD H')
theorem Xk(hA:LsA K H a (ps.map dR))(hN:NeL ps)(hok:wN ps)(hF:H F=AC (jM P w F mp n))(hM:FmOk ps m mp)(hn:n<=10000)(hg:zba ps m l g)(h1:∀(J:Nat) (mp':rV->Option V) (n':Nat) (H':Hp),g=AC J->SamT F H H'->H' F=AC (jM P w F mp' n')->FmOk ps m mp'->n'<=n+1->Q ⇑(wAt ps l J) H')(h2:g=AD->∀H',Same H H'->E (.ref CF) AD H'):YZ P w K CF [.ref a,⇑l,.int m,.ref F] H Q E:=by
 have hP:∀p ∈ ps,p.1.length<=1000/\p.2.length<=1000:=λp hp=>by have:=hok.2 p hp;lia
 have hl:ps.length<=100:=by have:=hok.1;lia
 cases hg with
 | yes h e1 e2=>exact#[a,F,l,ps,m,_,n,mp,rfl,hA,hN,hl,hP,h,hF,hM,hn,.inl #[e1,e2,λmp' n' H' a1 a2 a3 a4=>h1 _ mp' n' H' rfl a1 a2 a3 a4]]
 | no h e1 e2=>exact#[a,F,l,ps,m,_,n,mp,rfl,hA,hN,hl,hP,h,hF,hM,hn,.inr #[e1,e2,h2 rfl]]
def ZZ(s:SamT F H H')(hF:H F=AC (jM P w F mp n))(h:SqT K H t xs):SqT K H' t xs:=by
 rcases h with (h | ⟨o,h⟩) | h
 ·exact .inl (.inl (s _ _ (λz=>by rw[z,hF]at h;cases h) h))
 ·exact .inl (.inr #[o,s _ _ (λz=>by rw[z,hF]at h;cases h) h])
 ·exact .inr h
def Wr{ps:List zF}(s:SamT F H H')(hF:H F=AC (jM P w F mp n))(h:LsA K H a (ps.map dR)):LsA K H' a (ps.map dR):=by
 let#[xs,h1,h2]:=h;refine#[xs,s _ _ (λz=>by rw[z,hF]at h1;cases h1) h1,?_]
 have key:∀(qs:List zF) (vs:List V),Iss K H (qs.map dR) vs->Iss K H' (qs.map dR) vs:=by
  intro qs
  induction qs with
  | nil=>intro vs h;erw[aL,Iss]at h ⊢;exact h
  | cons q qs ih =>
   intro vs h
   erw[aw,Iss]at h ⊢
   let#[v,r,e,h3,h4]:=h;let#[p,rfl,h5]:=zbM h3;exact#[_,r,e,zab (ZZ s hF h5),ih r h4]
 exact key ps xs h2
def mI:sQz 4 ["rules","overlap","most","forms","sides","one","other"] kr:=by nofun
def Uc(B:Bt mg)(F:("is_met"^^^kr))(rE:(4<<<"peak") ["rules","overlap"] [] (Xh K))(pd:(5>>>"form_of") ["rules","word","most","forms"] [] (YZ P w K CF)):(6|||["rules","overlap","most","forms"]) (Wd P w K CF):=by
 exists Fun.okX F mI,0
 ·let#[a,t,F0,ps,tr,m,n,mp,g1,g2,rfl,hA,hN,hok,ht,htr,hF,hM,hn,hg1,hg2,q1,q2]:=h
  refine#[_,(zh (zC 4 mI.nd (cl0 rE hr .nil rfl (za (pv 0) (za (pv 1) ze)))) (zh (zC 5 mI.nd (clP hx pd hr .nil rfl (za (pv 0) (za (!-4) (za (pv 2) (za (pv 3) ze)))))) (zh (zC 6 mI.nd (clP hx pd hr .nil rfl (za (pv 0) (za (!-4) (za (pv 2) (za (pv 3) ze)))))) (zf (zm (yn yq (pv 5) (pv 6) (zw _))))))),?_]
  have s16:=yd;let#[i1,i2,i3,i4]:=YY htr;obtain⟨r,hr⟩:∃r,ps[tr.1]? = AC r:=#[_,ak i1];obtain⟨r2,hr2⟩:∃r,ps[tr.2.1]? = AC r:=#[_,ak i2];have l1:=vn hr;have l2:=vn hr2;have d1:ps.getD tr.1 ([],[])=r:=by rw[am,hr];rfl
  have d2:ps.getD tr.2.1 ([],[])=r2:=by rw[am,hr2];rfl
  have eA:pkA ps tr=vt (xp r.1 r2.1 tr.2.2) 0 r.1 r.2:=by unfold pkA;rw[l1,l2,d1]
  have eB:pkB ps tr=vt (xp r.1 r2.1 tr.2.2) (tr.2.2:Nat) r2.1 r2.2:=by unfold pkB;rw[l1,l2,d2]
  rw[l1]at i3;rw[l1,l2]at i4;change Same H H'/\∃p:rQ,(∃x,H' p=AC (.tup [x,⇑(pkA ps tr),⇑(pkB ps tr)]))/\σ=%[!!a,!!t,~~~!m,!!F0,!!p|2]
  ·rfl'
   exact QS hA.is ht hok hr hr2 ⋯ i4 λp H' Z s' hp=>#[s',p,#[_,by rw[eA,eB];exact hp],rfl]
  rintro σ H1 ⟨s1,p,⟨x,hp⟩,rfl⟩:_;have hF1:=s1 _ _ hF;right;change SamT F0 H1 H'/\∃(J1:Nat),g1=AC J1/\(∃mp' n',H' F0=AC (jM P w F0 mp' n')/\FmOk ps m mp'/\n'<=n+1)/\σ=[!!a,!!t,~~~!m,!!F0,!!p,AC ⇑(wAt ps (pkA ps tr) J1),AD]
  ·rfl'
   refine#[_,x6 hp,_,rfl,Xk (hA.same s1) hN hok hF1 hM ⋯ hg1 (λJ mp' n' H' e a1 a2 a3 a4=>?_) λe H' s'=>q2 (.inl e) H' (ja0 (s1.trans s'))];exact#[a1,J,e,#[mp',n',a2,a3,a4],rfl]
  rintro σ H2 ⟨s2,J1,e1,⟨mp1,n1,hF2,hM2,hn2⟩,rfl⟩:_;have s12:SamT F0 H H2:=(ja0 s1).trans s2;have hpF:p≠F0:=λz=>by rw[z,hF1]at hp;cases hp
  right;change SamT F0 H2 H'/\∃(J2:Nat),g2=AC J2/\(∃mp' n',H' F0=AC (jM P w F0 mp' n')/\FmOk ps m mp'/\n'<=n+2)/\σ=[!!a,!!t,~~~!m,!!F0,!!p,AC ⇑(wAt ps (pkA ps tr) J1),AC ⇑(wAt ps (pkB ps tr) J2)]
  ·rfl'
   exact#[_,x6 (s2 _ _ hpF hp),_,rfl,Xk (Wr s2 hF1 (hA.same s1)) hN hok hF2 hM2 ⋯ hg2 (λJ mp' n' H' e a1 a2 a3 a4=>#[a1,J,e,#[mp',n',a2,a3,⋯],rfl]) λe H' s'=>q2 (.inr e) H' (s12.trans (ja0 s'))]
  rintro σ H3 ⟨s3,J2,e2,⟨mp2,n2,hF3,hM3,hn3⟩,rfl⟩:0
  rfl'
  exact q1 J1 J2 mp2 n2 H3 e1 e2 (s12.trans s3) hF3 hM3 hn3
def j9(K:rP)(CH:rQ):Sp:=λvs H Q Z=>∃(y o q:rQ) (ps:List zF),vs=[.ref y]/\SysAt K CH H y o q ps/\∀(r:rQ) (H':Hp),Same H H'->LsA K H' r (ps.map dR)->H r=AD->Q (.ref r) H'
def vk:sQz 1 ["self"] yH:=by nofun
def vo(B:Bt mg)(TS:za9 K mg CH)(F:Fun K "rules_told" "System.rules_told" yH f fd):(1&&&["self"]) (j9 K CH):=by
 exists F.ok vk
 ·let#[y,o,q,ps,rfl,hy,k]:=h;refine#[_,(zf (zm (yA ym rfl B.list jb1 (za (vN (pv 0) rfl) ze)))),?_];have s16:=yd
  rfl'
  let#[dx,xs,h1,h2,h3]:=hy;exact#[_,_,_,h1,TS.cl,TS.nr,_,rfl,_,rfl,_,.inl (x4 h2),λr hr'=>k r _ (zd hr') #[xs,zc,ja1 (zd hr') _ _ h3] hr']
def goJ(ps:List zF)(m:Nat)(v:()):Option Nat:=(aQ (m+1)).find? λj=>(zN (wAt ps v j) ps).isNone
def Xx(e:goJ ps m v=AC i):i<=m/\kF ps v i/\zN (wAt ps v i) ps=AD:=by
 unfold goJ at e;have h1:=cQ e;have h2:zN (wAt ps v i) ps=AD:=AZ.mp h1;have hm:=AR.mp (cD e);refine#[⋯,λn hn hno=>?_,h2];let#[_,as,bs,e2,h3]:=List.find?_eq_some_iff_append.mp e
 have hlen:as.length=i:=by
  have:=congrArg (λl=>l[as.length]?) e2
  erw[aN (ah _),eM,cH]at this
  let#[h7,h8]:=AJ.mp this;rw[fO]at h8;exact h8
 have h9:(aQ (m+1))[n]? = as[n]?:=by rw[e2,aW ⋯]
 have h10:n<(aQ (m+1)).length:=by rw[dB];lia
 rw[ak h10,fO]at h9;have:=h3 n (af h9.symm);rw[hno]at this;cases this
def QZ(e:goJ ps m v=AD):∀j,j<=m->zN (wAt ps v j) ps≠AD:=λj hj hno=>by
 unfold goJ at e;have:=Bd.mp e j (AR.mpr ⋯);rw[hno]at this;exact this rfl
theorem V2(hl:∀j,j<=m->(wAt ps v j).length<=10000)(hm:m<=10000):zba ps (m:Int) v (goJ ps m v):=by
 cases e:goJ ps m v with
 | some i =>
  let#[h1,h2,h3]:=Xx e;exact .yes #[h2,λj hj=>hl j ⋯,⋯] h3 ⋯
 | none =>
  have h:=QZ e;exact .no (J:=m) #[λi hi=>h i ⋯,λj hj=>hl j hj,hm] (h m (ah _)) rfl
def zb2(ps:List zF)(m:Nat)(v:()):():=wAt ps v ((goJ ps m v).getD 0)
def Vg(ps:List zF)(m:Nat)(t:N3):Bool:=decide (zb2 ps m (pkA ps t)=zb2 ps m (pkB ps t))
def zag(e1:goJ ps m (pkA ps t)=AC J1)(e2:goJ ps m (pkB ps t)=AC J2):decide (wAt ps (pkA ps t) J1=wAt ps (pkB ps t) J2)=Vg ps m t:=by unfold Vg zb2;rw[e1,e2];rfl
def FmOk.nil : FmOk ps m λZ=>AD:=λk v e=>by cases e
def j0(K:rP):List V->Hp->VK->Prop:=λxs H Q=>∃p ys,xs=[.ref p]/\(SqL K H p ys\/SqT K H p ys)/\∀l,H l=AD->Q (.ref l) (upd H l (.lst ys))
structure TabAt(H:Hp)(t:rQ)(rs:List rQ)(tab:List (List Int)):Prop where
 top:H t=AC (.lst (rs.map V.ref))
 len:rs.length=tab.length
 row:∀(i:Nat) (r:rQ) (x:List Int),rs[i]? = AC r->tab[i]? = AC x->H r=AC (.lst (x.map V.int))
def TabAt.same{H H':Hp}{t:rQ}{rs:List rQ}{tab:List (List Int)}(h:TabAt H t rs tab)(e:Same H H'):TabAt H' t rs tab:=#[e _ _ h.top,h.len,λi r x h1 h2=>e _ _ (h.row i r x h1 h2)]
structure xo(l:())(tab:List (List Int)):Prop where
 lo:1<=tab.length
 hi:tab.length<=8
 wd:∀x ∈ tab,x.length=l.length
 rm:∀x ∈ tab,∀n ∈ x,0<=n/\n<(tab.length:Int)
def TabAt.get(h:TabAt H t rs tab)(h0:0<=i)(h1:i<(tab.length:Int)):∃r x,atI (rs.map V.ref) i=AC (.ref r)/\tab[i.toNat]? = AC x/\H r=AC (.lst (x.map V.int)):=by have hl:=h.len;let#[v,e1,e2]:=qt (xs:=rs.map V.ref) h0 (by rw[aa];lia);rw[ax]at e2;let#[r,hr,rfl]:=AO.mp e2;have hx:tab[i.toNat]? = AC (tab[i.toNat]'⋯):=ak ⋯;exact#[r,_,e1,hx,h.row _ _ _ hr hx]
def WK{D:rQ}(hg:g=yZ 0)(h:TabAt H t rs tab)(hb:tab.length<=1000)(hD:H D=AD)(q:∀(rs':List rQ) (H':Hp),Same H H'->TabAt H' D rs' tab->(∀r ∈ D::rs',H r=AD)->D ∉ rs'->Q (.ref D) H') :
  CompL K t g yW (tCB (j0 K) (zE (zV 0) yT)) 1 [] σ H Q D:=by
 have s16:=yd;have hl:=h.len;subst hg;refine jb0 (xs:=rs.map V.ref) (λi AI H'=>∃rs':List rQ,AI=rs'.map V.ref/\rs'.length=i/\Same H H'/\H' D=AC (.lst AI)/\(∀r ∈ rs',H r=AD/\r≠D)/\∀(j:Nat) (r:rQ) (x:List Int),rs'[j]? = AC r->tab[j]? = AC x->H' r=AC (.lst (x.map V.int))) #[[],rfl,rfl,zd hD,zc,λr h=>(nomatch h),λj r x h=>by simp at h] (λi AI H' Z h'=>by let#[_,_,_,hs,_]:=h';exact x4 (hs _ _ h.top)) ?_ ?_
 ·refine nm4 ?_;rintro i v AI H' hv ⟨rs',rfl,hi,hs,hH,hf,hr⟩:_;rw[ax]at hv;let#[r,hr0,rfl]:=AO.mp hv;have hil:=(AJ.mp hr0).1;have hx:tab[i]? = AC (tab[i]'⋯):=ak ⋯;right;generalize tab[i]'⋯=x at hx;have hrow:=hs _ _ (h.row i r x hr0 hx)
  erw[yW]
  rfl'
  erw[j0]
  rfl'
  refine#[yx,_,.inl (x4 hrow),λp hp=>#[zd hp _ _ hH,by rw[aa];lia,x8 (by rw[aa];lia) #[rs' ++ [p],by rw[al];rfl,by rw[ag,hi];rfl,zy (hs.trans (zd hp)) hD,zc,?_,?_]]]
  ·intro r' hr';rcases AK.mp hr' with h' | h'
   ·exact hf r' h'
   ·rw[AL.mp h'];refine#[?_,λe=>by rw[e]at hp;rw[hp]at hH;cases hH]
    cases e:H p with
    | none=>rfl
    | some o=>have:=hs _ _ e;rw[hp]at this;cases this
  ·intro j r' x' h1 h2;by_cases hj:j<i
   ·rw[aW ⋯]at h1;have hm:=hf r' (af h1);rw[zk hm.2];exact zd hp _ _ (hr j r' x' h1 h2)
   ·rw[aN ⋯]at h1
    have hj0:j=i:=by
     have:=(AJ.mp h1).1;simp at this;lia
    subst hj0;rw[hi,eM]at h1;cases h1;rw[hx]at h2;cases h2;rw[zk (λe=>by rw[e]at hp;rw[hp]at hH;cases hH)];exact zc
 ·refine nmB ?_;rintro AI H' ⟨rs',rfl,hi,hs,hH,hf,hr⟩:_;rw[aa]at hi;right
  exact q rs' H' hs #[hH,⋯,hr] (λr hr'=>by
   rcases AM.mp hr' with rfl | h'
   ·exact hD
   ·exact (hf r h').1) λh'=>(hf D h').2 rfl
def Zt{D:rQ}(hg:g=yZ 0)(h:TabAt H t rs tab)(hb:tab.length<=1000)(hD:H D=AD)(q:∀(rs':List rQ) (H':Hp),Same H H'->TabAt H' D rs' tab->(∀r ∈ D::rs',H r=AD)->Q (.ref D) H') :
  CompL K t g yW (tCB (j0 K) (zE (zV 0) yT)) 1 [] σ H Q D :=
 WK hg h hb hD λrs' H' s' t' f' Z=>q rs' H' s' t' f'
structure zct(K:rP)(mg:rV->Option rR)(C:rQ):Prop where
 xi:XI K C
 ini:ae K (.ref C) "__init__" = AC (AC (.builtin "ValueError.__init__"))
 g:mg "NoWorld" = AC (.ref C)
 most:∃t,mg "MOST_ROOMS" = AC (.int 8 t)
def uO(CQ:rQ):Sp:=λvs H Q E=>∃(l:()) (a:rQ) (rs:List rQ) (tab:List (List Int)),vs=[⇑l,.ref a]/\l.length<=100/\tab.length<=100/\TabAt H a rs tab/\(xo l tab->∀(t:rQ) (rs':List rQ) (H':Hp),Same H H'->TabAt H' t rs' tab->(∀r ∈ t::rs',H r=AD)->Q (.ref t) H')/\(¬ xo l tab->E (.ref CQ) AD H)
def mM:sQz 2 ["letters","table","row","room"] ve:=by nofun
def Y2{f CQ:rQ}{fd:rW}(B:Bt mg)(TNw:zct K mg CQ)(F:("table_of"^^^ve)) :(1|||["letters","table"]) (uO CQ):=by
 let#[t6,g6]:=TNw.most
 exists Fun.okX F mM,0
 ·let#[l,a,rs,tab,rfl,hl6,htb,hT,q1,q2]:=h
  refine#[_,(zh (zI (yv (vj xX xX zb (zG B.len (pv 1)) (ug (v:=.int 8) rfl g6 #[t6,rfl]))) (zf (yP hx rfl TNw.xi.toXC TNw.ini rfl TNw.g (za z8 ze)))
    zo) (zh (zX PassesOwn.leaving rfl (ya (pv 1)) (zq (i:=2) mM.nd rfl (.inl rfl)) (zx (zI (zu uC (zG B.len (pv 2)) (zG B.len (pv 0)) (zw _)) (zf (yP hx rfl TNw.xi.toXC TNw.ini rfl TNw.g (za z8 ze)))
     zo) (zf (zX PassesOwn.leaving rfl (ya (pv 2)) (zq (i:=3) mM.nd rfl (.inl rfl)) (zf (zI (yv (vj xX Uo zb (pv 3) (zG B.len (pv 1)))) (zf (yP hx rfl TNw.xi.toXC TNw.ini rfl TNw.g (za z8 ze)))
      zo)))))) (zf (zm (yO (own:=["row"]) (caps:=[]) (ix:=[]) (tt:=yW) (te:=(tCB (j0 K) (zE (zV 0) yT))) rfl (zJ (sc:=zg ve) rfl (!0) (!0) (!0) rfl (!0) (!0) rfl) (ya (pv 1)) (λZ Z Z Z Z Z=>zq (i:=0) (show List.Nodup [_] by decide) rfl (.inl rfl)) (λZ Z Z Z Z Z=>z7) (λZ Z Z Z Z Z=>(yA ym rfl B.list jb1 (za (pv 0) ze)))))))),?_]
  have s16:=yd;have hlen:=hT.len;change H'=H/\1<=tab.length/\tab.length<=8/\σ=%[~~~l,!!a|2]
  ·ac_rfl;refine#[_,.inl #[_,x4 hT.top,rfl],yl (λh1=>yl (λh2=>#[⋯,q2 λg=>h2 (by have:=g.hi;rw[aa];lia)]) λh2=>?_) λh1=>#[⋯,q2 λg=>h1 (by have:=g.lo;rw[aa];lia)]];rw[aa]at h1 h2;exact#[⋯,⋯]
  rintro σ H1 ⟨rfl,hlo,hhi,rfl⟩:0;change H'=H1/\xo l tab/\∃v2 v3,σ=[~~~l,!!a,v2,v3]
  ·ac_rfl;refine#[#[_,x4 hT.top],ja2 (xs:=rs.map V.ref) (λi σ H'=>H'=H1/\(∀x ∈ tab.take i,x.length=l.length/\∀n ∈ x,0<=n/\n<(tab.length:Int))/\∃v2 v3,σ=[~~~l,!!a,v2,v3]) #[rfl,λx h=>(nomatch h),AD,AD,rfl] (λi σ H' Z h=>by rw[h.1];exact x4 hT.top) ?_ ?_]
   ·refine nm4 ?_;rintro i y σ H' hy ⟨rfl,hok,v2,v3,rfl⟩:_;rw[ax]at hy;let#[r,hr,rfl]:=AO.mp hy;have hil:=(AJ.mp hr).1;have htx:tab[i]? = AC (tab[i]'⋯):=ak ⋯;right;generalize tab[i]'⋯=x at htx;have hrow:=hT.row i r x hr htx;have hmx:=af htx;ac_rfl;refine#[_,.inl #[_,x4 hrow,rfl],⋯,yl (λh=>#[⋯,q2 λg=>h (by have:=g.wd x hmx;rw[aa];lia)]) λhw=>#[#[_,x4 hrow],ja2 (xs:=x.map V.int) (λj σ H''=>H''=H'/\(∀n ∈ x.take j,0<=n/\n<(tab.length:Int))/\∃v2 v3,σ=[~~~l,!!a,v2,v3]) #[rfl,λn h=>(nomatch h),_,_,rfl] (λi σ H'' Z h=>by rw[h.1];exact x4 hrow) ?_ ?_]]
    ·refine nm4 ?_;rintro j y σ H'' hy ⟨rfl,hokj,v2,v3,rfl⟩:_;rw[ax]at hy;let#[n,hn,rfl]:=AO.mp hy;have hmn:=af hn;right;ac_rfl;refine yl (λn1=>#[_,.inl #[_,x4 hT.top,rfl],yl (λn2=>#[⋯,q2 λg=>n2 (by have:=(g.rm x hmx n hmn).2;rw[aa];lia)]) λn2 m hm=>?_]) λn1=>#[⋯,q2 λg=>n1 (g.rm x hmx n hmn).1];rw[aa]at n2;rw[zK hn]at hm;rcases AK.mp hm with h | h
     ·exact hokj m h
     ·rw[AL.mp h];exact#[n1,⋯]
    ·refine nmB ?_;rintro σ H'' ⟨rfl,hokj,v2,v3,rfl⟩:_;rw[aa,aD]at hokj;rw[aa]at hw;right;refine#[rfl,λz hz=>?_,_,_,rfl];rw[zK htx]at hz;rcases AK.mp hz with h | h
     ·exact hok z h
     ·rw[AL.mp h];exact#[⋯,hokj]
   ·refine nmB ?_;rintro σ H' ⟨rfl,hok,v2,v3,rfl⟩:_;rw[aa,hlen,aD]at hok;right;exact#[rfl,#[hlo,hhi,λx hx=>(hok x hx).1,λx hx=>(hok x hx).2],_,_,rfl]
  rintro σ H2 ⟨rfl,hG,v2,v3,rfl⟩:0;ac_rfl;exact#[#[_,x4 hT.top],λD hD=>Zt rfl hT ⋯ hD λrs' H' s' t' f'=>q1 hG D rs' H' s' t' f']
structure Kj(K:rP)(mg:rV->Option rR)(CV:rQ):Prop where
 cl:Cls K CV
 g:mg "World" = AC (.ref CV)
 nl:NoAttr K CV "letters"
 nt:NoAttr K CV "table"
def WorAt(CV:rQ)(H:Hp)(o:rQ)(l:())(t:rQ)(rs:List rQ)(tab:List (List Int)):Prop:=∃dx,H o=AC (.ins CV dx [("letters",⇑l),("table",.ref t)])/\TabAt H t rs tab
def WorAt.same{CV:rQ}{H H':Hp}{o t:rQ}{l:()}{rs:List rQ}{tab:List (List Int)}(h:WorAt CV H o l t rs tab)(e:Same H H'):WorAt CV H' o l t rs tab:=by let#[dx,h1,h2]:=h;exact#[dx,e _ _ h1,h2.same e]
def TabAt.updI(hp:H p=AC (.ins C dx fs))(h:TabAt H t rs tab):TabAt (upd H p (.ins C dx gs)) t rs tab:=by
 refine#[?_,h.len,λi r x h1 h2=>?_]
 ·rw[zk (λe=>by have:=h.top;rw[e,hp]at this;cases this)];exact h.top
 ·have h3:=h.row i r x h1 h2;rw[zk (λe=>by rw[e,hp]at h3;cases h3)];exact h3
def uw(C CQ CV:rQ):Sp:=λvs H Q E=>∃(x dx a:rQ) (l:()) (rs:List rQ) (tab:List (List Int)),vs=[.ref x,⇑l,.ref a]/\l.length<=100/\tab.length<=100/\TabAt H a rs tab/\H x=AC (.ins CV dx [])/\(vm l=AF->E (.ref C) AD H)/\(vm l=AE->¬ xo l tab->E (.ref CQ) AD (upd H x (.ins CV dx [("letters",⇑l)]))) /\
 (vm l=AE->xo l tab->∀(t:rQ) (rs':List rQ) (H':Hp),(∀b o,b≠x->H b=AC o->H' b=AC o)->(∀r ∈ t::rs',H r=AD)->WorAt CV H' x l t rs' tab->Q .non H')
def km:sQz 3 ["self","letters","table"] wS:=by nofun
def Ze{f C CQ CV:rQ}{fd:rW}(B:Bt mg)(CLw:Kj K mg CV)(F:Fun K "__init__" "World.__init__" wS f fd)(lY:(2>>>"letters_of") ["text"] [] (xZ C))(pT:(1>>>"table_of") ["letters","table"] [] (uO CQ)):(4|||["self","letters","table"]) (uw C CQ CV):=by
 exists Fun.okX F km,0
 ·let#[x,dx,a,l,rs,tab,rfl,hl,htb,hT,hX,q1,q2,q3]:=h
  refine#[_,(zh (jN (pv 0) (clP hx lY hr .nil rfl (za (pv 1) ze)) rfl) (zf (jN (pv 0) (clP hx pT hr .nil rfl (za (pv 1) (za (pv 2) ze))) rfl))),?_]
  have s16:=yd;change vm l=AE/\H'=upd H x (.ins CV dx [("letters",⇑l)])/\σ=[!!x,~~~l,!!a]
  ·ac_rfl;exact#[l,rfl,⋯,λhg=>#[_,_,_,hX,CLw.cl,CLw.nl,∅,hg,rfl],λhg=>q1 hg]
  rintro σ H1 ⟨hg,rfl,rfl⟩:0;ac_rfl;refine#[l,a,rs,tab,rfl,⋯,htb,hT.updI hX,λhG t rs' H' s' t' f'=>?_,λhG=>q2 hg hG];have hX2:=s' _ _ (zc (H:=H) (a:=x) (o:=.ins CV dx [("letters",⇑l)]))
  have fr:∀r ∈ t::rs',H r=AD/\r≠x:=λr hr'=>by
   have h1:=f' r hr';have h2:r≠x:=λe=>by rw[e,zc]at h1;cases h1
   rw[zk h2]at h1;exact#[h1,h2]
  exact#[_,_,_,hX2,CLw.cl,CLw.nt,by show 1<1000;decide,q3 hg hG t rs' _ (λb o hb e=>by rw[zk hb];exact s' _ _ (by rw[zk hb];exact e)) (λr hr'=>(fr r hr').1) #[dx,zc,t'.updI hX2]]
def qj(CV:rQ):Sp:=λvs H Q Z=>∃(o t:rQ) (l:()) (rs:List rQ) (tab:List (List Int)),vs=[.ref o]/\WorAt CV H o l t rs tab/\Q (.int (tab.length:Nat)) H
def js:sQz 1 ["self"] wm:=by nofun
def jo(B:Bt mg)(CLw:Kj K mg CV)(F:Fun K "rooms" "World.rooms" wm f fd):(1&&&["self"]) (qj CV):=by
 exists F.ok js
 ·let#[o,t,l,rs,tab,rfl,hW,q]:=h;refine#[_,(zf (zm (zG B.len (vN (pv 0) rfl)))),?_];have s16:=yd
  rfl'
  let#[dx,ho,hT]:=hW;exact#[_,_,_,ho,CLw.cl,CLw.nt,_,rfl,_,.inl #[_,x4 hT.top,rfl],by rw[aa,hT.len];exact q]
def UK(h:WorAt CV H o l t rs tab)(q:Q (.int (tab.length:Nat)) H):qj CV [.ref o] H Q E:=#[o,t,l,rs,tab,rfl,h,q]
def Xd(l:())(tab:List (List Int))(r:Int)(c:Nat):Int:=(tab.getD r.toNat []).getD (l.idxOf c) 0
def wE(l:())(tab:List (List Int))(r:Int)(w:()):Int:=w.foldl (Xd l tab) r
def Qp(hG:xo l tab)(h0:0<=r)(h1:r<(tab.length:Int))(hc:c ∈ l):0<=Xd l tab r c/\Xd l tab r c<(tab.length:Int):=by have hx:tab[r.toNat]? = AC (tab[r.toNat]'⋯):=ak ⋯;generalize tab[r.toNat]'⋯=x at hx;have hm:=af hx;have hi:=bR hc;rw[<- hG.wd x hm]at hi;have hn:x[l.idxOf c]? = AC x[l.idxOf c]:=ak hi;unfold Xd;rw[am (l:=tab),hx,eN,am,hn,eN];exact hG.rm x hm _ (af hn)
theorem Xe(hG:xo l tab):∀{w:()} {r:Int},0<=r->r<(tab.length:Int)->(∀c ∈ w,c ∈ l)->0<=wE l tab r w/\wE l tab r w<(tab.length:Int)
 | [],r,h0,h1,_=>#[h0,h1]
 | c::w,r,h0,h1,hw=>by
  let#[a,b]:=Qp hG h0 h1 (hw c (by simp));exact Xe hG (w:=w) a b λx hx=>hw x (by simp [hx])
def ZH{w:()}(h:w[i]? = AC c):wE l tab r (w.take (i+1))=Xd l tab (wE l tab r (w.take i)) c:=by unfold wE;rw[zK h,List.foldl_append];rfl
def J6(hG:xo l tab){x:List Int}(hx:tab[r.toNat]? = AC x){c:Nat}(hc:c ∈ l):atI (x.map V.int) ((l.idxOf c:Nat):Int)=AC (.int (Xd l tab r c)):=by have hm:=af hx;have hi:=bR hc;rw[<- hG.wd x hm]at hi;have hn:x[l.idxOf c]? = AC x[l.idxOf c]:=ak hi;refine wF ?_;unfold Xd;rw[ax,hn,am (l:=tab),hx,eN,am,hn];rfl
def qw(CV:rQ):Sp:=λvs H Q Z=>∃(o t:rQ) (l:()) (rs:List rQ) (tab:List (List Int)) (r:Int) (w:()),vs=[.ref o,.int r,⇑w]/\WorAt CV H o l t rs tab/\xo l tab/\0<=r/\r<(tab.length:Int)/\(∀c ∈ w,c ∈ l)/\Q (.int (wE l tab r w)) H
def lZ:sQz 3 ["self","room","word","letter"] vC:=by nofun
def ZN(B:Bt mg)(CLw:Kj K mg CV)(F:Fun K "led" "World.led" vC f fd):(1&&&["self","room","word"]) (qw CV):=by
 exists F.ok lZ
 ·let#[o,t,l,rs,tab,r,w,rfl,hW,hG,h0,h1,hw,q]:=h
  refine#[_,(zx (zX p8 rfl (qW (pv 2)) (zq (i:=3) lZ.nd rfl (.inl rfl)) (zf (zC 1 lZ.nd (zi ix_list (zi ix_list (vN (pv 0) rfl) (pv 1)) (wV bd eY eZ U4 (vN (pv 0) rfl) (za (pv 3) ze)))))) (zf (zm (pv 1)))),?_]
  have s16:=yd
  rfl'
  let#[dx,ho,hT]:=hW;refine ForS.by (λi σ H'=>H'=H/\∃v3,σ=[!!o,AC (.int (wE l tab r (w.take i))),~~~w,v3]) #[rfl,AD,rfl] ?_ ?_
  ·refine nm4 ?_;rintro i c σ H' hc ⟨rfl,v3,rfl⟩:_;have hcl:=hw c (af hc);let#[a,b]:=Xe hG (w:=w.take i) h0 h1 λx hx=>hw x (cE hx);let#[r',x,e1,e2,e3]:=hT.get a b;right;ac_rfl;exact#[_,_,_,ho,CLw.cl,CLw.nt,_,rfl,_,rfl,_,x4 hT.top,_,e1,_,_,_,ho,CLw.cl,CLw.nl,_,rfl,trivial,_,rfl,_,ZY hcl,_,rfl,_,x4 e3,by rw[ZH hc];exact J6 hG e2 hcl]
  ·refine nmB ?_;rintro σ H' ⟨rfl,v3,rfl⟩:0
   rfl'
   rw[aD];exact q
def qi{w:()}(h:WorAt CV H o l t rs tab)(hG:xo l tab)(h0:0<=r)(h1:r<(tab.length:Int))(hw:∀c ∈ w,c ∈ l)(q:Q (.int (wE l tab r w)) H):qw CV [.ref o,.int r,⇑w] H Q E:=#[o,t,l,rs,tab,r,w,rfl,h,hG,h0,h1,hw,q]
def wU(l:())(tab:List (List Int))(u v:()):Option Nat:=(aQ tab.length).find? λr=>decide (wE l tab (r:Int) u≠wE l tab (r:Int) v)
def vO:Option Nat->V
 | none=>.non
 | some r=>.int (r:Nat)
def Z7{r:Nat}(h1:r<tab.length)(h2:wE l tab (r:Int) u≠wE l tab (r:Int) v)(h3:∀j:Nat,j<r->wE l tab (j:Int) u=wE l tab (j:Int) v):wU l tab u v=AC r:=by unfold wU;rw[List.find?_eq_some_iff_getElem];refine#[by simpa using h2,r,by simpa using h1,by simp,λj hj=>?_];simpa using h3 j hj
def ZK(h:∀j:Nat,j<tab.length->wE l tab (j:Int) u=wE l tab (j:Int) v):wU l tab u v=AD:=by unfold wU;rw[fL];intro j hj;simpa using h j ↥hj
def w9(CV:rQ):Sp:=λvs H Q Z=>∃(o t:rQ) (l:()) (rs:List rQ) (tab:List (List Int)) (u v:()),vs=[.ref o,⇑u,⇑v]/\WorAt CV H o l t rs tab/\xo l tab/\(∀c ∈ u,c ∈ l)/\(∀c ∈ v,c ∈ l)/\Q (vO (wU l tab u v)) H
def Yx(h:WorAt CV H o l t rs tab)(hG:xo l tab)(hu:∀c ∈ u,c ∈ l)(hv:∀c ∈ v,c ∈ l)(q:Q (vO (wU l tab u v)) H):w9 CV [.ref o,⇑u,⇑v] H Q E:=#[o,t,l,rs,tab,u,v,rfl,h,hG,hu,hv,q]
def mJ:sQz 3 ["self","one","other","room"] xE:=by nofun
def je(B:Bt mg)(CL:Kj K mg CV)(F:Fun K "parted" "World.parted" xE f fd)(M_world_rooms:DM P w K mg base CX0 1 CV "rooms" ["self"] (qj CV))(M_world_led:DM P w K mg base CX0 1 CV "led" ["self","room","word"] (qw CV)):(2&&&["self","one","other"]) (w9 CV):=by
 exists F.ok mJ
 ·let#[o,t,l,rs,tab,u,v,rfl,hW,hG,hu,hv,q]:=h
  refine#[_,(zx (zX p8 rfl (yB rfl B.range (za (me0 M_world_rooms CL.cl hr (pv 0)) ze)) (zq (i:=3) mJ.nd rfl (.inl rfl)) (zf (zI (zu uC (me1 M_world_led CL.cl hr (pv 0) (za (pv 3) (za (pv 1) ze))) (me1 M_world_led CL.cl hr (pv 0) (za (pv 3) (za (pv 2) ze))) (zw _)) (zf (zm (pv 3)))
     zo))) (zf (zm vx))),?_]
  have s16:=yd
  rfl'
  let#[dx,ho,hT]:=id hW;have hhi:=hG.hi;refine#[_,_,ho,rfl,UK hW ?_];refine#[_,rfl,⋯,⋯,ForR.by (λi σ H'=>H'=H/\(∀j:Nat,j<i->wE l tab (j:Int) u=wE l tab (j:Int) v)/\∃v3,σ=[!!o,~~~u,~~~v,v3]) #[rfl,λj h=>y4 h (bv j),AD,rfl] ?_ ?_]
  ·refine nm3 ?_;rintro i σ H' hi ⟨rfl,hb,v3,rfl⟩:_;have hi':i<tab.length:=⋯;have e0:(0:Int)+(i:Int)=(i:Int):=⋯;right;ac_rfl;refine#[_,_,ho,rfl,qi hW hG ⋯ ⋯ hu #[_,_,ho,rfl,qi hW hG ⋯ ⋯ hv ?_]];rw[e0];ac_rfl;refine yl (λh=>?_) λh j hj=>?_
   ·rw[Z7 hi' h hb]at q;exact q
   ·by_cases hj':j<i
    ·exact hb j hj'
    ·have:j=i:=⋯;rw[this];exact Decidable.not_not.mp h
  ·refine nmB ?_;rintro σ H' ⟨rfl,hb,v3,rfl⟩:0;ac_rfl;rw[ZK λj hj=>hb j ⋯]at q;exact q
def wq(l:())(tab:List (List Int)):List zF->Nat->Option (Nat × Nat)
 | [],_=>AD
 | p::ps,i=>match wU l tab p.1 p.2 with
  | some r=>AC (i,r)
  | none=>wq l tab ps (i+1)
theorem jK : ∀{ps:List zF} {i k:Nat} {p:zF},ps[i]? = AC p->(∀(j:Nat) (q:zF),j<i->ps[j]? = AC q->wU l tab q.1 q.2=AD)->∀r,wU l tab p.1 p.2=AC r->wq l tab ps k=AC (k+i,r)
 | q::ps,0,k,p,h,_,r,hr=>by
  cases h
  erw[wq,hr,Nat.add_zero]
 | q::ps,i+1,k,p,h,hb,r,hr=>by
  have h0:=hb 0 q ⋯ rfl
  erw[wq,h0]
  rw[jK (ps:=ps) (i:=i) (k:=k+1) h (λj q' hj e=>hb (j+1) q' ⋯ e) r hr];congr 2;lia
theorem jJ : ∀{ps:List zF} {k:Nat},(∀(j:Nat) (q:zF),ps[j]? = AC q->wU l tab q.1 q.2=AD)->wq l tab ps k=AD
 | [],_,_=>rfl
 | q::ps,k,hb=>by
  erw[wq,hb 0 q rfl]
  exact jJ λj q' e=>hb (j+1) q' e
def ur(K:rP)(CV:rQ):Sp:=λvs H Q Z=>∃(o t a:rQ) (l:()) (rs:List rQ) (tab:List (List Int)) (ps:List zF),vs=[.ref o,.ref a]/\LsA K H a (ps.map dR)/\WorAt CV H o l t rs tab/\xo l tab/\(∀p ∈ ps,(∀c ∈ p.1,c ∈ l)/\∀c ∈ p.2,c ∈ l) /\
 (wq l tab ps 0=AD->∀H',Same H H'->Q .non H')/\∀i r,wq l tab ps 0=AC (i,r)->∀p H',Same H H'->H' p=AC (.tup [.int (i:Nat),.int (r:Nat)])->Q (.ref p) H'
def ik:sQz 2 ["self","pacts","number","pact","room"] xJ:=by nofun
def qB(B:Bt mg)(CL:Kj K mg CV)(F:Fun K "broken" "World.broken" xJ f fd)(M_world_parted:DM P w K mg base CX0 2 CV "parted" ["self","one","other"] (w9 CV)):(3&&&["self","pacts"]) (ur K CV):=by
 exists F.ok ik
 ·let#[o,t,a,l,rs,tab,ps,rfl,hA,hW,hG,hp,q1,q2]:=h
  refine#[_,(zx (zX p8 rfl (yN rfl B.enum (za (pv 1) ze)) (xS (n:=2) rfl (zR (zq (i:=2) ik.nd rfl (.inl rfl)) (zR (zq (i:=3) ik.nd rfl (.inl rfl)) y8))) (zx (zC 4 ik.nd (me1 M_world_parted CL.cl hr (pv 0) (za (!-3) (za (!-3) ze)))) (zf (zI (zu op_notN' (pv 4) vx (zw _)) (zf (zm (zH (za (pv 2) (za (pv 4) ze)))))
     zo)))) (zf (zm vx))),?_]
  have s16:=yd
  rfl'
  let#[xs,hX,hI]:=id hA;have hXL:=hI.len;rw[aa]at hXL;refine#[#[_,x4 hX],ja3 (xs:=xs) (λi σ H'=>Same H H'/\(∀(j:Nat) (p:zF),j<i->ps[j]? = AC p->wU l tab p.1 p.2=AD)/\∃v2 v3 v4,σ=[!!o,!!a,v2,v3,v4]) #[x9 _,λj p h=>y4 h (bv j),_,_,_,rfl] ?_ ?_ ?_]
  ·rintro i σ H' _ ⟨hs,_⟩;exact x4 (hs _ _ hX)
  ·refine nmE ?_;rintro i x σ H' p hx ⟨hs,hb,v2,v3,v4,rfl⟩ hpn:_;let#[r,pr,hri,rfl,hqr]:=hI.getR hx;have hm:=hp r (af hri);have s2:=hs.trans (zd (o:=.tup [.int (i:Nat),.ref pr]) hpn);have hW2:=hW.same s2;let#[dx,ho,_]:=id hW2;have hq2:=zt s2 hqr;right;ac_rfl;refine#[_,x6 zc,rfl,_,_,rfl,_,_,rfl,rfl,_,_,ho,rfl,_,rfl,_,hq2,_,rfl,_,rfl,_,hq2,_,rfl,Yx hW2 hG hm.1 hm.2 ?_]
   cases e:wU l tab r.1 r.2 with
   | none =>
    erw[vO]
    ac_rfl;refine#[s2,λj p' hj hp'=>?_];by_cases hj':j<i
    ·exact hb j p' hj' hp'
    ·have:j=i:=⋯;rw[this,hri]at hp';cases hp';exact e
   | some z =>
    erw[vO]
    ac_rfl;have hbr:=jK (k:=0) hri hb z e;rw[fP]at hbr;exact#[⋯,λp3 hp3=>q2 i z hbr p3 _ (s2.trans (zd hp3)) zc]
  ·refine nmB ?_;rintro σ H' ⟨hs,hb,v2,v3,v4,rfl⟩:0;ac_rfl;exact q1 (jJ λj p' e=>hb j p' (by have:=(AJ.mp e).1;lia) e) H' hs
def qv(l:())(tab:List (List Int))(ps:List zF)(u v:()):Bool:=decide (wE l tab 0 u≠wE l tab 0 v) && (wq l tab ps 0).isNone
abbrev Qj(l:())(u:()):Prop:=∀c ∈ u,c ∈ l
abbrev InP(l:())(ps:List zF):Prop:=∀p ∈ ps,(∀c ∈ p.1,c ∈ l)/\∀c ∈ p.2,c ∈ l
def ka(K:rP)(CV:rQ):Sp:=λvs H Q Z=>∃(o t a:rQ) (l:()) (rs:List rQ) (tab:List (List Int)) (ps:List zF) (u v:()),vs=[.ref o,.ref a,⇑u,⇑v]/\LsA K H a (ps.map dR)/\WorAt CV H o l t rs tab/\xo l tab/\InP l ps/\Qj l u/\Qj l v/\∀H',Same H H'->Q (.bl (qv l tab ps u v)) H'
def Uv(h1:LsA K H a (ps.map dR))(h2:WorAt CV H o l t rs tab)(h3:xo l tab)(h4:InP l ps)(h5:Qj l u)(h6:Qj l v)(q:∀H',Same H H'->Q (.bl (qv l tab ps u v)) H'):ka K CV [.ref o,.ref a,⇑u,⇑v] H Q E:=#[o,t,a,l,rs,tab,ps,u,v,rfl,h1,h2,h3,h4,h5,h6,q]
def jm:sQz 4 ["world","pacts","one","other"] wf:=by nofun
def jt(B:Bt mg)(CL:Kj K mg CV)(F:("tells_apart"^^^wf))(M_world_led:DM P w K mg base CX0 1 CV "led" ["self","room","word"] (qw CV))(M_world_broken:DM P w K mg base CX0 3 CV "broken" ["self","pacts"] (ur K CV)):(4&&&["world","pacts","one","other"]) (ka K CV):=by
 exists F.ok jm
 ·let#[o,t,a,l,rs,tab,ps,u,v,rfl,hA,hW,hG,hp,hu,hv,q]:=h
  refine#[_,(zx (zI (zu yq (me1 M_world_led CL.cl hr (pv 0) (za zb (za (pv 2) ze))) (me1 M_world_led CL.cl hr (pv 0) (za zb (za (pv 3) ze))) (zw _)) (zf (zm yw))
    zo) (zf (zm (yn op_isN' (me1 M_world_broken CL.cl hr (pv 0) (za (pv 1) ze)) vx (zw _))))),?_]
  have s16:=yd
  rfl'
  let#[dx,ho,hT]:=id hW;have hlo:=hG.lo;refine#[_,_,ho,rfl,qi hW hG ⋯ ⋯ hu #[_,_,ho,rfl,qi hW hG ⋯ ⋯ hv ?_]]
  rfl'
  refine yl (λh=>?_) λh=>?_
  ·have e:qv l tab ps u v=AF:=by
    unfold qv;rw[y3 (λg=>g h)];rfl
   rw[e]at q;exact q _ (x9 _)
  ·have e:qv l tab ps u v=(wq l tab ps 0).isNone:=by
    unfold qv;rw[u9 h,di]
   rw[e]at q;refine#[_,_,ho,rfl,o,t,a,l,rs,tab,ps,rfl,hA,hW,hG,hp,λhb H' s'=>?_,λi r hb p H' s' hp'=>?_]
   ·rw[hb]at q;exact q H' s'
   ·rw[hb]at q;exact q H' s'
def wkL(rs:List zF):()->List Stp->List (())
 | w,[]=>[w]
 | w,s::ss=>w::((yg rs w s).map λw'=>wkL rs w' ss).getD []
def kH(rs:List zF)(w:())(ss:List Stp):(wkL rs w ss)[0]? = AC w:=by cases ss <;> rfl
theorem Ke(rs:List zF):∀(ss:List Stp) (w:()),(wkL rs w ss).length<=ss.length+1
 | [],w=>ah _
 | s::ss,w=>by
  erw[wkL,au]
  cases yg rs w s with
  | none=>simp
  | some w' =>
   have:=Ke rs ss w';show (wkL rs w' ss).length+1<=_;lia
theorem Kf(rs:List zF):∀(ss:List Stp) (w:()),∀i s v,ss[i]? = AC s->(wkL rs w ss)[i]? = AC v->(∀w',yg rs v s=AC w'->(wkL rs w ss)[i+1]? = AC w')/\(yg rs v s=AD->(wkL rs w ss).length=i+1)
 | [],w,i,s,v,h,_=>by simp at h
 | s::ss,w,0,s',v,h,hv=>by
  cases h;cases (kH rs w (s::ss)).symm.trans hv;refine#[λw' e=>?_,λe=>?_]
  ·erw[wkL,e]
   exact kH rs w' ss
  ·erw[wkL,e]
   rfl
 | s::ss,w,i+1,s',v,h,hv=>by
  erw[wkL]at hv ⊢
  cases e:yg rs w s with
  | none =>
   rw[e]at hv;cases hv
  | some w1 =>
   rw[e]at hv;let#[h1,h2]:=Kf rs ss w1 i s' v h hv;refine#[λw' e=>h1 w' e,λe=>?_];have:=h2 e;show (wkL rs w1 ss).length+1=_;lia
theorem W6(rs:List zF):∀(ss:List Stp) (w:()),((wkL rs w ss).length=ss.length+1->∃z,yk rs w ss=AC z/\∃ys,wkL rs w ss=ys ++ [z])/\((wkL rs w ss).length<=ss.length->yk rs w ss=AD)
 | [],w=>#[λZ=>#[w,rfl,[],rfl],λh=>by simp [wkL]at h]
 | s::ss,w=>by
  erw[wkL,yk]
  cases yg rs w s with
  | none=>exact#[λh=>by simp at h,λZ=>rfl]
  | some w1 =>
   let#[h1,h2]:=W6 rs ss w1;show ((w::wkL rs w1 ss).length=_->∃z,yk rs w1 ss=AC z/\∃ys,w::wkL rs w1 ss=ys ++ [z])/\((w::wkL rs w1 ss).length<=_->yk rs w1 ss=AD);rw[au,au];refine#[λh=>?_,λh=>h2 ⋯];let#[z,e1,ys,e2]:=h1 ⋯;exact#[z,e1,w::ys,by rw[e2];rfl]
theorem V7{rs:List zF}(ok:wN rs):∀(ss:List Stp) (w:()) (m:Nat),w.length+100 * ss.length<=m->∀v ∈ wkL rs w ss,v.length<=m
 | [],w,m,h,v,hv=>by
  rw[AL.mp hv];lia
 | s::ss,w,m,h,v,hv=>by
  erw[wkL]at hv
  rw[au]at h;rcases AM.mp hv with rfl | hv
  ·lia
  ·cases e:yg rs w s with
   | none=>rw[e]at hv;cases hv
   | some w1 =>
    rw[e]at hv;have:=ZE ok e;exact V7 ok ss w1 m ⋯ v hv
structure TNc(K:rP)(mg:rV->Option rR)(CU:rQ):Prop where
 xi:XI K CU
 g:mg "NoUse" = AC (.ref CU)
 s:bL K (.ref CU) (.ref CU)=AC AE
def qk(K:rP):Sp:=λvs H Q Z=>∃(a t:rQ) (rs:List zF) (u v:()) (ss:List Stp),vs=[.ref a,⇑u,⇑v,.ref t]/\LsA K H a (rs.map dR)/\wN rs/\LsA K H t (ss.map dSt)/\u.length+100 * ss.length<=900/\∀H',Same H H'->Q (.bl (decide (yk rs u ss=AC v))) H'
def Yk{a t:rQ}{rs:List zF}{u v:()}{ss:List Stp}{H:Hp}{Q:VK}{E:XK}(h1:LsA K H a (rs.map dR))(h2:wN rs)(h3:LsA K H t (ss.map dSt))(h4:u.length+100 * ss.length<=900)(q:∀H',Same H H'->Q (.bl (decide (yk rs u ss=AC v))) H'):qk K [.ref a,⇑u,⇑v,.ref t] H Q E:=#[a,t,rs,u,v,ss,rfl,h1,h2,h3,h4,q]
def Jt:sQz 4 ["pacts","one","other","steps"] Yr:=by nofun
def Q8{f CU:rQ}{fd:rW}(B:Bt mg)(TC:TNc K mg CU)(F:("leads"^^^Yr))(rf:Df P w K mg base (CXg P w) 5 "walked" ["pacts","word","steps"] [] (ZF K CU)):(6&&&["pacts","one","other","steps"]) (qk K):=by
 exists F.ok Jt
 ·let#[a,t,rs,u,v,ss,rfl,hR,ok,hT,hl,q]:=h;refine#[_,(zf (Zh (th:=(KL (tC (.bl AF)))) #[rfl,rfl] (zaP yq (zbD ix_list (zeI rf hr .nil rfl (za (pv 0) (za (pv 1) (za (pv 3) ze)))) (Uw ZB zb) (λZ Z=>rfl)) (pv 2)) rfl TC.g TC.xi.ok (λe=>(zf (zm yw))))),?_];have s16:=yd;have s16:=yd
  erw[We]
  ac_rfl;let#[e1,e2]:=W6 rs ss u;refine#[a,t,rs,u,ss,wkL rs u ss,rfl,hR.is,ok,hT.is,⋯,#[Ke rs ss u,Kf rs ss u],kH rs u ss,V7 ok ss u 900 hl,λh D H' hD s' hS=>?_,λh d H' hf=>?_]
  ·let#[z,e3,ys,e4]:=e1 h;refine#[_,rfl,_,x4 hS,⇑z,?_,?_]
   ·rw[e4,al];exact XS _ _
   ·have:=q H' s';rw[e3]at this
    have e:(decide (V.str (tx z)=V.str (tx v)))=decide (AC z=AC v):=by
     rw[decide_eq_decide];exact#[λh=>by rw[xP (V.str.inj h)],λh=>by rw[Option.some.inj h]]
    rw[<- e]at this;exact#[rfl,this]
  ·have:=q;rw[e2 h]at this;exact#[CU,rfl,TC.s,λx hx=>this _ (hf.2.1.trans (zd hx))]
def yL(k:Nat)(l:())(ns:List Int)(rs:List zF)(e:Ent):Bool:=z6 k l ns e.2.1 e.1 && decide (yk rs e.1 e.2.2=AC e.2.1)
def jU(K:rP)(CO CR CW:rQ):Sp:=λvs H Q Z=>∃(o a p s:rQ) (k:Nat) (l:()) (ns:List Int) (rs:List zF) (e:Ent),vs=[.ref o,.ref a,.ref p]/\OrdAt CO CR CW H o k l ns/\OG l ns k/\LsA K H a (rs.map dR)/\wN rs/\SqT K H p [⇑e.1,⇑e.2.1,.ref s]/\LsA K H s (e.2.2.map dSt)/\EB l e/\e.2.2.length<=8/\∀H',Same H H'->Q (.bl (yL k l ns rs e)) H'
def qY:sQz 3 ["order","pacts","entry"] xO:=by nofun
def qJ{f CO CR CW:rQ}{fd:rW}(B:Bt mg)(DBk:DB P w K mg base CO CR CW)(F:("entry_stands"^^^xO))(oS:(6<<<"leads") ["pacts","one","other","steps"] [] (qk K)):(7&&&["order","pacts","entry"]) (jU K CO CR CW):=by
 exists F.ok qY
 ·let#[o,a,p,s,k,l,ns,rs,e,rfl,ho,hG,hA,ok,hp,hs,hE,h8,q]:=h;refine#[_,(zf (zm (jS (zcN DBk hr (pv 0) (za (!-2) (za (!-2) ze))) (jY (cl0 oS hr .nil rfl (za (pv 1) (za (!-2) (za (!-2) (za (!-2) ze))))))))),?_];have s16:=yd;have ea:=hE.a;have eb:=hE.b;let#[C,dy,fs,hf,hoC,hn,_]:=ho.fam;have hn1:fs.lookup ("before" : rV)=AD:=hn _ ∅ ∅;ac_rfl;refine#[C,hf,dy,fs,hoC,hn1,_,hp,_,rfl,_,hp,_,rfl,o,k,l,ns,e.2.1,e.1,rfl,ho,hG,⋯,⋯,hE.mb,hE.ma,λH1 s1=>?_]
  cases hb:z6 k l ns e.2.1 e.1 with
  | false =>
   have:=q H1 s1;unfold yL at this;rw[hb]at this;exact#[_,rfl,zdt this]
  | true =>
   refine#[_,rfl,zcS #[_,zt s1 hp,_,rfl,_,zt s1 hp,_,rfl,_,zt s1 hp,_,rfl,Yk (hA.same s1) ok (hs.same s1) ⋯ λH2 s2=>?_]];have:=q H2 (s1.trans s2);unfold yL at this;rw[hb]at this;exact this
structure RE(ps:List zF)(v:()):Prop where
 ex:(goJ ps 4000 v).isSome=AE
 len:∀j,j<=4000->(wAt ps v j).length<=10000
def fm(ps:List zF)(v:()):():=zb2 ps 4000 v
def RE.at_{ps:List zF}{v:()}(h:RE ps v):∃J,goJ ps 4000 v=AC J/\Rd ps v J/\zN (wAt ps v J) ps=AD/\J<=4000/\fm ps v=wAt ps v J:=by let#[J,e]:=AS.mp h.ex;let#[h1,h2,h3]:=Xx e;refine#[J,e,#[h2,λj hj=>h.len j ⋯,⋯],h3,h1,?_];unfold fm zb2;rw[e];rfl
def RE.fm_of{ps:List zF}{v:()}(h:RE ps v){j:Nat}(h1:kF ps v j)(h2:zN (wAt ps v j) ps=AD):wAt ps v j=fm ps v:=by let#[J,_,a,b,_,e]:=h.at_;rw[e,XV h1 h2 a.live b]
def Wi(ps:List zF):Bool:=(ovA ps ps.length).all (Vg ps 4000)
def PkR(ps:List zF):Prop:=∀t ∈ ovA ps ps.length,RE ps (pkA ps t)/\RE ps (pkB ps t)
structure TMl(mg:rV->Option rR):Prop where
 m:∃t,mg "MOST_LOOKED_AT" = AC (.int 4000 t)
def uk(K:rP):Sp:=λvs H Q Z=>∃(r:rQ) (ps:List zF),vs=[.ref r]/\LsA K H r (ps.map dR)/\NeL ps/\wN ps/\(ovA ps ps.length).length<=4000/\PkR ps/\∀H',Same H H'->Q (.bl (Wi ps)) H'
def YR{r:rQ}{ps:List zF}{H:Hp}{Q:VK}{E:XK}(h1:LsA K H r (ps.map dR))(h2:NeL ps)(h3:wN ps)(h4:(ovA ps ps.length).length<=4000)(h5:PkR ps)(q:∀H',Same H H'->Q (.bl (Wi ps)) H'):uk K [.ref r] H Q E:=#[r,ps,rfl,h1,h2,h3,h4,h5,q]
def mN:sQz 1 ["rules","forms","overlap"] ul:=by nofun
def Y0{f CF:rQ}{fd:rW}(B:Bt mg)(TL:TMl mg)(F:("all_meet"^^^ul))(pV:(2<<<"overlaps") ["rules"] [] (vD K))(rg:(6>>>"is_met") ["rules","overlap","most","forms"] [] (Wd P w K CF)):(7|||["rules"]) (uk K):=by
 let#[t9,g9]:=TL.m
 exists Fun.okX F mN,0
 ·let#[r,ps,rfl,hA,hN,hok,hlen,hE,q]:=h
  refine#[_,(zh (zC 1 mN.nd zal) (zh (zX PassesOwn.leaving rfl (ya (cl0 pV hr .nil rfl (za (pv 0) ze))) (zq (i:=2) mN.nd rfl (.inl rfl)) (zf (zI (yv (xH (clP hx rg hr .nil rfl (za (pv 0) (za (pv 2) (za (ug (v:=.int 4000) rfl g9 #[t9,rfl]) (za (pv 1) ze))))) (λZ=>rfl))) (zf (zm yw))
     zo))) (zf (zm yw)))),?_]
  have s16:=yd;change Same H H'/\∃F:rQ,H F=AD/\H' F=AC (jM P w F (λZ=>AD) 0)/\σ=[!!r,!!F,AD]
  ·rfl'
   erw[zb1]
   intro F hF;exact#[zd hF,F,hF,zc,rfl]
  rintro σ H2 ⟨s2,F,hF0,hF,rfl⟩:_;have hA2:=hA.same s2;right
  refine J3 (λσ H'=>Same H H'/\(∀t ∈ ovA ps ps.length,Vg ps 4000 t=AE)) ?_ λσ H' s'=>by
   rfl'
   have e:Wi ps=AE:=AQ.mpr s'.2;have:=q H' s'.1;rw[e]at this;exact this
  rfl'
  refine Yj hA2.is hok λO H3 hO s3 hL=>#[O,rfl,?_];let#[xs,hX,hI]:=hL;have hxl:=hI.len;rw[aa]at hxl;have hF3:=s3 _ _ hF;have s03:=s2.trans s3;have hOF:O≠F:=λz=>by rw[z,hF3]at hX;cases hX
  have back:∀{G:Hp},SamT F H3 G->Same H G:=λ{G} sT b o' e=>sT b o' (λz=>by rw[z,hF0]at e;cases e) (s03 b o' e);refine#[#[_,x4 hX],ja2 (xs:=xs) (λi σ H'=>SamT F H3 H'/\(∃(mp:rV->Option V) (n:Nat),H' F=AC (jM P w F mp n)/\FmOk ps 4000 mp/\n<=2 * i)/\(∀t ∈ (ovA ps ps.length).take i,Vg ps 4000 t=AE)/\∃v2,σ=[!!r,!!F,v2]) #[ja0 (x9 _),#[_,0,hF3,FmOk.nil,⋯],λt ht=>by simp at ht,AD,rfl] (λi σ H' Z h=>x4 (h.1 _ _ hOF hX)) ?_ ?_]
  ·refine nm4 ?_;rintro i x σ H' hx ⟨sT,⟨mp,n,hFm,hM,hn⟩,hle,v2,rfl⟩:_;have hil:=(AJ.mp hx).1;let#[t,p,ht,rfl,hp]:=hI.get3 hx;have htm:=af ht;let#[hE1,hE2]:=hE t htm;let#[J1,g1,_]:=hE1.at_;let#[J2,g2,_]:=hE2.at_;right
   rfl'
   refine#[r,p,F,ps,t,4000,n,mp,_,_,rfl,Wr sT hF3 (hA2.same s3),hN,hok,ZZ sT hF3 hp,htm,hFm,hM,⋯,V2 (m:=4000) hE1.len ⋯,V2 (m:=4000) hE2.len ⋯,λJ1 J2 mp' n' H5 e1 e2 s5 hF5 hM5 hn5=>?_,λh H5 s5=>?_]
   ·rw[zag e1 e2];refine#[_,rfl,?_]
    cases hb:Vg ps 4000 t with
    | false =>
     rw[y6 rfl]
     have e:Wi ps=AF:=by
      unfold Wi;rw[List.all_eq_false];exact#[t,htm,by rw[hb];decide]
     have:=q H5 (back (sT.trans s5));rw[e]at this;exact this
    | true =>
     rw[y9 ∅];refine#[sT.trans s5,#[mp',n',hF5,hM5,⋯],λt' ht'=>?_];rw[zK ht]at ht';rcases AK.mp ht' with h | h
     ·exact hle t' h
     ·rw[AL.mp h];exact hb
   ·rw[g1,g2]at h;rcases h with h | h <;> cases h
  ·refine nmB ?_;rintro σ H' ⟨sT,_,hle,v2,rfl⟩:_;rw[hxl,aD]at hle;right;exact#[back sT,hle]
def qO{H:Hp}{p:rQ}{x y:()}(h:H p=AC (.tup [⇑x,⇑y])):Is K H (.tup [⇑x,⇑y]) (.ref p):=by
 erw[Is,Iss]
 exact#[_,_,rfl,x6 h,_,_,rfl,rfl,_,_,rfl,rfl,rfl]
def Uu(a b c d:()):qd [⇑a,⇑b] [⇑c,⇑d]=decide (a=c/\b=d):=by
 erw[qd,eqD,cy]
 rw[Bool.decide_and];congr 1 <;> rw[cJ,beq_iff_eq,decide_eq_true_eq] <;> exact#[λh=>xP h,λh=>by rw[h]]
def vM{CH y o q:rQ}{ps:List zF}{l:()}{H:Hp}{Q:VK}{E:XK}(h1:SysAt K CH H y o q ps)(h2:NeL ps)(h3:wN ps)(h4:RE ps l)(k:∀H',Same H H'->Q ⇑(fm ps l) H'):qg K CH [.ref y,⇑l] H Q E:=by let#[J,_,a,b,c,e]:=h4.at_;rw[e]at k;exact#[y,o,q,l,ps,J,rfl,h1,h2,by have:=h3.1;lia,λp hp=>by have:=h3.2 p hp;lia,a,b,c,k]
def yU(ps rs:List zF)(u v x y:()):Bool:=decide (fm ps u=x/\fm ps v=y) && (rs.all (λr=>decide (fm ps r.1=fm ps r.2)) && (decide (x≠y) && Wi ps))
structure Y1(ps rs:List zF)(u v:()):Prop where
 u:RE ps u
 v:RE ps v
 p:∀r ∈ rs,RE ps r.1/\RE ps r.2
 k:PkR ps
def qR(K:rP)(CH:rQ):Sp:=λvs H Q Z=>∃(y o q a f D:rQ) (ps rs:List zF) (u v x z:()),vs=[.ref y,.ref a,⇑u,⇑v,.ref f]/\SysAt K CH H y o q ps/\NeL ps/\wN ps/\(ovA ps ps.length).length<=4000/\LsA K H a (rs.map dR)/\H f=AC (.tup [.str "forms",.ref D,⇑x,⇑z])/\Y1 ps rs u v/\∀H',Same H H'->Q (.bl (yU ps rs u v x z)) H'
def WT{CH y o q a f D:rQ}{ps rs:List zF}{u v x z:()}{H:Hp}{Q:VK}{E:XK}(h1:SysAt K CH H y o q ps)(h2:NeL ps)(h3:wN ps)(h4:(ovA ps ps.length).length<=4000)(h5:LsA K H a (rs.map dR))(h6:H f=AC (.tup [.str "forms",.ref D,⇑x,⇑z]))(h7:Y1 ps rs u v)(k:∀H',Same H H'->Q (.bl (yU ps rs u v x z)) H'):qR K CH [.ref y,.ref a,⇑u,⇑v,.ref f] H Q E:=#[y,o,q,a,f,D,ps,rs,u,v,x,z,rfl,h1,h2,h3,h4,h5,h6,h7,k]
def mS:sQz 5 ["system","pacts","one","other","answer","pact"] wg:=by nofun
def jv{f CH:rQ}{fd:rW}(B:Bt mg)(TS:za9 K mg CH)(F:("forms_agree"^^^wg))(pW:(7>>>"all_meet") ["rules"] [] (uk K))(M_system_shortest:DM P w K mg base (CXx P w) 5 CH "shortest" ["self","word"] (qg K CH))(M_system_rules_told:DM P w K mg base CX0 1 CH "rules_told" ["self"] (j9 K CH)):(8|||["system","pacts","one","other","answer"]) (qR K CH):=by
 exists Fun.okX F mS,0
 ·let#[y,o,q,a,f,D,ps,rs,u,v,x,z,rfl,hy,hN,hok,hlen,hA,hf,hRo,k]:=h
  refine#[_,(zh (zI (zu (Vc (wl hr)) (zH (za (zcD hx M_system_shortest TS.cl hr (pv 0) (za (pv 2) ze)) (za (zcD hx M_system_shortest TS.cl hr (pv 0) (za (pv 3) ze)) ze))) (zH (za (!-4) (za (!-4) ze))) (zw _)) (zf (zm yw))
    zo) (zh (zX PassesOwn.leaving rfl (ya (pv 1)) (zq (i:=5) mS.nd rfl (.inl rfl)) (zf (zI (zu uC (zcD hx M_system_shortest TS.cl hr (pv 0) (za (!-5) ze)) (zcD hx M_system_shortest TS.cl hr (pv 0) (za (!-5) ze)) (zw _)) (zf (zm yw))
     zo))) (zf (zm (jS (yn uC (!-4) (!-4) (zw _)) (jY (clP hx pW hr .nil rfl (za (me0 M_system_rules_told TS.cl hr (pv 0)) ze)))))))),?_]
  have s16:=yd;let#[dx,xs0,h1,h2,h3]:=id hy;change Same H H'/\(fm ps u=x/\fm ps v=z)/\σ=[!!y,!!a,~~~u,~~~v,!!f,AD]
  ·ac_rfl;refine#[_,_,h1,rfl,vM hy hN hok hRo.u λHa sa=>#[_,_,sa _ _ h1,rfl,vM (hy.same sa) hN hok hRo.v λHb sb=>#[⋯,λp hp=>?_]]];have sab:=sa.trans sb;have sp:=zd (o:=.tup [⇑(fm ps u),⇑(fm ps v)]) hp;have hf2:=sp _ _ (sab _ _ hf);refine#[_,x6 hf2,_,rfl,_,x6 hf2,_,rfl,⋯,λp1 hp1=>?_];have sp1:=zd (o:=.tup [⇑x,⇑z]) hp1;refine YN (.inr #[qO (sp1 _ _ zc),qO zc]) (by erw[wv,dpD];decide) #[_,rfl,?_];rw[Uu];refine yl (λh=>?_) λh=>#[sab.trans (sp.trans sp1),by simpa using h]
   have e:yU ps rs u v x z=AF:=by
    unfold yU;rw[y3 (λg=>by rw[u9 g]at h;cases h)];rfl
   rw[e]at k;exact k _ (sab.trans (sp.trans sp1))
  rintro σ H1 ⟨s1,hfm,rfl⟩:_;have hA1:=hA.same s1;let#[xs,hX,hI]:=id hA1;have hxl:=hI.len;rw[aa]at hxl;right;change Same H H'/\(∀r ∈ rs,fm ps r.1=fm ps r.2)/\∃v5,σ=[!!y,!!a,~~~u,~~~v,!!f,v5]
  ·ac_rfl;refine#[#[_,x4 hX],ja2 (xs:=xs) (λi σ H'=>Same H1 H'/\(∀r ∈ rs.take i,fm ps r.1=fm ps r.2)/\∃v5,σ=[!!y,!!a,~~~u,~~~v,!!f,v5]) #[x9 _,λr h=>(nomatch h),AD,rfl] (λi σ H' Z h=>x4 (h.1 _ _ hX)) ?_ ?_]
   ·refine nm4 ?_;rintro i xx σ H' hx ⟨s',hr',v5,rfl⟩:_;let#[r,p,hr,rfl,hsq]:=hI.getR hx;have hrm:=af hr;let#[e1,e2]:=hRo.p r hrm;have s1':=s1.trans s';have hq:=zt s' hsq;right;ac_rfl;refine#[_,_,s1' _ _ h1,rfl,_,hq,_,rfl,vM (hy.same s1') hN hok e1 λHa sa=>#[_,_,(s1'.trans sa) _ _ h1,rfl,_,zt sa hq,_,rfl,vM (hy.same (s1'.trans sa)) hN hok e2 λHb sb=>#[rfl,yl (λh=>?_) λh=>#[s'.trans (sa.trans sb),λr2 hr2=>?_]]]]
    ·have e:yU ps rs u v x z=AF:=by
      unfold yU;rw[show rs.all (λr=>decide (fm ps r.1=fm ps r.2))=AF from Ba.mpr #[r,hrm,by rw[decide_eq_true_eq];exact λg=>h (by rw[g])],d6,bM]
     rw[e]at k;exact k _ (s1'.trans (sa.trans sb))
    ·rw[zK hr]at hr2;rcases AK.mp hr2 with g | g
     ·exact hr' r2 g
     ·rw[AL.mp g];exact xP (V.str.inj (Classical.not_not.mp h))
   ·refine nmB ?_;rintro σ H' ⟨s',hr',v5,rfl⟩:_;rw[hxl,aD]at hr';right;exact#[s1.trans s',hr',v5,rfl]
  rintro σ H2 ⟨s2,hfr,v5,rfl⟩:_;have hf2:=s2 _ _ hf
  have ea:yU ps rs u v x z=(decide (x≠z) && Wi ps):=by
   unfold yU;rw[u9 hfm,show rs.all (λr=>decide (fm ps r.1=fm ps r.2))=AE from AQ.mpr λr hr=>u9 (hfr r hr)];rfl
  rw[ea]at k;right;ac_rfl;refine#[_,x6 hf2,_,rfl,_,x6 hf2,_,rfl,rfl,yl (λh=>#[_,_,s2 _ _ h1,rfl,y,o,q,ps,rfl,hy.same s2,λr H3 s3 hA3 Z=>YR hA3 hN hok hlen hRo.k λH4 s4=>?_]) λh=>?_]
  ·have:=k H4 (s2.trans (s3.trans s4));rw[show decide (x≠z)=AE from u9 λg=>h (by rw[g])]at this;exact this
  ·have:=k H2 s2;rw[show decide (x≠z)=AF from y3 λg=>g (xP (V.str.inj (Classical.not_not.mp h)))]at this;exact this
def xl(k:Nat)(l:())(ns:List Int)(rs:List zF)(es:List Ent)(u v x z:()):Bool:=es.all (yL k l ns rs) && yU (zA es) rs u v x z
structure PapF(k:Nat)(l:())(ns:List Int)(rs:List zF)(es:List Ent)(u v:()):Prop where
 n:es.length<=30
 e:∀e ∈ es,EB l e/\e.2.2.length<=8
 o:(ovA (zA es) (zA es).length).length<=4000
 r:(∀e ∈ es,z6 k l ns e.2.1 e.1=AE)->Y1 (zA es) rs u v
def PapF.bg{k:Nat}{l:()}{ns:List Int}{rs:List zF}{es:List Ent}{u v:()}(h:PapF k l ns rs es u v)(hl:∀e ∈ es,z6 k l ns e.2.1 e.1=AE):BG k l ns es:=#[by have:=h.n;lia,λe he=>(h.e e he).1,hl]
def PapF.rsok{k:Nat}{l:()}{ns:List Int}{rs:List zF}{es:List Ent}{u v:()}(h:PapF k l ns rs es u v):wN (zA es):=by refine#[by rw[xY];exact h.n,λp hp=>?_];let#[e,he,rfl]:=AN.mp hp;have:=(h.e e he).1.a;have:=(h.e e he).1.b;exact#[by show e.1.length<=100;lia,by show e.2.1.length<=100;lia]
structure TFx(K:rP)(CF:rQ):Prop where
 s:bL K (.ref CF) (.ref CF)=AC AE
def Z6(K:rP)(CO CR CW:rQ):Sp:=λvs H Q Z=>∃(o a f D:rQ) (k:Nat) (l:()) (ns:List Int) (rs:List zF) (es:List Ent) (u v x z:()),vs=[.ref o,.ref a,⇑u,⇑v,.ref f]/\OrdAt CO CR CW H o k l ns/\OG l ns k/\LsA K H a (rs.map dR)/\wN rs/\H f=AC (.tup [.str "forms",.ref D,⇑x,⇑z])/\EnsM K H D es/\PapF k l ns rs es u v/\∀H',Same H H'->Q (.bl (xl k l ns rs es u v x z)) H'
def mT:sQz 5 ["order","pacts","one","other","answer","entry"] wa:=by nofun
def jx{f CO CR CW CF CH:rQ}{fd:rW}(B:Bt mg)(TFx:zee K mg CF)(F:("forms_stand"^^^wa))(pi:(8>>>"forms_agree") ["system","pacts","one","other","answer"] [] (qR K CH))(oU:(7<<<"entry_stands") ["order","pacts","entry"] [] (jU K CO CR CW))(pP:(7<<<"system_by") ["order","entries"] [] (X2 K CO CR CW CH)):(9&&&["order","pacts","one","other","answer"]) (Z6 K CO CR CW):=by
 exists F.ok mT
 ·let#[o,a,f,D,k,l,ns,rs,es,u,v,x,z,rfl,ho,hG,hA,ok,hf,hD,hE,q]:=h
  refine#[_,(zh (zX p8 rfl (ya (!-4)) (zq (i:=5) mT.nd rfl (.inl rfl)) (zf (zI (yv (xH (cl0 oU hr .nil rfl (za (pv 0) (za (pv 1) (za (pv 5) ze)))) (λZ=>rfl))) (zf (zm yw))
     zo))) (zf (Zh (th:=(KL (tC (.bl AF)))) #[rfl,rfl] (clX pi hr .nil rfl (za (cl0 pP hr .nil rfl (za (pv 0) (za (!-4) ze))) (za (pv 1) (za (pv 2) (za (pv 3) (za (pv 4) ze)))))) rfl TFx.g TFx.xi.ok (λe=>(zf (zm yw)))))),?_]
  have s16:=yd;let#[xs,hX,hI]:=id hD;have hxl:=hI.len;change Same H H'/\(∀e ∈ es,yL k l ns rs e=AE)/\∃v5,σ=[!!o,!!a,~~~u,~~~v,!!f,v5]
  ·rfl'
   refine#[_,x6 hf,_,rfl,D,rfl,#[_,x4 hX],ja2 (xs:=xs) (λi σ H'=>Same H H'/\(∀e ∈ es.take i,yL k l ns rs e=AE)/\∃v5,σ=[!!o,!!a,~~~u,~~~v,!!f,v5]) #[x9 _,λe h=>(nomatch h),AD,rfl] (λi σ H' Z h=>x4 (h.1 _ _ hX)) ?_ ?_]
   ·refine nm4 ?_;rintro i y σ H1 hy ⟨s1,hst,v5,rfl⟩:_;let#[e,pe,se,hei,rfl,hqe,hse]:=hI.get hy;have hem:=af hei;let#[b1,b2]:=hE.e e hem;right
    rfl'
    refine#[o,a,pe,se,k,l,ns,rs,e,rfl,ho.same s1,hG,hA.same s1,ok,zt s1 hqe,hse.same s1,b1,b2,λH2 s2=>#[_,rfl,?_]]
    cases hb:yL k l ns rs e with
    | false =>
     have e0:xl k l ns rs es u v x z=AF:=by
      unfold xl;rw[show es.all (yL k l ns rs)=AF from Ba.mpr #[e,hem,by rw[hb];decide]];rfl
     rw[y6 rfl];rw[e0]at q;exact q _ (s1.trans s2)
    | true =>
     rw[y9 ∅];refine#[s1.trans s2,λe2 he2=>?_];rw[zK hei]at he2;rcases AK.mp he2 with g | g
     ·exact hst e2 g
     ·rw[AL.mp g];exact hb
   ·refine nmB ?_;rintro σ H1 ⟨s1,hst,v5,rfl⟩:_;rw[hxl,aD]at hst;right;exact#[s1,hst,v5,rfl]
  rintro σ H1 ⟨s1,hst,v5,rfl⟩:_
  have hlt:∀e ∈ es,z6 k l ns e.2.1 e.1=AE:=λe he=>by
   have:=hst e he;unfold yL at this;exact (Bool.and_eq_true_iff.mp this).1
  have e0:xl k l ns rs es u v x z=yU (zA es) rs u v x z:=by
   unfold xl;rw[show es.all (yL k l ns rs)=AE from AQ.mpr hst];rfl
  rw[e0]at q;have hB:=hE.bg hlt;have hf1:=s1 _ _ hf;right
  erw[We]
  rfl'
  exact#[_,x6 hf1,_,rfl,o,D,k,l,ns,es,rfl,ho.same s1,hG,(hD.same s1).l,hB,λy qa H2 s2 hy=>WT hy (hB.ne hG) hE.rsok hE.o (hA.same (s1.trans s2)) (s2 _ _ hf1) (hE.r hlt) λH3 s3=>q H3 ((s1.trans s2).trans s3)]
def jw(l:())(tab:List (List Int)):Bool:=decide (1<=tab.length/\tab.length<=8/\∀x ∈ tab,x.length=l.length/\∀n ∈ x,0<=n/\n<(tab.length:Int))
def goodT_iff{l:()}{tab:List (List Int)}:jw l tab=AE ↔ xo l tab:=by unfold jw;rw[decide_eq_true_eq];exact#[λh=>#[h.1,h.2.1,λx hx=>(h.2.2 x hx).1,λx hx=>(h.2.2 x hx).2],λh=>#[h.lo,h.hi,λx hx=>#[h.wd x hx,h.rm x hx]]]
structure TQc(K:rP)(mg:rV->Option rR)(CQ:rQ):Prop where
 xi:XI K CQ
 g:mg "NoWorld" = AC (.ref CQ)
 s:bL K (.ref CQ) (.ref CQ)=AC AE
def Z0(K:rP):Sp:=λvs H Q Z=>∃(a t:rQ) (l:()) (ra:List rQ) (tab:List (List Int)) (rs:List zF) (u v:()),vs=[⇑l,.ref a,⇑u,⇑v,.ref t]/\vm l=AE/\LsA K H a (rs.map dR)/\TabAt H t ra tab/\tab.length<=100/\InP l rs/\Qj l u/\Qj l v/\∀H',Same H H'->Q (.bl (jw l tab && qv l tab rs u v)) H'
def qH:sQz 5 ["letters","pacts","one","other","table"] xK:=by nofun
def ji{f C CQ CV:rQ}{fd:rW}(B:Bt mg)(CLw:Kj K mg CV)(TQ:TQc K mg CQ)(F:("world_stands"^^^xK))(pj:(4<<<"tells_apart") ["world","pacts","one","other"] [] (ka K CV))(M_world_init:DMk P w K mg base (CXx P w) 4 CV ["self","letters","table"] (uw C CQ CV)):(6&&&["letters","pacts","one","other","table"]) (Z0 K):=by
 exists F.ok qH
 ·let#[a,t,l,ra,tab,rs,u,v,rfl,hg,hA,hT,htl,hp,hu,hv,q]:=h;refine#[_,(zf (Zh (th:=(KL (tC (.bl AF)))) #[rfl,rfl] (UF pj hr rfl (Jn M_world_init hr rfl CLw.g (za (pv 0) (za (pv 4) ze))) (za (pv 1) (za (pv 2) (za (pv 3) ze)))) rfl TQ.g TQ.xi.ok (λe=>(zf (zm yw))))),?_];have s16:=yd;let#[g1,g6,_,_]:=u6 hg
  erw[We]
  ac_rfl;intro x dx hx hdx hne;have sd:=zd (o:=.own x) hdx
  have k1:Same H (upd (upd H dx (.own x)) x (.ins CV dx [])):=λb o' e=>by
   rw[zk (zD e hx)];exact sd _ _ e
  refine#[x,dx,t,l,ra,tab,rfl,⋯,htl,hT.same k1,zc,(λh=>by rw[hg]at h;cases h),λZ hb=>#[CQ,rfl,TQ.s,λy hy=>?_],λZ hG t' rs' H' kp fr hW=>#[rfl,?_]]
  ·have e:jw l tab=AF:=by
    rw[dC];exact λh=>hb (goodT_iff.mp h)
   rw[e]at q;refine q _ (Same.trans (λb o' e=>?_) (zd hy));rw[zk (zD e hx)];exact k1 _ _ e
  ·have k3:Same H H':=λb o' e=>kp b o' (zD e hx) (k1 _ _ e);rw[goodT_iff.mpr hG]at q;exact Uv (hA.same k3) hW hG hp hu hv λH2 s2=>q H2 (k3.trans s2)
inductive Ans where
 | alike (ss:List Stp)
 | forms (es:List Ent) (x z:())
 | world (tab:List (List Int))
 | open_
def AnsAt(K:rP)(H:Hp)(f:rQ):Ans->Prop
 | .alike ss=>∃S,H f=AC (.tup [.str "alike",.ref S])/\LsA K H S (ss.map dSt)
 | .forms es x z=>∃D,H f=AC (.tup [.str "forms",.ref D,⇑x,⇑z])/\EnsM K H D es
 | .world tab=>∃t ra,H f=AC (.tup [.str "world",.ref t])/\TabAt H t ra tab
 | .open_=>H f=AC (.tup [.str "open"])
theorem AnsAt.same{H H':Hp}{f:rQ}{an:Ans}(h:AnsAt K H f an)(s:Same H H'):AnsAt K H' f an:=by
 cases an with
 | alike ss=>let#[S,h1,h2]:=h;exact#[S,s _ _ h1,h2.same s]
 | forms es x z=>let#[D,h1,h2]:=h;exact#[D,s _ _ h1,h2.same s]
 | world tab=>let#[t,ra,h1,h2]:=h;exact#[t,ra,s _ _ h1,h2.same s]
 | open_=>exact s _ _ h
def zbR(k:Nat)(l:())(ns:List Int)(rs:List zF)(u v:()):Ans->Prop
 | .alike ss=>u.length+100 * ss.length<=900
 | .forms es _ _=>PapF k l ns rs es u v
 | .world tab=>tab.length<=100/\InP l rs/\Qj l u/\Qj l v
 | .open_=>True
def uo(k:Nat)(l:())(ns:List Int)(rs:List zF)(u v:()):Ans->Bool
 | .alike ss=>decide (yk rs u ss=AC v)
 | .forms es x z=>xl k l ns rs es u v x z
 | .world tab=>jw l tab && qv l tab rs u v
 | .open_=>AE
def qT(K:rP)(CO CR CW:rQ):Sp:=λvs H Q Z=>∃(o a f:rQ) (k:Nat) (l:()) (ns:List Int) (rs:List zF) (u v:()) (an:Ans),vs=[.ref o,.ref a,⇑u,⇑v,.ref f]/\OrdAt CO CR CW H o k l ns/\OG l ns k/\LsA K H a (rs.map dR)/\wN rs/\AnsAt K H f an/\zbR k l ns rs u v an/\∀H',Same H H'->Q (.bl (uo k l ns rs u v an)) H'
def Vt:sQz 5 ["order","pacts","one","other","answer"] ke:=by nofun
def UD{f CO CR CW:rQ}{fd:rW}(B:Bt mg)(TO:TOrd K mg CO CR CW)(F:("stands"^^^ke))(oS:(6<<<"leads") ["pacts","one","other","steps"] [] (qk K))(pk:(9<<<"forms_stand") ["order","pacts","one","other","answer"] [] (Z6 K CO CR CW))(oV:(6<<<"world_stands") ["letters","pacts","one","other","table"] [] (Z0 K)):(10&&&["order","pacts","one","other","answer"]) (qT K CO CR CW):=by
 exists F.ok Vt
 ·let#[o,a,f,k,l,ns,rs,u,v,an,rfl,ho,hG,hA,ok,hf,hE,q]:=h
  refine#[_,(zx (zI (zu yq (!-4) z8 (zw _)) (zf (zm (cl0 oS hr .nil rfl (za (pv 1) (za (pv 2) (za (pv 3) (za (!-4) ze)))))))
    zo) (zx (zI (zu yq (!-4) z8 (zw _)) (zf (zm (cl0 pk hr .nil rfl (za (pv 0) (za (pv 1) (za (pv 2) (za (pv 3) (za (pv 4) ze))))))))
    zo) (zx (zI (zu yq (!-4) z8 (zw _)) (zf (zm (cl0 oV hr .nil rfl (za (vN (pv 0) rfl) (za (pv 1) (za (pv 2) (za (pv 3) (za (!-4) ze))))))))
    zo) (zf (zm yw))))),?_]
  have s16:=yd;let#[C,dy,fs,hfa,ho1,_,hlk]:=ho.fam
  have hC:Cls K C/\NoAttr K C "letters":=by
   rcases hfa with rfl | rfl | rfl
   ·exact#[TO.cO,TO.lO]
   ·exact#[TO.cR,TO.lR]
   ·exact#[TO.cW,TO.lW]
  rfl'
  cases an with
  | alike ss =>
   let#[S,h1,h2]:=hf;refine#[_,x6 h1,_,rfl,rfl,?_];rw[y6 rfl];exact#[_,x6 h1,_,rfl,Yk hA ok h2 hE q]
  | forms es x z =>
   let#[D,h1,h2]:=hf;refine#[_,x6 h1,_,rfl,rfl,?_];rw[y9 ∅];refine#[_,x6 h1,_,rfl,rfl,?_];rw[y6 rfl];exact#[o,a,f,D,k,l,ns,rs,es,u,v,x,z,rfl,ho,hG,hA,ok,h1,h2,hE,q]
  | world tab =>
   let#[t,ra,h1,h2]:=hf;let#[e1,e2,e3,e4]:=hE;refine#[_,x6 h1,_,rfl,rfl,?_];rw[y9 ∅];refine#[_,x6 h1,_,rfl,rfl,?_];rw[y9 ∅];refine#[_,x6 h1,_,rfl,rfl,?_];rw[y6 rfl];exact#[_,_,_,ho1,hC.1,hC.2,_,hlk,_,x6 h1,_,rfl,a,t,l,ra,tab,rs,u,v,rfl,hG.g,hA,h2,e1,e2,e3,e4,q]
  | open_ =>
   refine#[_,x6 hf,_,rfl,rfl,?_];rw[y9 ∅];refine#[_,x6 hf,_,rfl,rfl,?_];rw[y9 ∅];refine#[_,x6 hf,_,rfl,rfl,?_];rw[y9 ∅];exact q H (x9 _)
def w6(K:rP):Sp:=λvs H Q Z=>∃(a:rQ) (ns:List Int) (k:Int),vs=[.ref a,.int k]/\SqL K H a (ns.map V.int)/\(∀z ∈ ns,w8 z)/\0<=k/\∀c:Int,w8 c->Q (.int c) H
def xa{ns:List Int}(hS:SqL K H a (ns.map V.int))(hB:∀z ∈ ns,w8 z)(hk:0<=k)(h:∀c:Int,w8 c->Q (.int c) H):w6 K [.ref a,.int k] H Q E:=#[a,ns,k,rfl,hS,hB,hk,h]
def zaB:sQz 2 ["_law_script","_law_k"] U0:=by nofun
def KO(B:Bt mg)(F:("_law_cell"^^^U0)):(1&&&["_law_script","_law_k"]) (w6 K):=by
 exists F.ok zaB
 ·let#[a,ns,k,rfl,hS,hB,hk,q]:=h
  refine#[_,(zx (zI (zu Zq (pv 1) (zG B.len (pv 0)) (zw _)) (zf (zm (zi VU (pv 0) (pv 1))))
    zo) (zf (zm zb))),?_]
  have s16:=yd
  rfl'
  refine#[_,.inl #[_,hS,rfl],yl (λc=>?_) (λc=>q 0 (by unfold w8;decide))];let#[v,h1,h2]:=qt hk c;rw[ax]at h2;let#[z,hz,rfl]:=AO.mp h2;exact .inl #[_,hS,_,h1,q z (hB z (af hz))]
def yE:Sp:=λvs H Q Z=>∃(c t:Int),vs=[.int c,.int t]/\w8 c/\0<=t/\t<=100/\∀z:Int,0<=z->Q (.int z) H
def xu(hc:w8 c)(h0:0<=t)(h1:t<=100)(q:∀z:Int,0<=z->Q (.int z) H):yE [.int c,.int t] H Q E:=#[c,t,rfl,hc,h0,h1,q]
def pF:sQz 2 ["_law_cell_here","_law_turn","_law_number"] YI:=by nofun
def Qx(B:Bt mg)(F:("_law_mixed"^^^YI)):(1&&&["_law_cell_here","_law_turn"]) yE:=by
 exists F.ok pF
 ·let#[c,t,rfl,hc,h0,h1,q]:=h
  refine#[_,(zx (zC 2 pF.nd (zv yf (zv jL (zv Jl (pv 0) (pv 0)) zb) (zv jL (zv jL (pv 0) zb) (zv yf (pv 1) zb)))) (zf (zm (zv xj (zv yb (zv yf (pv 2) (zv jL (pv 1) zb)) zb) zb)))),?_]
  have s16:=yd
  rfl'
  exact#[hc,hc,.inr #[∅,∅],.inr #[∅,∅],.inr #[⋯,⋯],.inr #[∅,∅],∅,#[∅,∅],q _ (Int.ediv_nonneg (cu _ ∅) ∅)]
def uA:Sp:=λvs H Q Z=>∃c m:Int,vs=[.int c,.int m]/\w8 c/\0<=m/\m<=26/\∀l:(),(l.length:Int)=m->l.Nodup->YK l->Q ⇑l H
def YJ(h:w8 c)(h0:0<=m)(h1:m<=26)(q:∀l:(),(l.length:Int)=m->l.Nodup->YK l->Q ⇑l H):uA [.int c,.int m] H Q E:=#[c,m,rfl,h,h0,h1,q]
def zez(c m:Int)(i:Nat)(σ:L2.St):Prop:=∃(left found:()) (number:Int) (v5 v6:Option V),found.length=i/\(found ++ left).Perm alpha/\σ=[~~~!c,~~~!m,~~~left,~~~!number,~~~found,v5,v6]
def gA:sQz 2 ["_law_cell_here","_law_many","_law_left","_law_number","_law_letters_here","_law_k","_law_at"] jf:=by nofun
def WR(B:Bt mg)(F:("_law_letters"^^^jf))(gp:(1<<<"_law_mixed") ["_law_cell_here","_law_turn"] [] yE):(2&&&["_law_cell_here","_law_many"]) uA:=by
 exists F.ok gA
 ·let#[c,m,rfl,hc,h0,h1,q]:=h
  refine#[_,(zh (zC 2 gA.nd z8) (zh (zC 3 gA.nd (cl0 gp hr .nil rfl (za (pv 0) (za zb ze)))) (zh (zC 4 gA.nd z8) (zh (zX p8 rfl (yB rfl B.range (za (pv 1) ze)) (zq (i:=5) gA.nd rfl (.inl rfl)) (zh (zC 6 gA.nd (zv yb (pv 3) (zG B.len (pv 2)))) (zh (zC 3 gA.nd (zv xj (pv 3) (zG B.len (pv 2)))) (zh (zC 4 gA.nd (zv zU (pv 4) (zi ZP (pv 2) (pv 6)))) (zf (zC 2 gA.nd (zv zU (zO yK (pv 2) yc (zS (pv 6))) (zO yK (pv 2) (zS (zv yf (pv 6) zb)) yc)))))))) (zf (zm (pv 4))))))),?_]
  have s16:=yd;have ha:alpha.length=26:=rfl;change H'=H/\σ=%[~~~!c,~~~!m,~~~alpha|4]
  ·rfl'
   exact VW
  rintro σ H1 ⟨rfl,rfl⟩:0;change H'=H1/\∃z:Int,σ=%[~~~!c,~~~!m,~~~alpha,~~~!z|3]
  ·rfl'
   exact xu hc ∅ ∅ λz Z=>#[rfl,z,rfl]
  rintro σ H2 ⟨rfl,z,rfl⟩:0;change H'=H2/\σ=%[~~~!c,~~~!m,~~~alpha,~~~!z,AC ⇑[]|2]
  ·rfl'
   rfl
  rintro σ H3 ⟨rfl,rfl⟩:0;change H'=H3/\zez c m m.toNat σ
  ·rfl'
   refine#[⋯,⋯,ForR.by (λi σ H'=>H'=H3/\zez c m i σ) #[rfl,alpha,[],z,AD,AD,rfl,.refl _,rfl] ?_ λσ H' h=>h];refine nm3 ?_;rintro i σ H' hi ⟨rfl,left,found,number,v5,v6,hf,hp,rfl⟩:_;have hpl:=hp.length_eq;rw[ag]at hpl;have hl:left.length+i=26:=⋯;have hm0:=cu number (b:=(left.length:Int)) ⋯;have hm1:=cT number (b:=(left.length:Int)) ⋯;right;generalize hz:number % (left.length:Int)=at_ at hm0 hm1;let#[v,e1,e2]:=qt hm0 hm1
   erw[yZ,aV,aU]
   refine zj (λσ H''=>H''=H'/\∃v5,σ=[~~~!c,~~~!m,~~~left,~~~!number,~~~found,v5,~~~!at_]) ?_ ?_
   ·rfl'
    exact#[⋯,⋯,hz]
   rintro σ G1 ⟨rfl,v5',rfl⟩:0;refine zj (λσ H''=>H''=G1/\∃n v5,σ=[~~~!c,~~~!m,~~~left,~~~!n,~~~found,v5,~~~!at_]) ?_ ?_
   ·rfl'
    exact#[⋯,#[⋯,⋯]]
   rintro σ G2 ⟨rfl,n,v5',rfl⟩:0;refine zj (λσ H''=>H''=G2/\∃v5,σ=[~~~!c,~~~!m,~~~left,~~~!n,AC ⇑(found ++ [v]),v5,~~~!at_]) ?_ ?_
   ·rfl'
    exact#[⋯,v,e1,⋯,rfl]
   rintro σ G3 ⟨rfl,v5',rfl⟩:_;have hc1:=wI left AD (AC at_);have hc2:=wI left (AC (at_+1)) AD;right
   rfl'
   refine#[⋯,⋯,⋯,_,_,_,_,_,by rw[ag,hf];rfl,?_,rfl];rw[uQ _ hm0,xn _ ⋯,bb];have e3:(at_+1).toNat=at_.toNat+1:=⋯;rw[e3];exact ((W9 e2).append_left found).trans hp
  rintro σ H4 ⟨rfl,left,found,number,v5,v6,hf,hp,rfl⟩:0
  rfl'
  have hnd:(found ++ left).Nodup:=hp.nodup_iff.mpr ∅;refine q found ⋯ (List.nodup_append.mp hnd).1 λc hc=>?_;have h:c ∈ alpha:=hp.mem_iff.mp (dN _ hc);exact (by decide:∀c ∈ alpha,97<=c/\c<=122) c h
def qN:Sp:=λvs H Q Z=>∃(ls:()) (c m:Int),vs=[.int c,⇑ls,.int m]/\0<=c/\1<=ls.length/\ls.length<=26/\0<=m/\m<=100/\∀l:(),(l.length:Int)<=m->(∀x ∈ l,x ∈ ls)->Q ⇑l H
def kn(h0:0<=c)(h1:1<=ls.length)(h2:ls.length<=26)(h3:0<=m)(h4:m<=100)(h:∀l:(),(l.length:Int)<=m->(∀x ∈ l,x ∈ ls)->Q ⇑l H):qN [.int c,⇑ls,.int m] H Q E :=
 #[ls,c,m,rfl,h0,h1,h2,h3,h4,h]
def ln:sQz 3 ["_law_number","_law_letters_here","_law_most","_law_size","_law_word_here","_law_k"] Vb:=by nofun
def zaW(B:Bt mg)(F:("_law_word"^^^Vb)):(1&&&["_law_number","_law_letters_here","_law_most"]) qN:=by
 exists F.ok ln
 ·let#[ls,c,m,rfl,h0,h1,h2,h3,h4,q]:=h
  refine#[_,(zx (zC 3 ln.nd (zv yb (pv 0) (zv yf (pv 2) zb))) (zx (zC 0 ln.nd (zv xj (pv 0) (zv yf (pv 2) zb))) (zx (zC 4 ln.nd z8) (zx (zX p8 rfl (yB rfl B.range (za (pv 3) ze)) (zq (i:=5) ln.nd rfl (.inl rfl)) (zx (zC 4 ln.nd (zv zU (pv 4) (zi ZP (pv 1) (zv yb (pv 0) (zG B.len (pv 1)))))) (zf (zC 0 ln.nd (zv xj (pv 0) (zG B.len (pv 1))))))) (zf (zm (pv 4))))))),?_]
  have s16:=yd
  rfl'
  have m0:=cu c (b:=m+1) ⋯;have m1:=cT c (b:=m+1) ⋯
  refine#[⋯,#[⋯,⋯],⋯,⋯,ForR.by (λi σ H'=>H'=H/\∃(found:()) (number:Int) (v5:Option V),σ=[~~~!number,~~~ls,~~~!m,AC (.int (c % (m+1))),~~~found,v5]/\found.length=i/\∀x ∈ found,x ∈ ls)
   #[rfl,[],_,AD,rfl,rfl,λx h=>(nomatch h)] ?_ ?_]
  ·refine nm3 ?_;rintro i σ H' hi ⟨rfl,found,number,v5,rfl,hf,hm⟩:0
   rfl'
   have hm0:=cu number (b:=(ls.length:Int)) ⋯;have hm1:=cT number (b:=(ls.length:Int)) ⋯;let#[v,e1,e2]:=qt hm0 hm1
   repeat (refine And.intro (by first | lia | decide | exact#[⋯,⋯] | assumption) ?_)
   refine#[v,e1,?_]
   repeat (refine And.intro (by first | lia | decide | exact#[⋯,⋯] | assumption) ?_)
   refine#[by rw[ag,hf];rfl,λx hx=>?_];rcases AK.mp hx with h | h
   ·exact hm x h
   ·rw[AL.mp h];exact af e2
  ·refine nmB ?_;rintro σ H' ⟨rfl,found,number,v5,rfl,hf,hm⟩:0
   rfl'
   exact q found ⋯ hm
def Zd:Sp:=λvs H Q Z=>∃(ls:()) (c m:Int),vs=[.int c,⇑ls,.int m]/\w8 c/\1<=ls.length/\ls.length<=26/\0<=m/\m<=100/\∀(o n:()) (p:rQ),(o.length:Int)<=m->(n.length:Int)<=m->(∀x ∈ o,x ∈ ls)->(∀x ∈ n,x ∈ ls)->H p=AD->Q (.ref p) (upd H p (.tup [⇑o,⇑n]))
def Q5(h0:w8 c)(h1:1<=ls.length)(h2:ls.length<=26)(h3:0<=m)(h4:m<=100)(h:∀(o n:()) (p:rQ),(o.length:Int)<=m->(n.length:Int)<=m->(∀x ∈ o,x ∈ ls)->(∀x ∈ n,x ∈ ls)->H p=AD->Q (.ref p) (upd H p (.tup [⇑o,⇑n]))):Zd [.int c,⇑ls,.int m] H Q E:=#[ls,c,m,rfl,h0,h1,h2,h3,h4,h]
def Ku:sQz 3 ["_law_cell_here","_law_letters_here","_law_most"] Vr:=by nofun
def zaQ(B:Bt mg)(F:("_law_pair"^^^Vr))(oA:(1<<<"_law_word") ["_law_number","_law_letters_here","_law_most"] [] qN)(gp:(1<<<"_law_mixed") ["_law_cell_here","_law_turn"] [] yE):(2&&&["_law_cell_here","_law_letters_here","_law_most"]) Zd:=by
 exists F.ok Ku
 ·let#[ls,c,m,rfl,hc,h1,h2,h3,h4,q]:=h;refine#[_,(zf (zm (zH (za (cl0 oA hr .nil rfl (za (cl0 gp hr .nil rfl (za (pv 0) (za zb ze))) (za (pv 1) (za (pv 2) ze)))) (za (cl0 oA hr .nil rfl (za (cl0 gp hr .nil rfl (za (pv 0) (za zb ze))) (za (pv 1) (za (pv 2) ze)))) ze))))),?_];have s16:=yd
  rfl'
  exact xu hc ∅ ∅ λz hz=>kn hz h1 h2 h3 h4 λo ho mo=>xu hc ∅ ∅ λz hz=>kn hz h1 h2 h3 h4 λn hn mn=>#[⋯,λp hp=>q o n p ho hn mo mn hp]
def vT(K:rP):Sp:=λvs H Q Z=>∃(a t:rQ) (rs:List zF) (w w':()) (s:Stp),vs=[.ref a,⇑w,.ref t]/\Is K H (.lst (rs.map dR)) (.ref a)/\wN rs/\w.length<=300000/\SqT K H t [.int s.1,.int s.2.1,.bl s.2.2]/\yg rs w s=AC w'/\Q ⇑w' H
def jd{w w':()}(h1:Is K H (.lst (rs.map dR)) (.ref a))(h2:wN rs)(h3:w.length<=300000)(h4:SqT K H t [.int s.1,.int s.2.1,.bl s.2.2])(h5:yg rs w s=AC w')(q:Q ⇑w' H):vT K [.ref a,⇑w,.ref t] H Q E:=#[a,t,rs,w,w',s,rfl,h1,h2,h3,h4,h5,q]
def lD:sQz 3 ["_law_pacts","_law_word_here","_law_step","_law_old","_law_new"] kT:=by nofun
def Ui{f:rQ}{fd:rW}(B:Bt mg)(F:("_law_used"^^^kT)) :(1&&&["_law_pacts","_law_word_here","_law_step"]) (vT K):=by
 refine F.ok lD (λvs H Q E h=>?_) (λcdv A outer s H vs Q E hr h=>?_)
 ·let#[a,t,rs,w,w',s,rfl,_]:=h;rfl
 ·let#[a,t,rs,w,w',s,rfl,hR,ok,hw,ht,ha,q]:=h
  refine#[_,(zh (zC 3 lD.nd (zi r9 (zi ix_list (pv 0) (!-2)) zb)) (zh (zC 4 lD.nd (zi r9 (zi ix_list (pv 0) (!-2)) zb)) (zh (zI (yv (xH (!-2) (λZ=>rfl))) (zx (zC 3 lD.nd (zi r9 (zi ix_list (pv 0) (!-2)) zb)) (zf (zC 4 lD.nd (zi r9 (zi ix_list (pv 0) (!-2)) zb))))
    zo) (zf (zm (zv zU (zv zU (zO yK (pv 1) yc (zS (!-2))) (pv 4)) (zO yK (pv 1) (zS (zv yf (!-2) (zG B.len (pv 3)))) yc))))))),?_]
  have s16:=yd
  erw[Is]at hR
  let#[_,xs,e,hX,hI]:=hR;cases e;have hb:0<=s.1/\s.1<rs.length:=cC λhb=>by rw[yI hb]at ha;cases ha
  let#[p,a1,_,hp]:=zac hI hb.1 hb.2;have gl:=k7 ok s.1.toNat;rw[xA hb]at ha;generalize rs.getD s.1.toNat ([],[])=r at *;change H'=H/\σ=[!!a,~~~w,!!t,AC ⇑r.1,AD]
  ·rfl'
   exact#[_,ht,_,rfl,_,rfl,_,hX,_,a1,_,rfl,_,hp,rfl]
  rintro σ H1 ⟨rfl,rfl⟩:0;change H'=H1/\σ=[!!a,~~~w,!!t,AC ⇑r.1,AC ⇑r.2]
  ·rfl'
   exact#[_,ht,_,rfl,_,rfl,_,hX,_,a1,_,rfl,_,hp,rfl]
  rintro σ H2 ⟨rfl,rfl⟩:0;change H'=H2/\σ=[!!a,~~~w,!!t,AC ⇑(sdl r s.2.2).1,AC ⇑(sdl r s.2.2).2]
  ·rfl'
   refine#[_,ht,_,rfl,_,rfl,yl (λh=>#[_,ht,_,rfl,_,rfl,_,hX,_,a1,_,rfl,_,hp,_,rfl,_,ht,_,rfl,_,rfl,_,hX,_,a1,_,rfl,_,hp,_,rfl,?_]) λh=>?_]
   ·rw[h];exact#[rfl,rfl]
   ·rw[cA]at h;rw[h];exact#[rfl,rfl]
  rintro σ H3 ⟨rfl,rfl⟩:_
  have hol:(sdl r s.2.2).1.length<=100:=by
   cases s.2.2
   ·exact gl.2
   ·exact gl.1
  have hnl:(sdl r s.2.2).2.length<=100:=by
   cases s.2.2
   ·exact gl.1
   ·exact gl.2
  right;generalize sdl r s.2.2=on at *;have hst:zB w s.2.1 on.1=AE:=cC λhst=>by rw[y9 hst]at ha;cases ha
  rw[y6 hst]at ha;let#[_,_,h0,h1]:=vR hst;have c1:=wI w AD (AC s.2.1);have c2:=wI w (AC (s.2.1 + ↑on.1.length)) AD
  rfl'
  refine#[_,ht,_,rfl,_,rfl,⋯,⋯,_,ht,_,rfl,⋯,_,rfl,⋯,?_,?_]
  ·rw[ag];lia
  ·rw[zaq h0];cases ha;exact q
def WF{w o:()}{n:Nat}(h:(n:Int)+o.length<=w.length):zB w (n:Int) o=decide (cut w (AC (n:Int)) (AC ((n:Int)+(o.length:Int)))=o):=by unfold zB;rw[kG _ ⋯ ⋯ ⋯];have e:((n:Int)+(o.length:Int) - (n:Int)).toNat=o.length:=⋯;rw[e];exact decide_eq_decide.mpr #[λh=>h.2.2,λh'=>#[⋯,⋯,h']]
def kA(hp:H p=AC (.lst ys))(h:SqT K H a xs):SqT K (upd H p (.lst zs)) a xs:=by
 rcases h with (h | ⟨o,h⟩) | h
 ·exact .inl (.inl (by rw[zk (λe=>by rw[e,hp]at h;cases h)];exact h))
 ·exact .inl (.inr #[o,by rw[zk (λe=>by rw[e,hp]at h;cases h)];exact h])
 ·exact .inr h
def YO(K:rP):Sp:=λvs H Q Z=>∃(a:rQ) (rs:List zF) (w:()) (m:Int),vs=[.ref a,⇑w,.int m]/\Is K H (.lst (rs.map dR)) (.ref a)/\wN rs/\w.length<=900/\∀(D:rQ) (H':Hp) (us:List Stp),H D=AD->Same H H'->LsA K H' D (us.map dSt)->us.length<=300000->(∀s ∈ us,Fit rs w m s)->Q (.ref D) H'
def Qq{w:()}(h1:Is K H (.lst (rs.map dR)) (.ref a))(h2:wN rs)(h3:w.length<=900)(h:∀(D:rQ) (H':Hp) (us:List Stp),H D=AD->Same H H'->LsA K H' D (us.map dSt)->us.length<=300000->(∀s ∈ us,Fit rs w m s)->Q (.ref D) H'):YO K [.ref a,⇑w,.int m] H Q E:=#[a,rs,w,m,rfl,h1,h2,h3,h]
def iz:sQz 3 ["_law_pacts","_law_word_here","_law_most","_law_found","_law_number","_law_pact","_law_forth","_law_old","_law_place","_law_step"] VA:=by nofun
def za2{f:rQ}{fd:rW}(B:Bt mg)(F:("_law_uses"^^^VA))(md:(1<<<"_law_used") ["_law_pacts","_law_word_here","_law_step"] [] (vT K)):(2&&&["_law_pacts","_law_word_here","_law_most"]) (YO K):=by
 exists F.ok iz
 ·let#[a,rs,w,m,rfl,hR,ok,hw,q]:=h
  refine#[_,(zh (zC 3 iz.nd (yM ze)) (zh (zX p8 rfl (yN rfl B.enum (za (pv 0) ze)) (xS (n:=2) rfl (zR (zq (i:=4) iz.nd rfl (.inl rfl)) (zR (zq (i:=5) iz.nd rfl (.inl rfl)) y8))) (zf (zX p8 rfl (XR (zH (za yw (za yw ze)))) (zq (i:=6) iz.nd rfl (.inl rfl)) (zh (zC 7 iz.nd (!-5)) (zh (zI (yv (xH (pv 6) (λZ=>rfl))) (zf (zC 7 iz.nd (!-5)))
      zo) (zf (zX p8 rfl (yB rfl B.range (za (zv yf (zv wM (zG B.len (pv 1)) (zG B.len (pv 7))) zb) ze)) (zq (i:=8) iz.nd rfl (.inl rfl)) (zh (zC 9 iz.nd (zH (za (pv 4) (za (pv 8) (za (pv 6) ze))))) (zf (zI (PW.pt (Xr (zu yq (zO yK (pv 1) (zS (pv 8)) (zS (zv yf (pv 8) (zG B.len (pv 7))))) (pv 7) (zw _)) (kQ (zu zbl (zG B.len (cl0 md hr .nil rfl (za (pv 0) (za (pv 1) (za (pv 9) ze))))) (pv 2) (zw _))))) (zf (wQ (wV bu bq br yR (pv 3) (za (pv 9) ze))))
       zo)))))))))) (zf (zm (pv 3))))),?_]
  have s16:=yd;have hR':=hR
  erw[Is]at hR'
  let#[_,xs,e,hX,hI]:=hR';cases e;have hxl:=hI.len;rw[aa]at hxl;have okl:=ok.1;change ∃D:rQ,H D=AD/\Same H H'/\LsA K H' D []/\σ=%[!!a,~~~w,~~~!m,!!D|6]
  ·rfl'
   exact#[⋯,λD hD=>#[D,hD,zd hD,LsA.nil,rfl]]
  rintro σ H1 ⟨D,hD,s1,hL1,rfl⟩:0;change ∃us:List Stp,Same H H'/\LsA K H' D (us.map dSt)/\us.length<=300000/\(∀s ∈ us,Fit rs w m s)/\∃v4 v5 v6 v7 v8 v9,σ=[!!a,~~~w,~~~!m,!!D,v4,v5,v6,v7,v8,v9]
  ·rfl'
   refine#[#[_,s1.seq hX],ja3 (xs:=xs) (λi σ H'=>∃us:List Stp,Same H H'/\LsA K H' D (us.map dSt)/\us.length<=i * 2002/\(∀s ∈ us,Fit rs w m s)/\∃v4 v5 v6 v7 v8 v9,σ=[!!a,~~~w,~~~!m,!!D,v4,v5,v6,v7,v8,v9]) #[[],s1,hL1,aJ _,λs h=>(nomatch h),_,_,_,_,_,_,rfl] ?_ ?_ ?_]
   ·rintro i σ H' _ ⟨us,hs,_⟩;exact hs.seq hX
   ·refine nmE ?_;rintro i x σ H' p hx ⟨us,hs,hL,hl,hf,v4,v5,v6,v7,v8,v9,rfl⟩ hp:_;let#[r,pr,hri,rfl,hqr]:=hI.getR hx;have hi:=(AJ.mp hri).1;have b:=ok.2 r (af hri);have er:rs.getD i ([],[])=r:=by rw[am,hri];rfl
    right
    rfl'
    refine#[_,x6 zc,rfl,_,_,rfl,_,_,rfl,rfl,?_];refine#[⋯,λp2 hp2=>?_];have hs3:Same H' (upd (upd H' p (.tup [.int (i:Nat),.ref pr])) p2 (.tup [.bl AE,.bl AF])):=(zd hp).trans (zd hp2);have hp3:(upd (upd H' p (.tup [.int (i:Nat),.ref pr])) p2 (.tup [.bl AE,.bl AF])) p2=AC (.tup [.bl AE,.bl AF]):=zc;generalize upd (upd H' p (.tup [.int (i:Nat),.ref pr])) p2 (.tup [.bl AE,.bl AF])=H3 at *
    have hD3:p2≠D:=λe=>by
     let#[ys,hY,_]:=hL.same hs3;rw[e,hY]at hp3;cases hp3
    refine#[#[_,x6 hp3],ForT.by (xs:=[.bl AE,.bl AF]) (λj σ H4=>H4 p2=AC (.tup [.bl AE,.bl AF])/\Same H H4/\∃us:List Stp,LsA K H4 D (us.map dSt)/\us.length<=i * 2002+j * 1001/\(∀s ∈ us,Fit rs w m s)/\∃v6 v7 v8 v9,σ=[!!a,~~~w,~~~!m,!!D,-~~~i,!!pr,v6,v7,v8,v9]) #[hp3,hs.trans hs3,us,hL.same hs3,⋯,hf,_,_,_,_,rfl] (λj σ H4 Z h=>x6 h.1) ?_ ?_]
    ·refine nm4 ?_;rintro j y σ H4 hy ⟨hp4,hs4,us,hL4,hl4,hf4,v6,v7,v8,v9,rfl⟩:_
     obtain⟨f,rfl⟩:∃f:Bool,y=.bl f:=by
      match j,hy with
      | 0,hy=>exact#[_,(Option.some.inj hy).symm]
      | 1,hy=>exact#[_,(Option.some.inj hy).symm]
      | j+2,hy=>simp at hy
     right
     rfl'
     change H'=H4/\σ=[!!a,~~~w,~~~!m,!!D,-~~~i,!!pr,AC (.bl f),AC ⇑r.1,v8,v9]
     ·rfl'
      exact#[_,zt hs4 hqr,rfl]
     rintro σ H5 ⟨rfl,rfl⟩:0;change H'=H5/\σ=[!!a,~~~w,~~~!m,!!D,-~~~i,!!pr,AC (.bl f),AC ⇑(sdl r f).1,v8,v9]
     ·rfl'
      refine yl (λh=>#[_,zt hs4 hqr,?_]) λh=>?_
      ·rw[h];rfl
      ·rw[cA]at h;rw[h];rfl
     rintro σ H6 ⟨rfl,rfl⟩:_
     have bo:(sdl r f).1.length<=100/\(sdl r f).2.length<=100:=by
      unfold sdl;split
      ·exact b
      ·exact#[b.2,b.1]
     have aft:∀n:Nat,(n:Int)+(sdl r f).1.length<=w.length->cut w (AC (n:Int)) (AC ((n:Int)+((sdl r f).1.length:Int)))=(sdl r f).1->∃w',yg rs w (((i:Nat):Int),((n:Nat):Int),f)=AC w'/\w'.length<=1000:=λn hn hc=>by
      have hst:zB w (n:Int) (sdl r f).1=AE:=by
       rw[WF hn];exact u9 hc
      refine#[vt w (n:Int) (sdl r f).1 (sdl r f).2,?_,?_]
      ·rw[xA (by show (0:Int)<=(i:Int)/\(i:Int)<rs.length;lia)];simp only;rw[show ((i:Nat):Int).toNat=i from rfl,er,y6 hst]
      ·have:=X5 (n:=(sdl r f).2) hst;lia
     right;generalize sdl r f=o at *
     rfl'
     refine#[⋯,⋯,⋯,⋯,ForR.by (λn σ H4=>H4 p2=AC (.tup [.bl AE,.bl AF])/\Same H H4/\∃us:List Stp,LsA K H4 D (us.map dSt)/\us.length<=i * 2002+j * 1001+n/\(∀s ∈ us,Fit rs w m s)/\∃v8 v9,σ=[!!a,~~~w,~~~!m,!!D,-~~~i,!!pr,AC (.bl f),AC ⇑o.1,v8,v9]) #[hp4,hs4,us,hL4,hl4,hf4,_,_,rfl] ?_ ?_]
     ·refine nm3 ?_;rintro n σ H7 hn ⟨hp7,hs7,us,hL7,hl7,hf7,v8,v9,rfl⟩:0;dsimp only;rw[show (0:Int)+(n:Int)=(n:Int) by lia];let#[ys,hY,hJ]:=hL7;have hyl:=hJ.len;rw[aa]at hyl;have hj2:j<2:=(AJ.mp hy).1
      erw[yZ,aV,aU]
      refine zj (λσ H''=>∃t:rQ,Same H7 H''/\H'' t=AC (.tup [.int (i:Nat),.int (n:Nat),.bl f])/\σ=[!!a,~~~w,~~~!m,!!D,-~~~i,!!pr,AC (.bl f),AC ⇑o.1,-~~~n,!!t]) ?_ ?_
      ·rfl'
       exact#[⋯,λt ht=>#[zd ht,zc]]
      rintro σ H8 ⟨t,s8,ht8,rfl⟩:_;have hY8:=s8 _ _ hY;have hJ8:=ja1 s8 _ _ hJ;right
      rfl'
      refine#[⋯,⋯,yl (λhc=>?_) λZ=>#[s8 _ _ hp7,hs7.trans s8,us,#[ys,hY8,hJ8],⋯,hf7]];let#[w',ha,hwl]:=aft n ⋯ hc;refine jd (s:=(((i:Nat):Int),((n:Nat):Int),f)) (Is.same (hs7.trans s8) _ _ hR) ok ⋯ (x6 ht8) ha ?_
      rfl'
      refine#[⋯,yl (λhm=>#[.inl #[_,x4 hY8],ys,hY8,⋯,?_,zy (hs7.trans s8) hD,us ++ [(((i:Nat):Int),((n:Nat):Int),f)],?_,by rw[ag];erw[au,aO];lia,λs hs'=>?_]) λZ=>#[s8 _ _ hp7,hs7.trans s8,us,#[ys,hY8,hJ8],⋯,hf7]]
      ·rw[zk hD3];exact s8 _ _ hp7
      ·rw[al];exact LsA.snoc hY8 hJ8 (Yg _) (by erw[dSt,xf,z9,and_self]) (uM (x6 ht8))
      ·rcases AK.mp hs' with h | h
       ·exact hf7 s h
       ·rw[AL.mp h];exact#[w',ha,hm]
     ·refine nmB ?_;rintro σ H7 ⟨hp7,hs7,us,hL7,hl7,hf7,v8,v9,rfl⟩:0;exact#[hp7,hs7,us,hL7,⋯,hf7,_,_,_,_,rfl]
    ·refine nmB ?_;rintro σ H4 ⟨_,hs4,us,hL4,hl4,hf4,v6,v7,v8,v9,rfl⟩:0;exact#[hs4,us,hL4,by erw[au,aO]at hl4;lia,hf4,_,_,_,_,_,_,rfl]
   ·refine nmB ?_;rintro σ H' ⟨us,hs,hL,hl,hf,v4,v5,v6,v7,v8,v9,rfl⟩:0;exact#[hs,us,hL,⋯,hf,_,_,_,_,_,_,rfl]
  rintro σ H2 ⟨us,s2,hL,hl,hf,v4,v5,v6,v7,v8,v9,rfl⟩:0
  rfl'
  exact q D H2 us hD s2 hL hl hf
def j5(K:rP):Sp:=λvs H Q Z=>∃(a c:rQ) (rs:List zF) (w:()) (ns:List Int) (m:Int),vs=[.ref a,⇑w,.ref c,.int m]/\Is K H (.lst (rs.map dR)) (.ref a)/\wN rs/\w.length<=8/\m<=8/\SqL K H c (ns.map V.int)/\(∀z ∈ ns,w8 z)/\ns.length<=63 /\
 ∀(D:rQ) (H':Hp) (ss:List Stp) (w':()),H D=AD->Same H H'->LsA K H' D (ss.map dSt)->yk rs w ss=AC w'->w'.length<=8->ss.length<=ns.length->(∀s ∈ ss,0<=s.1/\s.1<rs.length)->Q (.ref D) H'
def Vd{w:()}{ns:List Int}(h1:Is K H (.lst (rs.map dR)) (.ref a))(h2:wN rs)(h3:w.length<=8)(h4:m<=8)(h5:SqL K H c (ns.map V.int))(h5':∀z ∈ ns,w8 z)(h6:ns.length<=63)(h:∀(D:rQ) (H':Hp) (ss:List Stp) (w':()),H D=AD->Same H H'->LsA K H' D (ss.map dSt)->yk rs w ss=AC w'->w'.length<=8->ss.length<=ns.length->(∀s ∈ ss,0<=s.1/\s.1<rs.length)->Q (.ref D) H'):j5 K [.ref a,⇑w,.ref c,.int m] H Q E:=#[a,c,rs,w,ns,m,rfl,h1,h2,h3,h4,h5,h5',h6,h]
def U2{w w':()}(h:yg rs w s=AC w'):0<=s.1/\s.1<rs.length:=cC λhb=>by rw[yI hb]at h;cases h
def lp:sQz 4 ["_law_pacts","_law_word_here","_law_cells","_law_most","_law_steps","_law_cell_here","_law_some","_law_step"] Xa:=by nofun
def QM{f:rQ}{fd:rW}(B:Bt mg)(F:("_law_chain"^^^Xa))(rF:(2<<<"_law_uses") ["_law_pacts","_law_word_here","_law_most"] [] (YO K))(md:(1<<<"_law_used") ["_law_pacts","_law_word_here","_law_step"] [] (vT K))(gp:(1<<<"_law_mixed") ["_law_cell_here","_law_turn"] [] yE):(3&&&["_law_pacts","_law_word_here","_law_cells","_law_most"]) (j5 K):=by
 exists F.ok lp
 ·let#[a,c,rs,w,ns,m,rfl,hR,ok,hw,hm,hS,hB,hn,q]:=h
  refine#[_,(zh (zC 4 lp.nd (yM ze)) (zh (zX p8 rfl (ya (pv 2)) (zq (i:=5) lp.nd rfl (.inl rfl)) (zh (zC 6 lp.nd (cl0 rF hr .nil rfl (za (pv 0) (za (pv 1) (za (pv 3) ze))))) (zf (zI (zu JV (zG B.len (pv 6)) zb (zw _)) (zh (zC 7 lp.nd (zi ix_list (pv 6) (zv yb (cl0 gp hr .nil rfl (za (pv 5) (za zb ze))) (zG B.len (pv 6))))) (zh (wQ (wV bu bq br yR (pv 4) (za (pv 7) ze))) (zf (zC 1 lp.nd (cl0 md hr .nil rfl (za (pv 0) (za (pv 1) (za (pv 7) ze))))))))
     zo)))) (zf (zm (pv 4))))),?_]
  have s16:=yd;change ∃D:rQ,H D=AD/\Same H H'/\LsA K H' D []/\σ=%[!!a,~~~w,!!c,~~~!m,!!D|3]
  ·rfl'
   exact#[⋯,λD hD=>#[D,hD,zd hD,LsA.nil,rfl]]
  rintro σ H1 ⟨D,hD,s1,hL1,rfl⟩:0;change ∃(ss:List Stp) (w2:()),Same H H'/\LsA K H' D (ss.map dSt)/\yk rs w ss=AC w2/\w2.length<=8/\ss.length<=ns.length/\(∀s ∈ ss,0<=s.1/\s.1<rs.length)/\∃v5 v6 v7,σ=[!!a,~~~w2,!!c,~~~!m,!!D,v5,v6,v7]
  ·rfl'
   refine#[#[_,s1.seq hS],ja2 (xs:=ns.map V.int) (λi σ H'=>∃(ss:List Stp) (w2:()),Same H H'/\LsA K H' D (ss.map dSt)/\yk rs w ss=AC w2/\w2.length<=8/\ss.length<=i/\(∀s ∈ ss,0<=s.1/\s.1<rs.length)/\∃v5 v6 v7,σ=[!!a,~~~w2,!!c,~~~!m,!!D,v5,v6,v7]) #[[],w,s1,hL1,rfl,hw,ah _,λs h=>(nomatch h),_,_,_,rfl] (λi σ H' Z h=>by let#[ss,w2,hs,_]:=h;exact hs.seq hS) ?_ ?_]
   ·refine nm4 ?_;rintro i x σ H3 hx ⟨ss,w2,s3,hL3,hwk,hw2,hsl,hnum,v5,v6,v7,rfl⟩:_;have hi:=(AJ.mp hx).1;rw[aa]at hi;rw[ax]at hx;let#[z,hz,rfl]:=AO.mp hx;have hzB:=hB z (af hz);right
    erw[yZ,aV,aU]
    change ∃(U:rQ) (us:List Stp),Same H3 H'/\LsA K H' U (us.map dSt)/\us.length<=300000/\(∀s ∈ us,Fit rs w2 m s)/\σ=[!!a,~~~w2,!!c,~~~!m,!!D,~~~!z,!!U,v7]
    ·rfl'
     exact Qq (Is.same s3 _ _ hR) ok ⋯ λU H' us Z s' hU hul hf=>#[s',U,us,hU,hul,hf,rfl]
    rintro σ H4 ⟨U,us,s4,hU,hul,hf,rfl⟩:_;let#[ys,hY,hJ]:=hU;right
    rfl'
    refine#[_,.inl #[_,x4 hY,rfl],yl (λhpos=>?_) λZ=>?_]
    ·change ∃(st:Stp) (pst:rQ) (w3:()),H'=H4/\SqT K H4 pst [.int st.1,.int st.2.1,.bl st.2.2]/\yg rs w2 st=AC w3/\w3.length<=8/\σ=[!!a,~~~w2,!!c,~~~!m,!!D,~~~!z,!!U,!!pst]
     ·rfl'
      refine xu hzB ∅ ∅ λy hy=>#[_,.inl #[_,x4 hY,rfl],?_];have m0:=cu y (b:=(ys.length:Int)) ⋯;have m1:=cT y (b:=(ys.length:Int)) ⋯;let#[v,a1,b1]:=qt (xs:=ys) m0 m1;let#[st,pst,hst,rfl,hqs]:=uY hJ b1;let#[w3,haf,hw3]:=hf st (af hst);exact#[_,rfl,⋯,_,x4 hY,_,a1,rfl,st,pst,hqs,w3,haf,⋯,rfl]
     rintro σ H5 ⟨st,pst,w3,rfl,hqs,haf,hw3,rfl⟩:_;let#[xs3,hX3,hI3]:=hL3.same s4;have hil:=hI3.len;rw[aa]at hil;right;change Same H H'/\LsA K H' D ((ss ++ [st]).map dSt)/\SqT K H' pst [.int st.1,.int st.2.1,.bl st.2.2]/\σ=[!!a,~~~w2,!!c,~~~!m,!!D,~~~!z,!!U,!!pst]
     ·rfl'
      refine#[.inl #[_,x4 hX3],xs3,hX3,⋯,zy (s3.trans s4) hD,?_,kA hX3 hqs];rw[al];exact LsA.snoc hX3 hI3 (Yg _) (by erw[dSt,xf,z9,and_self]) (uM hqs)
     rintro σ H6 ⟨s6,hL6,hq6,rfl⟩:0
     rfl'
     refine jd (Is.same s6 _ _ hR) ok ⋯ hq6 haf ?_;refine#[s6,ss ++ [st],hL6,w3,ZQ hwk haf,hw3,by rw[ag];exact Nat.succ_le_succ hsl,λs hs=>?_,rfl];rcases AK.mp hs with h | h
     ·exact hnum s h
     ·rw[AL.mp h];exact U2 haf
    ·exact#[s3.trans s4,ss,hL3.same s4,w2,hwk,hw2,⋯,hnum,rfl]
   ·refine nmB ?_;rintro σ H' ⟨ss,w2,hs,hL,hwk,hw2,hsl,hnum,v5,v6,v7,rfl⟩:_;rw[aa]at hsl;right;exact#[hs,ss,hL,w2,hwk,hw2,hsl,hnum,_,_,_,rfl]
  rintro σ H2 ⟨ss,w2,hs,hL,hwk,hw2,hsl,hnum,v5,v6,v7,rfl⟩:0
  rfl'
  exact q D H2 ss w2 hD hs hL hwk hw2 hsl hnum
def zbd:Option (())->V
 | some w=>⇑w
 | none=>.non
def zax{rs:List zF}{w w1:()}{ss:List Stp}{i:Nat}{s:Stp}(hs:ss[i]? = AC s)(h1:yk rs w (ss.take i)=AC w1)(h2:yg rs w1 s=AD):yk rs w ss=AD:=by
 rw[<- bH (i+1) ss,u0,zK hs,u0,h1]
 erw[yk,dJ]
 rw[h2];rfl
def jG(K:rP):Sp:=λvs H Q Z=>∃(a t:rQ) (rs:List zF) (w:()) (ss:List Stp),vs=[.ref a,⇑w,.ref t]/\Is K H (.lst (rs.map dR)) (.ref a)/\wN rs/\w.length<=60/\Is K H (.lst (ss.map dSt)) (.ref t)/\ss.length<=600/\Q (zbd (yk rs w ss)) H
def YX{a t:rQ}{rs:List zF}{w:()}{ss:List Stp}{H:Hp}{Q:VK}{E:XK}(h1:Is K H (.lst (rs.map dR)) (.ref a))(h2:wN rs)(h3:w.length<=60)(h4:Is K H (.lst (ss.map dSt)) (.ref t))(h5:ss.length<=600)(q:Q (zbd (yk rs w ss)) H):jG K [.ref a,⇑w,.ref t] H Q E:=#[a,t,rs,w,ss,rfl,h1,h2,h3,h4,h5,q]
def oB:sQz 3 ["_law_pacts","_law_word_here","_law_steps","_law_step","_law_old"] KM:=by nofun
def zcA{f:rQ}{fd:rW}(B:Bt mg)(F:("_law_end"^^^KM))(md:(1<<<"_law_used") ["_law_pacts","_law_word_here","_law_step"] [] (vT K)):(2&&&["_law_pacts","_law_word_here","_law_steps"]) (jG K):=by
 exists F.ok oB
 ·let#[a,t,rs,w,ss,rfl,hR,ok,hw,hT,hsl,q]:=h
  refine#[_,(zh (zX p8 rfl (ya (pv 2)) (zq (i:=3) oB.nd rfl (.inl rfl)) (zh (zI (PW.pt (kX (zu Zq (!-3) zb (zw _)) (kX (zu op_ge' (!-3) (zG B.len (pv 0)) (zw _)) (qV (zu Zq (!-3) zb (zw _)))))) (zf (zm vx))
     zo) (zh (zC 4 oB.nd (zi r9 (zi ix_list (pv 0) (!-3)) (zv wM zb (yA VT rfl B.int PySem.Pv.boot_int (za (!-3) ze))))) (zh (zI (PW.pt (kX (zu Y8 (zv yf (!-3) (zG B.len (pv 4))) (zG B.len (pv 1)) (zw _)) (qV (zu uC (zO yK (pv 1) (zS (!-3)) (zS (zv yf (!-3) (zG B.len (pv 4))))) (pv 4) (zw _))))) (zf (zm vx))
     zo) (zf (zC 1 oB.nd (cl0 md hr .nil rfl (za (pv 0) (za (pv 1) (za (pv 3) ze)))))))))) (zf (zm (pv 1)))),?_]
  have s16:=yd;have hR':=hR;have hT':=hT
  erw[Is]at hR' hT'
  let#[_,xs,e,hX,hI]:=hR';cases e;let#[_,ts,e,hTs,hJ]:=hT';cases e;have htl:=hJ.len;rw[aa]at htl;have hxl:=hI.len;rw[aa]at hxl;change H'=H/\∃w' v3 v4,yk rs w ss=AC w'/\σ=[!!a,~~~w',!!t,v3,v4]
  ·rfl'
   refine#[#[_,hTs],ja2 (xs:=ts) (λi σ H'=>H'=H/\∃w1 v3 v4,(yk rs w (ss.take i)=AC w1/\w1.length<=60+i * 100)/\σ=[!!a,~~~w1,!!t,v3,v4]) #[rfl,w,_,_,#[rfl,⋯],rfl] (λi σ H' Z h=>by rw[h.1];exact hTs) ?_ ?_]
   ·refine nm4 ?_;rintro i x σ H' hx ⟨rfl,w1,v3,v4,⟨hw1,hl1⟩,rfl⟩:_;let#[s,ps,hsi,rfl,hqs]:=uY hJ hx;have hil:=(AJ.mp hsi).1
    have no:yg rs w1 s=AD->Q .non H':=λh=>by
     have:=q;rw[zax hsi hw1 h]at this;exact this
    right
    erw[yZ,aV,aU]
    refine zj (λσ H''=>H''=H'/\(0<=s.1/\s.1<rs.length/\0<=s.2.1)/\σ=[!!a,~~~w1,!!t,!!ps,v4]) ?_ ?_
    ·rfl'
     refine#[_,hqs,_,rfl,_,rfl,yl (λh=>no (yI λz=>by lia)) λc1=>#[_,hqs,_,rfl,_,.inl #[_,hX,rfl],_,rfl,yl (λh=>no (yI λz=>by lia)) λc2=>#[_,hqs,_,rfl,_,rfl,yl (λh=>no ?_) λc3=>#[⋯,⋯,⋯]]]];rw[xA #[⋯,⋯],y9];intro hst;have:=(u6 hst).1;lia
    rintro σ G ⟨rfl,⟨c1,c2,c3⟩,rfl⟩:_;let#[p,a1,_,hp]:=zac hI c1 c2;have gl:=k7 ok s.1.toNat;have ha:=xA (w:=w1) (t:=s) #[c1,c2];right;generalize rs.getD s.1.toNat ([],[])=r at *;refine zj (λσ H''=>H''=G/\σ=[!!a,~~~w1,!!t,!!ps,AC ⇑(sdl r s.2.2).1]) ?_ ?_
    ·rfl'
     refine#[_,hqs,_,rfl,_,rfl,_,hX,_,a1,_,hqs,_,rfl,.inr #[_,rfl,_,rfl,_,hp,?_]];cases s.2.2 <;> rfl
    rintro σ G1 ⟨rfl,rfl⟩:_
    have hol:(sdl r s.2.2).1.length<=100:=by
     cases s.2.2
     ·exact gl.2
     ·exact gl.1
    right;refine zj (λσ H''=>H''=G1/\zB w1 s.2.1 (sdl r s.2.2).1=AE/\σ=[!!a,~~~w1,!!t,!!ps,AC ⇑(sdl r s.2.2).1]) ?_ ?_
    ·have ec:s.2.1+((sdl r s.2.2).1.length:Int)<=w1.length->cut w1 (AC s.2.1) (AC (s.2.1+((sdl r s.2.2).1.length:Int)))=(w1.drop s.2.1.toNat).take (sdl r s.2.2).1.length:=λh=>by
      rw[kG _ c3 ⋯ ⋯,show (s.2.1+((sdl r s.2.2).1.length:Int) - s.2.1).toNat=(sdl r s.2.2).1.length by lia]
     rfl'
     refine#[_,hqs,_,rfl,⋯,_,rfl,⋯,yl (λh=>no ?_) λd1=>#[_,hqs,_,rfl,_,rfl,_,hqs,_,rfl,⋯,_,rfl,⋯,yl (λh=>no ?_) λd2=>?_]]
     ·rw[ha,y9];intro hst;have:=(u6 hst).2.1;lia
     ·rw[ha,y9];intro hst;exact h ((ec ⋯).trans (u6 hst).2.2)
     ·exact u9 #[c3,⋯,(ec ⋯).symm.trans (Classical.not_not.mp d2)]
    rintro σ G2 ⟨rfl,hst,rfl⟩:_;rw[y6 hst]at ha;have hl2:=ZE ok ha;right
    rfl'
    exact jd hR ok ⋯ hqs ha #[rfl,_,by rw[zK hsi];exact ZQ hw1 ha,⋯,rfl]
   ·refine nmB ?_;rintro σ H' ⟨rfl,w1,v3,v4,⟨hw1,hl1⟩,rfl⟩:_;rw[htl,aD]at hw1;right;exact#[rfl,w1,hw1,v3,v4,rfl]
  rintro σ H1 ⟨rfl,w',v3,v4,hwk,rfl⟩:_;rw[hwk]at q;right
  rfl'
  exact q
theorem Ux:∀ws:List (()),Str.join (tx []) (ws.map tx)=tx ws.flatten
 | []=>rfl
 | [w]=>by
  show tx w=_;simp
 | w::v::r=>by
  have ih:=Ux (v::r);show tx w ++ tx [] ++ Str.join (tx []) ((v::r).map tx)=_;rw[ih,yC,yC];simp
def QU{ws:List (())}(h:ws.flatten.length<=100000):JoinOk (tx []) (ws.map tx)=AE:=by
 have s16:=yd
 have hf:∀(l:List (())) (n:Nat),(l.map tx).foldl (λa y=>a+y.length+0) n=n+l.flatten.length:=λl=>by
  induction l with
  | nil=>intro n;rfl
  | cons c r ih =>
   intro n;rw[aw,List.foldl_cons,ih,zP,dz,ag];lia
 have e:JoinOk (tx []) (ws.map tx)=!PySem.Builtin.Str.tooLong ((ws.map tx).foldl (λa y=>a+y.length+0) 0):=by
  unfold JoinOk;rw[List.foldl_toArray];rfl
 rw[e,hf];unfold PySem.Builtin.Str.tooLong;rw[et,decide_eq_false_iff_not];lia
def wk:Sp:=λvs H Q Z=>∃(k:Int) (l:()) (W:rQ) (ws:List Int) (w:()),vs=[.int k,⇑l,.ref W,⇑w]/\0<=k/\k<3/\vm l=AE/\H W=AC (.lst (ws.map V.int))/\ws.length=l.length/\(∀n ∈ ws,1<=n/\n<=1000000)/\w.length<=1000/\(∀x ∈ w,x ∈ l)/\∀(p q:rQ) (H':Hp),Same H H'->H' p=AC (.tup [.int (zr k.toNat l ws w),.ref q])->H' q=AC (.lst ((wx k.toNat l w).map V.int))->H q=AD->Q (.ref p) H'
def Z8{k:Int}{l:()}{W:rQ}{ws:List Int}{w:()}{H:Hp}{Q:VK}{E:XK}(k0:0<=k)(k3:k<3)(hg:vm l=AE)(hD:H W=AC (.lst (ws.map V.int)))(hwl:ws.length=l.length)(hwb:∀n ∈ ws,1<=n/\n<=1000000)(hw:w.length<=1000)(hm:∀x ∈ w,x ∈ l)(q:∀(p q:rQ) (H':Hp),Same H H'->H' p=AC (.tup [.int (zr k.toNat l ws w),.ref q])->H' q=AC (.lst ((wx k.toNat l w).map V.int))->H q=AD->Q (.ref p) H'):wk [.int k,⇑l,.ref W,⇑w] H Q E:=#[k,l,W,ws,w,rfl,k0,k3,hg,hD,hwl,hwb,hw,hm,q]
def mU:sQz 4 ["_law_kind","_law_letters_here","_law_weights","_law_word_here","_law_seen","_law_weight"] jF:=by nofun
def Kz{f:rQ}{fd:rW}(B:Bt mg)(F:("_law_rank"^^^jF)) :(1&&&["_law_kind","_law_letters_here","_law_weights","_law_word_here"]) wk:=by
 exists F.ok mU
 ·let#[k,l,W,ws,w,rfl,k0,k3,hg,hW,hwl,hwb,hw,hm,q]:=h
  refine#[_,(zh (zC 4 mU.nd (pv 3)) (zh (zC 5 mU.nd (zG B.len (pv 3))) (zh (zI (zu yq (pv 0) zb (zw _)) (zf (zC 4 mU.nd (wV bd PySem.F.slot_str_join PySem.F.type_str_join zcg z8 (za (yO (own:=["_law_k"]) (caps:=["_law_word_here"]) (ix:=[3]) (tt:=yW) (te:=(tOp (rIx K) (zV 1) (tOp (rI0 λi j=>.int (i - j)) (tOp (rI0 λi j=>.int (i - j)) (tCB (W7 K) (zE (zV 1) yT)) (tC (.int 1))) (zV 0)))) rfl (zJ (sc:=zg jF) rfl (!0) (!0) (!0) rfl (!0) (!0) rfl) (yB rfl B.range (za (zG B.len (pv 3)) ze)) (λZ Z Z Z Z Z=>zq (i:=0) (show List.Nodup [_,_] by decide) rfl (.inl rfl)) (λZ Z Z Z Z Z=>z7) (λZ Z Z Z Z Z=>(zi VU (pv 1) (zv wM (zv wM (zG B.len (pv 1)) zb) (pv 0))))) ze))))
    zo) (zh (zI (zu yq (pv 0) zb (zw _)) (zf (zC 5 mU.nd (yQ (zbE rfl) rfl B.sum fk (za (yO (own:=["_law_sign"]) (caps:=["_law_weights","_law_letters_here"]) (ix:=[2,1]) (tt:=yW) (te:=(tOp (rIx K) (zV 1) (tBM K "str" UL (zV 2) (zE (zV 0) yT)))) rfl (zJ (sc:=zg jF) rfl (!0) (!0) (!0) rfl (!0) (!0) rfl) (qW (pv 3)) (λZ Z Z Z Z Z=>zq (i:=0) (show List.Nodup [_,_,_] by decide) rfl (.inl rfl)) (λZ Z Z Z Z Z=>z7) (λZ Z Z Z Z Z=>(zi VU (pv 1) (wV bd cq cr VN (pv 2) (za (pv 0) ze))))) ze))))
    zo) (zf (zm (zH (za (pv 5) (za (yO (own:=["_law_sign"]) (caps:=["_law_letters_here"]) (ix:=[1]) (tt:=yW) (te:=(tBM K "str" UL (zV 1) (zE (zV 0) yT))) rfl (zJ (sc:=zg jF) rfl (!0) (!0) (!0) rfl (!0) (!0) rfl) (qW (pv 4)) (λZ Z Z Z Z Z=>zq (i:=0) (show List.Nodup [_,_] by decide) rfl (.inl rfl)) (λZ Z Z Z Z Z=>z7) (λZ Z Z Z Z Z=>(wV bd cq cr VN (pv 1) (za (pv 0) ze)))) ze))))))))),?_]
  have s16:=yd;let#[l1,l6,lsm,lnd]:=u6 hg;change H'=H/\σ=[~~~!k,~~~l,!!W,~~~w,~~~w,AD]
  ·rfl'
  rintro σ H1 ⟨rfl,rfl⟩:0;change H'=H1/\σ=[~~~!k,~~~l,!!W,~~~w,~~~w,AC (.int (w.length:Nat))]
  ·rfl'
   lia
  rintro σ H2 ⟨rfl,rfl⟩:0;change Same H2 H'/\σ=[~~~!k,~~~l,!!W,~~~w,AC ⇑(yt k.toNat w),AC (.int (w.length:Nat))]
  ·rfl'
   refine yl (λhk=>#[⋯,⋯,⋯,λD hD=>CompR.by (λi AI H'=>Same H2 H'/\H' D=AC (.lst AI)/\AI=(((w.reverse.take i).map λc=>[c]).map tx).map V.str) #[zd hD,zc,rfl] ?_ ?_]) λhk=>?_
   ·refine nm3 ?_;rintro i AI H' hi ⟨hs,hH,rfl⟩:_;rw[aF]at hi
    have hr:w.reverse[i]? = AC (w[w.length - 1 - i]'⋯):=by
     rw[fg hi,ak ⋯]
    have ha:atI w ((w.length:Int) - 1 - (0+(i:Int)))=AC (w[w.length - 1 - i]'⋯):=by
     rw[show (w.length:Int) - 1 - (0+(i:Int))=((w.length - 1 - i:Nat):Int) by lia];exact wF (ak ⋯)
    right
    erw[yW]
    rfl'
    refine#[yx,⋯,⋯,_,ha,hH,by erw[aa,av,cb];lia,x8 (by rw[aF];exact hi) #[zy hs hD,zc,?_]];rw[zK hr,al,al,al];rfl
   ·refine nmB ?_;rintro AI H' ⟨hs,hH,rfl⟩:_;rw[aF,<- cb,aD]at hH
    have hfl:(w.reverse.map λc=>[c]).flatten=w.reverse:=by
     induction w.reverse with
     | nil=>rfl
     | cons a r ih=>rw[aw,dz,ih];rfl
    right;refine#[tx [],D,(w.reverse.map λc=>[c]).map tx,rfl,rfl,x4 hH,QU (by rw[hfl,cb];lia),?_];have e:Txt.join (tx []) ((w.reverse.map λc=>[c]).map tx)=Str.join (tx []) ((w.reverse.map λc=>[c]).map tx):=StrLaws.glued_eq_join _ _;rw[e,Ux,hfl];refine#[hs,?_];rw[hk];rfl
   ·refine#[x9 _,?_];unfold yt;rw[y9 ⋯]
  rintro σ H3 ⟨s3,rfl⟩:_;have hW3:=s3 _ _ hW;right;change Same H3 H'/\σ=[~~~!k,~~~l,!!W,~~~w,AC ⇑(yt k.toNat w),AC (.int (zr k.toNat l ws w))]
  ·rfl'
   refine yl (λhk=>λD hD=>CompS.by (λi AI H'=>Same H3 H'/\H' D=AC (.lst AI)/\AI=((w.take i).map λc=>ws.getD (l.idxOf c) 0).map V.int) #[zd hD,zc,rfl] ?_ ?_) λhk=>?_
   ·refine nm4 ?_;rintro i c AI H' hc ⟨hs,hH,rfl⟩:_;have hci:=(AJ.mp hc).1;have hcl:=hm c (af hc);have hlt:=bR hcl
    have ea:atI (ws.map V.int) ((l.idxOf c:Nat):Int)=AC (.int (ws.getD (l.idxOf c) 0)):=by
     refine wF ?_;rw[ax,am,ak ⋯];rfl
    right
    erw[yW]
    rfl'
    refine#[yx,.inl #[_,x4 (hs _ _ hW3),_,by rw[ZY hcl];exact ea,hH,by erw[aa,av];lia,x8 hci #[zy hs hD,zc,?_]]];rw[zK hc,al,al];rfl
   ·refine nmB ?_;rintro AI H' ⟨hs,hH,rfl⟩:_;rw[aD]at hH;right;refine#[D,_,rfl,x4 hH,hs,congrArg V.int ?_];have e2:=j7 (ls:=l) (ns:=ws) lnd hwl (w:=w) hm;unfold Jd at e2;unfold zr;rw[y6 ⋯,<- e2];rfl
   ·refine#[x9 _,?_];unfold zr;rw[y9 ⋯]
  rintro σ H4 ⟨s4,rfl⟩:0
  rfl'
  intro D hD
  have hsm:∀c ∈ yt k.toNat w,c ∈ l:=λc hc=>by
   unfold yt at hc;split at hc
   ·exact hm c (AX.mp hc)
   ·exact hm c hc
  have hsl:(yt k.toNat w).length<=1000:=by
   unfold yt;split
   ·rw[cb];exact hw
   ·exact hw
  refine CompS.by (λi AI H'=>Same H4 H'/\H' D=AC (.lst AI)/\AI=(uU l ((yt k.toNat w).take i)).map V.int) #[zd hD,zc,rfl] ?_ ?_
  ·refine nm4 ?_;rintro i c AI H' hc ⟨hs,hH,rfl⟩:_;have hci:=(AJ.mp hc).1;have hcl:=hsm c (af hc);right
   erw[yW]
   rfl'
   rw[ZY hcl];refine#[yx,hH,by rw[aa];unfold uU;rw[aa,av];lia,x8 hci #[zy hs hD,zc,?_]];unfold uU;rw[zK hc,al,al];rfl
  ·refine nmB ?_;rintro AI H' ⟨hs,hH,rfl⟩:_;rw[aD]at hH;right;exact#[⋯,λp hp=>q p D _ (s3.trans (s4.trans (hs.trans (zd hp)))) zc (zd hp _ _ hH) ((s3.trans s4).free hD)]
def QK{k:Nat}{l:()}{ws:List Int}{u v:()}{p p' r r':rQ}{H:Hp}{Q:VK}(hp:H p=AC (.tup [.int (zr k l ws u),.ref p']))(hp':H p'=AC (.lst ((wx k l u).map V.int)))(hr:H r=AC (.tup [.int (zr k l ws v),.ref r']))(hr':H r'=AC (.lst ((wx k l v).map V.int)))(q:Q (.bl (z6 k l ws u v)) H):zcU K (.ref p) (.ref r) H Q:=by refine VI (kh hp hp') (kh hr hr') (by erw[dpD,wv,Vx];decide) (by erw[okD,Yd];exact#[trivial,qC _ _,trivial]) ?_;rw[VG];exact q
def RkAt(H:Hp)(R:rQ)(k:Nat)(l:())(ws:List Int)(u:()):Prop:=∃R':rQ,H R=AC (.tup [.int (zr k l ws u),.ref R'])/\H R'=AC (.lst ((wx k l u).map V.int))
def RkAt.lt{H:Hp}{R R2:rQ}{k:Nat}{l:()}{ws:List Int}{u v:()}{Q:VK}(h:RkAt H R k l ws u)(h2:RkAt H R2 k l ws v)(q:Q (.bl (z6 k l ws u v)) H):zcU K (.ref R) (.ref R2) H Q:=by let#[R',a,b]:=h;let#[R2',a2,b2]:=h2;exact QK a b a2 b2 q
def RkA(H0 H:Hp)(R:rQ)(k:Nat)(l:())(ws:List Int)(u:())(A:rQ):Prop:=∃R':rQ,H R=AC (.tup [.int (zr k l ws u),.ref R'])/\H R'=AC (.lst ((wx k l u).map V.int))/\R'≠A/\H0 R'=AD
def RkA.upd{H0 H:Hp}{R A:rQ}{k:Nat}{l:()}{ws:List Int}{u:()}{xs:List V}{o:HO}(h:RkA H0 H R k l ws u A)(hA:H A=AC (.lst xs)):RkA H0 (L2.upd H A o) R k l ws u A:=by let#[R',h1,h2,h3]:=h;exact#[R',by rw[zk (QT h1 hA (by intro z;cases z))];exact h1,by rw[zk h3.1];exact h2,h3]
def RkA.upd'{H0 H:Hp}{R A D:rQ}{k:Nat}{l:()}{ws:List Int}{u:()}{xs ys:List V}{o:HO}(h:RkA H0 H R k l ws u A)(hD:H D=AC (.lst xs))(h0:H0 D=AC (.lst ys)):RkA H0 (L2.upd H D o) R k l ws u A:=by let#[R',h1,h2,h3,h4]:=h;exact#[R',by rw[zk (QT h1 hD (by intro z;cases z))];exact h1,by rw[zk (λz=>by rw[z,h0]at h4;cases h4)];exact h2,h3,h4]
def RkA.same{H0 H H':Hp}{R A:rQ}{k:Nat}{l:()}{ws:List Int}{u:()}(h:RkA H0 H R k l ws u A)(s:Same H H'):RkA H0 H' R k l ws u A:=by let#[R',h1,h2,h3]:=h;exact#[R',s _ _ h1,s _ _ h2,h3]
def RkA.at_{H0 H:Hp}{R A:rQ}{k:Nat}{l:()}{ws:List Int}{u:()}(h:RkA H0 H R k l ws u A):RkAt H R k l ws u:=let #[R',h1,h2,_]:=h; #[R',h1,h2]
end
section
variable{g:TG}{tt:TT}{te:TE}{own:Nat}{ix:()}{σ:L2.St}{H1:Hp}{Q:VK}{D:rQ}
def CompT(K:rP)(a:rQ)(g:TG)(tt:TT)(te:TE)(own:Nat)(ix:())(σ:L2.St)(H1:Hp)(Q:VK)(D:rQ):Prop:=WI (Itt K a) g tt te own ix σ H1 Q D
def za0{K:rP}{tl:TE}{H:Hp}:jz (zc9 K tl) g tt te own ix σ H Q=tl σ H λx H1=>∃a,x=.ref a/\(∃xs,SqT K H1 a xs)/\∀D,H1 D=AD->CompT K a g tt te own ix σ H1 Q D:=rfl
theorem CompT.by{K:rP}{a:rQ}{xs:List V}(Pv:Nat->List V->Hp->Prop)(h0:Pv 0 [] (upd H1 D (.lst [])))(hl:∀i AI H',i<=xs.length->Pv i AI H'->SqT K H' a xs)(hs:∀i x AI H',xs[i]? = AC x->Pv i AI H'->g x (ue σ own ix) H' λσ3 H3=>xC (ue σ own ix) σ3/\tt σ3 H3 λb H4=>if b=AE then
   te σ3 H4 λv H5=>H5 D=AC (.lst AI)/\AI.length<rO/\CNx xs.length i Pv (AI ++ [v]) (upd H5 D (.lst (AI ++ [v])))else CNx xs.length i Pv AI H4)(hd:∀AI H',Pv xs.length AI H'->Q (.ref D) H'):CompT K a g tt te own ix σ H1 Q D:=by
 refine#[λi m AI H=>m=xs.length - i/\i<=xs.length/\Pv i AI H,#[xs.length,by simp,aJ _,h0],?_];rintro i m AI H' ⟨rfl,hi,p⟩;have q:=hl i AI H' hi p;by_cases hlt:i<xs.length
 ·refine .inr #[#[xs,xs[i],q,by simp [hlt]],λx H2 y=>?_];let#[e,y]:=y;subst e;exact hs i x AI _ (y xs q) p
 ·have e:i=xs.length:=⋯;subst e;exact .inl #[#[xs,q,ah _],hd AI H' p]
end
def wL{w:()}(h:zN w ps=AC u):∃p,ps[u.1]? = AC p/\zB w (u.2:Int) p.1=AE:=by have hm:u ∈ xW w ps w.length:=List.mem_of_mem_head? (by unfold zN at h;rw[h];rfl);exact (vZ (usesK_mem.mp hm).2).2
def AtF(v:())(ps:List zF)(i:Nat)(x y:Int):Prop:=∃r,FirstN v ps 0 v.length i r/\((r=AD/\x=(v.length:Int)+1)\/∃j n:Nat,r=AC (j,n)/\j<i/\n<v.length/\x=(n:Int)/\y=(j:Int))
def st_of{q:Nat}:zB v (q:Int) o=AE ↔ q+o.length<=v.length/\(v.drop q).take o.length=o:=by unfold zB;rw[decide_eq_true_eq,aF];exact#[λh=>#[⋯,h.2.2],λh=>#[⋯,⋯,h.2]]
set_option tactic.hygienic true in
mutual section
def AtF.next(h:AtF v ps i x y)(hr:ps[i]? = AC r)(hne:r.1≠[])(hz:zdW v r.1 z):(z<0->AtF v ps (i+1) x y)/\(0<=z->if z<x\/(z=x/\(i:Int)<y)then AtF v ps (i+1) z (i:Int)else AtF v ps (i+1) x y):=by
 let#[r0,hF,hx]:=h
 have lift:FirstN v ps 0 v.length (i+1) r0->AtF v ps (i+1) x y:=λhF'=>by
  refine#[r0,hF',?_];rcases hx with hx | ⟨j,n,h1,h2,h3⟩
  ·exact .inl hx
  ·exact .inr #[j,n,h1,⋯,h3]
 have hpos:0<r.1.length:=AW.mpr hne;rcases hz with ⟨rfl,hz⟩ | ⟨q,rfl,h1,h2⟩
 ·refine#[λZ=>lift (hF.keep hr λq Z Z=>?_),λh=>by lia];rw[dC];exact λh=>hz q (st_of.mp h)
 ·refine#[λh=>by lia,λZ=>?_]
  have fst:∀q':Nat,0<=q'->q'<q->zB v (q':Int) r.1=AF:=λq' Z hq=>by
   rw[dC];exact λh=>h2 q' hq (st_of.mp h)
  split
  ·rename_i hlt
   have hqx:(q:Int)<x:=by
    rcases hlt with h | ⟨h,hy⟩
    ·exact h
    ·rcases hx with ⟨_,rfl⟩ | ⟨j,n,_,hj,_,_,rfl⟩
     ·lia
     ·lia
   refine#[AC (i,q),hF.take hr (aJ _) ?_ (st_of.mpr h1) fst,.inr #[i,q,rfl,⋯,⋯,rfl,rfl]];rcases hx with ⟨rfl,rfl⟩ | ⟨j,n,rfl,_,_,rfl,_⟩
   ·show q<v.length;lia
   ·show q<n;lia
  ·rename_i hlt;refine lift (hF.keep hr λq' Z hq=>fst q' (aJ _) ?_);rcases hx with ⟨rfl,rfl⟩ | ⟨j,n,rfl,_,_,rfl,_⟩
   ·exact y4 (.inl ⋯) hlt
   ·have:q'<n:=hq;have:¬ (q:Int)<(n:Int):=λh=>hlt (.inl h);lia
structure PsL(ps:List zF):Prop where
 ne:NeL ps
 s:∀p ∈ ps,p.1.length<=100/\p.2.length<=100
 n:ps.length<=1000
def xb(K:rP):Sp:=λvs H Q Z=>∃(a:rQ) (ps:List zF) (w:()),vs=[.ref a,⇑w]/\LsA K H a (ps.map dR)/\PsL ps/\RE ps w/\∀(H':Hp),Same H H'->Q ⇑(fm ps w) H'
def yJ{a:rQ}{ps:List zF}{w:()}{H:Hp}{Q:VK}{E:XK}(h1:LsA K H a (ps.map dR))(h2:PsL ps)(h3:RE ps w)(h:∀(H':Hp),Same H H'->Q ⇑(fm ps w) H'):xb K [.ref a,⇑w] H Q E:=#[a,ps,w,rfl,h1,h2,h3,h]
structure HMn(mg:rV->Option rR):Prop where
 m:mg "min" = AD
def iA:sQz 2 ["_law_rules","_law_word_here","_law_first","_law_number","_law_rule","_law_at","_law_behind"] UN:=by nofun
def zap{f:rQ}{fd:rW}(B:Bt mg)(HM:HMn mg)(F:("_law_form"^^^UN)) :(1&&&["_law_rules","_law_word_here"]) (xb K):=by
 exists F.ok iA
 ·let#[a,ps,w,rfl,hA,hP,hRE,q0]:=h
  refine#[_,(zf (j4 p8 (xH yw (λZ=>rfl)) (zh (zC 2 iA.nd (zH (za (zv yf (zG B.len (pv 1)) zb) (za zb ze)))) (zh (zX p8 rfl (yN rfl B.enum (za (pv 0) ze)) (xS (n:=2) rfl (zR (zq (i:=3) iA.nd rfl (.inl rfl)) (zR (zq (i:=4) iA.nd rfl (.inl rfl)) y8))) (zh (zC 5 iA.nd (wV bd cq cr zat (pv 1) (za (!-4) ze))) (zf (zI (zu op_ge' (pv 5) zb (zw _)) (zf (zC 2 iA.nd (yQ (zbm rfl (wl hr)) rfl HM.m fu (za (pv 2) (za (zH (za (pv 5) (za (pv 3) ze))) ze)))))
      zo)))) (zh (zI (zu Y8 (!-2) (zG B.len (pv 1)) (zw _)) (zf (zm (pv 1)))
     zo) (zh (zC 4 iA.nd (zi ix_list (pv 0) (!-2))) (zh (zC 6 iA.nd (zO yK (pv 1) (zS (zv yf (!-2) (zG B.len (!-4)))) yc)) (zf (zC 1 iA.nd (zv zU (zv zU (zO yK (pv 1) yc (zS (!-2))) (!-4)) (pv 6))))))))))),?_]
  have s16:=yd;let#[xs,hX,hI]:=id hA;have hxl:=hI.len;rw[aa]at hxl;have hpn:=hP.n;let#[J,_,hRd,hJn,hJ4,_]:=hRE.at_;have q:∀(i:Nat) (H':Hp),Same H H'->kF ps w i->zN (wAt ps w i) ps=AD->Q ⇑(wAt ps w i) H':=λi H' s' h1 h2=>by rw[hRE.fm_of h1 h2];exact q0 H' s'
  have liveJ:∀{i:Nat},kF ps w i->i<=J:=λ{i} h=>cF λz=>h J z hJn;unfold Wb;refine#[λm σ H'=>Same H H'/\∃(k:Nat) (v2 v3 v4 v5 v6:Option V),(m=J - k/\kF ps w k)/\σ=[!!a,AC ⇑(wAt ps w k),v2,v3,v4,v5,v6],#[_,x9 _,0,AD,AD,AD,AD,AD,#[rfl,λi hi=>y4 hi (bv i)],rfl],?_];refine nmC ?_;rintro m σ H1 ⟨s1,k,v2,v3,v4,v5,v6,⟨rfl,hk⟩,rfl⟩:_;have hkJ:=liveJ hk;have hvl:=hRE.len k ⋯;right
  rfl'
  refine#[λσ' H''=>Same H H''/\∃(u:Nat × Nat) (v2 v3 v4 v5 v6:Option V),zN (wAt ps w k) ps=AC u/\σ'=[!!a,AC ⇑(YF (wAt ps w k) ps u),v2,v3,v4,v5,v6],?_,?_]
  ·refine nmB ?_;rintro σ' H'' ⟨s2,u,v2,v3,v4,v5,v6,h,rfl⟩:_
   have hk1:kF ps w (k+1):=λi hi=>by
    by_cases e:i=k
    ·rw[e,h];intro z;cases z
    ·exact hk i ⋯
   have e:=vb h;have m1:J - (k+1)<J - k:=by have:=liveJ hk1;lia
   right;exact#[_,m1,s2,k+1,rfl,hk1,v2,v3,v4,v5,v6,by rw[e]]
  generalize hv:wAt ps w k=v at hvl;change Same H H'/\∃q:rQ,H' q=AC (.tup [.int ((v.length:Int)+1),.int 0])/\σ=[!!a,~~~v,!!q,v3,v4,v5,v6]
  ·rfl'
   exact#[⋯,⋯,λp hp=>#[s1.trans (zd hp),zc]]
  rintro σ H2 ⟨s2,q0,hq0,rfl⟩:0;change Same H H'/\∃(q0:rQ) (x y:Int),H' q0=AC (.tup [.int x,.int y])/\AtF v ps ps.length x y/\∃v3 v4 v5:Option V,σ=[!!a,~~~v,!!q0,v3,v4,v5,v6]
  ·rfl'
   refine#[#[_,x4 (s2 _ _ hX)],ja3 (xs:=xs) (λi σ H'=>Same H H'/\∃(q0:rQ) (x y:Int),H' q0=AC (.tup [.int x,.int y])/\AtF v ps i x y/\∃v3 v4 v5:Option V,σ=[!!a,~~~v,!!q0,v3,v4,v5,v6]) #[s2,q0,_,_,hq0,#[AD,.inl #[rfl,λj q h=>y4 h (bv _)],.inl #[rfl,rfl]],v3,v4,v5,rfl] (λi σ H' Z h=>x4 (h.1 _ _ hX)) ?_ ?_]
   ·refine nmE ?_;rintro i x σ H3 p3 hx ⟨s3,q0,x0,y0,hq0,hat,v3,v4,v5,rfl⟩ hp3:_;have hi:=(AJ.mp hx).1;let#[r,p,hr,rfl,hsq]:=hI.getR hx;have sp3:=zd (o:=.tup [.int (i:Nat),.ref p]) hp3;have s4:=s3.trans sp3;have hq4:=sp3 _ _ hq0;have hsq4:=zt s4 hsq;right
    rfl'
    refine#[_,x6 zc,rfl,_,_,rfl,_,_,rfl,rfl,?_];generalize upd H3 p3 (.tup [.int (i:Nat),.ref p])=H4 at s4 hq4 hsq4;change H'=H4/\∃z:Int,zdW v r.1 z/\σ=[!!a,~~~v,!!q0,-~~~i,!!p,~~~!z,v6]
    ·rfl'
     exact#[_,hsq4,_,rfl,v,r.1,rfl,rfl,λz hz=>#[rfl,z,hz,rfl]]
    rintro σ H5 ⟨rfl,z,hz,rfl⟩:_;have hnx:=hat.next hr (hP.ne r (af hr)) hz;right
    rfl'
    refine yl (λh0=>#[⋯,λp5 hp5=>?_]) λh0=>#[s4,q0,x0,y0,hq4,hnx.1 ⋯,rfl];have sp5:=zd (o:=.tup [.int z,.int (i:Nat)]) hp5;refine#[q0,p5,x0,y0,z,(i:Nat),rfl,x6 (sp5 _ _ hq4),x6 zc,s4.trans sp5,?_];have hy:=hnx.2 h0;by_cases g:z<x0\/(z=x0/\(i:Int)<y0)
    ·rw[y6 g]at hy ⊢;exact#[p5,_,_,zc,hy,rfl]
    ·rw[y9 g]at hy ⊢;exact#[q0,_,_,sp5 _ _ hq4,hy,rfl]
   ·refine nmB ?_;rintro σ H' ⟨s',q0,x,y,h1,h2,v3,v4,v5,rfl⟩:0;exact#[s',q0,x,y,h1,by rw[<- hxl];exact h2,v3,v4,v5,rfl]
  rintro σ H3 ⟨s3,q0,x,y,hq0,⟨r0,hF,hat⟩,v3,v4,v5,rfl⟩:_;have hfu:=ku hF;right;change H'=H3/\(∃(n j:Nat) (p:zF),x=(n:Int)/\y=(j:Int)/\ps[j]? = AC p/\zB v (n:Int) p.1=AE/\zN v ps=AC (j,n))/\σ=[!!a,~~~v,!!q0,v3,v4,v5,v6]
  ·rfl'
   refine#[_,x6 hq0,_,rfl,⋯,_,rfl,yl (λhg=>?_) λhg=>?_]
   ·rcases hat with ⟨rfl,_⟩ | ⟨j,n,_,_,hn,rfl,_⟩
    ·rw[<- hv]at hfu ⊢;exact q k H3 s3 hk hfu.symm
    ·lia
   ·let#[j,n,rfl,_,_,h1,h2]:=hat.resolve_left λh=>hg (by have:=h.2;lia);let#[p,g1,g2]:=wL hfu.symm;exact#[n,h1,j,h2,p,g1,g2,hfu.symm]
  rintro σ H4 ⟨rfl,⟨n,j,r,rfl,rfl,hr,hst,hfu⟩,rfl⟩:_;let#[hn1,hn2]:=st_of.mp hst;have hrm:=af hr;have hrl:=hP.s r hrm
  obtain⟨x3,hx3,hsq3⟩:∃p3:rQ,xs[j]? = AC (.ref p3)/\SqT K H4 p3 [⇑r.1,⇑r.2]:=by
   have hj:=(AJ.mp hr).1;have hx:xs[j]? = AC (xs[j]'⋯):=ak ⋯;let#[r',p,hr',e,hsq]:=hI.getR hx;rw[hr]at hr';cases hr';exact#[p,by rw[hx,e],zt s3 hsq]
  right;change H'=H4/\σ=[!!a,~~~v,!!q0,v3,!!x3,v5,v6]
  ·rfl'
   exact#[_,x6 hq0,_,rfl,_,rfl,_,x4 (s3 _ _ hX),wF hx3]
  rintro σ H5 ⟨rfl,rfl⟩:0;change H'=H5/\σ=[!!a,~~~v,!!q0,v3,!!x3,v5,AC ⇑(v.drop (n+r.1.length))]
  ·rfl'
   refine#[_,x6 hq0,_,rfl,_,hsq3,_,rfl,_,#[by rw[zP];lia,rfl],_,rfl,⋯,?_];rw[zP,<- eU,xn v (bC _),aF]
  rintro σ H6 ⟨rfl,rfl⟩:0
  rfl'
  have e:v.take n ++ r.2 ++ v.drop (n+r.1.length)=YF v ps (j,n):=by
   unfold YF vt;rw[vX hr];rfl
  refine#[_,x6 hq0,_,rfl,_,rfl,⋯,_,hsq3,_,rfl,_,rfl,?_,?_,s3,_,hfu,?_]
  all_goals erw[zP,yC,uQ v (bC _),aF,ag,av,aG]
  ·lia
  ·lia
  ·rw[e]
def zc2:List V->Hp->VK->Prop:=λxs H Q=>∃i j,xs=[.int i,.int j]/\Q (.int (if j<i then j else i)) H
def zbK(hc:X.calm=AE):ww X (.builtin "min") zc2:=VF hc
def KY{A B C X Y:Prop}[Decidable A][Decidable B][Decidable C](h1:A->(B\/C)->X)(h2:¬ (A/\(B\/C))->Y):if A then (if B then X else if C then X else Y)else Y:=by by_cases a:A <;> by_cases b:B <;> by_cases c:C <;> simp_all
def zao(hr:ps[i]? = AC r)(ho:ps[j]? = AC o)(hn:n<r.1.length)(hsz:sz=min (r.1.length - n) o.1.length):xk (lf ps i) (lf ps j) n=decide ((r.1.drop n).take sz=o.1.take sz)/\pkA ps (i,j,n)=r.2 ++ o.1.drop sz/\pkB ps (i,j,n)=(r.1 ++ o.1.drop sz).take n ++ o.2 ++ (r.1 ++ o.1.drop sz).drop (n+o.1.length):=by
 have d1:ps.getD i ([],[])=r:=by rw[am,hr];rfl
 have d2:ps.getD j ([],[])=o:=by rw[am,ho];rfl
 have ed:o.1.drop (r.1.length - n)=o.1.drop sz:=by
  rcases fQ (r.1.length - n) o.1.length with h | h
  ·rw[hsz,bV h]
  ·rw[hsz,cf h,bw h,List.drop_length]
 refine#[?_,?_,?_]
 ·rw[vn hr,vn ho];unfold xk
  have e1:(r.1.drop n).take o.1.length=(r.1.drop n).take sz:=by
   rw[hsz];rcases fQ (r.1.length - n) o.1.length with h | h
   ·rw[bV h,bc (by rw[aG];exact h),bc (by rw[aG];exact ah _)]
   ·rw[cf h]
  have e2:o.1.take (r.1.length - n)=o.1.take sz:=by
   rw[hsz];rcases fQ (r.1.length - n) o.1.length with h | h
   ·rw[bV h]
   ·rw[cf h,bc h,aD]
  rw[e1,e2]
 ·unfold pkA vt xp;rw[vn hr,vn ho,d1];show (r.1 ++ o.1.drop (r.1.length - n)).take 0 ++ r.2 ++ (r.1 ++ o.1.drop (r.1.length - n)).drop (0+r.1.length)=_;rw[cj,cP,fP,ft,ed]
 ·unfold pkB vt xp;rw[vn hr,vn ho,d2];show (r.1 ++ o.1.drop (r.1.length - n)).take n ++ o.2 ++ (r.1 ++ o.1.drop (r.1.length - n)).drop (n+o.1.length)=_;rw[ed]
def Yo{ps:List zF}{t:N3}:Vg ps 4000 t=decide (fm ps (pkA ps t)=fm ps (pkB ps t)):=rfl
def ZU(K:rP):Sp:=λvs H Q Z=>∃(a:rQ) (ps:List zF),vs=[.ref a]/\LsA K H a (ps.map dR)/\PsL ps/\PkR ps/\(∀p ∈ ps,p.1.length<=10/\p.2.length<=10)/\∀H':Hp,Same H H'->Q (.bl (Wi ps)) H'
def gC:sQz 1 ["_law_rules","_law_k","_law_rule","_law_n","_law_other","_law_place","_law_size","_law_agree","_law_word_here","_law_left","_law_behind","_law_right"] Vo:=by nofun
def zaE{f:rQ}{fd:rW}(B:Bt mg)(HM:HMn mg)(F:("_law_meet"^^^Vo))(iQ:(1<<<"_law_form") ["_law_rules","_law_word_here"] [] (xb K)):(2&&&["_law_rules"]) (ZU K):=by
 exists F.ok gC
 ·let#[a,ps,rfl,hA,hP,hPk,hsd,q]:=h
  refine#[_,(zh (zX p8 rfl (yN rfl B.enum (za (pv 0) ze)) (xS (n:=2) rfl (zR (zq (i:=1) gC.nd rfl (.inl rfl)) (zR (zq (i:=2) gC.nd rfl (.inl rfl)) y8))) (zf (zX p8 rfl (yN rfl B.enum (za (pv 0) ze)) (xS (n:=2) rfl (zR (zq (i:=3) gC.nd rfl (.inl rfl)) (zR (zq (i:=4) gC.nd rfl (.inl rfl)) y8))) (zf (zX p8 rfl (yB rfl B.range (za (zG B.len (!-2)) ze)) (zq (i:=5) gC.nd rfl (.inl rfl)) (zh (zC 6 gC.nd (yQ (zbK rfl) rfl HM.m fu (za (zv wM (zG B.len (!-2)) (pv 5)) (za (zG B.len (!-4)) ze)))) (zh (zC 7 gC.nd (yn yq (zO yK (!-2) (zS (pv 5)) (zS (zv yf (pv 5) (pv 6)))) (zO yK (!-4) yc (zS (pv 6))) (zw _))) (zf (zI (PW.pt (Xr (xH (pv 7) (λZ=>rfl)) (kQ (PW.pt (kX (zu uC (pv 1) (pv 3) (zw _)) (qV (zu Y8 (pv 5) zb (zw _)))))))) (zh (zC 8 gC.nd (zv zU (!-2) (zO yK (!-4) (zS (pv 6)) yc))) (zh (zC 9 gC.nd (zv zU (!-2) (zO yK (!-4) (zS (pv 6)) yc))) (zh (zC 10 gC.nd (zO yK (pv 8) (zS (zv yf (pv 5) (zG B.len (!-4)))) yc)) (zh (zC 11 gC.nd (zv zU (zv zU (zO yK (pv 8) yc (zS (pv 5))) (!-4)) (pv 10))) (zf (zI (zu uC (cl0 iQ hr .nil rfl (za (pv 0) (za (pv 9) ze))) (cl0 iQ hr .nil rfl (za (pv 0) (za (pv 11) ze))) (zw _)) (zf (zm yw))
        zo))))))
       zo))))))))) (zf (zm yw))),?_]
  have s16:=yd;have hpl:=hP.n;let#[xs,hX,hI]:=id hA;have hxl:=hI.len;rw[aa]at hxl
  refine J3 (λσ H'=>Same H H'/\∀t ∈ ovA ps ps.length,Vg ps 4000 t=AE) ?_ λσ H' s'=>by
   rfl'
   have e:Wi ps=AE:=AQ.mpr s'.2;have:=q H' s'.1;rw[e]at this;exact this
  rfl'
  refine#[#[_,x4 hX],ja3 (xs:=xs) (λi σ H'=>Same H H'/\(∀t ∈ ovA ps i,Vg ps 4000 t=AE)/\∃v1 v2 v3 v4 v5 v6 v7 v8 v9 v10 v11:Option V,σ=[!!a,v1,v2,v3,v4,v5,v6,v7,v8,v9,v10,v11]) #[x9 _,λt h=>(nomatch h),AD,AD,AD,AD,AD,AD,AD,AD,AD,AD,AD,rfl] (λi σ H' Z h=>x4 (h.1 _ _ hX)) ?_ λσ H' h=>#[h.1,by rw[<- hxl];exact h.2.1]];refine nmE ?_;rintro i x σ H1 p1 hx ⟨s1,m1,v1,v2,v3,v4,v5,v6,v7,v8,v9,v10,v11,rfl⟩ hp1:_;let#[r,p,hr,rfl,hsq]:=hI.getR hx;have hrm:=af hr;let#[r1,r2]:=hsd r hrm;have s2:=s1.trans (zd (o:=.tup [.int (i:Nat),.ref p]) hp1);right;dsimp only;refine K1 (x6 zc) ?_;generalize upd H1 p1 (.tup [.int (i:Nat),.ref p])=H2 at s2
  rfl'
  refine#[#[_,x4 (s2 _ _ hX)],ja3 (xs:=xs) (λj σ H'=>Same H H'/\(∀t ∈ ovI ps i j,Vg ps 4000 t=AE)/\∃v3 v4 v5 v6 v7 v8 v9 v10 v11:Option V,σ=[!!a,-~~~i,!!p,v3,v4,v5,v6,v7,v8,v9,v10,v11]) #[s2,λt h=>(nomatch h),v3,v4,v5,v6,v7,v8,v9,v10,v11,rfl] (λi σ H' Z h=>x4 (h.1 _ _ hX)) ?_ ?_]
  rotate_left
  ·refine nmB ?_;rintro σ H' ⟨s',m',v3,v4,v5,v6,v7,v8,v9,v10,v11,rfl⟩:0;refine#[s',λt ht=>?_,_,_,_,_,_,_,_,_,_,_,_,rfl];rw[qc,<- hxl]at ht;exact (AK.mp ht).elim (m1 t) (m' t)
  refine nmE ?_;rintro j x σ H3 p3 hx3 ⟨s3,m3,v3,v4,v5,v6,v7,v8,v9,v10,v11,rfl⟩ hp3:_;let#[o,po,ho,rfl,hso]:=hI.getR hx3;have hom:=af ho;let#[o1,o2]:=hsd o hom;have s4:=s3.trans (zd (o:=.tup [.int (j:Nat),.ref po]) hp3);right;dsimp only;refine K1 (x6 zc) ?_;generalize upd H3 p3 (.tup [.int (j:Nat),.ref po])=H4 at s4
  rfl'
  refine#[_,zt s4 hsq,_,rfl,_,#[by rw[zP];lia,rfl],⋯,by rw[zP];lia,?_];rw[zP];refine ForR.by (λn σ H'=>Same H H'/\(∀t ∈ Ya ps i j n,Vg ps 4000 t=AE)/\∃v5 v6 v7 v8 v9 v10 v11:Option V,σ=[!!a,-~~~i,!!p,-~~~j,!!po,v5,v6,v7,v8,v9,v10,v11]) #[s4,λt h=>(nomatch h),v5,v6,v7,v8,v9,v10,v11,rfl] ?_ ?_
  rotate_left
  ·refine nmB ?_;rintro σ H' ⟨s',m',v5,v6,v7,v8,v9,v10,v11,rfl⟩:0;refine#[s',λt ht=>?_,_,_,_,_,_,_,_,_,_,rfl];rw[ub,vn hr]at ht;exact (AK.mp ht).elim (m3 t) (m' t)
  refine nm3 ?_;rintro n σ H5 hn ⟨s5,m5,v5,v6,v7,v8,v9,v10,v11,rfl⟩:_;have hn':n<r.1.length:=⋯;right;dsimp only
  erw[yZ,aV,aU]
  rw[show (0:Int)+(n:Int)=(n:Int) by lia];have hsq5:=zt s5 hsq;have hso5:=zt s5 hso;change H'=H5/\∃sz:Nat,sz=min (r.1.length - n) o.1.length/\σ=[!!a,-~~~i,!!p,-~~~j,!!po,-~~~n,-~~~sz,v7,v8,v9,v10,v11]
  ·rfl'
   refine#[_,hsq5,_,rfl,_,#[by rw[zP];lia,rfl],_,hso5,_,rfl,_,#[by rw[zP];lia,rfl],_,_,rfl,rfl,?_];rw[zP,zP];refine congrArg V.int ?_;split <;> lia
  rintro σ H6 ⟨rfl,sz,hsz,rfl⟩:0;change H'=H6/\σ=[!!a,-~~~i,!!p,-~~~j,!!po,-~~~n,-~~~sz,AC (.bl (decide ((r.1.drop n).take sz=o.1.take sz))),v8,v9,v10,v11]
  ·rfl'
   refine#[_,hsq5,_,rfl,_,rfl,by rw[zP];lia,_,hso5,_,rfl,_,rfl,by rw[zP];lia,?_];rw[jh,jh,uQ _ (bC _),JQ _ (bC _) ⋯,aF,aF,show ((n:Int)+(sz:Int) - (n:Int)).toNat=sz by lia]
  rintro σ H7 ⟨rfl,rfl⟩:_;let#[eg,eA,eB]:=zao hr ho hn' hsz;right
  rfl'
  refine KY (λhag hne=>?_) λhno=>#[s5,λt ht=>?_]
  rotate_left
  ·rw[wT,eg]at ht;refine (AK.mp ht).elim (m5 t) λht=>?_;rw[y9]at ht
   ·cases ht
   ·intro hb
    erw[ce,eR,decide_eq_true_eq]at hb
    exact hno #[hb.2,hb.1.imp (λh z=>h ⋯) λh=>by lia]
  have hsl:(o.1.drop sz).length<=10:=by rw[aG];lia
  change H'=H7/\σ=[!!a,-~~~i,!!p,-~~~j,!!po,-~~~n,-~~~sz,AC (.bl (decide ((r.1.drop n).take sz=o.1.take sz))),AC ⇑(r.1 ++ o.1.drop sz),v9,v10,v11]
  ·rfl'
   refine#[_,hsq5,_,rfl,_,hso5,_,rfl,_,rfl,by rw[zP];lia,_,rfl,?_,?_]
   all_goals rw[jh,xn _ (bC _),aF]
   ·rw[zP];lia
   ·rw[yC]
  rintro σ H8 ⟨rfl,rfl⟩:0;change H'=H8/\σ=[!!a,-~~~i,!!p,-~~~j,!!po,-~~~n,-~~~sz,AC (.bl (decide ((r.1.drop n).take sz=o.1.take sz))),AC ⇑(r.1 ++ o.1.drop sz),AC ⇑(r.2 ++ o.1.drop sz),v10,v11]
  ·rfl'
   refine#[_,hsq5,_,rfl,_,hso5,_,rfl,_,rfl,by rw[zP];lia,_,rfl,?_,?_]
   all_goals rw[jh,xn _ (bC _),aF]
   ·rw[zP];lia
   ·rw[yC]
  rintro σ H9 ⟨rfl,rfl⟩:_;have hwl:(r.1 ++ o.1.drop sz).length<=20:=by rw[ag];lia
  right;generalize hwd:r.1 ++ o.1.drop sz=wd at eB hwl;change H'=H9/\σ=[!!a,-~~~i,!!p,-~~~j,!!po,-~~~n,-~~~sz,AC (.bl (decide ((r.1.drop n).take sz=o.1.take sz))),~~~wd,AC ⇑(r.2 ++ o.1.drop sz),AC ⇑(wd.drop (n+o.1.length)),v11]
  ·rfl'
   refine#[_,hso5,_,rfl,_,#[by rw[zP];lia,rfl],⋯,?_];rw[zP,<- eU,xn wd (bC _),aF]
  rintro σ H10 ⟨rfl,rfl⟩:0;change H'=H10/\σ=[!!a,-~~~i,!!p,-~~~j,!!po,-~~~n,-~~~sz,AC (.bl (decide ((r.1.drop n).take sz=o.1.take sz))),~~~wd,AC ⇑(r.2 ++ o.1.drop sz),AC ⇑(wd.drop (n+o.1.length)),AC ⇑(wd.take n ++ o.2 ++ wd.drop (n+o.1.length))]
  ·rfl'
   refine#[⋯,_,hso5,_,rfl,_,rfl,?_,?_,?_]
   all_goals erw[zP,yC,uQ wd (bC _),aF,ag,av,aG]
   ·lia
   ·lia
  rintro σ H11 ⟨rfl,rfl⟩:0
  rfl'
  rw[<- eA,<- eB]
  have htm:(i,j,n) ∈ ovA ps ps.length:=by
   refine AT.mpr #[i,AR.mpr (AJ.mp hr).1,AT.mpr #[j,AR.mpr (AJ.mp ho).1,AN.mpr #[n,AU.mpr #[AR.mpr (by rw[vn hr];exact hn'),?_],rfl]]];rw[eg,ce,eR,decide_eq_true_eq,decide_eq_true_eq,decide_eq_true_eq];exact#[hne.imp (λh z=>h (by rw[z])) λh=>by lia,hag]
  let#[p1,p2]:=hPk _ htm;have hR:=hA.same s5;refine yJ hR hP p1 λH12 s12=>yJ (hR.same s12) hP p2 λH13 s13=>#[rfl,yl (λhd=>?_) λhd=>#[(s5.trans s12).trans s13,λt ht=>?_]]
  ·have e:Wi ps=AF:=by
    unfold Wi;rw[List.all_eq_false];refine#[(i,j,n),htm,?_];rw[Yo,y3 λe=>hd (by rw[e])];decide
   have:=q H13 ((s5.trans s12).trans s13);rw[e]at this;exact this
  ·rw[wT]at ht;refine (AK.mp ht).elim (m5 t) λht=>?_;split at ht
   ·rw[AL.mp ht,Yo];exact u9 (xP (V.str.inj (Classical.not_not.mp hd)))
   ·cases ht
abbrev zeQ(mg:rV->Option rR):Prop:=mg "any" = AD
abbrev zcx(K:rP):TE:=xt wk [] E0 (zE (tOp (xN K) (zV 1) (tC (V.int 0))) (zE (tOp (xN K) (zV 1) (tC (V.int 1))) (zE (tOp (xN K) (zV 1) (tC (V.int 2))) (zE (zV 0) yT))))
def jE{p rk W A2:rQ}{k:Int}{l:()}{ws:List Int}{r1 r2:()}{H:Hp}{σ:L2.St}{j:Nat}{Q:VK}(hσ:ue σ 1 [j]=[AD,!!rk])(hq:SqT K H p [⇑r1,⇑r2])(hK:H rk=AC (.tup [.int k,⇑l,.ref W]))(hW:H W=AC (.lst (ws.map V.int)))(k0:0<=k)(k3:k<3)(hg:vm l=AE)(hwl:ws.length=l.length)(hwb:∀n ∈ ws,1<=n/\n<=1000000)(b1:r1.length<=10) (b2:r2.length<=10) (d1:∀c ∈ r1,c ∈ l) (d2:∀c ∈ r2,c ∈ l) (hA:H A2=AD) (q:∀(R1 R2:rQ) (H':Hp),Same H H'->H' A2=AC (.lst [.ref R1,.ref R2])->RkA H H' R1 k.toNat l ws r1 A2->RkA H H' R2 k.toNat l ws r2 A2->Q (.ref A2) H'):CompT K p (yZ 0) yW (zcx K) 1 [j] σ H Q A2:=by
 have s16:=yd;refine CompT.by (xs:=[⇑r1,⇑r2]) (λi AI H'=>Same H H'/\H' A2=AC (.lst AI)/\∃R1 R2:rQ,AI=[V.ref R1,V.ref R2].take i/\(1<=i->RkA H H' R1 k.toNat l ws r1 A2)/\(2<=i->RkA H H' R2 k.toNat l ws r2 A2)) #[zd hA,zc,0,0,rfl,λh=>by lia,λh=>by lia] (λi AI H' Z h=>zt h.1 hq) ?_ ?_
 ·refine nm4 ?_;rintro i x AI H' hx ⟨hs,hH,R1,R2,rfl,h1,h2⟩:_;have hi:=(AJ.mp hx).1;have hk':=x6 (K:=K) (hs _ _ hK);have fin:∀{H'':Hp} {P1 P2:rQ} {r:()} {o:HO},Same H' H''->H'' P1=AC (.tup [.int (zr k.toNat l ws r),.ref P2])->H'' P2=AC (.lst ((wx k.toNat l r).map V.int))->H' P2=AD->RkA H (upd H'' A2 o) P1 k.toNat l ws r A2:=λs'' p1 p2 p3=>RkA.upd #[_,p1,p2,(λz=>by rw[z,hH]at p3;cases p3),hs.free p3] (s'' _ _ hH);right;dsimp only;rw[hσ];rcases (show i=0\/i=1 by erw[au,aO]at hi;lia)with rfl | rfl
  ·cases hx
   erw[yW]
   rfl'
   exact#[yx,_,hk',_,rfl,_,hk',_,rfl,_,hk',_,rfl,Z8 k0 k3 hg (hs _ _ hW) hwl hwb ⋯ d1 λP1 P2 H'' s'' p1 p2 p3=>#[s'' _ _ hH,by show 0<rO;lia,x8 hi #[zy (hs.trans s'') hA,zc,P1,0,rfl,λZ=>fin s'' p1 p2 p3,λh=>by lia]]]
  ·cases hx
   erw[yW]
   rfl'
   exact#[yx,_,hk',_,rfl,_,hk',_,rfl,_,hk',_,rfl,Z8 k0 k3 hg (hs _ _ hW) hwl hwb ⋯ d2 λP1 P2 H'' s'' p1 p2 p3=>#[s'' _ _ hH,by show 1<rO;lia,x8 hi #[zy (hs.trans s'') hA,zc,R1,P1,rfl,λZ=>((h1 (ah _)).same s'').upd (s'' _ _ hH),λZ=>fin s'' p1 p2 p3]]]
 ·refine nmB ?_;rintro AI H' ⟨hs,hH,R1,R2,rfl,h1,h2⟩:0;exact q R1 R2 H' hs hH (h1 (by simp)) (h2 (by simp))
structure FrP(l:())(ws:List Int)(k:Nat)(rs:List zF)(es:List Ent)(u v:()):Prop where
 G:OG l ws k
 ok:wN rs
 p:PapF k l ws rs es u v
 s:∀e ∈ es,e.1.length<=10/\e.2.1.length<=10
def FrP.ps{l:()}{ws:List Int}{k:Nat}{rs:List zF}{es:List Ent}{u v:()}(h:FrP l ws k rs es u v)(hl:∀e ∈ es,z6 k l ws e.2.1 e.1=AE):PsL (zA es):=by refine#[(h.p.bg hl).ne h.G,λp hp=>h.p.rsok.2 p hp,by have:=h.p.rsok.1;lia]
def all_map{α:Type}(xs:List α)(f:α->Bool):(xs.map f).all id=xs.all f:=by rw[eE];rfl
def VJ{k:Nat}{l:()}{ns:List Int}{rs:List zF}{es:List Ent}{u v x z:()}{e:Ent}(he:e ∈ es)(h:yL k l ns rs e=AF):xl k l ns rs es u v x z=AF:=by unfold xl;rw[show es.all (yL k l ns rs)=AF from Ba.mpr #[e,he,by rw[h];decide]];rfl
def JT(K:rP):Sp:=λvs H Q Z=>∃(pa fp D rk W:rQ) (k:Int) (l:()) (ws:List Int) (rs:List zF) (es:List Ent) (u v x z:()),vs=[.ref pa,⇑u,⇑v,.ref fp,.ref rk]/\0<=k/\k<3/\LsA K H pa (rs.map dR)/\H fp=AC (.tup [.str "forms",.ref D,⇑x,⇑z])/\EnsM K H D es/\H rk=AC (.tup [.int k,⇑l,.ref W])/\H W=AC (.lst (ws.map V.int))/\FrP l ws k.toNat rs es u v/\∀H',Same H H'->Q (.bl (xl k.toNat l ws rs es u v x z)) H'
def gB:sQz 5 ["_law_pacts","_law_one","_law_other","_law_answer","_law_ranks","_law_rules","_law_rule","_law_sides","_law_forms"] zW:=by nofun
def uV{f:rQ}{fd:rW}(B:Bt mg)(hany:zeQ mg)(F:("_law_forms_stand"^^^zW))(rG:(2<<<"_law_meet") ["_law_rules"] [] (ZU K))(iQ:(1<<<"_law_form") ["_law_rules","_law_word_here"] [] (xb K))(pG:(1<<<"_law_rank") ["_law_kind","_law_letters_here","_law_weights","_law_word_here"] [] wk)(oE:(2<<<"_law_end") ["_law_pacts","_law_word_here","_law_steps"] [] (jG K)):(3&&&["_law_pacts","_law_one","_law_other","_law_answer","_law_ranks"]) (JT K):=by
 exists F.ok gB
 ·let#[pa,fp,D,rk,W,k,l,ws,rs,es,u,v,x,z,rfl,k0,k3,hP,hF,hM,hK,hW,hS,q]:=h
  refine#[_,(zh (uL (i:=5) gB.nd rfl (Or.inr rfl) (yO (own:=["_law_entry"]) (caps:=[]) (ix:=[]) (tt:=yW) (te:=(WJ (zE (tOp (xN K) (zV 0) (tC (.int 0))) (zE (tOp (xN K) (zV 0) (tC (.int 1))) yT)))) rfl (zJ (sc:=zg zW) rfl (!0) (!0) (!0) rfl (!0) (!0) rfl) (ya (!-3)) (λZ Z Z Z Z Z=>zq (i:=0) (show List.Nodup [_] by decide) rfl (.inl rfl)) (λZ Z Z Z Z Z=>z7) (λZ Z Z Z Z Z=>(zH (za (!-0) (za (!-0) ze)))))) (zh (zX p8 rfl (ya (pv 5)) (zq (i:=6) gB.nd rfl (.inl rfl)) (zh (zI (xH (yQ (zd4 rfl) rfl hany PyProof.Rows.boot_any (za (yO (own:=["_law_sign"]) (caps:=["_law_ranks"]) (ix:=[4]) (tt:=yW) (te:=(tOp zcT (zV 0) (tOp (xN K) (zV 1) (tC (.int 1))))) rfl (zJ (sc:=zg zW) rfl (!0) (!0) (!0) rfl (!0) (!0) rfl) (qW (zv zU (!-6) (!-6))) (λZ Z Z Z Z Z=>zq (i:=0) (show List.Nodup [_,_] by decide) rfl (.inl rfl)) (λZ Z Z Z Z Z=>z7) (λZ Z Z Z Z Z=>(yn zbg (pv 0) (!-1) (by with_unfolding_all rfl)))) ze)) (λZ=>rfl)) (zf (zm yw))
     zo) (zh (uG (i:=7) gB.nd rfl (.inl rfl) (.inl rfl) (own:=["_law_side"]) (caps:=["_law_ranks"]) (ix:=[4]) (tt:=yW) (te:=(xt wk [] E0 (zE (tOp (xN K) (zV 1) (tC (.int 0))) (zE (tOp (xN K) (zV 1) (tC (.int 1))) (zE (tOp (xN K) (zV 1) (tC (.int 2))) (zE (zV 0) yT)))))) rfl (zJ (sc:=zg zW) rfl (!0) (!0) (!0) rfl (!0) (!0) rfl) (XR (pv 6)) (λZ Z Z Z Z Z=>zq (i:=0) (show List.Nodup [_,_] by decide) rfl (.inl rfl)) (λZ Z Z Z Z Z=>z7) (λZ Z Z Z Z Z=>(cl0 pG hr .nil rfl (za (!-1) (za (!-1) (za (!-1) (za (pv 0) ze))))))) (zf (zI (yv (zu (Wn (wl hr)) (zi ix_list (pv 7) zb) (zi ix_list (pv 7) zb) (zw _))) (zf (zm yw))
     zo))))) (zh (zI (yv (xH (yQ (zam rfl) rfl B.all dM (za (yO (own:=["_law_entry"]) (caps:=["_law_pacts"]) (ix:=[0]) (tt:=yW) (te:=(tOp rEq (xt (jG K) [] E0 (zE (zV 1) (zE (tOp (xN K) (zV 0) (tC (.int 0))) (zE (tOp (xN K) (zV 0) (tC (.int 2))) yT)))) (tOp (xN K) (zV 0) (tC (.int 1))))) rfl (zJ (sc:=zg zW) rfl (!0) (!0) (!0) rfl (!0) (!0) rfl) (ya (!-3)) (λZ Z Z Z Z Z=>zq (i:=0) (show List.Nodup [_,_] by decide) rfl (.inl rfl)) (λZ Z Z Z Z Z=>z7) (λZ Z Z Z Z Z=>(yn yq (cl0 oE hr .nil rfl (za (pv 1) (za (!-0) (za (!-0) ze)))) (!-0) (zw _)))) ze)) (λZ=>rfl))) (zf (zm yw))
    zo) (zh (zI (yv (xH (cl0 rG hr .nil rfl (za (pv 5) ze)) (λZ=>rfl))) (zf (zm yw))
    zo) (zh (zI (yv (xH (yQ (zam rfl) rfl B.all dM (za (yO (own:=["_law_pact"]) (caps:=["_law_rules"]) (ix:=[5]) (tt:=yW) (te:=(tOp rEq (xt (xb K) [] E0 (zE (zV 1) (zE (tOp (xN K) (zV 0) (tC (.int 0))) yT))) (xt (xb K) [] E0 (zE (zV 1) (zE (tOp (xN K) (zV 0) (tC (.int 1))) yT))))) rfl (zJ (sc:=zg zW) rfl (!0) (!0) (!0) rfl (!0) (!0) rfl) (ya (pv 0)) (λZ Z Z Z Z Z=>zq (i:=0) (show List.Nodup [_,_] by decide) rfl (.inl rfl)) (λZ Z Z Z Z Z=>z7) (λZ Z Z Z Z Z=>(yn yq (cl0 iQ hr .nil rfl (za (pv 1) (za (!-0) ze))) (cl0 iQ hr .nil rfl (za (pv 1) (za (!-0) ze))) (zw _)))) ze)) (λZ=>rfl))) (zf (zm yw))
    zo) (zh (zC 8 gB.nd (zH (za (cl0 iQ hr .nil rfl (za (pv 5) (za (pv 1) ze))) (za (cl0 iQ hr .nil rfl (za (pv 5) (za (pv 2) ze))) ze)))) (zf (zm (jS (yn (zcm (wl hr)) (pv 8) (zH (za (!-3) (za (!-3) ze))) (zw _)) (jY (yn uC (!-8) (!-8) (zw _)))))))))))),?_]
  have s16:=yd;have hG:=hS.G;have hpl:=xY es;have hle:=hS.p.n
  have hb10:∀p ∈ zA es,p.1.length<=10/\p.2.length<=10:=λp hp=>by
   let#[e,he,rfl]:=AN.mp hp;exact hS.s e he
  have hin:∀p ∈ zA es,(∀c ∈ p.1,c ∈ l)/\∀c ∈ p.2,c ∈ l:=λp hp=>by
   let#[e,he,rfl]:=AN.mp hp;exact#[(hS.p.e e he).1.ma,(hS.p.e e he).1.mb]
  have hwb:=hG.nb;have hwl:=hG.nl;have hg:=hG.g;let#[xe,hXe,hEn]:=id hM;have hxl:=hEn.len;change Same H H'/\∃R:rQ,LsA K H' R ((zA es).map dR)/\σ=%[!!pa,~~~u,~~~v,!!fp,!!rk,!!R|3]
  ·ac_rfl;refine#[_,x6 hF,_,rfl,D,rfl,#[_,x4 hXe],λD7 hD=>jb0 (xs:=xe) (λi AI H'=>Same H H'/\H' D7=AC (.lst AI)/\Iss K H' (((zA es).take i).map dR) AI) #[zd hD,zc,by erw[cj,aL,Iss]] (λi AI H' Z h=>x4 (h.1 _ _ hXe)) ?_ ?_]
   ·refine nm4 ?_;rintro i x AI H' hx ⟨hs,hH,hA⟩:_;have hi:=(AJ.mp hx).1;let#[e,pe,se,hei,rfl,hqe,_]:=hEn.get hx;have hm:(zA es)[i]? = AC (e.1,e.2.1):=by unfold zA;rw[ax,hei];rfl
    have hal:=hA.len;rw[aa,av]at hal;right
    erw[yW]
    rfl'
    refine#[yx,_,zt hs hqe,_,rfl,_,zt hs hqe,_,rfl,⋯,λp hp=>#[zd hp _ _ hH,⋯,x8 hi #[zy (hs.trans (zd hp)) hD,zc,?_]]];rw[zK hm,al];exact vS hH hA hp V0 (va _) (by erw[z9,xf,and_self])
   ·refine nmB ?_;rintro AI H' ⟨hs,hH,hA⟩:_;rw[hxl,<- hpl,aD]at hA;right;exact#[hs,D7,#[AI,hH,hA],rfl]
  rintro σ H6 ⟨s6,R,hR,rfl⟩:_;let#[xr,hXr,hIr]:=id hR;have hrl:=hIr.len;rw[aa]at hrl;have hW6:=s6 _ _ hW;have hK6:=s6 _ _ hK;right;change Same H6 H'/\(∀r ∈ zA es,z6 k.toNat l ws r.2 r.1=AE)/\∃v6 v7:Option V,σ=[!!pa,~~~u,~~~v,!!fp,!!rk,!!R,v6,v7,AD]
  ·rfl'
   refine#[#[_,x4 hXr],ja2 (xs:=xr) (λi σ H'=>Same H6 H'/\(∀r ∈ (zA es).take i,z6 k.toNat l ws r.2 r.1=AE)/\∃v6 v7:Option V,σ=[!!pa,~~~u,~~~v,!!fp,!!rk,!!R,v6,v7,AD]) #[x9 _,λr h=>(nomatch h),AD,AD,rfl] (λi σ H' Z h=>x4 (h.1 _ _ hXr)) ?_ ?_]
   ·refine nm4 ?_;rintro i x σ H7 hx ⟨s7,hlt,v6,v7,rfl⟩:_;let#[r,p,hr,rfl,hsq]:=hIr.getR hx;have hrm:r ∈ zA es:=af hr;let#[d2,d3]:=hin r hrm;let#[b1,b2]:=hb10 r hrm;have hq7:=zt s7 hsq;right
    erw[yZ,aV,aU]
    change Same H7 H'/\σ=[!!pa,~~~u,~~~v,!!fp,!!rk,!!R,!!p,v7,AD]
    ·rfl'
     refine#[_,hq7,_,rfl,_,hq7,_,rfl,_,rfl,_,rfl,by rw[zP,zP];lia,λA2 hA2=>?_];rw[yC];have hmem:∀x ∈ r.1 ++ r.2,x ∈ l:=λx hx=>(AK.mp hx).elim (d2 x) (d3 x);have hfl:(r.1 ++ r.2).length<=120:=by rw[ag];lia
     generalize r.1 ++ r.2=fl at hmem hfl ⊢;refine CompS.by (λi AI H''=>Same H7 H''/\H'' A2=AC (.lst AI)/\AI=(aK i AF).map V.bl) #[zd hA2,zc,rfl] ?_ ?_
     ·refine nm4 ?_;rintro i c2 AI H'' hc2 ⟨hs2,hH2,rfl⟩:_;have hci:=(AJ.mp hc2).1;have hcl:=hmem c2 (af hc2);right
      erw[yW]
      rfl'
      refine#[yx,_,x6 ((s7.trans hs2) _ _ hK6),_,rfl,_,rfl,hH2,by rw[aa,bi];lia,x8 hci #[zy hs2 hA2,zc,?_]];rw[List.replicate_succ',al];simp [hcl]
     ·refine nmB ?_;rintro AI H'' ⟨hs2,hH2,rfl⟩:0;refine#[A2,aK fl.length AF,rfl,x4 hH2,AF,by simp,?_];rw[y9 ∅];exact hs2
    rintro σ H8 ⟨s8,rfl⟩:0;change Same H8 H'/\∃S R1 R2:rQ,(H' S=AC (.lst [.ref R1,.ref R2])/\RkAt H' R1 k.toNat l ws r.1/\RkAt H' R2 k.toNat l ws r.2)/\σ=[!!pa,~~~u,~~~v,!!fp,!!rk,!!R,!!p,!!S,AD]
    ·erw[xm]
     rw[za0]
     rfl'
     have hq8:=zt s8 hq7;have hW8:=(s7.trans s8) _ _ hW6;have hK8:=(s7.trans s8) _ _ hK6;refine#[#[_,hq8],λA2 hA2=>jE rfl hq8 hK8 hW8 k0 k3 hg hwl hwb b1 b2 d2 d3 hA2 λR1 R2 H' hs hH h1 h2=>#[hs,A2,R1,R2,hH,h1.at_,h2.at_,rfl]]
    rintro σ H9 ⟨s9,S,R1,R2,⟨hS9,hR1,hR2⟩,rfl⟩:0
    rfl'
    refine#[_,x4 hS9,_,rfl,_,x4 hS9,_,rfl,RkAt.lt hR2 hR1 #[_,rfl,?_]]
    cases hb:z6 k.toNat l ws r.2 r.1 with
    | false =>
     rw[y6 rfl];let#[e,he,rfl]:=AN.mp hrm;have:=q H9 (s6.trans (s7.trans (s8.trans s9)));rw[VJ he (by unfold yL;rw[hb];rfl)]at this;exact this
    | true =>
     rw[y9 ∅];refine#[s7.trans (s8.trans s9),λr' hr'=>?_];rw[zK hr]at hr';rcases AK.mp hr' with g | g
     ·exact hlt r' g
     ·rw[AL.mp g];exact hb
   ·refine nmB ?_;rintro σ H7 ⟨s7,hlt,v6,v7,rfl⟩:_;rw[hrl,aD]at hlt;right;exact#[s7,hlt,v6,v7,rfl]
  rintro σ H7 ⟨s7,hlt,v6,v7,rfl⟩:_;have hlt':∀e ∈ es,z6 k.toNat l ws e.2.1 e.1=AE:=λe he=>hlt _ (AN.mpr #[e,he,rfl]);have hPs:=hS.ps hlt';have hRo:=hS.p.r hlt';have hR7:=hR.same s7;have s67:=s6.trans s7;have hP7:=hP.same s67;have hF7:=s67 _ _ hF;let#[xs2,hX2,hI2]:=hM.same s67;have hxl2:=hI2.len;right;change Same H7 H'/\(∀e ∈ es,yL k.toNat l ws rs e=AE)/\σ=[!!pa,~~~u,~~~v,!!fp,!!rk,!!R,v6,v7,AD]
  ·rfl'
   refine#[_,x6 hF7,_,rfl,D,rfl,#[_,x4 hX2],λJ hJ=>jb0 (xs:=xs2) (λi AI H'=>Same H7 H'/\H' J=AC (.lst AI)/\AI=((es.take i).map (yL k.toNat l ws rs)).map V.bl) #[zd hJ,zc,rfl] (λi AI H' Z h=>x4 (h.1 _ _ hX2)) ?_ ?_]
   ·refine nm4 ?_;rintro i x AI H' hx ⟨hs,hH,rfl⟩:_;have hi:=(AJ.mp hx).1;let#[e,pe,se,hei,rfl,hqe,hse]:=hI2.get hx;have hem:=af hei;let#[hEe,h8]:=hS.p.e e hem;have hq2:=zt hs hqe;right
    erw[yW]
    rfl'
    have ev:decide (zbd (yk rs e.1 e.2.2)=V.str (tx e.2.1))=yL k.toNat l ws rs e:=by
     unfold yL;rw[hlt' e hem,di]
     cases yk rs e.1 e.2.2 with
     | none=>rfl
     | some w'=>exact decide_eq_decide.mpr #[λh=>by rw[xP (V.str.inj h)],λh=>by rw[Option.some.inj h];rfl]
    have sc:VE (zbd (yk rs e.1 e.2.2)) (V.str (tx e.2.1))=AE:=by cases yk rs e.1 e.2.2 <;> rfl
    refine#[yx,_,hq2,_,rfl,_,hq2,_,rfl,YX (hP7.same hs).is hS.ok hEe.a (hse.same hs).is ⋯ #[_,hq2,_,rfl,sc,hH,by rw[aa,aa,av];lia,x8 hi #[zy hs hJ,zc,?_]]];rw[ev,zK hei,al,al];rfl
   ·refine nmB ?_;rintro AI H' ⟨hs,hH,rfl⟩:_;rw[hxl2,aD]at hH;right;refine#[J,_,rfl,x4 hH,_,rfl,?_];rw[all_map];refine yl (λh=>?_) λh=>#[hs,λe he=>?_]
    ·have e0:xl k.toNat l ws rs es u v x z=AF:=by
      unfold xl;rw[h];rfl
     rw[e0]at q;exact q H' (s67.trans hs)
    ·rw[cA]at h;exact AQ.mp h e he
  rintro σ H8 ⟨s8,hst,rfl⟩:_
  have e0:xl k.toNat l ws rs es u v x z=yU (zA es) rs u v x z:=by
   unfold xl;rw[show es.all (yL k.toNat l ws rs)=AE from AQ.mpr hst];rfl
  rw[e0]at q;right;change Same H8 H'/\Wi (zA es)=AE/\σ=[!!pa,~~~u,~~~v,!!fp,!!rk,!!R,v6,v7,AD]
  ·rfl'
   refine#[R,_,rfl,hR7.same s8,hPs,hRo.k,hb10,λH' s'=>#[_,rfl,yl (λh=>?_) λh=>#[s',by simpa using h]]]
   have e1:yU (zA es) rs u v x z=AF:=by
    unfold yU;rw[h,bM,bM,bM]
   rw[e1]at q;exact q H' ((s67.trans s8).trans s')
  rintro σ H9 ⟨s9,hmet,rfl⟩:_;have hR9:=(hR7.same s8).same s9;have hP9:=(hP7.same s8).same s9;have s79:=(s67.trans s8).trans s9;let#[px,hPx,hPi]:=id hP9;have hpxl:=hPi.len;rw[aa]at hpxl;have hpn:=hS.ok.1;right;change Same H9 H'/\rs.all (λr=>decide (fm (zA es) r.1=fm (zA es) r.2))=AE/\σ=[!!pa,~~~u,~~~v,!!fp,!!rk,!!R,v6,v7,AD]
  ·rfl'
   refine#[#[_,x4 hPx],λJ hJ=>jb0 (xs:=px) (λi AI H'=>Same H9 H'/\H' J=AC (.lst AI)/\AI=((rs.take i).map λr=>decide (fm (zA es) r.1=fm (zA es) r.2)).map V.bl) #[zd hJ,zc,rfl] (λi AI H' Z h=>x4 (h.1 _ _ hPx)) ?_ ?_]
   ·refine nm4 ?_;rintro i x AI H' hx ⟨hs,hH,rfl⟩:_;have hi:=(AJ.mp hx).1;let#[r,p,hr,rfl,hsq]:=hPi.getR hx;have hrm:=af hr;let#[r1,r2]:=hRo.p r hrm;have hq2:=zt hs hsq;have hRs:=hR9.same hs;have ev:decide (V.str (tx (fm (zA es) r.1))=V.str (tx (fm (zA es) r.2)))=decide (fm (zA es) r.1=fm (zA es) r.2):=decide_eq_decide.mpr #[λh=>xP (V.str.inj h),λh=>by rw[h]];right
    erw[yW]
    rfl'
    refine#[yx,_,hq2,_,rfl,yJ hRs hPs r1 λH1 t1=>#[_,zt t1 hq2,_,rfl,yJ (hRs.same t1) hPs r2 λH2 t2=>#[rfl,(t1.trans t2) _ _ hH,by rw[aa,aa,av];lia,x8 hi #[zy (hs.trans (t1.trans t2)) hJ,zc,?_]]]];rw[ev,zK hr,al,al];rfl
   ·refine nmB ?_;rintro AI H' ⟨hs,hH,rfl⟩:_;rw[hpxl,aD]at hH;right;refine#[J,_,rfl,x4 hH,_,rfl,?_];rw[all_map];refine yl (λh=>?_) λh=>#[hs,by simpa using h]
    have e1:yU (zA es) rs u v x z=AF:=by
     unfold yU;rw[h,d6,bM]
    rw[e1]at q;exact q H' (s79.trans hs)
  rintro σ H10 ⟨s10,hall,rfl⟩:_;have hR10:=hR9.same s10;right;change Same H10 H'/\∃F:rQ,H' F=AC (.tup [⇑(fm (zA es) u),⇑(fm (zA es) v)])/\σ=[!!pa,~~~u,~~~v,!!fp,!!rk,!!R,v6,v7,!!F]
  ·rfl'
   exact yJ hR10 hPs hRo.u λH1 t1=>yJ (hR10.same t1) hPs hRo.v λH2 t2=>#[⋯,λF hF=>#[t1.trans (t2.trans (zd hF)),zc]]
  rintro σ H11 ⟨s11,F,hFF,rfl⟩:_;have sA:=s79.trans (s10.trans s11);have hF11:=sA _ _ hF
  have e1:yU (zA es) rs u v x z=(decide (fm (zA es) u=x/\fm (zA es) v=z) && decide (x≠z)):=by
   unfold yU;rw[hall,hmet,di,cy]
  rw[e1]at q;right
  rfl'
  refine#[_,x6 hF11,_,rfl,_,x6 hF11,_,rfl,⋯,λF2 hF2=>?_];have sF:=zd (o:=.tup [⇑x,⇑z]) hF2;refine K8 (.inr #[qO (sF _ _ hFF),qO zc]) (by erw[wv,dpD];decide) ?_;rw[Uu];refine#[_,rfl,yl (λh=>?_) λh=>?_]
  ·let#[g1,g2]:=u6 h;refine#[_,x6 (sF _ _ hFF),_,rfl,_,x6 (sF _ _ hFF),_,rfl,rfl,?_];have:=q _ (sA.trans sF);rw[h,di,show decide (x≠z)=decide (fm (zA es) u≠fm (zA es) v) by rw[g1,g2]]at this
   have ev:(!decide (V.str (tx (fm (zA es) u))=V.str (tx (fm (zA es) v))))=decide (fm (zA es) u≠fm (zA es) v):=by
    by_cases g:fm (zA es) u=fm (zA es) v
    ·rw[g];simp
    ·rw[y3 (λz=>g (xP (V.str.inj z))),show decide (fm (zA es) u≠fm (zA es) v)=AE from u9 g];rfl
   rw[ev];exact this
  ·have:=q _ (sA.trans sF);rw[Bool.not_eq_true]at h;rw[h,d6]at this;exact this
structure zeH(K:rP):Prop where
 ii:aX K (.type "int") (.type "int")=AC AE
 ib:aX K (.type "int") (.type "bool")=AC AF
def uZ:Sp:=λvs H Q Z=>∃i:Int,vs=[.int i]/\Q (.bl AE) H
def VD(h:Q (.bl AE) H):uZ [.int i] H Q E:=#[i,rfl,h]
def Jj:sQz 1 ["_law_found"] Yy:=by nofun
def Q3(B:Bt mg)(T:zeH K)(F:("_law_whole"^^^Yy)):(1&&&["_law_found"]) uZ:=by
 exists F.ok Jj
 ·let#[i,rfl,q]:=h;refine#[_,(zf (zm (jS (uD rfl B.isi (pv 0) rfl B.int PySem.Pv.boot_int) (jY (zbr (uD rfl B.isi (pv 0) rfl B.bool jb2)))))),?_]
  rfl'
  exact#[_,.inl (.int _),AE,T.ii,zcS #[_,.inl (.int _),AF,T.ib,q]]
structure TLs(K:rP):Prop where
 ll:aX K (.type "list") (.type "list")=AC AE
def Xb(n z:Int):Bool:=decide (0<=z/\z<n)
def Ja{l:()}{tab:List (List Int)}(h:¬ xo l tab):jw l tab=AF:=by rw[dC];exact λz=>h (goodT_iff.mp z)
def XJ(K:rP):Sp:=λvs H Q Z=>∃(t:rQ) (rs:List rQ) (tab:List (List Int)) (l:()),vs=[.ref t,.int (l.length:Nat)]/\TabAt H t rs tab/\tab.length<=8/\l.length<=6/\∀H',Same H H'->Q (.bl (jw l tab)) H'
def VH{t:rQ}{rs:List rQ}{tab:List (List Int)}{l:()}{n:Int}{H:Hp}{Q:VK}{E:XK}(hn:n=(l.length:Nat))(h1:TabAt H t rs tab)(h2:tab.length<=8)(h3:l.length<=6)(q:∀H',Same H H'->Q (.bl (jw l tab)) H'):XJ K [.ref t,.int n] H Q E:=#[t,rs,tab,l,by rw[hn],h1,h2,h3,q]
def nV:sQz 2 ["_law_table","_law_many","_law_row"] vf:=by nofun
def Yw(B:Bt mg)(T:TLs K)(F:("_law_table_ok"^^^vf))(rn:(1<<<"_law_whole") ["_law_found"] [] uZ):(2&&&["_law_table","_law_many"]) (XJ K):=by
 exists F.ok nV
 ·let#[t,rs,tab,l,rfl,hT,h8,l6,q]:=h
  refine#[_,(zh (zI (PW.pt (kX (yv (xH (uD rfl B.isi (pv 0) rfl B.list jb1) (λZ=>rfl))) (qV (zu Zq (zG B.len (pv 0)) zb (zw _))))) (zf (zm yw))
    zo) (zh (zX p8 rfl (ya (pv 0)) (zq (i:=2) nV.nd rfl (.inl rfl)) (zh (zI (PW.pt (kX (yv (xH (uD rfl B.isi (pv 2) rfl B.list jb1) (λZ=>rfl))) (qV (zu uC (zG B.len (pv 2)) (pv 1) (zw _))))) (zf (zm yw))
     zo) (zf (zI (yv (xH (yQ (zam rfl) rfl B.all dM (za (yO (own:=["_law_room"]) (caps:=["_law_table"]) (ix:=[0]) (tt:=yW) (te:=(V4 (xt uZ [] E0 (zE (zV 0) yT)) (jP zcM zcG (tC (.int 0)) (zV 0) (tCB (W7 K) (zE (zV 1) yT))))) rfl (zJ (sc:=zg vf) rfl (!0) (!0) (!0) rfl (!0) (!0) rfl) (ya (pv 2)) (λZ Z Z Z Z Z=>zq (i:=0) (show List.Nodup [_,_] by decide) rfl (.inl rfl)) (λZ Z Z Z Z Z=>z7) (λZ Z Z Z Z Z=>(jS (cl0 rn hr .nil rfl (za (pv 0) ze)) (jY (Xo xX Uo zb (pv 0) (zG B.len (pv 1))))))) ze)) (λZ=>rfl))) (zf (zm yw))
     zo)))) (zf (zm yw)))),?_]
  have s16:=yd;have hln:=hT.len
  have no:¬ xo l tab->∀H',Same H H'->Q (.bl AF) H':=λh H' s'=>by
   have:=q H' s';rw[Ja h]at this;exact this
  change H'=H/\1<=tab.length/\σ=[!!t,AC (.int (l.length:Nat)),AD]
  ·rfl'
   refine#[_,.inr (.inr (.inl #[_,_,rfl,rfl,x4 hT.top])),AE,T.ll,zel #[_,.inl #[_,x4 hT.top,rfl],yl (λh=>no (λg=>?_) H (x9 _)) λh=>?_]]
   ·rw[aa]at h;have:=g.lo;lia
   ·rw[aa]at h;lia
  rintro σ H1 ⟨rfl,hlo,rfl⟩:0;change Same H1 H'/\xo l tab/\∃v2,σ=[!!t,AC (.int (l.length:Nat)),v2]
  ·rfl'
   refine#[#[_,x4 hT.top],ja2 (xs:=rs.map V.ref) (λi σ H'=>Same H1 H'/\(∀x ∈ tab.take i,x.length=l.length/\∀n ∈ x,0<=n/\n<(tab.length:Int))/\∃v2,σ=[!!t,AC (.int (l.length:Nat)),v2]) #[x9 _,λx h=>(nomatch h),_,rfl] (λi σ H' Z h=>x4 (h.1 _ _ hT.top)) ?_ ?_]
   ·refine nm4 ?_;rintro i x σ H' hx ⟨hs,hok,v2,rfl⟩:_;rw[ax]at hx;let#[r,hr,rfl]:=AO.mp hx;have hil:=(AJ.mp hr).1;have hy:tab[i]? = AC (tab[i]'⋯):=ak ⋯;right;generalize tab[i]'⋯=y at hy;have hym:=af hy;have hR:=hs _ _ (hT.row i r y hr hy)
    erw[yZ,aV,aU]
    refine zj (λσ G=>G=H'/\y.length=l.length/\σ=[!!t,AC (.int (l.length:Nat)),!!r]) ?_ ?_
    ·rfl'
     refine#[_,.inr (.inr (.inl #[_,_,rfl,rfl,x4 hR])),AE,T.ll,zel #[_,.inl #[_,x4 hR,rfl],yl (λh=>no (λg=>h ?_) H' hs) λh=>?_]]
     ·rw[aa,g.wd y hym]
     ·have:=Classical.not_not.mp h;rw[aa]at this;lia
    rintro σ H2 ⟨rfl,hyl,rfl⟩:0
    rfl'
    refine#[#[_,x4 hR],λD hD=>jb0 (xs:=y.map V.int) (λi AI G=>Same H2 G/\G D=AC (.lst AI)/\AI=((y.take i).map (Xb (tab.length:Int))).map V.bl) #[zd hD,zc,rfl] (λi AI G Z h=>x4 (h.1 _ _ hR)) ?_ ?_]
    ·refine nm4 ?_;rintro n x AI G hx ⟨hs2,hH,rfl⟩:_;rw[ax]at hx;let#[z,hz,rfl]:=AO.mp hx;have hzl:=(AJ.mp hz).1;right
     erw[yW]
     rfl'
     have ht2:=hs2 _ _ (hs _ _ hT.top);have hal:(((y.take n).map (Xb (tab.length:Int))).map V.bl).length<rO:=by rw[aa,aa,av];lia
     refine#[yx,VD #[AE,rfl,zcS (yl (λh0=>#[_,.inl #[_,x4 ht2,rfl],hH,hal,x8 (by rw[aa];exact hzl) #[zy hs2 hD,zc,?_]]) λh0=>#[hH,hal,x8 (by rw[aa];exact hzl) #[zy hs2 hD,zc,?_]])]]
     ·rw[zK hz,al,al,aa,hln];show _=_ ++ [V.bl (Xb (tab.length:Int) z)];unfold Xb;rw[show decide (0<=z/\z<(tab.length:Int))=decide (z<(tab.length:Int))from decide_eq_decide.mpr #[λh=>h.2,λh=>#[h0,h]]]
     ·rw[zK hz,al,al];show _=_ ++ [V.bl (Xb (tab.length:Int) z)];unfold Xb;rw[y3 λh=>h0 h.1]
    ·refine nmB ?_;rintro AI G ⟨hs2,hH,rfl⟩:_;rw[aa,aD]at hH;right;refine#[D,_,rfl,x4 hH,_,rfl,?_];rw[eE];refine yl (λh=>no (λg=>?_) G (hs.trans hs2)) λh=>#[hs.trans hs2,λx hx'=>?_]
     ·have:y.all (id ∘ Xb (tab.length:Int))=AE:=AQ.mpr λz hz=>u9 (g.rm y hym z hz);rw[this]at h;cases h
     ·rw[zK hy]at hx';rcases AK.mp hx' with g | g
      ·exact hok x g
      ·rw[AL.mp g];rw[cA]at h;exact#[hyl,λz hz=>u6 (AQ.mp h z hz)]
   ·refine nmB ?_;rintro σ H' ⟨hs,hok,v2,rfl⟩:_;rw[aa,hln,aD]at hok;right;exact#[hs,#[hlo,h8,λx hx=>(hok x hx).1,λx hx=>(hok x hx).2],v2,rfl]
  rintro σ H2 ⟨s2,hG,v2,rfl⟩:_;rw[goodT_iff.mpr hG]at q;right
  rfl'
  exact q H2 s2
def kO:Sp:=λvs H Q Z=>∃(t:rQ) (rs:List rQ) (tab:List (List Int)) (l:()) (r:Int) (w:()),vs=[.ref t,⇑l,.int r,⇑w]/\TabAt H t rs tab/\xo l tab/\0<=r/\r<(tab.length:Int)/\(∀c ∈ w,c ∈ l)/\Q (.int (wE l tab r w)) H
def qb{w:()}(h:TabAt H t rs tab)(hG:xo l tab)(h0:0<=r)(h1:r<(tab.length:Int))(hw:∀c ∈ w,c ∈ l)(q:Q (.int (wE l tab r w)) H):kO [.ref t,⇑l,.int r,⇑w] H Q E:=#[t,rs,tab,l,r,w,rfl,h,hG,h0,h1,hw,q]
def pH:sQz 4 ["_law_table","_law_letters_here","_law_room","_law_word_here","_law_sign"] zan:=by nofun
def zck(B:Bt mg)(F:("_law_led"^^^zan)):(1&&&["_law_table","_law_letters_here","_law_room","_law_word_here"]) kO:=by
 exists F.ok pH
 ·let#[t,rs,tab,l,r,w,rfl,hT,hG,h0,h1,hw,q]:=h
  refine#[_,(zx (zX p8 rfl (qW (pv 3)) (zq (i:=4) pH.nd rfl (.inl rfl)) (zf (zC 2 pH.nd (zi ix_list (zi ix_list (pv 0) (pv 2)) (wV bd cq cr VN (pv 1) (za (pv 4) ze)))))) (zf (zm (pv 2)))),?_]
  have s16:=yd
  rfl'
  refine ForS.by (λi σ H'=>H'=H/\∃v4,σ=[!!t,~~~l,AC (.int (wE l tab r (w.take i))),~~~w,v4]) #[rfl,AD,rfl] ?_ ?_
  ·refine nm4 ?_;rintro i c σ H' hc ⟨rfl,v4,rfl⟩:_;have hcl:=hw c (af hc);let#[a,b]:=Xe hG (w:=w.take i) h0 h1 λx hx=>hw x (cE hx);let#[r',x,e1,e2,e3]:=hT.get a b;right
   rfl'
   refine#[_,x4 hT.top,_,e1,_,rfl,_,x4 e3,?_];rw[ZY hcl,ZH hc];exact J6 hG e2 hcl
  ·refine nmB ?_;rintro σ H' ⟨rfl,v4,rfl⟩:0
   rfl'
   rw[aD];exact q
def vq(l:())(tab:List (List Int))(ps:List zF):Bool:=ps.all λp=>(wU l tab p.1 p.2).isNone
def holdsB_iff : vq l tab ps=AE ↔ ∀p ∈ ps,wU l tab p.1 p.2=AD:=by unfold vq;rw[List.all_eq_true];exact#[λh p hp=>AZ.mp (h p hp),λh p hp=>AZ.mpr (h p hp)]
def wK(K:rP):Sp:=λvs H Q Z=>∃(t a:rQ) (rs:List rQ) (tab:List (List Int)) (l:()) (ps:List zF),vs=[.ref t,⇑l,.ref a]/\TabAt H t rs tab/\xo l tab/\LsA K H a (ps.map dR)/\InP l ps/\Q (.bl (vq l tab ps)) H
def jQ(h1:TabAt H t rs tab)(h2:xo l tab)(h3:LsA K H a (ps.map dR))(h4:InP l ps)(q:Q (.bl (vq l tab ps)) H):wK K [.ref t,⇑l,.ref a] H Q E:=#[t,a,rs,tab,l,ps,rfl,h1,h2,h3,h4,q]
def nW:sQz 3 ["_law_table","_law_letters_here","_law_pairs","_law_pair_here","_law_room"] Yq:=by nofun
def QO(B:Bt mg)(F:("_law_holds"^^^Yq))(oF:(1<<<"_law_led") ["_law_table","_law_letters_here","_law_room","_law_word_here"] [] kO):(2&&&["_law_table","_law_letters_here","_law_pairs"]) (wK K):=by
 exists F.ok nW
 ·let#[t,a,rs,tab,l,ps,rfl,hT,hG,hA,hp,q]:=h
  refine#[_,(zh (zX p8 rfl (ya (pv 2)) (zq (i:=3) nW.nd rfl (.inl rfl)) (zf (zX p8 rfl (yB rfl B.range (za (zG B.len (pv 0)) ze)) (zq (i:=4) nW.nd rfl (.inl rfl)) (zf (zI (zu uC (cl0 oF hr .nil rfl (za (pv 0) (za (pv 1) (za (pv 4) (za (!-3) ze))))) (cl0 oF hr .nil rfl (za (pv 0) (za (pv 1) (za (pv 4) (za (!-3) ze))))) (zw _)) (zf (zm yw))
      zo))))) (zf (zm yw))),?_]
  have s16:=yd;have hl:=hT.len;have hhi:=hG.hi;let#[xs,hX,hI]:=id hA;have hxl:=hI.len;rw[aa]at hxl;change H'=H/\(∀p ∈ ps,wU l tab p.1 p.2=AD)/\∃v3 v4,σ=[!!t,~~~l,!!a,v3,v4]
  ·rfl'
   refine#[#[_,x4 hX],ja2 (xs:=xs) (λi σ H'=>H'=H/\(∀j p,j<i->ps[j]? = AC p->wU l tab p.1 p.2=AD)/\∃v3 v4,σ=[!!t,~~~l,!!a,v3,v4]) #[rfl,λj p h=>y4 h (bv j),_,_,rfl] (λi σ H' Z h=>by rw[h.1];exact x4 hX) ?_ λσ H' h=>?_]
   ·refine nm4 ?_;rintro i x σ H' hx ⟨rfl,hb,v3,v4,rfl⟩:_;let#[r,pr,hri,rfl,hqr]:=hI.getR hx;let#[r1,r2]:=hp r (af hri);right
    erw[yZ,aV,aU]
    rfl'
    refine#[_,.inl #[_,x4 hT.top,rfl],by rw[aa];lia,by rw[aa];lia,ForR.by (λn σ H''=>H''=H'/\(∀j:Nat,j<n->wE l tab (j:Int) r.1=wE l tab (j:Int) r.2)/\∃v4,σ=[!!t,~~~l,!!a,!!pr,v4]) #[rfl,λj h=>y4 h (bv j),_,rfl] ?_ λσ H'' h=>?_]
    ·refine nm3 ?_;rintro n σ H'' hn ⟨rfl,hc,v4,rfl⟩:_;rw[aa]at hn;have hn':n<tab.length:=⋯;have e0:(0:Int)+(n:Int)=(n:Int):=⋯;right
     erw[yZ,aV,aU]
     rfl'
     refine#[_,hqr,_,rfl,qb hT hG ⋯ ⋯ r1 #[_,hqr,_,rfl,qb hT hG ⋯ ⋯ r2 ?_]];rw[e0]
     rfl'
     refine yl (λh=>?_) λh j hj=>?_
     ·have:vq l tab ps=AF:=by
       cases e:vq l tab ps with
       | false=>rfl
       | true =>
        have:=holdsB_iff.mp e r (af hri);rw[Z7 hn' h hc]at this;cases this
      rw[this]at q;exact q
     ·by_cases hj':j<n
      ·exact hc j hj'
      ·have:j=n:=⋯;rw[this];exact Decidable.not_not.mp h
    ·let#[rfl,hc,v4,rfl]:=h;rw[aa]at hc;refine#[rfl,λj p hj hpj=>?_,_,_,rfl];by_cases hj':j<i
     ·exact hb j p hj' hpj
     ·have:j=i:=⋯;subst this;rw[hri]at hpj;cases hpj;exact ZK λj hj=>hc j ⋯
   ·let#[rfl,hb,v3,v4,rfl]:=h;refine#[rfl,λp hp=>?_,v3,v4,rfl];let#[j,hj]:=AY.mp hp;exact hb j p (by have:=(AJ.mp hj).1;lia) hj
  rintro σ H1 ⟨rfl,hb,v3,v4,rfl⟩:0
  rfl'
  rw[holdsB_iff.mpr hb]at q;exact q
def Xz{w o:()}{q:Nat}(h:zB w (q:Int) o=AE):w.take q ++ o ++ w.drop (q+o.length)=w:=by
 unfold zB at h;let#[_,_,e]:=u6 h;rw[aF]at e
 calc w.take q ++ o ++ w.drop (q+o.length)=w.take q ++ ((w.drop q).take o.length ++ (w.drop q).drop o.length):=by rw[e,fj,bb]
  _=w.take q ++ w.drop q:=by rw[bH]
  _=w:=bH q w
def QI(h:z6 k l ns u v=AE):zr k l ns u<=zr k l ns v:=by
 unfold z6 at h;by_cases e:zr k l ns u=zr k l ns v
 ·lia
 ·rw[y9 e]at h;have:=u6 h;lia
def j3{w:()}{p:zF}{q:Nat}(G:OG l ns k)(hp:z6 k l ns p.2 p.1=AE/\(∀c ∈ p.1,c ∈ l)/\∀c ∈ p.2,c ∈ l)(hw:∀c ∈ w,c ∈ l)(h2:zB w (q:Int) p.1=AE):z6 k l ns (vt w (q:Int) p.1 p.2) w=AE/\∀c ∈ vt w (q:Int) p.1 p.2,c ∈ l:=by have e1:=Xz h2;let#[p1,p2,p3]:=hp;unfold vt;rw[aF];have ha:∀c ∈ w.take q,c ∈ l:=λc hc=>hw c (cE hc);have hb:∀c ∈ w.drop (q+p.1.length),c ∈ l:=λc hc=>hw c (df hc);generalize w.take q=a at *;generalize w.drop (q+p.1.length)=b at *;rw[<- e1];have ap:∀x:(),(∀c ∈ x,c ∈ l)->∀c ∈ a ++ x,c ∈ l:=λx hx c hc=>(AK.mp hc).elim (ha c) (hx c);refine#[?_,λc hc=>(AK.mp hc).elim (ap p.2 p3 c) (hb c)];rw[(Zy G hb (ap p.2 p3) (ap p.1 p2)).2,(Zy G ha p3 p2).1];exact p1
def Q4(ht:t ∈ ovA ps ps.length):∃r r2,ps[t.1]? = AC r/\ps[t.2.1]? = AC r2/\t.2.2<r.1.length/\xk r.1 r2.1 t.2.2=AE/\pkA ps t=vt (xp r.1 r2.1 t.2.2) 0 r.1 r.2/\pkB ps t=vt (xp r.1 r2.1 t.2.2) (t.2.2:Nat) r2.1 r2.2:=by
 let#[i1,i2,i3,i4]:=YY ht;obtain⟨r,hr⟩:∃r,ps[t.1]? = AC r:=#[_,ak i1];obtain⟨r2,hr2⟩:∃r,ps[t.2.1]? = AC r:=#[_,ak i2];have l1:=vn hr;have l2:=vn hr2;have d1:ps.getD t.1 ([],[])=r:=by rw[am,hr];rfl
 have d2:ps.getD t.2.1 ([],[])=r2:=by rw[am,hr2];rfl
 rw[l1]at i3;rw[l1,l2]at i4;exact#[r,r2,hr,hr2,i3,i4,by unfold pkA;rw[l1,l2,d1],by unfold pkB;rw[l1,l2,d2]]
end
section
variable{k:Nat}{l:()}{ws:List Int}{ps:List zF}
def Xc(k:Nat)(l:())(ws:List Int)(w v:()):Prop:=(∀c ∈ v,c ∈ l)/\(v=w\/z6 k l ws v w=AE)
end in def mu(k:Nat)(l:())(ws:List Int)(Ws:List (()))(v:()):Nat:=Ws.countP λy=>z6 k l ws y v
theorem qQ{α:Type}{p q:α->Bool}:∀{xs:List α} {x:α},(∀z ∈ xs,p z=AE->q z=AE)->x ∈ xs->q x=AE->p x=AF->xs.countP p<xs.countP q
 | y::xs,x,h,hx,hq,hp=>by
  have mono:xs.countP p<=xs.countP q:=List.countP_mono_left λz hz=>h z (aA _ hz);rcases AM.mp hx with rfl | hx
  ·rw[cI hq,dw (by rw[hp];decide)];lia
  ·have ih:=qQ (λz hz=>h z (aA _ hz)) hx hq hp;by_cases hy:p y=AE
   ·rw[cI hy,cI (h y aH hy)];lia
   ·rw[dw hy];by_cases hy2:q y=AE
    ·rw[cI hy2];lia
    ·rw[dw hy2];exact ih
def zdG(hx:x ∈ Ws)(h:z6 k l ws x y=AE):mu k l ws Ws x<mu k l ws Ws y :=
 qQ (λz Z hz=>vJ hz h) hx h wB
def zbP(hx:x ∈ Ws):mu k l ws Ws x<Ws.length:=by have:=qQ (p:=λy=>z6 k l ws y x) (q:=λZ=>AE) (xs:=Ws) (λZ Z Z=>rfl) hx rfl wB;rw[List.countP_true]at this;exact this
theorem JF(G:OG l ws k):∀{v:()},(∀c ∈ v,c ∈ l)->(v.length:Int)<=zr k l ws v
 | [],_=>Zg G λc hc=>(nomatch hc)
 | c::v,hm=>by
  have h1:=JF G (v:=v) λx hx=>hm x (aA _ hx);have h2:=WV (u:=[c]) G (λx hx=>hm x (by rw[AL.mp hx];exact aH)) (by simp);have h3:=xQ (k:=k) (l:=l) (ns:=ws) [c] v;rw[show c::v=[c] ++ v from rfl,h3,ag]
  erw[e7]
  lia
end
end in def zaG(x y a b:Nat):Nat->Nat->List (())
 | 0,_=>[[]]
 | f+1,n=>[]::((if a<=n then (zaG x y a b f (n - a)).map (x::·)else []) ++ (if b<=n then (zaG x y a b f (n - b)).map (y::·)else []))
end in def zb7(a b:Nat):Nat->Nat->Nat
 | 0,_=>1
 | f+1,n=>((if a<=n then zb7 a b f (n - a)else 0)+(if b<=n then zb7 a b f (n - b)else 0))+1
theorem ky(x y a b:Nat):∀f n,(zaG x y a b f n).length=zb7 a b f n
 | 0,_=>rfl
 | f+1,n=>by
  erw[zaG,zb7,au,ag]
  congr 2
  ·split
   ·rw[aa,ky]
   ·rfl
  ·split
   ·rw[aa,ky]
   ·rfl
end in def wtG(x a b:Nat)(v:()):Nat:=(v.map λc=>if c=x then a else b).sum
theorem Xy(x y a b:Nat):∀(f n:Nat) (v:()),v.length<=f->(∀c ∈ v,c=x\/c=y)->wtG x a b v<=n->v ∈ zaG x y a b f n
 | 0,n,v,h,_,_=>by rw[List.length_eq_zero_iff.mp (Nat.le_zero.mp h)];exact aH
 | f+1,n,[],_,_,_=>aH
 | f+1,n,c::v,h,hm,hw=>by
  have e:wtG x a b (c::v)=(if c=x then a else b)+wtG x a b v:=rfl;rw[e]at hw;have hv:=λm=>Xy x y a b f m v (Nat.le_of_succ_le_succ h) λz hz=>hm z (aA _ hz);refine aA _ (AK.mpr ?_);by_cases hc:c=x
  ·rw[y6 hc]at hw;refine .inl ?_;rw[y6 ⋯];exact AN.mpr #[v,hv _ ⋯,by rw[hc]]
  ·rw[y9 hc]at hw;refine .inr ?_;rw[y6 ⋯];exact AN.mpr #[v,hv _ ⋯,by rw[(hm c aH).resolve_left hc]]
def K5:∀a ∈ [1,2,3],∀b ∈ [1,2,3],zb7 a b 15 (5 * max a b)<=4000:=by symm
structure W2(k:Nat)(l:())(ws:List Int)(x y a b:Nat):Prop where
 hl:l=[x,y]
 ha:1<=a/\a<=3
 hb:1<=b/\b<=3
 w:∀{v:()},(∀c ∈ v,c ∈ l)->zr k l ws v=(wtG x a b v:Nat)
theorem zdT{k:Nat}{l:()}{ws:List Int}(G:OG l ws k)(l2:l.length=2)(w3:∀n ∈ ws,n<=3):∃x y a b,W2 k l ws x y a b:=by
 have hn:=G.nl;rw[l2]at hn
 obtain⟨x,y,rfl⟩:∃x y,l=[x,y]:=by
  match l,l2 with
  | [x,y],_=>exact#[x,y,rfl]
 obtain⟨p,q,rfl⟩:∃p q,ws=[p,q]:=by
  match ws,hn with
  | [p,q],_=>exact#[p,q,rfl]
 have hp:=G.nb p (by simp);have hq:=G.nb q (by simp);have hp3:=w3 p (by simp);have hq3:=w3 q (by simp)
 have key:∀(z:Int),1<=z->z<=3->1<=(if k=2 then z else 1).toNat/\(if k=2 then z else 1).toNat<=3/\(((if k=2 then z else 1).toNat:Nat):Int)=if k=2 then z else 1:=λz h1 h2=>by
  split <;> lia
 let#[a1,a2,a3]:=key p hp.1 hp3;let#[b1,b2,b3]:=key q hq.1 hq3;refine#[x,y,_,_,rfl,#[a1,a2],#[b1,b2],λ{v} hv=>?_];rw[yV G hv];clear key hp hq hp3 hq3
 induction v with
 | nil=>rfl
 | cons c v ih =>
  have ih:=ih λz hz=>hv z (aA _ hz);show wt k [p,q] ((([x,y]:()).idxOf c:Nat):Int)+((uU [x,y] v).map (wt k [p,q])).sum=_;rw[ih];show _=(((if c=x then _ else _)+wtG x _ _ v:Nat):Int);rw[eU];congr 1;have hc:=hv c aH;by_cases e:c=x
  ·subst e;rw[y6 rfl,a3];simp [wt]
  ·have e2:c=y:=by simpa [e] using hc
   subst e2;rw[y9 e,b3];have e3:(x == c)=AF:=by simpa using Ne.symm e
   simp [wt,dQ,e3]
theorem V1{x a b:Nat}:∀v:(),wtG x a b v<=v.length * max a b
 | []=>by simp [wtG]
 | c::v=>by
  have:=V1 (x:=x) (a:=a) (b:=b) v;have e:wtG x a b (c::v)=(if c=x then a else b)+wtG x a b v:=rfl;rw[e,au,dr];split <;> lia
section
variable{k:Nat}{l:()}{ws:List Int}{ps:List zF}
abbrev JL(k:Nat)(l:())(ws:List Int)(ps:List zF):Prop:=∀p ∈ ps,z6 k l ws p.2 p.1=AE/\(∀c ∈ p.1,c ∈ l)/\∀c ∈ p.2,c ∈ l
def Xn(G:OG l ws k)(hp:JL k l ws ps){v:()}(hv:∀c ∈ v,c ∈ l){u:Nat × Nat}(h:zN v ps=AC u):z6 k l ws (YF v ps u) v=AE/\∀c ∈ YF v ps u,c ∈ l:=by let#[p,h1,h2]:=wL h;unfold YF;rw[vX h1];exact j3 G (hp p (af h1)) hv h2
theorem qf(G:OG l ws k)(hp:JL k l ws ps){W w:()}(hw:Xc k l ws W w):∀j,Xc k l ws W (wAt ps w j)
 | 0=>hw
 | j+1=>by
  have ih:=qf G hp hw j
  cases e:zN (wAt ps w j) ps with
  | none =>
   have:wAt ps w (j+1)=wAt ps w j:=by
    show Kv ps (wAt ps w j)=_;unfold Kv;rw[e];rfl
   rw[this];exact ih
  | some u =>
   rw[vb e];let#[h1,h2]:=Xn G hp ih.1 e;refine#[h2,.inr ?_];rcases ih.2 with h | h
   ·rw[h]at h1;rw[h];exact h1
   ·exact vJ h1 h
theorem Z3(G:OG l ws k)(hp:JL k l ws ps){W w:()}(hw:Xc k l ws W w){Ws:List (())}(hin:∀v,Xc k l ws W v->v ∈ Ws):∀(m j:Nat),mu k l ws Ws (wAt ps w j)<=m->kF ps w j->∃J,J<=j+m/\kF ps w J/\zN (wAt ps w J) ps=AD
 | m,j,hm,hl=>by
  cases e:zN (wAt ps w j) ps with
  | none=>exact#[j,⋯,hl,e]
  | some u =>
   have b:=qf G hp hw j;have b1:=qf G hp hw (j+1);have d:=(Xn G hp b.1 e).1;have lt:=zdG (k:=k) (l:=l) (ws:=ws) (Ws:=Ws) (hin _ b1) (show z6 k l ws (wAt ps w (j+1)) (wAt ps w j)=AE by rw[vb e];exact d)
   have hl1:kF ps w (j+1):=λi hi=>by
    by_cases z:i=j
    ·rw[z,e];intro q;cases q
    ·exact hl i ⋯
   match m with
   | 0=>lia
   | m+1 =>
    let#[J,h1,h2]:=Z3 G hp hw hin m (j+1) ⋯ hl1;exact#[J,⋯,h2]
theorem zas(G:OG l ws k)(l2:l.length=2)(w3:∀n ∈ ws,n<=3)(hp:JL k l ws ps){W w:()}(hW:∀c ∈ W,c ∈ l)(h5:W.length<=5)(hw:Xc k l ws W w):RE ps w:=by
 let#[x,y,a,b,T]:=zdT G l2 w3
 have low:∀v,Xc k l ws W v->v.length<=15/\wtG x a b v<=5 * max a b:=λv hv=>by
  have h1:=JF G hv.1
  have h2:zr k l ws v<=zr k l ws W:=by
   rcases hv.2 with e | e
   ·rw[e];exact fW _
   ·exact QI e
  rw[T.w hv.1]at h1 h2;rw[T.w hW]at h2;have h3:=V1 (x:=x) (a:=a) (b:=b) W;have h4:W.length * max a b<=5 * max a b:=Nat.mul_le_mul_right _ h5;have h5:max a b<=3:=by have:=T.ha;have:=T.hb;lia
  have h6:5 * max a b<=15:=⋯;lia
 have hin:∀v,Xc k l ws W v->v ∈ zaG x y a b 15 (5 * max a b):=λv hv=>Xy x y a b _ _ v (low v hv).1 (λc hc=>by
  have:=hv.1 c hc;rw[T.hl]at this
  simpa using this) (low v hv).2
 have few:(zaG x y a b 15 (5 * max a b)).length<=4000:=by
  rw[ky];have ha:=T.ha;have hb:=T.hb;exact K5 a (by simp;lia) b (by simp;lia)
 have mx:=zbP (k:=k) (l:=l) (ws:=ws) (hin w hw);let#[J,h1,h2,h3]:=Z3 G hp hw hin _ 0 (ah _) λi hi=>y4 hi (bv i);have h0:wAt ps w 0=w:=rfl;rw[h0]at h1;refine#[?_,λj hj=>?_]
 ·unfold goJ;rw[List.find?_isSome];exact#[J,AR.mpr ⋯,by rw[h3];rfl]
 ·have:=(low _ (qf G hp hw j)).1;lia
def um(G:OG l ws k)(l2:l.length=2)(w3:∀n ∈ ws,n<=3)(hp:JL k l ws ps){w:()}(hW:∀c ∈ w,c ∈ l)(h5:w.length<=5):RE ps w:=zas G l2 w3 hp hW h5 #[hW,.inl rfl]
theorem zde(G:OG l ws k)(l2:l.length=2)(w3:∀n ∈ ws,n<=3)(hp:JL k l ws ps)(h3:∀p ∈ ps,p.1.length<=3):PkR ps:=λt ht=>by
 let#[r,r2,e1,e2,e3,e4,e5,e6]:=Q4 ht;have m1:=af e1;have m2:=af e2
 have hW:∀c ∈ xp r.1 r2.1 t.2.2,c ∈ l:=λc hc=>by
  unfold xp at hc;rcases AK.mp hc with h | h
  ·exact (hp r m1).2.1 c h
  ·exact (hp r2 m2).2.1 c (df h)
 have h5:(xp r.1 r2.1 t.2.2).length<=5:=by
  rw[ql _ _ _ ⋯];have:=h3 r m1;have:=h3 r2 m2;lia
 have d1:=j3 (q:=0) G (hp r m1) hW (jT r.1 r2.1 t.2.2);have d2:=j3 (q:=t.2.2) G (hp r2 m2) hW (qE ⋯ e4);rw[e5,e6];exact#[zas G l2 w3 hp hW h5 #[d1.2,.inr d1.1],zas G l2 w3 hp hW h5 #[d2.2,.inr d2.1]]
end
mutual section
structure PG3(l:())(rs:List zF):Prop where
 n:rs.length<=3
 s:∀r ∈ rs,r.1.length<=3/\r.2.length<=3/\(∀x ∈ r.1,x ∈ l)/\∀x ∈ r.2,x ∈ l
def PG3.ok{l:()}{rs:List zF}(h:PG3 l rs):wN rs:=#[by have:=h.n;lia,λr hr=>by have:=h.s r hr;lia]
def PG3.inp{l:()}{rs:List zF}(h:PG3 l rs):InP l rs:=λr hr=>(h.s r hr).2.2
def jO(K:rP):Sp:=λvs H Q Z=>∃(a t:rQ) (l:()) (ra:List rQ) (tab:List (List Int)) (rs:List zF),vs=[.ref a,⇑l,.ref t]/\LsA K H a (rs.map dR)/\PG3 l rs/\TabAt H t ra tab/\tab.length<=8/\l.length=2/\∀(D:rQ) (rs':List zF) (H':Hp),Same H H'->LsA K H' D (rs'.map dR)->PG3 l rs'->Q (.ref D) H'
def WY:sQz 3 ["_law_pacts","_law_letters_here","_law_table"] vL:=by nofun
def WE{f:rQ}{fd:rW}(B:Bt mg)(F:("_law_holding"^^^vL))(mX:(2<<<"_law_table_ok") ["_law_table","_law_many"] [] (XJ K))(oW:(2<<<"_law_holds") ["_law_table","_law_letters_here","_law_pairs"] [] (wK K)):(3&&&["_law_pacts","_law_letters_here","_law_table"]) (jO K):=by
 exists F.ok WY
 ·let#[a,t,l,ra,tab,rs,rfl,hA,hP,hT,h8,l2,q]:=h
  refine#[_,(zh (zI (yv (xH (cl0 mX hr .nil rfl (za (pv 2) (za zb ze))) (λZ=>rfl))) (zf (zm (pv 0)))
    zo) (zf (zm (yO (own:=["_law_pact"]) (caps:=["_law_table","_law_letters_here"]) (ix:=[2,1]) (tt:=yW) (te:=(tIf (Y7 (xt (wK K) [] E0 (zE (zV 1) (zE (zV 2) (zE (zaS (zE (zV 0) yT)) yT))))) (zV 0) (WJ (zE (tOp (xN K) (zV 0) (tC (.int 0))) (zE (tOp (xN K) (zV 0) (tC (.int 0))) yT))))) rfl (zJ (sc:=zg vL) rfl (!0) (!0) (!0) rfl (!0) (!0) rfl) (ya (pv 0)) (λZ Z Z Z Z Z=>zq (i:=0) (show List.Nodup [_,_,_] by decide) rfl (.inl rfl)) (λZ Z Z Z Z Z=>z7) (λZ Z Z Z Z Z=>(kz (xH (cl0 oW hr .nil rfl (za (pv 1) (za (pv 2) (za (yM (za (pv 0) ze)) ze)))) (λZ=>rfl)) (pv 0) (zH (za (!-0) (za (!-0) ze))))))))),?_]
  have s16:=yd;have hn:=hP.n;change Same H H'/\xo l tab/\σ=[!!a,~~~l,!!t]
  ·rfl'
   refine VH (by rw[l2];rfl) hT h8 ⋯ λH1 s1=>#[_,rfl,yl (λh=>q a rs H1 s1 (hA.same s1) hP) λh=>#[s1,goodT_iff.mp ↥h]]
  rintro σ H1 ⟨s1,hG,rfl⟩:_;let#[xs,hX,hI]:=hA.same s1;have hxl:=hI.len;rw[aa]at hxl;right
  rfl'
  refine#[#[_,x4 hX],λD hD=>jb0 (xs:=xs) (λi AI H'=>Same H1 H'/\H' D=AC (.lst AI)/\∃rs':List zF,Iss K H' (rs'.map dR) AI/\rs'.length=i/\∀r ∈ rs',r.1.length<=3/\r.2.length<=3/\(∀x ∈ r.1,x ∈ l)/\∀x ∈ r.2,x ∈ l) #[zd hD,zc,[],by erw[aL,Iss],rfl,λr h=>(nomatch h)] (λi AI H' Z h=>x4 (h.1 _ _ hX)) ?_ ?_]
  ·refine nm4 ?_;rintro i x AI H' hx ⟨hs,hH,rs',hA',hl',hb⟩:_;have hi:=(AJ.mp hx).1;let#[r,p,hr,rfl,hsq]:=hI.getR hx;have hrm:=af hr;have hrb:=hP.s r hrm;have hal:=hA'.len;rw[aa]at hal;right
   erw[yW]
   rfl'
   refine#[yx,⋯,λp1 hp1=>?_];have sp1:=zd (o:=.lst [.ref p]) hp1;have hq1:=zt (hs.trans sp1) hsq;have hs1:=s1.trans (hs.trans sp1);have hD1:=sp1 _ _ hH;refine jQ (ps:=[r]) (hT.same hs1) hG #[[.ref p],zc,by erw[aw,aL,Iss];exact#[_,_,rfl,zab hq1,rfl]] (λr' hr'=>by rw[AL.mp hr'];exact hrb.2.2) #[_,rfl,yl (λh=>#[hD1,⋯,x8 hi #[zy (hs.trans sp1) hD,zc,rs' ++ [r],?_,by rw[ag,hl'];rfl,?_]]) λh=>#[_,hq1,_,rfl,_,hq1,_,rfl,⋯,λp2 hp2=>#[zd hp2 _ _ hD1,⋯,x8 hi #[zy ((hs.trans sp1).trans (zd hp2)) hD,zc,rs' ++ [(r.1,r.1)],?_,by rw[ag,hl'];rfl,?_]]]]
   ·let#[ys,y1,y2]:=LsA.snoc hD1 (ja1 sp1 _ _ hA') (va _) (U8 r) (zab hq1);rw[zc]at y1;cases y1;rw[al];exact y2
   ·intro r' hr';rcases AK.mp hr' with g | g
    ·exact hb r' g
    ·rw[AL.mp g];exact hrb
   ·rw[al];exact vS hD1 (ja1 sp1 _ _ hA') hp2 V0 (va _) (by erw[z9,xf,and_self])
   ·intro r' hr';rcases AK.mp hr' with g | g
    ·exact hb r' g
    ·rw[AL.mp g];exact#[hrb.1,hrb.1,hrb.2.2.1,hrb.2.2.1]
  ·refine nmB ?_;rintro AI H' ⟨hs,hH,rs',hA',hl',hb⟩:0;exact q D rs' H' (s1.trans hs) #[AI,hH,hA'] #[⋯,hb]
def zey:Ans->Prop
 | .alike ss=>ss.length<=100
 | .forms es _ _=>es.length<=30
 | .world tab=>tab.length<=8
 | .open_=>True
def Zz(K:rP):Sp:=λvs H Q Z=>∃(f:rQ) (an:Ans),vs=[.ref f]/\AnsAt K H f an/\zey an/\∀(f':rQ) (H':Hp),Same H H'->AnsAt K H' f' an->Q (.ref f') H'
def UT:sQz 1 ["_law_answer"] vQ:=by nofun
def Ud{f:rQ}{fd:rW}(B:Bt mg)(F:("_law_copied"^^^vQ)) :(1&&&["_law_answer"]) (Zz K):=by
 exists F.ok UT
 ·let#[f,an,rfl,hf,hS,q]:=h
  refine#[_,(zx (zI (zu yq (!-0) z8 (zw _)) (zf (zm (zH (za z8 (za (yA ym rfl B.list jb1 (za (!-0) ze)) ze)))))
    zo) (zx (zI (zu yq (!-0) z8 (zw _)) (zf (zm (zH (za z8 (za (yO (own:=["_law_row"]) (caps:=[]) (ix:=[]) (tt:=yW) (te:=(tCB (j0 K) (zE (zV 0) yT))) rfl (zJ (sc:=zg vQ) rfl (!0) (!0) (!0) rfl (!0) (!0) rfl) (ya (!-0)) (λZ Z Z Z Z Z=>zq (i:=0) (show List.Nodup [_] by decide) rfl (.inl rfl)) (λZ Z Z Z Z Z=>z7) (λZ Z Z Z Z Z=>(yA ym rfl B.list jb1 (za (pv 0) ze)))) ze)))))
    zo) (zx (zI (zu yq (!-0) z8 (zw _)) (zf (zm (zH (za z8 (za (yO (own:=["_law_entry"]) (caps:=[]) (ix:=[]) (tt:=yW) (te:=(WJ (zE (tOp (xN K) (zV 0) (tC (.int 0))) (zE (tOp (xN K) (zV 0) (tC (.int 1))) (zE (tCB (j0 K) (zE (tOp (xN K) (zV 0) (tC (.int 2))) yT)) yT))))) rfl (zJ (sc:=zg vQ) rfl (!0) (!0) (!0) rfl (!0) (!0) rfl) (ya (!-0)) (λZ Z Z Z Z Z=>zq (i:=0) (show List.Nodup [_] by decide) rfl (.inl rfl)) (λZ Z Z Z Z Z=>z7) (λZ Z Z Z Z Z=>(zH (za (!-0) (za (!-0) (za (yA ym rfl B.list jb1 (za (!-0) ze)) ze)))))) (za (!-0) (za (!-0) ze)))))))
    zo) (zf (zm (pv 0)))))),?_]
  have s16:=yd;have s16:=yd
  rfl'
  cases an with
  | alike ss =>
   let#[S,h1,xs,hX,hI]:=hf;refine#[_,x6 h1,_,rfl,rfl,?_];rw[y6 rfl];refine#[_,x6 h1,_,rfl,_,rfl,xs,.inl (x4 hX),λl hl=>#[⋯,λp hp=>?_]];have sl:=zd (o:=.lst xs) hl;have sp:=zd (o:=.tup [.str "alike",.ref l]) hp;exact q p _ (sl.trans sp) #[l,zc,xs,sp _ _ zc,ja1 (sl.trans sp) _ _ hI]
  | forms es x z =>
   let#[D,h1,h2]:=hf;refine#[_,x6 h1,_,rfl,rfl,?_];rw[y9 ∅];refine#[_,x6 h1,_,rfl,rfl,?_];rw[y9 ∅];refine#[_,x6 h1,_,rfl,rfl,?_];rw[y6 rfl];let#[xe,hXe,hEn]:=id h2;have hxl:=hEn.len;have hle:es.length<=30:=hS;refine#[_,x6 h1,_,rfl,D,rfl,#[_,x4 hXe],λD7 hD=>jb0 (xs:=xe) (λi AI H'=>Same H H'/\H' D7=AC (.lst AI)/\AI.length<=i/\EnsA K (Wp D7 H') (es.take i) AI) #[zd hD,zc,ah _,rfl] (λi AI H' Z h=>x4 (h.1 _ _ hXe)) ?_ ?_]
   ·refine nm4 ?_;rintro i x AI H' hx ⟨hs,hH,hal,hE⟩:_;have hi:=(AJ.mp hx).1;let#[e,pe,se,hei,rfl,hqe,hse]:=hEn.get hx;have hq:=zt hs hqe;let#[zs,hz1,hz2]:=hse.same hs;right
    erw[yW]
    rfl'
    refine#[yx,_,hq,_,rfl,_,hq,_,rfl,_,hq,_,rfl,_,zs,rfl,.inl (x4 hz1),λl hl=>#[⋯,λp hp=>?_]];have sl:=zd (o:=.lst zs) hl;have sp:=zd (o:=.tup [⇑e.1,⇑e.2.1,.ref l]) hp;have u:=sl.trans sp;have hD4:=u _ _ hH;refine#[hD4,⋯,x8 hi #[zy (hs.trans u) hD,zc,by rw[ag];erw[au,aO];lia,?_]];rw[zK hei];refine (hE.same ((qm u).trans qh)).snoc (EnA.same ?_ qh);exact EnA.new hD4 zc #[zs,sp _ _ zc,ja1 u _ _ hz2] λz=>by rw[z,hH]at hl;cases hl
   ·refine nmB ?_;rintro AI H' ⟨hs,hH,hal,hE⟩:_;rw[hxl,aD]at hE;have h1':=hs _ _ h1;right;refine#[_,x6 h1',_,rfl,_,x6 h1',_,rfl,⋯,λp hp=>?_];have sp:=zd (o:=.tup [.str "forms",.ref D7,⇑x,⇑z]) hp;exact q p _ (hs.trans sp) #[D7,zc,AI,sp _ _ hH,(hE.same Ym).same sp]
  | world tab =>
   let#[t,ra,h1,h2]:=hf;refine#[_,x6 h1,_,rfl,rfl,?_];rw[y9 ∅];refine#[_,x6 h1,_,rfl,rfl,?_];rw[y6 rfl];refine#[_,x6 h1,_,rfl,t,rfl,#[_,x4 h2.top],λD hD=>Zt rfl h2 (by have:tab.length<=8:=hS;lia) hD λrs' H' s' hT' Z=>#[⋯,λp hp=>?_]];have sp:=zd (o:=.tup [.str "world",.ref D]) hp;exact q p _ (s'.trans sp) #[D,rs',zc,hT'.same sp]
  | open_ =>
   refine#[_,x6 hf,_,rfl,rfl,?_];rw[y9 ∅];refine#[_,x6 hf,_,rfl,rfl,?_];rw[y9 ∅];refine#[_,x6 hf,_,rfl,rfl,?_];rw[y9 ∅];exact q f H (x9 _) hf
theorem qp{l:()}{tab:List (List Int)}:∀(ps:List zF) (i:Nat),(wq l tab ps i).isNone=vq l tab ps
 | [],_=>rfl
 | p::ps,i=>by
  unfold wq vq;rw[dg]
  cases e:wU l tab p.1 p.2 with
  | none =>
   have:=qp (l:=l) (tab:=tab) ps (i+1);unfold vq at this;simpa using this
  | some r=>simp
def zer(l:())(ws:List Int)(k:Nat)(rs:List zF)(u v:()):Ans->Prop
 | .alike ss=>ss.length<=100
 | .forms es _ _=>FrP l ws k rs es u v
 | .world tab=>tab.length<=8/\Qj l u/\Qj l v
 | .open_=>True
def Ka(K:rP):Sp:=λvs H Q Z=>∃(pa wd f rk W:rQ) (k:Int) (l:()) (ws:List Int) (rs:List zF) (u v:()) (an:Ans),vs=[.ref pa,.ref wd,.ref f,.ref rk]/\LsA K H pa (rs.map dR)/\PG3 l rs/\H wd=AC (.lst [⇑u,⇑v])/\u.length<=60/\H rk=AC (.tup [.int k,⇑l,.ref W])/\H W=AC (.lst (ws.map V.int))/\0<=k/\k<3/\l.length=2/\AnsAt K H f an/\zer l ws k.toNat rs u v an/\∀H',Same H H'->Q (.bl (uo k.toNat l ws rs u v an)) H'
def pY:sQz 4 ["_law_pacts","_law_words","_law_answer","_law_ranks","_law_table"] zaM:=by nofun
def zcd{f:rQ}{fd:rW}(B:Bt mg)(F:("_law_due"^^^zaM))(oG:(3<<<"_law_forms_stand") ["_law_pacts","_law_one","_law_other","_law_answer","_law_ranks"] [] (JT K))(oF:(1<<<"_law_led") ["_law_table","_law_letters_here","_law_room","_law_word_here"] [] kO)(oE:(2<<<"_law_end") ["_law_pacts","_law_word_here","_law_steps"] [] (jG K))(mX:(2<<<"_law_table_ok") ["_law_table","_law_many"] [] (XJ K))(oW:(2<<<"_law_holds") ["_law_table","_law_letters_here","_law_pairs"] [] (wK K)):(4&&&["_law_pacts","_law_words","_law_answer","_law_ranks"]) (Ka K):=by
 exists F.ok pY
 ·let#[pa,wd,f,rk,W,k,l,ws,rs,u,v,an,rfl,hA,hP,hwd,hul,hrk,hW,k0,k3,l2,hf,hD,q]:=h
  refine#[_,(zx (zI (zu yq (!-2) z8 (zw _)) (zf (zm (yn yq (cl0 oE hr .nil rfl (za (pv 0) (za (zi ix_list (pv 1) zb) (za (!-2) ze)))) (zi ix_list (pv 1) zb) (zw _))))
    zo) (zx (zI (zu yq (!-2) z8 (zw _)) (zf (zm (cl0 oG hr .nil rfl (za (pv 0) (za (zi ix_list (pv 1) zb) (za (zi ix_list (pv 1) zb) (za (pv 2) (za (pv 3) ze))))))))
    zo) (zx (zI (zu yq (!-2) z8 (zw _)) (zf (zm yw))
    zo) (zx (zC 4 pY.nd (!-2)) (zx (zI (PW.pt (kX (yv (xH (cl0 mX hr .nil rfl (za (pv 4) (za zb ze))) (λZ=>rfl))) (qV (yv (xH (cl0 oW hr .nil rfl (za (pv 4) (za (!-3) (za (pv 0) ze)))) (λZ=>rfl)))))) (zf (zm yw))
    zo) (zf (zm (yn uC (cl0 oF hr .nil rfl (za (pv 4) (za (!-3) (za zb (za (zi ix_list (pv 1) zb) ze))))) (cl0 oF hr .nil rfl (za (pv 4) (za (!-3) (za zb (za (zi ix_list (pv 1) zb) ze))))) (zw _))))))))),?_]
  have s16:=yd;have s16:=yd
  rfl'
  cases an with
  | alike ss =>
   let#[S,h1,h2]:=hf;refine#[_,x6 h1,_,rfl,rfl,?_];rw[y6 rfl];have sc:VE (zbd (yk rs u ss)) (V.str (tx v))=AE:=by cases yk rs u ss <;> rfl
   have ev:decide (zbd (yk rs u ss)=V.str (tx v))=decide (yk rs u ss=AC v):=by
    cases yk rs u ss with
    | none=>rfl
    | some w'=>exact decide_eq_decide.mpr #[λh=>by rw[xP (V.str.inj h)],λh=>by rw[Option.some.inj h];rfl]
   refine#[_,x4 hwd,_,rfl,_,x6 h1,_,rfl,YX hA.is hP.ok hul h2.is (by have:ss.length<=100:=hD;lia) #[_,x4 hwd,_,rfl,sc,?_]];rw[ev];exact q H (x9 _)
  | forms es x z =>
   let#[D,h1,h2]:=hf;refine#[_,x6 h1,_,rfl,rfl,?_];rw[y9 ∅];refine#[_,x6 h1,_,rfl,rfl,?_];rw[y6 rfl];exact#[_,x4 hwd,_,rfl,_,x4 hwd,_,rfl,pa,f,D,rk,W,k,l,ws,rs,es,u,v,x,z,rfl,k0,k3,hA,h1,h2,hrk,hW,hD,q]
  | world tab =>
   let#[t,ra,h1,h2]:=hf;refine#[_,x6 h1,_,rfl,rfl,?_];rw[y9 ∅];refine#[_,x6 h1,_,rfl,rfl,?_];rw[y9 ∅];refine#[_,x6 h1,_,rfl,rfl,?_];rw[y9 ∅];let#[d1,d2,d3]:=hD;refine#[_,x6 h1,_,rfl,VH (by rw[l2];rfl) h2 d1 ⋯ λH1 s1=>#[_,rfl,yl (λh=>?_) λh=>?_]]
   ·have eS:uo k.toNat l ws rs u v (.world tab)=AF:=by
     show (jw l tab && qv l tab rs u v)=AF;rw[h];rfl
    rw[eS]at q;exact q H1 s1
   ·rw[cA]at h;have hG:=goodT_iff.mp h;have hlo:=hG.lo;have hrk1:=s1 _ _ hrk;have hwd1:=s1 _ _ hwd;have hT1:=h2.same s1
    have eS:uo k.toNat l ws rs u v (.world tab)=(decide (wE l tab 0 u≠wE l tab 0 v) && vq l tab rs):=by
     show (jw l tab && qv l tab rs u v)=_;unfold qv;rw[h,qp];rfl
    rw[eS]at q;refine#[_,x6 hrk1,_,rfl,jQ hT1 hG (hA.same s1) hP.inp #[_,rfl,yl (λg=>?_) λg=>#[_,x6 hrk1,_,rfl,_,x4 hwd1,_,rfl,qb hT1 hG ⋯ ⋯ d2 #[_,x6 hrk1,_,rfl,_,x4 hwd1,_,rfl,qb hT1 hG ⋯ ⋯ d3 ?_]]]]
    ·have:=q H1 s1;rw[g,bM]at this;exact this
    ·rw[cA]at g;have:=q H1 s1;rw[g,cy]at this;refine#[rfl,?_]
     have ev:(!decide (V.int (wE l tab 0 u)=V.int (wE l tab 0 v)))=decide (wE l tab 0 u≠wE l tab 0 v):=by
      by_cases z:wE l tab 0 u=wE l tab 0 v
      ·rw[z];simp
      ·rw[y3 λy=>z (V.int.inj y),show decide (wE l tab 0 u≠wE l tab 0 v)=AE from u9 z];rfl
     rw[ev];exact this
  | open_ =>
   refine#[_,x6 hf,_,rfl,rfl,?_];rw[y9 ∅];refine#[_,x6 hf,_,rfl,rfl,?_];rw[y9 ∅];refine#[_,x6 hf,_,rfl,rfl,?_];rw[y6 rfl];exact q H (x9 _)
def xR(K:rP)(L:LamD)(cl:List (rV × rQ))(cvs:List V):Sp:=λvs H Q _=>∃(R f:rQ) (c:Int) (xs:List V),vs=[.ref R,.int c,.ref f]/\w8 c/\H R=AC (.lst xs)/\1<=xs.length/\xs.length<=100/\L.At cl H f /\
 (∀(D:rQ) (i:Nat) (H':Hp),i<xs.length->Same H H'->H' D=AC (.lst (xs.take i ++ xs.drop (i+1)))->Q (.ref D) H') /\
 ∀(i:Nat) (x:V) (H1:Hp) (Z:VK),xs[i]? = AC x->Same H H1->(∀(r:V) (H2:Hp),Same H1 H2->(∀(D:rQ) (H':Hp),Same H2 H'->H' D=AC (.lst (xs.take i ++ [r] ++ xs.drop (i+1)))->Q (.ref D) H')->Z r H2)->L.tb (AC x::cvs.map AC) H1 Z
def uE(xs:List V)(i:Nat):Xu xs AD (AC (i:Int))=xs.take i:=by have e:Xu xs AD (AC (i:Int))=cut xs AD (AC (i:Int)):=rfl;rw[e,uQ _ (bC _),aF]
def vW(xs:List V)(i:Nat):Xu xs (AC ((i:Int)+1)) AD=xs.drop (i+1):=by have e:Xu xs (AC ((i:Int)+1)) AD=cut xs (AC ((i:Int)+1)) AD:=rfl;rw[e,xn _ ⋯,show ((i:Int)+1).toNat=i+1 by lia]
def LamD.At.same{L:LamD}{cl:List (rV × rQ)}{H H':Hp}{f:rQ}(h:L.At cl H f)(s:Same H H'):L.At cl H' f:=by let#[c',pm,ctv,e1,e2]:=h;exact#[c',pm,ctv,s _ _ e1,s _ _ e2]
def ph:sQz 3 ["_law_rows","_law_cell_here","_law_changed","_law_at"] ko:=by nofun
def V5{f:rQ}{fd:rW}(B:Bt mg){L:LamD}{cl:List (rV × rQ)}{cvs:List V}(hL:Z2 K mg L)(F:("_law_spoilt"^^^ko))(gp:(1<<<"_law_mixed") ["_law_cell_here","_law_turn"] [] yE):Jf P w K mg base 2 f fd ["_law_rows","_law_cell_here","_law_changed"] (λs H=>CellsAt s H L.ys cl cvs) (xR K L cl cvs):=by
 refine KG F ph (λvs H Q E h=>?_) (λcdv A outer s H vs Q E hr hent h=>?_)
 ·let#[R,f',c,xs,rfl,_]:=h;rfl
 ·let#[R,f',c,xs,rfl,hc,hR,h1,h100,hf,q1,q2]:=h
  refine#[_,(zh (zC 3 ph.nd (zv yb (cl0 gp hr .nil rfl (za (pv 1) (za zb ze))) (zG B.len (pv 0)))) (zh (zI (zu yq (zv yb (cl0 gp hr .nil rfl (za (pv 1) (za zb ze))) zb) zb (zw _)) (zf (zm (zv Xm (zO uj (pv 0) yc (zS (pv 3))) (zO uj (pv 0) (zS (zv yf (pv 3) zb)) yc))))
    zo) (zf (zm (zv Xm (zv Xm (zO uj (pv 0) yc (zS (pv 3))) (yM (za (Js (k:=0) (i:=2) (cl:=cl) (vs:=cvs) hL (hr.mono ∅) rfl rfl hent rfl (za (zi ix_list (pv 0) (pv 3)) ze)) ze))) (zO uj (pv 0) (zS (zv yf (pv 3) zb)) yc)))))),?_]
  have s16:=yd;change H'=H/\∃i:Nat,i<xs.length/\σ=[!!R,~~~!c,!!f',-~~~i]
  ·rfl'
   refine#[c,12,rfl,hc,∅,∅,λz hz=>#[_,.inl #[_,x4 hR,rfl],z,rfl,⋯,rfl,(z % (xs.length:Int)).toNat,?_,?_]]
   ·have:=cT z (show (0:Int)<xs.length by lia);have:=cu z (show (xs.length:Int)≠0 by lia);lia
   ·have:=cu z (show (xs.length:Int)≠0 by lia);lia
  rintro σ H1 ⟨rfl,i,hi,rfl⟩:0;change H'=H1/\σ=[!!R,~~~!c,!!f',-~~~i]
  ·rfl'
   refine#[c,13,rfl,hc,∅,∅,λz hz=>#[z,rfl,∅,yl (λh=>#[xs,x4 hR,λp hp=>?_]) λh=>rfl]];have sp:=zd (o:=.lst (Xu xs AD (AC (i:Int)))) hp;refine#[xs,x4 (sp _ _ hR),λp1 hp1=>?_];have sp1:=zd (o:=.lst (Xu xs (AC ((i:Int)+1)) AD)) hp1;refine#[_,sp1 _ _ zc,_,zc,?_,λp2 hp2=>q1 p2 i _ hi (sp.trans (sp1.trans (zd hp2))) ?_]
   ·rw[uE,vW,av,aG];lia
   ·rw[zc,uE,vW]
  rintro σ H2 ⟨rfl,rfl⟩:0
  rfl'
  refine#[xs,x4 hR,λp hp=>?_];have sp:=zd (o:=.lst (Xu xs AD (AC (i:Int)))) hp;have hx:xs[i]? = AC (xs[i]'hi):=ak hi;generalize xs[i]'hi=x at hx;unfold Vi
  rfl'
  refine#[f',rfl,LamD.At.same hf sp,xs,x4 (sp _ _ hR),x,wF hx,LamD.At.same hf sp,q2 i x _ _ hx sp λr H3 s3 hq=>#[⋯,λp1 hp1=>?_]];have sp1:=zd (o:=.lst [r]) hp1;refine#[_,sp1 _ _ (s3 _ _ zc),_,zc,?_,λp2 hp2=>?_]
  ·rw[uE,av]
   erw[au,aO]
   lia
  have sp2:=zd (o:=.lst (Xu xs AD (AC (i:Int)) ++ [r])) hp2;have sA:=sp.trans (s3.trans (sp1.trans sp2));refine#[xs,x4 (sA _ _ hR),λp3 hp3=>?_];have sp3:=zd (o:=.lst (Xu xs (AC ((i:Int)+1)) AD)) hp3;refine#[_,sp3 _ _ zc,_,zc,?_,λp4 hp4=>hq p4 _ (sp1.trans (sp2.trans (sp3.trans (zd hp4)))) ?_]
  ·rw[uE,vW,ag,av,aG]
   erw[au,aO]
   lia
  ·rw[zc,uE,vW]
theorem Iss.drop : ∀(n:Nat) {l:List L3.D} {vs:List V},Iss K H l vs->Iss K H (l.drop n) (vs.drop n)
 | 0,_,_,h=>h
 | n+1,[],vs,h=>by
  erw[Iss]at h
  subst h
  erw[List.drop_nil,Iss]
 | n+1,d::l,vs,h=>by
  erw[Iss]at h
  let#[v,r,rfl,_,h2]:=h;exact Iss.drop n h2
theorem Iss.take : ∀(n:Nat) {l:List L3.D} {vs:List V},Iss K H l vs->Iss K H (l.take n) (vs.take n)
 | 0,_,_,_=>by erw[cj,Iss]
 | n+1,[],vs,h=>by
  erw[Iss]at h
  subst h
  erw[fE,Iss]
 | n+1,d::l,vs,h=>by
  erw[Iss]at h
  let#[v,r,rfl,h1,h2]:=h
  erw[dk,Iss]
  exact#[v,_,rfl,h1,Iss.take n h2]
def zbj{ta:TA}{g:TG}{tt:TT}{te:TE}{own:Nat}{ix:()}{σ:L2.St}{H:Hp}{Q:VK}:jz (zav ta) g tt te own ix σ H Q=ta σ H λvs H1=>∃i j:Int,vs=[.int i,.int j]/\(-(2 ^ 62)<=i/\i<2 ^ 62/\-(2 ^ 62)<=j/\j<2 ^ 62)/\∀D,H1 D=AD->CompR i (j - i).toNat g tt te own ix σ H1 Q D:=rfl
def noE:sG:=.Name "" #[0,0,0,0]
def noS:si:=.Pass #[0,0,0,0]
def ifB:si->List si
 | .If _ b _ _=>b
 | _=>[]
def ifO:si->List si
 | .If _ _ b _=>b
 | _=>[]
def zcQ:si->sG
 | .Assign _ e _=>e
 | _=>noE
def zcR:sG->Nat->sG
 | .Call _ as _ _,n=>as.getD n noE
 | _,_=>noE
def zcC:sG->Ax
 | .Lambda a _ _ _=>a
 | _=>yG (top 0)
def zcW:sG->sG
 | .Lambda _ b _ _=>b
 | _=>noE
def QW:sG->tL
 | .Lambda _ _ s _=>s
 | _=>zg (top 0)
abbrev Qz:sG:=zcR (zcQ ((ifB ((zZ yh).getD 3 noS)).getD 2 noS)) 2
def zdc(K:rP):TE:=WJ (zE (tOp (rI0 λi j=>.int (i+j)) (tOp (xN K) (zV 0) (tC (.int 0))) (tOp (xN K) (zV 1) (tC (.int 0)))) (zE (tOp (rI0 λi j=>.int (i+j)) (tOp (xN K) (zV 0) (tC (.int 1))) (tOp (xN K) (zV 1) (tC (.int 1)))) (zE (tOp rEq (tOp (xN K) (zV 0) (tC (.int 2))) (tOp (rI0 λi j=>.bl (decide (i<j))) (zV 2) (tC (.int 4)))) yT)))
def LSt(K:rP):LamD:=#["_law_step",["_law_add","_law_turn"], "_law_steps_paper.<locals>.<lambda>",zcC Qz,zcW Qz,QW Qz,zdc K]
def Qo:Z2 K mg (LSt K):=by refine#[(show uK "_law_step" ["_law_add","_law_turn"] (QW Qz)from #[rfl,rfl,rfl,by symm,rfl,by symm,by symm]),λZ Z Z Z Z=>rfl,λX s H f cv cl hK hm=>?_];subst hK;exact zH (za (zv yf (!-0) (!-1)) (za (zv yf (!-0) (!-1)) (za (yn yq (!-0) (yn Zq (pv 2) zb (zw _)) (zw _)) ze)))
def K7{a b z:rV}{x y d:rQ}(h:bn z [(b,y),(a,x)]=AC d):z ∈ [a,b]:=by
 have:=bx h
 erw[bX,Prod.mk.injEq,ci,or_false]at this ⊢
 rcases this with ⟨h,_⟩ | ⟨h,_⟩
 ·exact .inr h
 ·exact .inl h
def vA(K:rP)(T:rQ):Sp:=λvs H Q Z=>∃(pa sc:rQ) (l:()) (rs:List zF) (u:()) (ns:List Int) (c:Int),vs=[.ref pa,⇑u,.ref sc,.int c]/\LsA K H pa (rs.map dR)/\PG3 l rs/\u.length<=5/\SqL K H sc (ns.map V.int)/\(∀z ∈ ns,w8 z)/\w8 c/\H T=AC (.tbl #[])/\∀(p f:rQ) (ss:List Stp) (v:()) (H':Hp),SamT T H H'->H' p=AC (.tup [.ref f,⇑v])->AnsAt K H' f (.alike ss)->ss.length<=6->Q (.ref p) H'
def gw:sQz 4 ["_law_pacts","_law_one","_law_script","_law_spoil","_law_steps","_law_other","_law_turn","_law_changes","_law_add"] yh:=by nofun
def jq{f CC T:rQ}{fd:rW}(B:Bt mg)(hCd:ux mg base CC T)(hgT:rM≠T)(F:("_law_steps_paper"^^^yh))(HC:fd.code=.ref CC)(rq:(3<<<"_law_chain") ["_law_pacts","_law_word_here","_law_cells","_law_most"] [] (j5 K))(oE:(2<<<"_law_end") ["_law_pacts","_law_word_here","_law_steps"] [] (jG K))(gp:(1<<<"_law_mixed") ["_law_cell_here","_law_turn"] [] yE)(lq:DfE P w K mg base 2 "_law_spoilt" ["_law_rows","_law_cell_here","_law_changed"] (xR K))(gP:(1<<<"_law_cell") ["_law_script","_law_k"] [] (w6 K)):(4&&&["_law_pacts","_law_one","_law_script","_law_spoil"]) (vA K T):=by
 refine YS F HC gw (λvs H Q E h=>?_) (λA outer s H vs Q E hr h=>?_)
 ·let#[pa,sc,l,rs,u,ns,c,rfl,_]:=h;rfl
 ·let#[pa,sc,l,rs,u,ns,c,rfl,hA,hP,hu,hS,hS20,hc,hT,q]:=h
  refine#[_,(zh (zC 4 gw.nd (cl0 rq hr .nil rfl (za (pv 0) (za (pv 1) (za (yO (own:=["_law_k"]) (caps:=["_law_script"]) (ix:=[2]) (tt:=yW) (te:=(xt (w6 K) [] E0 (zE (zV 1) (zE (zV 0) yT)))) rfl (zJ (sc:=zg yh) rfl (!0) (!0) (!0) rfl (!0) (!0) rfl) (ZC rfl B.range (za zb (za zb ze))) (λ_ _ _ _ _ _=>zq (i:=0) (show List.Nodup [_,_] by decide) rfl (.inl rfl)) (λ_ _ _ _ _ _=>z7) (λ_ _ _ _ _ _=>(cl0 gP hr .nil rfl (za (pv 1) (za (pv 0) ze))))) (za zb ze)))))) (zh (zC 5 gw.nd (cl0 oE hr .nil rfl (za (pv 0) (za (pv 1) (za (pv 4) ze))))) (zh (uL (i:=6) gw.nd rfl (Or.inr rfl) (zv yb (cl0 gp hr .nil rfl (za (pv 3) (za zb ze))) zb)) (zh (zI (PW.pt (Xr (zu yq (zv yb (pv 3) zb) zb (zw _)) (kQ (zu Y8 (zG B.len (pv 4)) zb (zw _))))) (zh (zC 7 gw.nd (yM (za (zH (za zb (za zb ze))) (za (zH (za (Uw ZB zb) (za zb ze))) (za (zH (za zb (za zb ze))) (za (zH (za zb (za (Uw ZB zb) ze))) (za (zH (za zb (za zb ze))) ze))))))) (zh (uL (i:=8) gw.nd rfl (Or.inr rfl) (zi ix_list (pv 7) (pv 6))) (zf (zC 4 gw.nd (clE (L:=LSt K) (ixs:=[8,6]) (cl:=[("_law_turn",s⁻¹+1+1+1),("_law_add",s⁻¹+1+1)]) lq Qo hr rfl #[rfl,(λj y h=>by match j,h with | 0,h=>cases h;exact#[_,_,rfl,rfl,rfl,rfl,rfl] | 1,h=>cases h;exact#[_,_,rfl,rfl,rfl,rfl,rfl] | j+2,h=>simp [LSt]at h),λz d h=>K7 h] (za (pv 4) (za (pv 3) (za (j8 (L:=LSt K) rfl hCd.2 hCd.1 hgT rfl rfl rfl rfl) ze))))))))
    zo) (zf (zm (zH (za (zH (za z8 (za (pv 4) ze))) (za (pv 5) ze))))))))),?_]
  have s16:=yd;change Same H H'/\∃(D:rQ) (ss:List Stp) (w':()),(LsA K H' D (ss.map dSt)/\yk rs u ss=AC w'/\ss.length<=6)/\σ=%[!!pa,~~~u,!!sc,~~~!c,!!D|4]
  ·rfl'
   rw[zbj]
   rfl'
   refine#[∅,∅,∅,∅,λC hC=>CompR.by (λi AI H'=>Same H H'/\H' C=AC (.lst AI)/\∃cs:List Int,AI=cs.map V.int/\cs.length=i/\∀z ∈ cs,w8 z) #[zd hC,zc,[],rfl,rfl,λz hz=>(nomatch hz)] ?_ ?_]
   ·refine nm3 ?_;rintro i AI H' hi ⟨hs,hH,cs,rfl,hcl,hcb⟩:_;have hi3:i<6:=hi;right
    erw[yW]
    rfl'
    refine#[yx,xa (hs.seq hS) hS20 ⋯ λc hc=>#[hH,by rw[aa];lia,x8 hi #[zy hs hC,zc,cs ++ [c],by rw[al];rfl,by rw[ag,hcl];rfl,λz hz=>?_]]];rcases AK.mp hz with h | h
    ·exact hcb z h
    ·rw[AL.mp h];exact hc
   ·refine nmB ?_;rintro AI H' ⟨hs,hH,cs,rfl,hcl,hcb⟩:_;have hc3:cs.length=6:=hcl;right;exact Vd (hA.same hs).is hP.ok ⋯ ∅ (x4 hH) hcb ⋯ λD H5 ss w' hTn s' hL' hwk hw' hsl _=>#[hs.trans s',D,ss,hL',#[w',hwk],⋯,rfl]
  rintro σ H1 ⟨s1,D,ss,w',⟨hD,hw,h6⟩,rfl⟩:0;change H'=H1/\σ=%[!!pa,~~~u,!!sc,~~~!c,!!D,~~~w'|3]
  ·rfl'
   exact YX (hA.same s1).is hP.ok ⋯ hD.is ⋯ (by rw[hw];exact#[rfl,rfl])
  rintro σ H2 ⟨rfl,rfl⟩:0;change H'=H2/\∃k:Nat,k<5/\σ=%[!!pa,~~~u,!!sc,~~~!c,!!D,~~~w',-~~~k|2]
  ·rfl'
   exact#[c,14,rfl,hc,∅,∅,λz hz=>#[z,rfl,∅,rfl,(z % 5).toNat,⋯,⋯]]
  rintro σ H3 ⟨rfl,k,hk,rfl⟩:0;change SamT T H H'/\∃(D':rQ) (ss':List Stp) (v7 v8:Option V),(LsA K H' D' (ss'.map dSt)/\ss'.length<=6)/\σ=[!!pa,~~~u,!!sc,~~~!c,!!D',~~~w',-~~~k,v7,v8]
  ·rfl'
   let#[xs,hX,hI]:=id hD;have hxl:=hI.len;rw[aa]at hxl;refine#[∅,yl (λh1=>#[_,.inl #[_,x4 hX,rfl],yl (λh2=>?_) λh2=>#[ja0 s1,D,ss,hD,h6,rfl]]) λh1=>#[ja0 s1,D,ss,hD,h6,rfl]];change Same H3 H'/\∃(L:rQ) (ps:List rQ),(H' L=AC (.lst (ps.map V.ref))/\ps.length=5/\∀p ∈ ps,∃a b:Int,H' p=AC (.tup [.int a,.int b]))/\σ=[!!pa,~~~u,!!sc,~~~!c,!!D,~~~w',-~~~k,!!L,AD]
   ·rfl'
    refine#[⋯,λp0 g0=>#[⋯,λp1 g1=>#[⋯,λp2 g2=>#[⋯,λp3 g3=>#[⋯,λp4 g4=>#[⋯,λp5 g5=>?_]]]]]];have t0:=zd (o:=.tup [.int 1,.int 0]) g0;have t1:=zd (o:=.tup [.int (-1),.int 0]) g1;have t2:=zd (o:=.tup [.int 0,.int 1]) g2;have t3:=zd (o:=.tup [.int 0,.int (-1)]) g3;have t4:=zd (o:=.tup [.int 0,.int 0]) g4;have t5:=zd (o:=.lst [.ref p0,.ref p1,.ref p2,.ref p3,.ref p4]) g5;refine#[t0.trans (t1.trans (t2.trans (t3.trans (t4.trans t5)))),p5,[p0,p1,p2,p3,p4],zc,rfl,λp hp=>?_,rfl]
    erw[bX,ci,or_false]at hp
    rcases hp with rfl | rfl | rfl | rfl | rfl
    ·exact#[_,_,t5 _ _ (t4 _ _ (t3 _ _ (t2 _ _ (t1 _ _ zc))))]
    ·exact#[_,_,t5 _ _ (t4 _ _ (t3 _ _ (t2 _ _ zc)))]
    ·exact#[_,_,t5 _ _ (t4 _ _ (t3 _ _ zc))]
    ·exact#[_,_,t5 _ _ (t4 _ _ zc)]
    ·exact#[_,_,t5 _ _ zc]
   rintro σ H4 ⟨s4,L,ps,⟨hL,hpl,hps⟩,rfl⟩:0;change H'=H4/\∃(p:rQ) (a b:Int),H4 p=AC (.tup [.int a,.int b])/\σ=[!!pa,~~~u,!!sc,~~~!c,!!D,~~~w',-~~~k,!!L,!!p]
   ·rfl'
    have hpk:ps[k]? = AC (ps[k]'⋯):=ak ⋯;generalize ps[k]'⋯=p at hpk;let#[a,b,hab]:=hps p (af hpk);exact#[_,x4 hL,.ref p,wF (by rw[ax,hpk];rfl),p,#[a,b,hab],rfl]
   rintro σ H5 ⟨rfl,p,a,b,hp,rfl⟩:0
   rfl'
   unfold jW Vu
   rfl'
   have s14:=s1.trans s4;have hT5:=s14 _ _ hT;refine#[hT5,λf' H6 hf' hL6 s6=>#[[.ref p,.int (k:Nat)],rfl,?_]];have hX6:H6 D=AC (.lst xs):=s6.at hT5 (s4 _ _ hX) λ_ z=>by cases z
   have hI6:Iss K H6 (ss.map dSt) xs:=Iss.samT s6 hT5 _ _ (ja1 s4 _ _ hI);have hp6:H6 p=AC (.tup [.int a,.int b]):=s6.at hT5 hp λ_ z=>by cases z
   have sH:SamT T H H6:=(ja0 s14).trans s6;refine#[D,f',c,xs,rfl,hc,hX6,⋯,⋯,hL6,λD1 i H7 hi s7 h7=>#[sH.trans (ja0 s7),D1,ss.take i ++ ss.drop (i+1),#[_,h7,?_],?_,rfl],λi x H7 Z hx s7 hZ=>?_]
   ·have h9:=ja1 s7 _ _ hI6;rw[al,dI,ei];exact Iss.append (Iss.take i h9) (Iss.drop (i+1) h9)
   ·rw[ag,av,aG];lia
   ·let#[st,pt,hsi,rfl,hqs]:=uY (ja1 s7 _ _ hI6) hx;have hil:=(AJ.mp hsi).1;have hpq:=x6 (K:=K) (s7 _ _ hp6);show zdc K [!!pt,!!p,-~~~k] H7 Z;unfold zdc
    rfl'
    refine#[_,hqs,_,rfl,_,hpq,_,rfl,_,rfl,_,rfl,_,hqs,_,rfl,_,hpq,_,rfl,_,rfl,_,rfl,_,hqs,_,rfl,rfl,⋯,λpn hpn=>hZ _ _ (zd hpn) λD1 H8 s8 h8=>?_];have u8:=(zd hpn).trans s8;have h9:=ja1 (s7.trans u8) _ _ hI6;refine#[sH.trans (ja0 (s7.trans u8)),D1,ss.take i ++ [(st.1+a,st.2.1+b,decide (V.bl st.2.2=V.bl (decide ((k:Int)<4))))] ++ ss.drop (i+1),#[_,h8,?_],?_,rfl]
    ·rw[al,al,dI,ei];refine Iss.append (Iss.append (Iss.take i h9) ?_) (Iss.drop (i+1) h9)
     erw[aw,aL,Iss]
     exact#[_,_,rfl,uM (x6 (s8 _ _ zc)),rfl]
    ·erw[ag,av,aG,au,aO]
     lia
  rintro σ H4 ⟨s4,D',ss',v7,v8,⟨hD',h6'⟩,rfl⟩:0
  rfl'
  refine#[⋯,λp hp=>#[⋯,λp1 hp1=>?_]];have sp:=zd (o:=.tup [.str "alike",.ref D']) hp;have sp1:=zd (o:=.tup [.ref p,⇑w']) hp1;exact q p1 p ss' w' _ (s4.trans (ja0 (sp.trans sp1))) zc #[D',sp1 _ _ zc,hD'.same (sp.trans sp1)] h6'
abbrev Qk:sG:=zcR (zcQ ((ifB ((zZ yo).getD 3 noS)).getD 1 noS)) 2
def zdO(K:rP):TE:=tIf (Y7 (tOp (rI0 λi j=>.bl (decide (i<j))) (zV 1) (tC (.int 4)))) (zaS (zE (tOp (zbc K) (zV 0) (tC (.int 0))) (zE (zV 1) yT))) (tSl (za4 K) (zV 0) qZ (Ve (tC (.int 1))))
def LTb(K:rP):LamD:=#["_law_row",["_law_number"], "_law_table_paper.<locals>.<lambda>",zcC Qk,zcW Qk,QW Qk,zdO K]
def QN:Z2 K mg (LTb K):=by refine#[(show uK "_law_row" ["_law_number"] (QW Qk)from #[rfl,rfl,rfl,by symm,rfl,by symm,by symm]),λZ Z Z Z Z=>rfl,λX s H f cv cl hK hm=>?_];subst hK;exact kz (zu Zq (pv 1) zb (zw _)) (yM (za (zi ix_list (pv 0) zb) (za (pv 1) ze))) (zO uj (pv 0) yc (zS zb))
def UE{a z:rV}{x d:rQ}(h:bn z [(a,x)]=AC d):z ∈ [a]:=by
 have:=bx h
 erw[bX,Prod.mk.injEq,ci,or_false]at this ⊢
 exact this.1
def Qu{H:Hp}{t D:rQ}{ra:List rQ}{tab:List (List Int)}(h:TabAt H t ra tab)(i:Nat)(hD:H D=AC (.lst ((ra.map V.ref).take i ++ (ra.map V.ref).drop (i+1)))):TabAt H D (ra.take i ++ ra.drop (i+1)) (tab.take i ++ tab.drop (i+1)):=by
 have hl:=h.len;refine#[by rw[al,dI,ei];exact hD,by erw[ag,av,aG];lia,λj r x h1 h2=>?_];by_cases hj:j<i/\j<ra.length
 ·rw[aW (by rw[av];lia),bU hj.1]at h1;rw[aW (by rw[av];lia),bU hj.1]at h2;exact h.row j r x h1 h2
 ·rw[aN (by rw[av];lia),dv,av]at h1;rw[aN (by rw[av];lia),dv,av,<- hl]at h2;exact h.row _ r x h1 h2
def Kn{H:Hp}{t D pn:rQ}{ra:List rQ}{tab:List (List Int)}{y:List Int}(h:TabAt H t ra tab)(i:Nat)(hi:i<ra.length)(hy:H pn=AC (.lst (y.map V.int)))(hD:H D=AC (.lst ((ra.map V.ref).take i ++ [.ref pn] ++ (ra.map V.ref).drop (i+1)))):TabAt H D (ra.take i ++ [pn] ++ ra.drop (i+1)) (tab.take i ++ [y] ++ tab.drop (i+1)):=by
 have hl:=h.len;refine#[by rw[al,al,dI,ei];exact hD,by erw[ag,av,aG,au,aO];lia,λj r x h1 h2=>?_];have e1:(ra.take i).length=i:=by rw[av];lia
 have e2:(tab.take i).length=i:=by rw[av];lia
 rw[bb]at h1 h2;rcases eC j i with hj | hj | hj
 ·rw[aW ⋯,bU hj]at h1;rw[aW ⋯,bU hj]at h2;exact h.row j r x h1 h2
 ·subst hj;rw[aN ⋯,e1,eM]at h1;rw[aN ⋯,e2,eM]at h2;cases h1;cases h2;exact hy
 ·rw[aN ⋯,e1,show j - i=(j - i - 1)+1 by lia,fw,bY,dv]at h1;rw[aN ⋯,e2,show j - i=(j - i - 1)+1 by lia,fw,bY,dv]at h2;exact h.row _ r x h1 h2
structure TbB(H:Hp)(t:rQ)(ra:List rQ)(tab:List (List Int))(i:Nat):Prop where
 top:H t=AC (.lst (ra.map V.ref))
 rl:ra.length=i
 tl:tab.length=i
 ne:∀r ∈ ra,r≠t
 row:∀(j:Nat) (r:rQ) (x:List Int),ra[j]? = AC r->tab[j]? = AC x->H r=AC (.lst (x.map V.int))
 one:∀x ∈ tab,1<=x.length
def TbB.tab{H:Hp}{t:rQ}{ra:List rQ}{tab:List (List Int)}{i:Nat}(h:TbB H t ra tab i):TabAt H t ra tab:=#[h.top,by rw[h.rl,h.tl],h.row]
def TbB.push{H:Hp}{t p:rQ}{ra:List rQ}{tab:List (List Int)}{i:Nat}{y:List Int}(h:TbB H t ra tab i)(hp:H p=AD)(hy:1<=y.length):TbB (upd (upd H p (.lst (y.map V.int))) t (.lst (ra.map V.ref ++ [.ref p]))) t (ra ++ [p]) (tab ++ [y]) (i+1):=by
 have hpt:p≠t:=λz=>by rw[z,h.top]at hp;cases hp
 have sp:=zd (o:=.lst (y.map V.int)) hp;refine#[by rw[zc,al];rfl,by rw[ag,h.rl];rfl,by rw[ag,h.tl];rfl,λr hr=>?_,λj r x h1 h2=>?_,λx hx=>?_]
 ·rcases AK.mp hr with g | g
  ·exact h.ne r g
  ·rw[AL.mp g];exact hpt
 ·by_cases hj:j<i
  ·rw[aW (by rw[h.rl];exact hj)]at h1;rw[aW (by rw[h.tl];exact hj)]at h2;rw[zk (h.ne r (af h1))];exact sp _ _ (h.row j r x h1 h2)
  ·rw[aN (by rw[h.rl];lia),h.rl]at h1;rw[aN (by rw[h.tl];lia),h.tl]at h2
   have hz:j - i=0:=by
    have:=(AJ.mp h1).1
    erw[au,aO]at this
    lia
   rw[hz]at h1 h2;cases h1;cases h2;rw[zk hpt,zc]
 ·rcases AK.mp hx with g | g
  ·exact h.one x g
  ·rw[AL.mp g];exact hy
def vw(K:rP)(T2:rQ):Sp:=λvs H Q Z=>∃(sc:rQ) (ns:List Int) (c:Int),vs=[.ref sc,.int c]/\SqL K H sc (ns.map V.int)/\(∀z ∈ ns,w8 z)/\w8 c/\H T2=AC (.tbl #[])/\∀(f:rQ) (tab:List (List Int)) (H':Hp),SamT T2 H H'->AnsAt K H' f (.world tab)->tab.length<=3->Q (.ref f) H'
def gx:sQz 2 ["_law_script","_law_spoil","_law_table","_law_rooms","_law_room","_law_number"] yo:=by nofun
def jy{f CC T2:rQ}{fd:rW}(B:Bt mg)(hCd:ux mg base CC T2)(hgT:rM≠T2)(F:("_law_table_paper"^^^yo))(HC:fd.code=.ref CC)(gp:(1<<<"_law_mixed") ["_law_cell_here","_law_turn"] [] yE)(lq:DfE P w K mg base 2 "_law_spoilt" ["_law_rows","_law_cell_here","_law_changed"] (xR K))(gP:(1<<<"_law_cell") ["_law_script","_law_k"] [] (w6 K)):(3&&&["_law_script","_law_spoil"]) (vw K T2):=by
 refine YS F HC gx (λvs H Q E h=>?_) (λA outer s H vs Q E hr h=>?_)
 ·let#[sc,ns,c,rfl,_]:=h;rfl
 ·let#[sc,ns,c,rfl,hS,hS20,hc,hT,q]:=h
  refine#[_,(zh (zC 2 gx.nd (yM ze)) (zh (zC 3 gx.nd (zv yf zb (zv yb (cl0 gP hr .nil rfl (za (pv 0) (za zb ze))) zb))) (zh (zX p8 rfl (yB rfl B.range (za (pv 3) ze)) (zq (i:=4) gx.nd rfl (.inl rfl)) (zh (uL (i:=5) gx.nd rfl (Or.inr rfl) (cl0 gp hr .nil rfl (za (cl0 gP hr .nil rfl (za (pv 0) (za (zv yf zb (pv 4)) ze))) (za zb ze)))) (zf (wQ (wV bu bq br yR (pv 2) (za (yM (za (zv yb (pv 5) (pv 3)) (za (zv yb (zv xj (pv 5) zb) (pv 3)) ze))) ze)))))) (zh (zI (zu yq (zv yb (pv 1) zb) zb (zw _)) (zh (uL (i:=5) gx.nd rfl (Or.inr rfl) (zv wM (zv yb (cl0 gp hr .nil rfl (za (pv 1) (za zb ze))) zb) zb)) (zf (zC 2 gx.nd (clE (L:=LTb K) (ixs:=[5]) (cl:=[("_law_number",s⁻¹+1)]) lq QN hr rfl #[rfl,(λj y h=>by match j,h with | 0,h=>cases h;exact#[_,_,rfl,rfl,rfl,rfl,rfl] | j+1,h=>simp [LTb]at h),λz d h=>UE h] (za (pv 2) (za (pv 1) (za (j8 (L:=LTb K) rfl hCd.2 hCd.1 hgT rfl rfl rfl rfl) ze)))))))
    zo) (zf (zm (zH (za z8 (za (pv 2) ze))))))))),?_]
  have s16:=yd;change Same H H'/\∃t:rQ,(H' t=AC (.lst [])/\H t=AD)/\σ=%[!!sc,~~~!c,!!t|3]
  ·rfl'
   exact#[⋯,λt ht=>#[zd ht,t,zc,ht,rfl]]
  rintro σ H1 ⟨s1,t,⟨ht,htn⟩,rfl⟩:0;change H'=H1/\∃n:Nat,(1<=n/\n<=3)/\σ=%[!!sc,~~~!c,!!t,-~~~n|2]
  ·rfl'
   exact xa (s1.seq hS) hS20 ∅ λz _=>#[z,rfl,∅,rfl,(1+z % 3).toNat,⋯,⋯,⋯]
  rintro σ H2 ⟨rfl,n,⟨n1,n3⟩,rfl⟩:0;change Same H H'/\∃(ra:List rQ) (tab:List (List Int)) (v4 v5:Option V),(TabAt H' t ra tab/\tab.length=n/\(∀x ∈ tab,1<=x.length))/\σ=[!!sc,~~~!c,!!t,-~~~n,v4,v5]
  ·rfl'
   refine#[⋯,⋯,ForR.by (λi σ H'=>Same H H'/\∃(ra:List rQ) (tab:List (List Int)) (v4 v5:Option V),TbB H' t ra tab i/\σ=[!!sc,~~~!c,!!t,-~~~n,v4,v5]) #[s1,[],[],AD,AD,#[ht,rfl,rfl,λr h=>(nomatch h),λj r x h=>(nomatch h),λx h=>(nomatch h)],rfl] ?_ ?_]
   ·refine nm3 ?_;rintro i σ H' hi ⟨s',ra,tab,v4,v5,hI,rfl⟩:0
    erw[yZ,aV,aU]
    refine zj (λσ H''=>H''=H'/\∃m:Int,σ=[!!sc,~~~!c,!!t,-~~~n,AC (.int (0+(i:Int))),~~~!m]) ?_ ?_
    ·rfl'
     exact xa (s'.seq hS) hS20 ⋯ λz hz=>xu hz ∅ ∅ λm hm=>#[rfl,m,rfl]
    rintro σ H4 ⟨rfl,m,rfl⟩:0
    rfl'
    refine#[.inl #[_,x4 hI.top],⋯,#[∅,∅],⋯,⋯,λp hp=>#[_,zd hp _ _ hI.top,by rw[aa,hI.rl];lia,zy (s'.trans (zd hp)) htn,ra ++ [p],tab ++ [[m % (n:Int),m / 3 % (n:Int)]],hI.push (y:=[m % (n:Int),m / 3 % (n:Int)]) hp (by simp)]]
   ·refine nmB ?_;rintro σ H' ⟨s',ra,tab,v4,v5,hI,rfl⟩:_;rw[aF]at hI;right;exact#[s',ra,tab,hI.tab,hI.tl,hI.one,v4,v5,rfl]
  rintro σ H3 ⟨s3,ra,tab,v4,v5,⟨hT3,htl,hx1⟩,rfl⟩:0;change SamT T2 H H'/\∃(t':rQ) (ra':List rQ) (tab':List (List Int)) (v5:Option V),(TabAt H' t' ra' tab'/\tab'.length<=3)/\σ=[!!sc,~~~!c,!!t',-~~~n,v4,v5]
  ·rfl'
   refine#[∅,yl (λh1=>?_) λh1=>#[ja0 s3,t,ra,tab,hT3,⋯,rfl]];change H'=H3/\∃z:Int,σ=[!!sc,~~~!c,!!t,-~~~n,v4,~~~!z]
   ·rfl'
    exact#[c,14,rfl,hc,∅,∅,λz hz=>#[#[z,rfl],∅,rfl]]
   rintro σ H4 ⟨rfl,z,rfl⟩:0
   rfl'
   unfold jW Vu
   rfl'
   have hT4:=s3 _ _ hT;have hln:=hT3.len;refine#[hT4,λf' H6 hf' hL6 s6=>#[[.int z],rfl,?_]];have at6:∀{b:rQ} {xs:List V},H4 b=AC (.lst xs)->H6 b=AC (.lst xs):=λh=>s6.at hT4 h λ_ z=>by cases z
   have hT6:TabAt H6 t ra tab:=#[at6 hT3.top,hT3.len,λi r x h1 h2=>at6 (hT3.row i r x h1 h2)];have sH:SamT T2 H H6:=(ja0 s3).trans s6;refine#[t,f',c,ra.map V.ref,rfl,hc,hT6.top,by rw[aa];lia,by rw[aa];lia,hL6,λD1 i H7 hi s7 h7=>#[sH.trans (ja0 s7),D1,ra.take i ++ ra.drop (i+1),tab.take i ++ tab.drop (i+1),Qu (hT6.same s7) i h7,?_,rfl],λi x H7 Z hx s7 hZ=>?_]
   ·rw[ag,av,aG];lia
   ·rw[ax]at hx;let#[r,hr,rfl]:=AO.mp hx;have hil:=(AJ.mp hr).1;have hy:tab[i]? = AC (tab[i]'⋯):=ak ⋯;generalize tab[i]'⋯=y at hy;have hy1:=hx1 y (af hy);have hR:=s7 _ _ (hT6.row i r y hr hy);have hy0:y[0]? = AC (y[0]'⋯):=ak ⋯;generalize y[0]'⋯=y0 at hy0
    have fin:∀(y':List Int) (pn:rQ) (hpn:H7 pn=AD),Z (.ref pn) (upd H7 pn (.lst (y'.map V.int))):=λy' pn hpn=>hZ _ _ (zd hpn) λD1 H8 s8 h8=>#[sH.trans (ja0 (s7.trans ((zd hpn).trans s8))),D1,ra.take i ++ [pn] ++ ra.drop (i+1),tab.take i ++ [y'] ++ tab.drop (i+1),Kn (hT6.same (s7.trans ((zd hpn).trans s8))) i ⋯ (s8 _ _ zc) h8,by
     erw[ag,av,aG,au,aO]
     lia,rfl]
    show zdO K [!!r,~~~!z] H7 Z;unfold zdO
    rfl'
    refine yl (λ_=>#[_,x4 hR,.int y0,?_,⋯,λp hp=>fin [y0,z] p hp]) λ_=>#[_,x4 hR,λp hp=>?_]
    ·have e0:(y.map V.int)[0]? = AC (.int y0):=by rw[ax,hy0];rfl
     exact wF e0
    ·have e:=uE (y.map V.int) 1;rw[show ((1:Nat):Int)=1 from rfl]at e;rw[e,<- dI];exact fin _ p hp
  rintro σ H4 ⟨s4,t',ra',tab',v5',⟨hT4,h3'⟩,rfl⟩:0
  rfl'
  refine#[⋯,λp hp=>?_];have sp:=zd (o:=.tup [.str "world",.ref t']) hp;exact q p tab' _ (s4.trans (ja0 sp)) #[t',ra',zc,hT4.same sp] h3'
abbrev QY:sG:=zcR (zcQ ((ifB ((ifB ((zZ zL).getD 4 noS)).getD 0 noS)).getD 0 noS)) 2
abbrev UQ:sG:=zcR (zcQ ((ifO ((ifB ((zZ zL).getD 4 noS)).getD 0 noS)).getD 0 noS)) 2
def zdb(K:rP):TE:=WJ (zE (tOp (xN K) (zV 0) (tC (.int 1))) (zE (tOp (xN K) (zV 0) (tC (.int 0))) (zE (tOp (xN K) (zV 0) (tC (.int 2))) yT)))
def zdY(K:rP):TE:=WJ (zE (tOp (xN K) (zV 0) (tC (.int 0))) (zE (tOp (xN K) (zV 0) (tC (.int 1))) (zE (zaS (zE (WJ (zE (tCB (W7 K) (zE (zV 1) yT)) (zE (tC (.int 0)) (zE (tC (.bl AE)) yT)))) yT)) yT)))
def LE1(K:rP):LamD:=#["_law_entry",[], "_law_entries_paper.<locals>.<lambda>",zcC QY,zcW QY,QW QY,zdb K]
def LE2(K:rP):LamD:=#["_law_entry",["_law_pacts"], "_law_entries_paper.<locals>.<lambda>",zcC UQ,zcW UQ,QW UQ,zdY K]
def Qs:Z2 K mg (LE1 K):=by refine#[(show uK "_law_entry" [] (QW QY)from #[rfl,rfl,rfl,by symm,rfl,by symm,by symm]),λZ Z Z Z Z=>rfl,λX s H f cv cl hK hm=>?_];subst hK;exact zH (za (!-0) (za (!-0) (za (!-0) ze)))
def Jx(B:Bt mg):Z2 K mg (LE2 K):=by refine#[(show uK "_law_entry" ["_law_pacts"] (QW UQ)from #[rfl,rfl,rfl,by symm,rfl,by symm,by symm]),λZ Z Z Z Z=>rfl,λX s H f cv cl hK hm=>?_];subst hK hm;exact zH (X:=qF X ("_law_entry"::["_law_pacts"]) s H "_law_entries_paper.<locals>.<lambda>" (QW UQ) f cv cl) (za (!-0) (za (!-0) (za (yM (za (zH (za (zG B.len (pv 1)) (za zb (za yw ze)))) ze)) ze)))
def EnK(l:())(e:Ent):Prop:=(e.1.length<=3/\e.2.1.length<=3)/\((∀c ∈ e.1,c ∈ l)/\∀c ∈ e.2.1,c ∈ l)/\e.2.2.length<=1
structure zc6(l:())(ws:List Int)(k:Int)(rs:List zF)(u v:()):Prop where
 G:OG l ws k.toNat
 k0:0<=k
 k3:k<3
 l2:l.length=2
 w3:∀n ∈ ws,n<=3
 p:PG3 l rs
 u5:u.length<=5
 v5:v.length<=5
 ui:∀c ∈ u,c ∈ l
 vi:∀c ∈ v,c ∈ l
structure EnB(K:rP)(H:Hp)(D:rQ)(k:Nat)(l:())(ws:List Int)(es:List Ent)(i:Nat):Prop where
 at_:∃xs,H D=AC (.lst xs)/\EnsA K (Wp D H) es xs
 n:es.length<=i
 e:∀e ∈ es,EnK l e
 lt:∀e ∈ es,z6 k l ws e.2.1 e.1=AE
def EnB.same{H H':Hp}{D:rQ}{k:Nat}{l:()}{ws:List Int}{es:List Ent}{i:Nat}(h:EnB K H D k l ws es i)(s:Same H H'):EnB K H' D k l ws es i:=by let#[xs,h1,h2]:=h.at_;exact#[#[xs,s _ _ h1,h2.same (qm s)],h.n,h.e,h.lt]
def EnB.push{H:Hp}{D p p1 p2:rQ}{k:Nat}{l:()}{ws:List Int}{es:List Ent}{i:Nat}{n:Int}{fl:Bool}{a b:()}{xs:List V}(h:EnB K H D k l ws es i)(hx:H D=AC (.lst xs))(hp:H p=AD)(hp1:(upd H p (.tup [.int n,.int 0,.bl fl])) p1=AD)(hp2:(upd (upd H p (.tup [.int n,.int 0,.bl fl])) p1 (.lst [.ref p])) p2=AD)(hk:EnK l (a,b,[(n,0,fl)]))(hl:z6 k l ws b a=AE) :
  EnB K (upd (upd (upd (upd H p (.tup [.int n,.int 0,.bl fl])) p1 (.lst [.ref p])) p2 (.tup [⇑a,⇑b,.ref p1])) D (.lst (xs ++ [.ref p2]))) D k l ws (es ++ [(a,b,[(n,0,fl)])]) (i+1):=by
 let#[ys,y1,hEn]:=h.at_;rw[hx]at y1;cases y1;have u1:=zd (o:=HO.tup [.int n,.int 0,.bl fl]) hp;have u2:=zd (o:=HO.lst [.ref p]) hp1;have u3:=zd (o:=HO.tup [⇑a,⇑b,.ref p1]) hp2;have u:=u1.trans (u2.trans u3);have hD4:=u _ _ hx;have hp1D:p1≠D:=λz=>by rw[z,u1 _ _ hx]at hp1;cases hp1
 refine#[#[_,zc,(hEn.same ((qm u).trans qh)).snoc (EnA.same (EnA.new (e:=(a,b,[(n,0,fl)])) hD4 zc #[_,u3 _ _ zc,?_] hp1D) qh)],by rw[ag];have:=h.n;erw[au,aO];lia,λe he=>?_,λe he=>?_]
 ·show Iss K _ [dSt (n,(0:Int),fl)] _;exact Zf (uM (x6 (u3 _ _ (u2 _ _ zc))))
 ·rcases AK.mp he with g | g
  ·exact h.e e g
  ·rw[AL.mp g];exact hk
 ·rcases AK.mp he with g | g
  ·exact h.lt e g
  ·rw[AL.mp g];exact hl
def vY{H:Hp}{D p:rQ}{xs ys:List V}{o:HO}(h:SqT K H p xs)(hD:H D=AC (.lst ys)):SqT K (upd H D o) p xs:=by
 rcases h with (h | ⟨o',h⟩) | h
 ·exact .inl (.inl (by rw[zk (QT h hD (by intro z;cases z))];exact h))
 ·exact .inl (.inr #[o',by rw[zk (QT h hD (by intro z;cases z))];exact h])
 ·exact .inr h
theorem EnsA.app(hf:EnsA K H fs us):∀{es:List Ent} {vs:List V},EnsA K H es vs->EnsA K H (es ++ fs) (vs ++ us)
 | [],vs,h=>by
  erw[EnsA]at h
  subst h;exact hf
 | e::es,vs,h=>by
  erw[EnsA]at h
  let#[x,r,rfl,hx,hr]:=h
  erw[ba,EnsA]
  exact#[x,r ++ us,rfl,hx,hf.app hr]
theorem EnsA.take{H:Hp}:∀(n:Nat) {es:List Ent} {vs:List V},EnsA K H es vs->EnsA K H (es.take n) (vs.take n)
 | 0,_,_,_=>by erw[cj,EnsA]
 | n+1,[],vs,h=>by
  erw[EnsA]at h
  subst h
  erw[fE,EnsA]
 | n+1,e::es,vs,h=>by
  erw[EnsA]at h
  let#[x,r,rfl,hx,hr]:=h
  erw[dk,EnsA]
  exact#[x,_,rfl,hx,hr.take n]
theorem EnsA.drop{H:Hp}:∀(n:Nat) {es:List Ent} {vs:List V},EnsA K H es vs->EnsA K H (es.drop n) (vs.drop n)
 | 0,_,_,h=>h
 | n+1,[],vs,h=>by
  erw[EnsA]at h
  subst h
  erw[List.drop_nil,EnsA]
 | n+1,e::es,vs,h=>by
  erw[EnsA]at h
  let#[x,r,rfl,hx,hr]:=h
  erw[List.drop_succ_cons]
  exact hr.drop n
def VV{H:Hp}{e:Ent}{v:V}(h:EnA K H e v):EnsA K H [e] [v]:=by
 erw[EnsA]
 exact#[v,[],rfl,h,rfl]
theorem j2{H:Hp}{F:rQ}{ys:List V}{o:HO}(hF:H F=AC (.lst ys)):∀{ss:List Stp} {vs:List V},Iss K H (ss.map dSt) vs->Iss K (upd H F o) (ss.map dSt) vs
 | [],vs,h=>by erw[aL,Iss]at h ⊢;exact h
 | s::ss,vs,h=>by
  erw[aw,Iss]at h ⊢
  let#[v,r,e,h1,h2]:=h;let#[p,rfl,hp]:=ZM h1;exact#[_,r,e,uM (vY hp hF),j2 hF h2]
theorem Wl{H:Hp}{F:rQ}{a b:rV}{o:HO}(hF:H F=AC (.lst [.str a,.str b])):∀{es:List Ent} {vs:List V},EnsA K H es vs->EnsA K (upd H F o) es vs
 | [],vs,h=>by erw[EnsA]at h ⊢;exact h
 | e::es,vs,h=>by
  erw[EnsA]at h ⊢
  let#[x,r,rfl,#[p,s,rfl,h1,zs,h2,h3],hr]:=h;refine#[_,r,rfl,#[p,s,rfl,vY h1 hF,zs,?_,j2 hF h3],Wl hF hr];rw[zk (λz=>?_)]
  ·exact h2
  ·rw[z,hF]at h2;cases h2
   cases hs:e.2.2 with
   | nil=>rw[hs]at h3;erw[aL,Iss]at h3;cases h3
   | cons s0 ss =>
    rw[hs]at h3
    erw[aw,Iss]at h3
    let#[v,r',e',h4,_]:=h3;cases e';let#[p',e2,_]:=ZM h4;cases e2
def UY{H:Hp}{F D:rQ}{a b:rV}{o:HO}{es:List Ent}(h:EnsM K H D es)(hF:H F=AC (.lst [.str a,.str b])):EnsM K (upd H F o) D es:=by
 let#[xs,h1,h2]:=h;refine#[xs,?_,Wl hF h2];rw[zk (λz=>?_)]
 ·exact h1
 ·rw[z,hF]at h1;cases h1
  cases es with
  | nil=>erw[EnsA]at h2;cases h2
  | cons e es =>
   erw[EnsA]at h2
   let#[x,r,e',#[p,s,rfl,_],_]:=h2;cases e'
theorem EnsA.samT{T3:rQ}{H H':Hp}{ps:Array rR}(s:SamT T3 H H')(hT:H T3=AC (.tbl ps)):∀{es:List Ent} {vs:List V},EnsA K H es vs->EnsA K H' es vs
 | [],vs,h=>by erw[EnsA]at h ⊢;exact h
 | e::es,vs,h=>by
  erw[EnsA]at h ⊢
  let#[v,r,e0,#[p,s',e1,h1,h2],h3]:=h;exact#[v,r,e0,#[p,s',e1,s.seqT hT h1,h2.samT s hT],EnsA.samT s hT h3]
def wu(K:rP)(T3:rQ):Sp:=λvs H Q Z=>∃(pa wd rk W:rQ) (k:Int) (l:()) (ws:List Int) (rs:List zF) (u v:()) (c:Int),vs=[.ref pa,.ref wd,.ref rk,.int c]/\LsA K H pa (rs.map dR)/\H wd=AC (.lst [⇑u,⇑v])/\H rk=AC (.tup [.int k,⇑l,.ref W])/\H W=AC (.lst (ws.map V.int))/\zc6 l ws k rs u v/\w8 c/\H T3=AC (.tbl #[])/\∀(f:rQ) (es:List Ent) (x z:()) (H':Hp),SamT T3 H H'->AnsAt K H' f (.forms es x z)->es.length<=3->(∀e ∈ es,EnK l e)->Q (.ref f) H'
def gk:sQz 4 ["_law_pacts","_law_words","_law_ranks","_law_spoil","_law_entries","_law_number","_law_pact","_law_ones","_law_rules","_law_forms"] zL:=by nofun
def uW{f CC T3:rQ}{fd:rW}(B:Bt mg)(hCd:ux mg base CC T3)(hgT:rM≠T3)(F:("_law_entries_paper"^^^zL))(HC:fd.code=.ref CC)(iQ:(1<<<"_law_form") ["_law_rules","_law_word_here"] [] (xb K))(pG:(1<<<"_law_rank") ["_law_kind","_law_letters_here","_law_weights","_law_word_here"] [] wk)(lq:DfE P w K mg base 2 "_law_spoilt" ["_law_rows","_law_cell_here","_law_changed"] (xR K)):(3&&&["_law_pacts","_law_words","_law_ranks","_law_spoil"]) (wu K T3):=by
 refine YS F HC gk (λvs H Q E h=>?_) (λA outer s H vs Q E hr h=>?_)
 ·let#[pa,wd,rk,W,k,l,ws,rs,u,v,c,rfl,_]:=h;rfl
 ·let#[pa,wd,rk,W,k,l,ws,rs,u,v,c,rfl,hA,hwd,hrk,hW,hP,hc,hT,q]:=h
  refine#[_,(zh (zC 4 gk.nd (yM ze)) (zh (zX p8 rfl (yN rfl B.enum (za (pv 0) ze)) (xS (n:=2) rfl (zR (zq (i:=5) gk.nd rfl (.inl rfl)) (zR (zq (i:=6) gk.nd rfl (.inl rfl)) y8))) (zh (uG (i:=7) gk.nd rfl (.inl rfl) (.inl rfl) (own:=["_law_side"]) (caps:=["_law_ranks"]) (ix:=[2]) (tt:=yW) (te:=(xt wk [] E0 (zE (tOp (xN K) (zV 1) (tC (.int 0))) (zE (tOp (xN K) (zV 1) (tC (.int 1))) (zE (tOp (xN K) (zV 1) (tC (.int 2))) (zE (zV 0) yT)))))) rfl (zJ (sc:=zg zL) rfl (!0) (!0) (!0) rfl (!0) (!0) rfl) (XR (pv 6)) (λ_ _ _ _ _ _=>zq (i:=0) (show List.Nodup [_,_] by decide) rfl (.inl rfl)) (λ_ _ _ _ _ _=>z7) (λ_ _ _ _ _ _=>(cl0 pG hr .nil rfl (za (!-1) (za (!-1) (za (!-1) (za (pv 0) ze))))))) (zh (zI (zu (Wn (wl hr)) (zi ix_list (pv 7) zb) (zi ix_list (pv 7) zb) (zw _)) (zf (wQ (wV bu bq br yR (pv 4) (za (zH (za (!-6) (za (!-6) (za (yM (za (zH (za (pv 5) (za zb (za yw ze)))) ze)) ze)))) ze))))
     zo) (zf (zI (zu (Wn (wl hr)) (zi ix_list (pv 7) zb) (zi ix_list (pv 7) zb) (zw _)) (zf (wQ (wV bu bq br yR (pv 4) (za (zH (za (!-6) (za (!-6) (za (yM (za (zH (za (pv 5) (za zb (za yw ze)))) ze)) ze)))) ze))))
     zo))))) (zh (uL (i:=8) gk.nd rfl (Or.inr rfl) (yO (own:=["_law_entry"]) (caps:=[]) (ix:=[]) (tt:=yW) (te:=(WJ (zE (tOp (xN K) (zV 0) (tC (.int 0))) (zE (tOp (xN K) (zV 0) (tC (.int 1))) yT)))) rfl (zJ (sc:=zg zL) rfl (!0) (!0) (!0) rfl (!0) (!0) rfl) (ya (pv 4)) (λ_ _ _ _ _ _=>zq (i:=0) (show List.Nodup [_] by decide) rfl (.inl rfl)) (λ_ _ _ _ _ _=>z7) (λ_ _ _ _ _ _=>(zH (za (!-0) (za (!-0) ze)))))) (zh (uG (i:=9) gk.nd rfl (.inl rfl) (.inl rfl) (own:=["_law_word_here"]) (caps:=["_law_rules"]) (ix:=[8]) (tt:=yW) (te:=(xt (xb K) [] E0 (zE (zV 1) (zE (zV 0) yT)))) rfl (zJ (sc:=zg zL) rfl (!0) (!0) (!0) rfl (!0) (!0) rfl) (ya (pv 1)) (λ_ _ _ _ _ _=>zq (i:=0) (show List.Nodup [_,_] by decide) rfl (.inl rfl)) (λ_ _ _ _ _ _=>z7) (λ_ _ _ _ _ _=>(cl0 iQ hr .nil rfl (za (pv 1) (za (pv 0) ze))))) (zh (zI (PW.pt (Xr (zu yq (zv yb (pv 3) zb) zb (zw _)) (kQ (zu Y8 (zG B.len (pv 4)) zb (zw _))))) (zf (zI (zu yq (zv yb (zv xj (pv 3) zb) zb) zb (zw _)) (zf (zC 4 gk.nd (clE (L:=LE1 K) (ixs:=[]) (cl:=[]) lq Qs hr rfl #[rfl,(λj y h=>by simp [LE1]at h),λz d h=>by cases h] (za (pv 4) (za (pv 3) (za (j8 (L:=LE1 K) rfl hCd.2 hCd.1 hgT rfl rfl rfl rfl) ze)))))) (zf (zC 4 gk.nd (clE (L:=LE2 K) (ixs:=[0]) (cl:=[("_law_pacts",s⁻¹+1)]) lq (Jx B) hr rfl #[rfl,(λj y h=>by match j,h with | 0,h=>cases h;exact#[_,_,rfl,rfl,rfl,rfl,rfl] | j+1,h=>simp [LE2]at h),λz d h=>UE h] (za (pv 4) (za (pv 3) (za (j8 (L:=LE2 K) rfl hCd.2 hCd.1 hgT rfl rfl rfl rfl) ze))))))))
    zo) (zh (zI (zu yq (zv yb (pv 3) zb) zb (zw _)) (zf (Um (zi ix_list (pv 1) (zv yb (zv xj (pv 3) zb) zb)) (Ut (pv 9) (zv yb (zv xj (pv 3) zb) zb) X9 (by intro _;rfl))))
    zo) (zf (zm (zH (za z8 (za (pv 4) (za (zi ix_list (pv 9) zb) (za (zi ix_list (pv 9) zb) ze))))))))))))),?_]
  have s16:=yd;have hG:=hP.G;have hwb:=hG.nb;have hwl:=hG.nl;have hg:=hG.g;have hpn:=hP.p.n;let#[px,hPx,hPi]:=id hA;have hpxl:=hPi.len;rw[aa]at hpxl;change Same H H'/\∃D:rQ,(H' D=AC (.lst [])/\H D=AD)/\σ=%[!!pa,!!wd,!!rk,~~~!c,!!D|5]
  ·rfl'
   exact#[⋯,λD hD=>#[zd hD,D,zc,hD,rfl]]
  rintro σ H1 ⟨s1,D,⟨hD1,hDn⟩,rfl⟩:0;change Same H H'/\∃(es:List Ent) (v5 v6 v7:Option V),EnB K H' D k.toNat l ws es rs.length/\σ=%[!!pa,!!wd,!!rk,~~~!c,!!D,v5,v6,v7|2]
  ·rfl'
   refine#[#[_,x4 (s1 _ _ hPx)],ja3 (xs:=px) (λi σ H'=>Same H H'/\∃(es:List Ent) (v5 v6 v7:Option V),EnB K H' D k.toNat l ws es i/\σ=%[!!pa,!!wd,!!rk,~~~!c,!!D,v5,v6,v7|2]) #[s1,[],AD,AD,AD,#[#[[],hD1,rfl],ah _,λe h=>(nomatch h),λe h=>(nomatch h)],rfl] (λi σ H' _ h=>x4 (h.1 _ _ hPx)) ?_ ?_]
   ·refine nmE ?_;rintro i x σ H' p hx ⟨s',es,v5,v6,v7,hE,rfl⟩ hp:_;have hi:=(AJ.mp hx).1;let#[r,pr,hr',rfl,hsq]:=hPi.getR hx;let#[b1,b2,d1,d2]:=hP.p.s r (af hr');have sp:=zd (o:=.tup [.int (i:Nat),.ref pr]) hp;have s2:=s'.trans sp;have hE2:=hE.same sp;right;dsimp only;refine K1 (x6 zc) ?_;generalize upd H' p (.tup [.int (i:Nat),.ref pr])=H2 at s2 hE2
    erw[aV,aU]
    have hq2:=zt s2 hsq;refine zj (λσ G=>Same H2 G/\∃S R1 R2:rQ,(G S=AC (.lst [.ref R1,.ref R2])/\H2 S=AD/\RkA H2 G R1 k.toNat l ws r.1 S/\RkA H2 G R2 k.toNat l ws r.2 S)/\σ=%[!!pa,!!wd,!!rk,~~~!c,!!D,-~~~i,!!pr,!!S|2]) ?_ ?_
    ·erw[xm]
     rw[za0]
     rfl'
     exact#[#[_,hq2],λA2 hA2=>jE rfl hq2 (s2 _ _ hrk) (s2 _ _ hW) hP.k0 hP.k3 hg hwl hwb ⋯ ⋯ d1 d2 hA2 λR1 R2 G hs hH h1 h2=>#[hs,A2,R1,R2,hH,hA2,h1,h2,rfl]]
    rintro σ H3 ⟨s3,S,R1,R2,⟨hS3,hSn,hR1,hR2⟩,rfl⟩:_;have hE3:=hE2.same s3;have hq3:=zt s3 hq2;have s03:=s2.trans s3;right;refine zj (λσ G=>Same H G/\∃es',(EnB K G D k.toNat l ws es' (i+1)/\(z6 k.toNat l ws r.1 r.2=AE->EnB K G D k.toNat l ws es' i)/\G S=AC (.lst [.ref R1,.ref R2])/\RkA H2 G R1 k.toNat l ws r.1 S/\RkA H2 G R2 k.toNat l ws r.2 S/\SqT K G pr [⇑r.1,⇑r.2])/\σ=%[!!pa,!!wd,!!rk,~~~!c,!!D,-~~~i,!!pr,!!S|2]) ?_ ?_
    ·rfl'
     let#[xs,hx3,_]:=id hE3.at_
     have hxl:xs.length<=10:=by
      let#[ys,y1,y2]:=hE3.at_;rw[hx3]at y1;cases y1;have:=y2.len;have:=hE3.n;lia
     have hSD:S≠D:=λz=>by
      let#[ys,y1,_]:=hE2.at_;rw[z,y1]at hSn;cases hSn
     have hD2:∃ys,H2 D=AC (.lst ys):=by let#[ys,y1,_]:=hE2.at_;exact#[ys,y1]
     let#[yD,hyD]:=hD2;refine#[_,x4 hS3,_,rfl,_,x4 hS3,_,rfl,RkAt.lt hR2.at_ hR1.at_ #[_,rfl,yl (λhb=>#[.inl #[_,x4 hx3],_,hq3,_,rfl,_,hq3,_,rfl,⋯,λp hp=>#[⋯,λp1 hp1=>#[⋯,λp2 hp2=>?_]]]) λhb=>?_]]
     ·have u1:=zd (o:=HO.tup [.int (i:Nat),.int 0,.bl AE]) hp;have u2:=zd (o:=HO.lst [.ref p]) hp1;have u3:=zd (o:=HO.tup [⇑r.1,⇑r.2,.ref p1]) hp2;have u:=u1.trans (u2.trans u3);have hk:EnK l (r.1,r.2,[(((i:Nat):Int),0,AE)]):=#[#[b1,b2],#[d1,d2],ah _];refine#[xs,u _ _ hx3,⋯,zy (s03.trans u) hDn,es ++ [(r.1,r.2,[(((i:Nat):Int),0,AE)])],hE3.push hx3 hp hp1 hp2 hk hb,λz=>?_,by rw[zk hSD];exact u _ _ hS3,(hR1.same u).upd' (u _ _ hx3) hyD,(hR2.same u).upd' (u _ _ hx3) hyD,?_]
      ·have:=vJ hb z;rw[wB]at this;cases this
      ·exact vY (zt u hq3) (u _ _ hx3)
     ·exact#[s03,es,#[hE3.at_,by have:=hE3.n;lia,hE3.e,hE3.lt],λ_=>hE3,hS3,hR1,hR2,hq3]
    rintro σ H4 ⟨s4,es',⟨hE4,hE4',hS4,hR14,hR24,hq4⟩,rfl⟩:0
    rfl'
    let#[xs,hx3,_]:=id hE4.at_;refine#[_,x4 hS4,_,rfl,_,x4 hS4,_,rfl,RkAt.lt hR14.at_ hR24.at_ #[_,rfl,yl (λhb=>#[.inl #[_,x4 hx3],_,hq4,_,rfl,_,hq4,_,rfl,⋯,λp hp=>#[⋯,λp1 hp1=>#[⋯,λp2 hp2=>?_]]]) λhb=>#[s4,es',hE4]]];have u1:=zd (o:=HO.tup [.int (i:Nat),.int 0,.bl AF]) hp;have u2:=zd (o:=HO.lst [.ref p]) hp1;have u3:=zd (o:=HO.tup [⇑r.2,⇑r.1,.ref p1]) hp2;have u:=u1.trans (u2.trans u3);have hk:EnK l (r.2,r.1,[(((i:Nat):Int),0,AF)]):=#[#[b2,b1],#[d2,d1],ah _]
    have hxl:xs.length<=10:=by
     let#[ys,y1,y2]:=hE4.at_;rw[hx3]at y1;cases y1;have:=y2.len;have:=hE4.n;lia
    exact#[xs,u _ _ hx3,⋯,zy (s4.trans u) hDn,es' ++ [(r.2,r.1,[(((i:Nat):Int),0,AF)])],(hE4' hb).push hx3 hp hp1 hp2 hk hb]
   ·refine nmB ?_;rintro σ H' ⟨s',es,v5,v6,v7,hE,rfl⟩:0;exact#[s',#[es,by rw[<- hpxl];exact hE],v5,v6,v7,rfl]
  rintro σ H2 ⟨s2,es,v5,v6,v7,hE,rfl⟩:_;let#[xe,hXe,hEh]:=hE.at_;have hEn:EnsA K H2 es xe:=hEh.same Ym;have hxl:=hEn.len;have hpl:=xY es;have hen:=hE.n
  have hdw:JL k.toNat l ws (zA es):=λp hp=>by
   let#[e,he,rfl]:=AN.mp hp;exact#[hE.lt e he,(hE.e e he).2.1]
  have hPs:PsL (zA es):=#[λp hp=>Qb hwb (hdw p hp).1,λp hp=>by
   let#[e,he,rfl]:=AN.mp hp;have:=(hE.e e he).1
   exact#[by show e.1.length<=100;lia,by show e.2.1.length<=100;lia],⋯]
  have reu:=um hG hP.l2 hP.w3 hdw hP.ui hP.u5;have rev:=um hG hP.l2 hP.w3 hdw hP.vi hP.v5;right;change Same H2 H'/\∃R:rQ,LsA K H' R ((zA es).map dR)/\σ=[!!pa,!!wd,!!rk,~~~!c,!!D,v5,v6,v7,!!R,AD]
  ·rfl'
   refine#[#[_,x4 hXe],λD7 hD=>jb0 (xs:=xe) (λi AI H'=>Same H2 H'/\H' D7=AC (.lst AI)/\Iss K H' (((zA es).take i).map dR) AI) #[zd hD,zc,by erw[cj,aL,Iss]] (λi AI H' _ h=>x4 (h.1 _ _ hXe)) ?_ ?_]
   ·refine nm4 ?_;rintro i x AI H' hx ⟨hs,hH,hA⟩:_;have hi:=(AJ.mp hx).1;let#[e,pe,se,hei,rfl,hqe,_]:=hEn.get hx;have hm:(zA es)[i]? = AC (e.1,e.2.1):=by unfold zA;rw[ax,hei];rfl
    have hal:=hA.len;rw[aa,av]at hal;right
    erw[yW]
    rfl'
    refine#[yx,_,zt hs hqe,_,rfl,_,zt hs hqe,_,rfl,⋯,λp hp=>#[zd hp _ _ hH,⋯,x8 hi #[zy (hs.trans (zd hp)) hD,zc,?_]]];rw[zK hm,al];exact vS hH hA hp V0 (va _) (by erw[z9,xf,and_self])
   ·refine nmB ?_;rintro AI H' ⟨hs,hH,hA⟩:_;rw[hxl,<- hpl,aD]at hA;right;exact#[hs,D7,#[AI,hH,hA],rfl]
  rintro σ H3 ⟨s3,R,hR,rfl⟩:_;have hwd3:=(s2.trans s3) _ _ hwd;right;change Same H3 H'/\∃(F:rQ) (x z:()),(H' F=AC (.lst [⇑x,⇑z])/\H F=AD)/\σ=[!!pa,!!wd,!!rk,~~~!c,!!D,v5,v6,v7,!!R,!!F]
  ·erw[xm]
   rfl'
   refine#[#[_,x4 hwd3],λF hF=>jb0 (xs:=[⇑u,⇑v]) (λi AI H'=>Same H3 H'/\H' F=AC (.lst AI)/\AI=[V.str (tx (fm (zA es) u)),V.str (tx (fm (zA es) v))].take i) #[zd hF,zc,rfl] (λi AI H' _ h=>x4 (h.1 _ _ hwd3)) ?_ ?_]
   ·refine nm4 ?_;rintro i x AI H' hx ⟨hs,hH,rfl⟩:_;have hi:=(AJ.mp hx).1;right;rcases (show i=0\/i=1 by erw[au,aO]at hi;lia)with rfl | rfl
    ·cases hx
     erw[yW]
     rfl'
     exact#[yx,yJ (hR.same hs) hPs reu λH1 t1=>#[t1 _ _ hH,by show 0<rO;lia,x8 hi #[zy (hs.trans t1) hF,zc,rfl]]]
    ·cases hx
     erw[yW]
     rfl'
     exact#[yx,yJ (hR.same hs) hPs rev λH1 t1=>#[t1 _ _ hH,by show 1<rO;lia,x8 hi #[zy (hs.trans t1) hF,zc,rfl]]]
   ·refine nmB ?_;rintro AI H' ⟨hs,hH,rfl⟩:0;exact#[hs,F,#[_,_,hH],(s2.trans s3).free hF,rfl]
  rintro σ H4 ⟨s4,F,x,z,⟨hF4,hFn⟩,rfl⟩:_;have s24:=s2.trans (s3.trans s4);have hXe4:=(s3.trans s4) _ _ hXe;have hEn4:=hEn.same (s3.trans s4);have hT4:=s24 _ _ hT;have hwd4:=s24 _ _ hwd;right;change SamT T3 H H'/\∃(D':rQ) (es':List Ent),(EnsM K H' D' es'/\es'.length<=3/\(∀e ∈ es',EnK l e)/\H' F=AC (.lst [⇑x,⇑z])/\H' wd=AC (.lst [⇑u,⇑v]))/\σ=[!!pa,!!wd,!!rk,~~~!c,!!D',v5,v6,v7,!!R,!!F]
  ·skip
   have key:∀(L:LamD) (cl:List (rV × rQ)) (cvs:List V),(∀(H7:Hp) (Z:VK) (e:Ent) (pe se:rQ),e ∈ es->SqT K H7 pe [⇑e.1,⇑e.2.1,.ref se]->LsA K H7 se (e.2.2.map dSt)->H7 pa=AC (.lst px)->(∀(r:V) (H8:Hp) (e':Ent),Same H7 H8->EnA K H8 e' r->EnK l e'->Z r H8)->L.tb (AC (.ref pe)::cvs.map AC) H7 Z)->0<xe.length->∀(f':rQ) (H6:Hp),L.At cl H6 f'->SamT T3 H4 H6->xR K L cl cvs [.ref D,.int c,.ref f'] H6 (λx_1 H1=>SamT T3 H H1/\∃(D':rQ) (es':List Ent),EnsM K H1 D' es'/\es'.length<=3/\(∀e ∈ es',EnK l e)/\H1 F=AC (.lst [⇑x,⇑z])/\H1 wd=AC (.lst [⇑u,⇑v])/\x_1=.ref D') E0:=by
    intro L cl cvs hL h0 f' H6 hL6 s6;have at6:∀{b:rQ} {xs:List V},H4 b=AC (.lst xs)->H6 b=AC (.lst xs):=λh=>s6.at hT4 h λ_ z=>by cases z
    have hX6:=at6 hXe4;have hE6:EnsA K H6 es xe:=hEn4.samT s6 hT4;have hF6:=at6 hF4;have hw6:=at6 hwd4;have hp6:=at6 (s24 _ _ hPx);have sH:SamT T3 H H6:=(ja0 s24).trans s6;refine#[D,f',c,xe,rfl,hc,hX6,⋯,⋯,hL6,λD1 i H7 hi s7 h7=>#[sH.trans (ja0 s7),D1,es.take i ++ es.drop (i+1),#[_,h7,EnsA.app ((hE6.same s7).drop (i+1)) ((hE6.same s7).take i)],?_,λe he=>?_,s7 _ _ hF6,s7 _ _ hw6,rfl],λi y H7 Z hy s7 hZ=>?_]
    ·rw[ag,av,aG];lia
    ·rcases AK.mp he with g | g
     ·exact hE.e e (cE g)
     ·exact hE.e e (df g)
    ·have hil:=(AJ.mp hy).1;let#[e,pe,se,hei,rfl,hqe,hse]:=(hE6.same s7).get hy;refine hL H7 Z e pe se (af hei) hqe hse (s7 _ _ hp6) λr H8 e' s8 hr hk=>hZ r H8 s8 λD1 H9 s9 h9=>?_;have s89:=s7.trans (s8.trans s9);refine#[sH.trans (ja0 s89),D1,es.take i ++ [e'] ++ es.drop (i+1),#[_,h9,EnsA.app ((hE6.same s89).drop (i+1)) (EnsA.app (VV (hr.same s9)) ((hE6.same s89).take i))],?_,λe2 he=>?_,s89 _ _ hF6,s89 _ _ hw6,rfl]
     ·erw[ag,av,aG,au,aO]
      lia
     ·rcases AK.mp he with g | g
      ·rcases AK.mp g with g | g
       ·exact hE.e e2 (cE g)
       ·rw[AL.mp g];exact hk
      ·exact hE.e e2 (df g)
   rfl'
   refine#[∅,yl (λh1=>#[_,.inl #[_,x4 hXe4,rfl],yl (λh2=>#[#[∅,∅],∅,yl (λh3=>?_) λh3=>?_]) λh2=>?_]) λh1=>?_]
   ·unfold jW Vu
    rfl'
    refine#[hT4,λf' H6 hf' hL6 s6=>#[[],rfl,key (LE1 K) [] [] (λH7 Z e pe se he hq hse hpa hZ=>?_) ⋯ f' H6 hL6 s6]];show zdb K [!!pe] H7 Z;unfold zdb
    rfl'
    have hk:=hE.e e he;exact#[_,hq,_,rfl,_,hq,_,rfl,_,hq,_,rfl,⋯,λpn hpn=>hZ _ _ (e.2.1,e.1,e.2.2) (zd hpn) #[pn,se,rfl,x6 zc,hse.same (zd hpn)] #[hk.1.symm,hk.2.1.symm,hk.2.2]]
   ·unfold jW Vu
    rfl'
    refine#[hT4,λf' H6 hf' hL6 s6=>#[[.ref pa],rfl,key (LE2 K) _ [.ref pa] (λH7 Z e pe se he hq hse hpa hZ=>?_) ⋯ f' H6 hL6 s6]];show zdY K [!!pe,!!pa] H7 Z;unfold zdY
    rfl'
    have hk:=hE.e e he;refine#[_,hq,_,rfl,_,hq,_,rfl,_,.inl #[_,x4 hpa,rfl],⋯,λp1 hp1=>#[⋯,λp2 hp2=>#[⋯,λp3 hp3=>?_]]];have u1:=zd (o:=HO.tup [.int (px.length:Nat),.int 0,.bl AE]) hp1;have u2:=zd (o:=HO.lst [.ref p1]) hp2;have u3:=zd (o:=HO.tup [⇑e.1,⇑e.2.1,.ref p2]) hp3;refine hZ _ _ (e.1,e.2.1,[((px.length:Nat),0,AE)]) (u1.trans (u2.trans u3)) #[p3,p2,rfl,x6 zc,_,u3 _ _ zc,?_] #[hk.1,hk.2.1,ah _];show Iss K _ [dSt (((px.length:Nat):Int),(0:Int),AE)] _;exact Zf (uM (x6 (u3 _ _ (u2 _ _ zc))))
   ·exact#[ja0 s24,D,es,#[xe,hXe4,hEn4],⋯,hE.e,hF4,hwd4,rfl]
   ·exact#[ja0 s24,D,es,#[xe,hXe4,hEn4],⋯,hE.e,hF4,hwd4,rfl]
  rintro σ H5 ⟨s5,D',es',⟨hD',h3',hk',hF5,hwd5⟩,rfl⟩:0;change SamT T3 H H'/\∃(x' z':()),(EnsM K H' D' es'/\H' F=AC (.lst [⇑x',⇑z']))/\σ=[!!pa,!!wd,!!rk,~~~!c,!!D',v5,v6,v7,!!R,!!F]
  ·skip
   rfl'
   refine#[∅,yl (λh=>#[#[∅,∅],∅,_,x4 hwd5,?_]) λh=>#[s5,hD',x,z,hF5]]
   have put:∀(y:()),zbQ (zV 9) (tOp (rI (λx j=>0<j) λi j=>V.int (i % j)) (tOp (rI zen λi j=>V.int (i / j)) (zV 3) (tC (V.int 4))) (tC (V.int 2))) zb4 ⇑y [!!pa,!!wd,!!rk,~~~!c,!!D',v5,v6,v7,!!R,!!F] H5 λσ H'=>SamT T3 H H'/\EnsM K H' D' es'/\(∃x x_1,H' F=AC (.lst [⇑x,⇑x_1]))/\σ=[!!pa,!!wd,!!rk,~~~!c,!!D',v5,v6,v7,!!R,!!F]:=λy=>by
    unfold zbQ
    rfl'
    refine#[#[∅,∅],∅,F,[⇑x,⇑z],c / 4 % 2,(c / 4 % 2).toNat,rfl,rfl,hF5,?_,λb o hb e=>?_,UY hD' hF5,?_]
    ·rcases (show c / 4 % 2=0\/c / 4 % 2=1 by lia)with e | e
     ·rw[e];rfl
     ·rw[e];rfl
    ·rw[zk (zD e hFn)];exact s5 b o hb e
    ·rcases (show c / 4 % 2=0\/c / 4 % 2=1 by lia)with e | e
     ·rw[e];exact#[y,z,zc]
     ·rw[e];exact#[x,y,zc]
   rcases (show c / 8 % 2=0\/c / 8 % 2=1 by lia)with e | e
   ·rw[e];exact#[_,rfl,put u]
   ·rw[e];exact#[_,rfl,put v]
  rintro σ H6 ⟨s6,x',z',⟨hD6,hF6⟩,rfl⟩:0
  rfl'
  refine#[_,x4 hF6,_,rfl,_,x4 hF6,_,rfl,⋯,λp hp=>?_];have sp:=zd (o:=.tup [.str "forms",.ref D',⇑x',⇑z']) hp;exact q p es' x' z' _ (s6.trans (ja0 sp)) #[D',zc,hD6.same sp] h3' hk'
end
section
mutual section
variable{x y:Nat}
abbrev psY(x y:Nat):List zF:=[([y,x],[x,y])]
def ivY(x y:Nat):()->Nat
 | []=>0
 | c::v=>(if c=y then v.count x else 0)+ivY x y v
theorem k9(h:x≠y)(b:()):∀a:(),ivY x y (a ++ [y,x] ++ b)=ivY x y (a ++ [x,y] ++ b)+1
 | []=>by
  simp [ivY,h,Ne.symm h,dm];lia
 | c::a=>by
  have ih:=k9 h b a
  erw[ba,ivY]
  rw[ih]
  have e:(a ++ [y,x] ++ b).count x=(a ++ [x,y] ++ b).count x:=by
   erw[dA,dm,List.count_nil]
   lia
  rw[e];lia
theorem Vy(x y:Nat):∀v:(),ivY x y v<=v.length * v.length
 | []=>ah _
 | c::v=>by
  have ih:=Vy x y v;have h1:v.count x<=v.length:=fA
  have h2:ivY x y (c::v)<=v.length+ivY x y v:=by
   erw[ivY]
   split <;> lia
  rw[au,dr,Nat.mul_succ];lia
def JR{v:()}{u:Nat × Nat}(h:zN v (psY x y)=AC u):∃a b,v=a ++ [y,x] ++ b/\YF v (psY x y) u=a ++ [x,y] ++ b:=by
 let#[p,h1,h2]:=wL h
 have e:p=([y,x],[x,y]):=by
  have:=af h1;exact AL.mp this
 subst e;have e1:=Xz h2;refine#[v.take u.2,v.drop (u.2+2),e1.symm,?_];unfold YF vt;rw[vX h1];rfl
def neY:NeL (psY x y):=λp hp=>by
 rw[AL.mp hp];exact λz=>by cases z
theorem zdf{v:()}(h:zN v (psY x y)=AD):∀a b,v≠a ++ [y,x] ++ b:=λa b e=>by
 have hf:=XY v (psY x y) neY;rw[h]at hf;rcases hf with ⟨_,hf⟩ | ⟨_,_,z,_⟩
 ·have hs:zB v (a.length:Int) [y,x]=AE:=by
   rw[e];refine u9 #[⋯,by erw[ag];lia,?_];rw[aF,bb,ft];rfl
  have:=hf 0 a.length (Nat.succ_pos _) (aJ _) (by rw[e];erw[ag,au];lia);rw[jB (p:=([y,x],[x,y])) rfl,hs]at this;cases this
 ·cases z
theorem U3:∀{v:()},(∀c ∈ v,c=x\/c=y)->(∀a b,v≠a ++ [y,x] ++ b)->∃p q,v=aK p x ++ aK q y
 | [],_,_=>#[0,0,rfl]
 | c::v,hm,hn=>by
  let#[p,q,rfl]:=U3 (v:=v) (λz hz=>hm z (aA _ hz)) λa b e=>hn (c::a) b (by rw[e];rfl);rcases hm c aH with rfl | rfl
  ·exact#[p+1,q,rfl]
  ·cases p with
   | zero=>exact#[0,q+1,rfl]
   | succ p=>exact y4 rfl (hn [] (aK p x ++ aK q c))
theorem atY(h:x≠y){w:()}:∀j,(wAt (psY x y) w j).Perm w/\(kF (psY x y) w j->ivY x y (wAt (psY x y) w j)+j=ivY x y w)
 | 0=>#[.refl _,λZ=>rfl]
 | j+1=>by
  let#[h1,h2]:=atY h (w:=w) j
  cases e:zN (wAt (psY x y) w j) (psY x y)with
  | none =>
   have e2:wAt (psY x y) w (j+1)=wAt (psY x y) w j:=by
    show Kv _ _=_;unfold Kv;rw[e];rfl
   rw[e2];exact#[h1,λhl=>y4 e (hl j ⋯)]
  | some u =>
   let#[a,b,e1,e2]:=JR e;rw[vb e,e2];refine#[?_,λhl=>?_]
   ·rw[e1]at h1;refine List.Perm.trans ?_ h1;refine List.Perm.append_right _ (List.Perm.append_left _ (.swap _ _ _))
   ·have:=h2 λi hi=>hl i ⋯;rw[e1,k9 h]at this;lia
theorem zch(h:x≠y){w:()}:∀(m j:Nat),ivY x y (wAt (psY x y) w j)<=m->kF (psY x y) w j->∃J,kF (psY x y) w J/\zN (wAt (psY x y) w J) (psY x y)=AD
 | m,j,hm,hl=>by
  cases e:zN (wAt (psY x y) w j) (psY x y)with
  | none=>exact#[j,hl,e]
  | some u =>
   let#[a,b,e1,e2]:=JR e
   have hl1:kF (psY x y) w (j+1):=λi hi=>by
    by_cases z:i=j
    ·rw[z,e];intro q;cases q
    ·exact hl i ⋯
   rw[e1,k9 h]at hm
   match m with
   | 0=>lia
   | m+1=>exact zch h m (j+1) (by rw[vb e,e2];lia) hl1
theorem reY(h:x≠y){w:()}(hl:w.length<=20):RE (psY x y) w:=by
 let#[J,h1,h2]:=zch h (w:=w) _ 0 (ah _) λi hi=>y4 hi (bv i);have h3:=(atY h J).2 h1;have h4:=Vy x y w;have h5:w.length * w.length<=20 * 20:=d8 hl hl;refine#[?_,λj Z=>?_]
 ·unfold goJ;rw[List.find?_isSome];exact#[J,AR.mpr ⋯,by rw[h2];rfl]
 ·rw[(atY h j).1.length_eq];lia
def fmY(h:x≠y){w:()}(hl:w.length<=20)(hm:∀c ∈ w,c=x\/c=y):fm (psY x y) w=aK (w.count x) x ++ aK (w.count y) y:=by
 let#[J,_,h1,h2,_,e]:=(reY h hl).at_;have hp:=(atY h (w:=w) J).1;rw[<- e]at h2 hp;let#[p,q,e2]:=U3 (λc hc=>hm c (hp.mem_iff.mp hc)) (zdf h2);have c1:=hp.count_eq x;have c2:=hp.count_eq y;rw[e2]at c1 c2
 erw[dA,fB,beq_iff_eq,h,Ne.symm h,if_true,if_false,Nat.add_zero,fP,beq_self_eq_true]at c1 c2
 rw[e2,c1,c2]
theorem ovY(h:x≠y):ovA (psY x y) (psY x y).length=[]:=by
 rw[List.eq_nil_iff_forall_not_mem];intro t ht;let#[h1,h2,h3,h4]:=YY ht;have e1:t.1=0:=by erw[au,aO]at h1;lia
 have e2:t.2.1=0:=by erw[au,aO]at h2;lia
 rw[e1]at h3 h4;rw[e2]at h4;have e3:t.2.2<2:=h3
 have hne:t.2.2≠0:=λz=>by
  let#[i,hi,hj]:=AT.mp ht;let#[j,hj1,hj2]:=AT.mp hj;let#[n,hn,rfl]:=AN.mp hj2;let#[_,hn2]:=AU.mp hn;rw[show n=0 from z]at hn2;have e4:i=0:=e1;have e5:j=0:=e2;subst e4 e5;simp at hn2
 have e6:t.2.2=1:=⋯;rw[e6]at h4;have:([x]:())=[y]:=u6 h4;exact h (List.cons.inj this).1
abbrev rp(n:Int)(x:Nat):():=aK n.toNat x
def esY(x y:Nat):List Ent:=[([y,x],[x,y],[(0,0,AE)])]
def zd0(h:x≠y):z6 0 [x,y] [1,1] [x,y] [y,x]=AE:=by
 have e1:zr 0 [x,y] [1,1] [x,y]=zr 0 [x,y] [1,1] [y,x]:=rfl;unfold z6;rw[y6 e1];have e2:(x == y)=AF:=beq_eq_false_iff_ne.mpr h
 have e3:wx 0 [x,y] [x,y]=[0,1]:=by
  unfold wx uU;simp [yt,dQ,e2]
 have e4:wx 0 [x,y] [y,x]=[1,0]:=by
  unfold wx uU;simp [yt,dQ,e2]
 rw[e3,e4];decide
def zdp:yk (psY x y) [y,x] [(0,0,AE)]=AC [x,y]:=by have hs:zB [y,x] (0:Int) [y,x]=AE:=u9 #[∅,by simp,by simp];simp [yk,yg,sdl,vt,hs]
def inY(n m:Int):∀c ∈ rp n y ++ rp m x,c=x\/c=y:=λc hc=>by
 rcases AK.mp hc with g | g
 ·exact .inr (Bh.mp g).2
 ·exact .inl (Bh.mp g).2
theorem fmW(h:x≠y){n m:Int}(h0:n<=10)(h1:m<=10):fm (psY x y) (rp n y ++ rp m x)=rp m x ++ rp n y:=by rw[fmY h (by erw[ag,bi];lia) (inY n m)];simp [dA,fB,h,Ne.symm h]
theorem zcf(h:x≠y){a b c d:Int}(ha:a<=10)(hb:b<=10)(hc:c<=10)(hd:d<=10):PapF 0 [x,y] [1,1] (psY x y) (esY x y) (rp a y ++ rp b x) (rp c y ++ rp d x)/\xl 0 [x,y] [1,1] (psY x y) (esY x y) (rp a y ++ rp b x) (rp c y ++ rp d x) (rp b x ++ rp a y) (rp d x ++ rp c y)=decide (rp b x ++ rp a y≠rp d x ++ rp c y):=by
 have ep:zA (esY x y)=psY x y:=rfl;have l2:∀n m:Int,n<=10->m<=10->(rp n y ++ rp m x).length<=20:=λn m h1 h2=>by erw[ag,bi];lia
 refine#[#[by show 1<=30;decide,λe he=>?_,?_,λZ=>?_],?_]
 ·rw[AL.mp he];refine#[#[by show 2<=60;decide,by show 2<=60;decide,by show 1<=240;decide,?_,?_],by show 1<=8;decide]
  ·intro c hc
   erw[bX,ci,or_false]at hc ⊢
   lia
  ·intro c hc;exact hc
 ·rw[ep,ovY h];decide
 ·rw[ep];refine#[reY h (l2 a b ha hb),reY h (l2 c d hc hd),λr hr=>?_,λt ht=>?_]
  ·rw[AL.mp hr];exact#[reY h (by show 2<=20;decide),reY h (by show 2<=20;decide)]
  ·rw[ovY h]at ht;cases ht
 ·have e1:(esY x y).all (yL 0 [x,y] [1,1] (psY x y))=AE:=by
   unfold esY yL;rw[dg,List.all_nil,cy];show (z6 0 [x,y] [1,1] [x,y] [y,x] && decide (yk (psY x y) [y,x] [(0,0,AE)]=AC [x,y]))=AE;rw[zd0 h,zdp];simp
  have e2:(psY x y).all (λr=>decide (fm (psY x y) r.1=fm (psY x y) r.2))=AE:=by
   rw[dg,List.all_nil,cy,decide_eq_true_eq];show fm (psY x y) [y,x]=fm (psY x y) [x,y];rw[fmY h (by show 2<=20;decide) (by simp),fmY h (by show 2<=20;decide) (by simp)];simp [dm,h,Ne.symm h]
  have e3:Wi (psY x y)=AE:=by
   unfold Wi;rw[ovY h];rfl
  unfold xl yU;rw[e1,ep,e2,e3,fmW h ha hb,fmW h hc hd];simp
end
end
mutual section
structure TBb(K:rP):Prop where
 b:aX K (.type "bool") (.type "bool")=AC AE
def JG:Sp:=λvs H Q Z=>∃(x y:Nat) (c:Int),vs=[⇑[x,y],.int c]/\vm [x,y]=AE/\w8 c/\∀H',Same H H'->Q (.bl AE) H'
def gv:sQz 2 ["_law_letters_here","_law_cell_here","_law_x","_law_y","_law_sizes","_law_words","_law_forms","_law_answer","_law_found"] wn:=by nofun
def ZS{f CO CR CW:rQ}{fd:rW}(B:Bt mg)(T:TWS P w K mg base CO CR CW)(TB:TBb K)(F:("_law_far_forms"^^^wn))(nX:(10<<<"stands") ["order","pacts","one","other","answer"] [] (qT K CO CR CW))(gp:(1<<<"_law_mixed") ["_law_cell_here","_law_turn"] [] yE):(11&&&["_law_letters_here","_law_cell_here"]) JG:=by
 exists F.ok gv
 ·let#[x,y,c,rfl,hg,hc,q]:=h
  refine#[_,(zh (zC 2 gv.nd (zi ZP (pv 0) zb)) (zh (zC 3 gv.nd (zi ZP (pv 0) zb)) (zh (uG (i:=4) gv.nd rfl (.inl rfl) (.inl rfl) (own:=["_law_k"]) (caps:=["_law_cell_here"]) (ix:=[1]) (tt:=yW) (te:=(tOp Y6 (tC (.int 1)) (tOp (rI (λZ j=>0<j) λi j=>.int (i % j)) (xt yE [] E0 (zE (zV 1) (zE (zV 0) yT))) (tC (.int 10))))) rfl (zJ (sc:=zg wn) rfl (!0) (!0) (!0) rfl (!0) (!0) rfl) (XR (zH (za zb (za zb (za zb (za zb ze)))))) (λZ Z Z Z Z Z=>zq (i:=0) (show List.Nodup [_,_] by decide) rfl (.inl rfl)) (λZ Z Z Z Z Z=>z7) (λZ Z Z Z Z Z=>(zv yF zb (zv yb (cl0 gp hr .nil rfl (za (pv 1) (za (pv 0) ze))) zb)))) (zh (zI (zu yq (zv yb (pv 1) zb) zb (zw _)) (zf (zC 4 gv.nd (zv yF (zO Uz (pv 4) yc (zS zb)) (zO Uz (pv 4) yc (zS zb)))))
    zo) (zh (zC 5 gv.nd (zH (za (zv yF (zv wj (pv 3) (zi ix_list (pv 4) zb)) (zv wj (pv 2) (zi ix_list (pv 4) zb))) (za (zv yF (zv wj (pv 3) (zi ix_list (pv 4) zb)) (zv wj (pv 2) (zi ix_list (pv 4) zb))) ze)))) (zh (zC 6 gv.nd (zH (za (zv yF (zv wj (pv 2) (zi ix_list (pv 4) zb)) (zv wj (pv 3) (zi ix_list (pv 4) zb))) (za (zv yF (zv wj (pv 2) (zi ix_list (pv 4) zb)) (zv wj (pv 3) (zi ix_list (pv 4) zb))) ze)))) (zh (zC 7 gv.nd (zH (za z8 (za (yM (za (zH (za (zv yF (pv 3) (pv 2)) (za (zv yF (pv 2) (pv 3)) (za (yM (za (zH (za zb (za zb (za yw ze)))) ze)) ze)))) ze)) (za (!-6) (za (!-6) ze)))))) (zh (zC 8 gv.nd (cl0 nX hr .nil rfl (za (mkC T.mO hr rfl T.gO (za (pv 0) ze)) (za (yM (za (zH (za (zv yF (pv 3) (pv 2)) (za (zv yF (pv 2) (pv 3)) ze))) ze)) (za (!-5) (za (!-5) (za (pv 7) ze))))))) (zf (zm (jS (uD rfl B.isi (pv 8) rfl B.bool jb2) (jY (yn yq (pv 8) (yn uC (!-6) (!-6) (zw _)) (zw _)))))))))))))),?_]
  have s16:=yd;have s16:=yd
  have hxy:x≠y:=λz=>by
   let#[_,_,_,hn]:=u6 hg;rw[z]at hn;simp at hn
  change H'=H/\σ=%[AC ⇑[x,y],~~~!c,AC ⇑[x]|6]
  ·rfl'
   exact#[⋯,rfl]
  rintro σ H1 ⟨rfl,rfl⟩:0;change H'=H1/\σ=%[AC ⇑[x,y],~~~!c,AC ⇑[x],AC ⇑[y]|5]
  ·rfl'
   exact#[⋯,rfl]
  rintro σ H ⟨rfl,rfl⟩:0;change Same H H'/\∃(S:rQ) (ns:List Int),(H' S=AC (.lst (ns.map V.int))/\ns.length=4/\∀n ∈ ns,1<=n/\n<=10)/\σ=%[AC ⇑[x,y],~~~!c,AC ⇑[x],AC ⇑[y],!!S|4]
  ·erw[xm]
   rw[za0]
   rfl'
   refine#[⋯,λp hp=>#[#[_,x6 zc],λS hS=>CompT.by (xs:=[.int 1,.int 2,.int 3,.int 4]) (λi AI H'=>Same H H'/\H' p=AC (.tup [.int 1,.int 2,.int 3,.int 4])/\H' S=AC (.lst AI)/\∃ns:List Int,AI=ns.map V.int/\ns.length=i/\∀n ∈ ns,1<=n/\n<=10) #[(zd hp).trans (zd hS),zd hS _ _ zc,zc,[],rfl,rfl,λn h=>(nomatch h)] (λi AI H' Z h=>x6 h.2.1) ?_ ?_]]
   ·refine nm4 ?_;rintro i z AI H' hz ⟨hs,hp',hH,ns,rfl,hl,hb⟩:_;have hi:=(AJ.mp hz).1
    have hz4:∃k:Int,z=.int k/\0<=k/\k<=100:=by
     have:=af hz
     erw[bX,ci,or_false]at this
     rcases this with rfl | rfl | rfl | rfl
     ·exact#[1,rfl,∅,∅]
     ·exact#[2,rfl,∅,∅]
     ·exact#[3,rfl,∅,∅]
     ·exact#[4,rfl,∅,∅]
    let#[k,rfl,k0,k1]:=hz4
    have hSH:H S=AD:=by
     by_cases e:S=p
     ·rw[e];exact hp
     ·rw[zk e]at hS;exact hS
    have hpS:p≠S:=λe=>by rw[<- e,zc]at hS;cases hS
    right
    erw[yW]
    rfl'
    erw[au,aO]at hi
    refine#[yx,xu hc k0 k1 λz hz=>#[_,rfl,∅,⋯,by rw[aa];lia,x8 hi #[zy hs hSH,by rw[zk hpS];exact hp',zc,ns ++ [1+z % 10],by rw[al];rfl,by rw[ag,hl];rfl,λn hn=>?_]]];rcases AK.mp hn with g | g
    ·exact hb n g
    ·rw[AL.mp g];lia
   ·refine nmB ?_;rintro AI H' ⟨hs,hp',hH,ns,rfl,hl,hb⟩:0;exact#[hs,S,ns,hH,hl,hb,rfl]
  rintro σ H1 ⟨s1,S,ns,⟨hS,hn4,hnb⟩,rfl⟩:0;change Same H H'/\∃(S:rQ) (a b c' d:Int),(H' S=AC (.lst [.int a,.int b,.int c',.int d])/\(1<=a/\a<=10)/\(1<=b/\b<=10)/\(1<=c'/\c'<=10)/\(1<=d/\d<=10))/\σ=%[AC ⇑[x,y],~~~!c,AC ⇑[x],AC ⇑[y],!!S|4]
  ·match ns,hn4,hnb,hS with
   | [a,b,c',d],_,hnb,hS =>
    have ha:=hnb a (by simp);have hb:=hnb b (by simp);have hc':=hnb c' (by simp);have hd:=hnb d (by simp)
    rfl'
    refine#[∅,yl (λh=>#[_,x4 hS,λp hp=>#[_,x4 (zd hp _ _ hS),λp1 hp1=>#[_,zd hp1 _ _ zc,_,zc,?_,λp2 hp2=>?_]]]) λh=>?_]
    ·show 2+2<=rO;lia
    ·exact#[s1.trans ((zd hp).trans ((zd hp1).trans (zd hp2))),p2,a,b,a,b,zc,ha.1,ha.2,hb.1,hb.2,ha.1,ha.2,hb.1,hb.2,rfl]
    ·exact#[s1,S,a,b,c',d,hS,ha.1,ha.2,hb.1,hb.2,hc'.1,hc'.2,hd.1,hd.2,rfl]
  rintro σ H2 ⟨s2,S2,a,b,c',d,⟨hS2,ha,hb,hc',hd⟩,rfl⟩:0;change Same H H'/\∃(W:rQ),(H' W=AC (.tup [⇑(rp a y ++ rp b x),⇑(rp c' y ++ rp d x)])/\H' S2=AC (.lst [.int a,.int b,.int c',.int d]))/\σ=%[AC ⇑[x,y],~~~!c,AC ⇑[x],AC ⇑[y],!!S2,!!W|3]
  ·rfl'
   erw[dL,bi]
   exact#[_,x4 hS2,_,rfl,a,rfl,⋯,⋯,∅,_,x4 hS2,_,rfl,b,rfl,⋯,⋯,∅,⋯,_,x4 hS2,_,rfl,c',rfl,⋯,⋯,∅,_,x4 hS2,_,rfl,d,rfl,⋯,⋯,∅,⋯,⋯,λp hp=>#[s2.trans (zd hp),p,zc,zd hp _ _ hS2,rfl]]
  rintro σ H3 ⟨s3,W,⟨hW,hS3⟩,rfl⟩:0;change Same H H'/\∃(W F:rQ),(H' W=AC (.tup [⇑(rp a y ++ rp b x),⇑(rp c' y ++ rp d x)])/\H' F=AC (.tup [⇑(rp b x ++ rp a y),⇑(rp d x ++ rp c' y)]))/\σ=%[AC ⇑[x,y],~~~!c,AC ⇑[x],AC ⇑[y],!!S2,!!W,!!F|2]
  ·rfl'
   erw[dL,bi]
   exact#[_,x4 hS3,_,rfl,b,rfl,⋯,⋯,∅,_,x4 hS3,_,rfl,a,rfl,⋯,⋯,∅,⋯,_,x4 hS3,_,rfl,d,rfl,⋯,⋯,∅,_,x4 hS3,_,rfl,c',rfl,⋯,⋯,∅,⋯,⋯,λp hp=>#[s3.trans (zd hp),W,zd hp _ _ hW,p,zc,rfl,rfl]]
  rintro σ H4 ⟨s4,W,F,⟨hW,hF⟩,rfl⟩:0;change Same H H'/\∃(A:rQ),(H' W=AC (.tup [⇑(rp a y ++ rp b x),⇑(rp c' y ++ rp d x)])/\H' F=AC (.tup [⇑(rp b x ++ rp a y),⇑(rp d x ++ rp c' y)])/\AnsAt K H' A (.forms (esY x y) (rp b x ++ rp a y) (rp d x ++ rp c' y)))/\σ=[AC ⇑[x,y],~~~!c,AC ⇑[x],AC ⇑[y],!!S2,!!W,!!F,!!A,AD]
  ·rfl'
   refine#[⋯,⋯,⋯,λp hp=>#[⋯,λp1 hp1=>#[⋯,λp2 hp2=>#[⋯,λp3 hp3=>?_]]]];have u1:=zd (o:=HO.tup [.int 0,.int 0,.bl AE]) hp;have u2:=zd (o:=HO.lst [.ref p]) hp1;have u3:=zd (o:=HO.tup [⇑[y,x],⇑[x,y],.ref p1]) hp2;have u4:=zd (o:=HO.lst [.ref p2]) hp3;have u:=u1.trans (u2.trans (u3.trans u4));refine#[_,x6 (u _ _ hF),_,rfl,_,x6 (u _ _ hF),_,rfl,⋯,λp4 hp4=>?_];have u5:=zd (o:=HO.tup [.str "forms",.ref p3,⇑(rp b x ++ rp a y),⇑(rp d x ++ rp c' y)]) hp4;refine#[s4.trans (u.trans u5),(u.trans u5) _ _ hW,(u.trans u5) _ _ hF,p3,zc,[.ref p2],u5 _ _ zc,VV #[p2,p1,rfl,x6 ((u4.trans u5) _ _ zc),_,(u3.trans (u4.trans u5)) _ _ zc,?_]];show Iss K _ [dSt ((0:Int),(0:Int),AE)] _;exact Zf (uM (x6 ((u2.trans (u3.trans (u4.trans u5))) _ _ zc)))
  rintro σ H5 ⟨s5,A,⟨hW5,hF5,hA⟩,rfl⟩:0;change Same H H'/\(H' F=AC (.tup [⇑(rp b x ++ rp a y),⇑(rp d x ++ rp c' y)]))/\σ=[AC ⇑[x,y],~~~!c,AC ⇑[x],AC ⇑[y],!!S2,!!W,!!F,!!A,AC (.bl (decide (rp b x ++ rp a y≠rp d x ++ rp c' y)))]
  ·ac_rfl;intro o dx ho hdx hne;have sd:=zd (o:=.own o) hdx;let#[pf,st]:=zcf hxy ha.2 hb.2 hc'.2 hd.2;refine#[o,CO,dx,[x,y],rfl,hg,T.cO,T.lO,zc,rfl,⋯,⋯,⋯,λp hp=>#[⋯,λp1 hp1=>?_]]
   have k1:Same H5 (upd (upd (upd H5 dx (.own o)) o (.ins CO dx [])) o (.ins CO dx [("letters",⇑[x,y])])):=λb o' e=>by
    rw[zk (zD e ho),zk (zD e ho)];exact sd _ _ e
   have u1:=zd (o:=HO.tup [⇑[y,x],⇑[x,y]]) hp;have u2:=zd (o:=HO.lst [.ref p]) hp1;have u:=k1.trans (u1.trans u2);refine#[_,x6 (u _ _ hW5),_,rfl,_,x6 (u _ _ hW5),_,rfl,o,p1,A,0,[x,y],[1,1],psY x y,_,_,_,rfl,#[dx,.inl #[∅,(u1.trans u2) _ _ zc]],#[hg,∅,rfl,by simp],#[_,zc,?_],?_,hA.same u,pf,λH7 s7=>#[s5.trans (u.trans s7),(u.trans s7) _ _ hF5,?_]]
   ·show Iss K _ [dR ([y,x],[x,y])] _;exact Zf (qO (u2 _ _ zc))
   ·refine#[by show 1<=30;decide,λr hr=>?_];rw[AL.mp hr];exact#[by show 2<=100;decide,by show 2<=100;decide]
   ·show V.bl (xl _ _ _ _ _ _ _ _ _)=_;rw[st]
  rintro σ H6 ⟨s6,hF6,rfl⟩:0
  rfl'
  refine#[_,.inl (.bl _),_,TB.b,zcS #[_,x6 hF6,_,rfl,_,x6 hF6,_,rfl,rfl,?_]]
  have e:(!decide (V.str (tx (rp b x ++ rp a y))=V.str (tx (rp d x ++ rp c' y))))=decide (rp b x ++ rp a y≠rp d x ++ rp c' y):=by
   rw[<- decide_not];exact decide_eq_decide.mpr #[λg z=>g (by rw[z]),λg z=>g (xP (V.str.inj z))]
  rw[e,u9 rfl];exact q H6 s6
theorem Wg{rs:List zF}{M:Nat}(h:∀i,(lf rs i).length<=M)(i:Nat):∀m,(ovI rs i m).length<=m * M
 | 0=>by rw[Nat.zero_mul];exact ah _
 | m+1=>by
  rw[ub,ag,dr];have h1:=uX rs i m (lf rs i).length;have h2:=h i;have h3:=Wg h i m;lia
theorem XU{rs:List zF}{M:Nat}(h:∀i,(lf rs i).length<=M):∀m,(ovA rs m).length<=m * (rs.length * M)
 | 0=>by rw[Nat.zero_mul];exact ah _
 | m+1=>by
  rw[qc,ag,dr];have h1:=Wg h m rs.length;have h3:=XU h m;lia
theorem zdS{rs:List zF}{M:Nat}(h:∀r ∈ rs,r.1.length<=M)(i:Nat):(lf rs i).length<=M:=by
 cases e:rs[i]? with
 | none=>unfold lf;rw[am,e];exact aJ _
 | some r=>rw[vn e];exact h r (af e)
def JN{l:()}{ws:List Int}{k:Int}{rs:List zF}{u v:()}{es:List Ent}(P:zc6 l ws k rs u v)(h3:es.length<=3)(hk:∀e ∈ es,EnK l e):PapF k.toNat l ws rs es u v:=by
 have hp3:∀p ∈ zA es,p.1.length<=3:=λp hp=>by
  let#[e,he,rfl]:=AN.mp hp;exact (hk e he).1.1
 refine#[⋯,λe he=>?_,?_,λhlt=>?_]
 ·let#[#[a1,a2],#[b1,b2],c1]:=hk e he;exact#[#[⋯,⋯,⋯,b1,b2],⋯]
 ·have h1:=XU (zdS hp3) (zA es).length;have h2:(zA es).length * ((zA es).length * 3)<=3 * (3 * 3):=d8 (by rw[xY];exact h3) (d8 (by rw[xY];exact h3) (ah _));lia
 ·have hd:JL k.toNat l ws (zA es):=λp hp=>by
   let#[e,he,rfl]:=AN.mp hp;exact#[hlt e he,(hk e he).2.1]
  exact#[um P.G P.l2 P.w3 hd P.ui P.u5,um P.G P.l2 P.w3 hd P.vi P.v5,λr hr=>by
   let#[b1,b2,d1,d2]:=P.p.s r hr
   exact#[um P.G P.l2 P.w3 hd d1 ⋯,um P.G P.l2 P.w3 hd d2 ⋯],zde P.G P.l2 P.w3 hd hp3]
def dRo(r:List Int):L3.D:=.lst (r.map L3.D.int)
theorem Wq{H:Hp}:∀{tab:List (List Int)} {ra:List rQ},ra.length=tab.length->(∀(i:Nat) (r:rQ) (x:List Int),ra[i]? = AC r->tab[i]? = AC x->H r=AC (.lst (x.map V.int)))->Iss K H (tab.map dRo) (ra.map V.ref)
 | [],[],_,_=>by erw[aL,Iss]
 | x::tab,r::ra,hl,h=>by
  erw[aw,Iss]
  refine#[_,_,rfl,?_,Wq (Nat.succ.inj hl) λi r' x' h1 h2=>h (i+1) r' x' h1 h2]
  erw[dRo,Is]
  exact#[r,_,rfl,x4 (h 0 r x rfl rfl),Iss.ints x]
def Qi:Ans->List L3.D
 | .alike ss=>[.str "alike",.lst (ss.map dSt)]
 | .forms es x z=>[.str "forms",.lst (es.map dE),⇑x,⇑z]
 | .world tab=>[.str "world",.lst (tab.map dRo)]
 | .open_=>[.str "open"]
theorem AnsAt.is{H:Hp}{f:rQ}:∀{an:Ans},AnsAt K H f an->Is K H (.tup (Qi an)) (.ref f)
 | .alike ss,⟨S,h1,h2⟩=>by
  have:=h2.is
  erw[Qi,Is,Iss]at this ⊢
  exact#[_,_,rfl,x6 h1,_,_,rfl,rfl,_,_,rfl,this,rfl]
 | .forms es x z,⟨D,h1,h2⟩=>by
  have:=h2.l.is
  erw[Qi,Is,Iss]at this ⊢
  exact#[_,_,rfl,x6 h1,_,_,rfl,rfl,_,_,rfl,this,_,_,rfl,rfl,_,_,rfl,rfl,rfl]
 | .world tab,⟨t,ra,h1,h2⟩=>by
  have:=Wq (K:=K) h2.len h2.row
  erw[Qi,Is,Iss]
  exact#[_,_,rfl,x6 h1,_,_,rfl,rfl,_,_,rfl,#[t,_,rfl,x4 h2.top,this],rfl]
 | .open_,h=>by
  erw[Qi,Is,Iss]
  exact#[_,_,rfl,x6 h,_,_,rfl,rfl,rfl]
theorem zau:∀an:Ans,wv (Qi an)<50
 | .alike ss=>by
  have:=Uf ss
  erw[Qi,wv,dpD]
  lia
 | .forms es x z=>by
  have:wv (es.map dE)<=10:=uq λd h=>by
   let#[e,_,rfl]:=AN.mp h;have:=Uf e.2.2
   erw[dE,dS,dpD,wv]
   lia
  erw[Qi,wv,dpD]
  lia
 | .world tab=>by
  have:wv (tab.map dRo)<=10:=uq λd h=>by
   let#[e,_,rfl]:=AN.mp h
   have:wv (e.map L3.D.int)<=1:=uq λd h=>by
    let#[n,_,rfl]:=AN.mp h
    erw[dpD]
    lia
   erw[dRo,dpD]
   lia
  erw[Qi,wv,dpD]
  lia
 | .open_=>by
  erw[Qi,wv,dpD]
  lia
structure StF(K:rP)(H:Hp)(pa wd rk W f:rQ)(l:())(ws:List Int)(k:Int)(rs:List zF)(u v:())(an:Ans):Prop where
 a:LsA K H pa (rs.map dR)
 p:PG3 l rs
 w:H wd=AC (.lst [⇑u,⇑v])
 u5:u.length<=5
 r:H rk=AC (.tup [.int k,⇑l,.ref W])
 W:H W=AC (.lst (ws.map V.int))
 f:AnsAt K H f an
 ok:zbR k.toNat l ws rs u v an
 s:zey an
 d:zer l ws k.toNat rs u v an
theorem X1{H:Hp}{F:rQ}{ys:List V}{o:HO}(hF:H F=AC (.lst ys)):∀{rs:List zF} {vs:List V},Iss K H (rs.map dR) vs->Iss K (upd H F o) (rs.map dR) vs
 | [],vs,h=>by erw[aL,Iss]at h ⊢;exact h
 | r::rs,vs,h=>by
  erw[aw,Iss]at h ⊢
  let#[v,t,e,h1,h2]:=h;refine#[v,t,e,?_,X1 hF h2]
  erw[dR,Is]at h1 ⊢
  let#[p,xs,e1,h3,h4]:=h1;refine#[p,xs,e1,vY h3 hF,?_]
  erw[Iss,Is]at h4 ⊢
  exact h4
def Jg{H:Hp}{F D:rQ}{a b:rV}{o:HO}{rs:List zF}(h:LsA K H D (rs.map dR))(hF:H F=AC (.lst [.str a,.str b])):LsA K (upd H F o) D (rs.map dR):=by
 let#[xs,h1,h2]:=h;refine#[xs,?_,X1 hF h2];rw[zk (λz=>?_)]
 ·exact h1
 ·rw[z,hF]at h1;cases h1
  cases rs with
  | nil=>erw[aL,Iss]at h2;cases h2
  | cons r rs =>
   erw[aw,Iss]at h2
   let#[v,t,e,h3,_]:=h2;cases e
   erw[dR,Is]at h3
   let#[p,xs,e1,_]:=h3;cases e1
def Q7{H:Hp}{F D:rQ}{a b:rV}{o:HO}{ss:List Stp}(h:LsA K H D (ss.map dSt))(hF:H F=AC (.lst [.str a,.str b])):LsA K (upd H F o) D (ss.map dSt):=by
 let#[xs,h1,h2]:=h;refine#[xs,?_,j2 hF h2];rw[zk (λz=>?_)]
 ·exact h1
 ·rw[z,hF]at h1;cases h1
  cases ss with
  | nil=>erw[aL,Iss]at h2;cases h2
  | cons s ss =>
   erw[aw,Iss]at h2
   let#[v,t,e,h3,_]:=h2;cases e;let#[p,e1,_]:=ZM h3;cases e1
def XM(K:rP)(T1 T2 T3:rQ):Sp:=λvs H Q Z=>∃(a:rQ) (ns:List Int),vs=[.ref a]/\SqL K H a (ns.map V.int)/\(∀z ∈ ns,w8 z)/\H T1=AC (.tbl #[])/\H T2=AC (.tbl #[])/\H T3=AC (.tbl #[])/\∀H',Q (.bl AE) H'
def gz:sQz 1 ["_law_script","_law_first","_law_letters_here","_law_ranks","_law_which","_law_pacts","_law_words","_law_spoil","_law_answer","_law_handed","_law_asked","_law_found"] qM:=by nofun
def zb3{f CO CR CW T T2 T3:rQ}{fd:rW}(B:Bt mg)(TB':TBb K)(F:("law"^^^qM))(gP:(1<<<"_law_cell") ["_law_script","_law_k"] [] (w6 K))(pZ:(2<<<"_law_letters") ["_law_cell_here","_law_many"] [] uA)(rh:(1<<<"_law_copied") ["_law_answer"] [] (Zz K))(nX:(10<<<"stands") ["order","pacts","one","other","answer"] [] (qT K CO CR CW))(pQ:(11<<<"_law_far_forms") ["_law_letters_here","_law_cell_here"] [] JG)(rH:(2<<<"_law_pair") ["_law_cell_here","_law_letters_here","_law_most"] [] Zd)(oA:(1<<<"_law_word") ["_law_number","_law_letters_here","_law_most"] [] qN)(pp:(4<<<"_law_steps_paper") ["_law_pacts","_law_one","_law_script","_law_spoil"] [] (vA K T))(pq:(3<<<"_law_table_paper") ["_law_script","_law_spoil"] [] (vw K T2))(oH:(3<<<"_law_entries_paper") ["_law_pacts","_law_words","_law_ranks","_law_spoil"] [] (wu K T3))(rz:(6<<<"_law_order") ["_law_kind","_law_letters_here","_law_weights"] [] (Wo K CO CR CW))(rJ:(4<<<"_law_due") ["_law_pacts","_law_words","_law_answer","_law_ranks"] [] (Ka K))(gp:(1<<<"_law_mixed") ["_law_cell_here","_law_turn"] [] yE)(rb:(3<<<"_law_holding") ["_law_pacts","_law_letters_here","_law_table"] [] (jO K)):(12&&&["_law_script"]) (XM K T T2 T3):=by
 exists F.ok gz
 ·let#[a,ns,rfl,hS,hB,hT1,hT2,hT3,q]:=h
  refine#[_,(zh (zC 1 gz.nd (cl0 gP hr .nil rfl (za (pv 0) (za zb ze)))) (zh (uL (i:=2) gz.nd rfl (Or.inr rfl) (cl0 pZ hr .nil rfl (za (pv 1) (za zb ze)))) (zh (zI (zu yq (zv yb (cl0 gP hr .nil rfl (za (pv 0) (za zb ze))) zb) zb (zw _)) (zf (zm (cl0 pQ hr .nil rfl (za (pv 2) (za (cl0 gP hr .nil rfl (za (pv 0) (za zb ze))) ze)))))
    zo) (zh (zC 3 gz.nd (zH (za (zv yb (pv 1) zb) (za (pv 2) (za (yM (za (zv yF zb (zv yb (zv xj (pv 1) zb) zb)) (za (zv yF zb (zv yb (zv xj (pv 1) zb) zb)) ze))) ze))))) (zh (zC 4 gz.nd (cl0 gP hr .nil rfl (za (pv 0) (za zb ze)))) (zh (uG (i:=5) gz.nd rfl (.inl rfl) (.inl rfl) (own:=["_law_k"]) (caps:=["_law_script","_law_letters_here"]) (ix:=[0,2]) (tt:=yW) (te:=(xt Zd [] E0 (zE (xt (w6 K) [] E0 (zE (zV 1) (zE (tOp Y6 (tC (.int 2)) (zV 0)) yT))) (zE (zV 2) (zE (tC (.int 3)) yT))))) rfl (zJ (sc:=zg qM) rfl (!0) (!0) (!0) rfl (!0) (!0) rfl) (yB rfl B.range (za (zv yF zb (zv yb (zv xj (pv 4) zb) zb)) ze)) (λZ Z Z Z Z Z=>zq (i:=0) (show List.Nodup [_,_,_] by decide) rfl (.inl rfl)) (λZ Z Z Z Z Z=>z7) (λZ Z Z Z Z Z=>(cl0 rH hr .nil rfl (za (cl0 gP hr .nil rfl (za (pv 1) (za (zv yF zb (pv 0)) ze))) (za (pv 2) (za zb ze)))))) (zh (uG (i:=6) gz.nd rfl (.inl rfl) (.inl rfl) (own:=["_law_k"]) (caps:=["_law_script","_law_letters_here"]) (ix:=[0,2]) (tt:=yW) (te:=(xt qN [] E0 (zE (xt yE [] E0 (zE (xt (w6 K) [] E0 (zE (zV 1) (zE (tOp Y6 (tC (.int 5)) (zV 0)) yT))) (zE (tC (.int 4)) yT))) (zE (zV 2) (zE (tC (.int 5)) yT))))) rfl (zJ (sc:=zg qM) rfl (!0) (!0) (!0) rfl (!0) (!0) rfl) (yB rfl B.range (za zb ze)) (λZ Z Z Z Z Z=>zq (i:=0) (show List.Nodup [_,_,_] by decide) rfl (.inl rfl)) (λZ Z Z Z Z Z=>z7) (λZ Z Z Z Z Z=>(cl0 oA hr .nil rfl (za (cl0 gp hr .nil rfl (za (cl0 gP hr .nil rfl (za (pv 1) (za (zv yF zb (pv 0)) ze))) (za zb ze))) (za (pv 2) (za zb ze)))))) (zh (zC 7 gz.nd (cl0 gP hr .nil rfl (za (pv 0) (za zb ze)))) (zh (zC 8 gz.nd (zH (za z8 ze))) (zh (zI (zu yq (zv yb (pv 4) zb) zb (zw _)) (zf (Um (cl0 pp hr .nil rfl (za (pv 5) (za (zi ix_list (pv 6) zb) (za (pv 0) (za (pv 7) ze))))) (xS (n:=2) rfl (zR (zq (i:=8) gz.nd rfl (.inl rfl)) (zR (Ut (pv 6) zb X9 (by intro _;rfl)) y8)))))
    zo) (zh (zI (zu yq (zv yb (pv 4) zb) zb (zw _)) (zx (zC 8 gz.nd (cl0 pq hr .nil rfl (za (pv 0) (za (pv 7) ze)))) (zf (zI (zu Y8 (zv yb (zv xj (pv 4) zb) zb) zb (zw _)) (zf (zC 5 gz.nd (cl0 rb hr .nil rfl (za (pv 5) (za (pv 2) (za (!-8) ze))))))
     zo)))
    zo) (zh (zI (zu yq (zv yb (pv 4) zb) zb (zw _)) (zf (zC 8 gz.nd (cl0 oH hr .nil rfl (za (pv 5) (za (pv 6) (za (pv 3) (za (pv 7) ze)))))))
    zo) (zh (zC 9 gz.nd (cl0 rh hr .nil rfl (za (pv 8) ze))) (zh (zC 10 gz.nd (yA ym rfl B.list jb1 (za (pv 5) ze))) (zh (zC 11 gz.nd (cl0 nX hr .nil rfl (za (cl0 rz hr .nil rfl (za (!-3) (za (pv 2) (za (!-3) ze)))) (za (pv 10) (za (zi ix_list (pv 6) zb) (za (zi ix_list (pv 6) zb) (za (pv 9) ze))))))) (zh (zI (PW.pt (kX (zu (Vc (wl hr)) (pv 9) (pv 8) (zw _)) (kX (zu (Vc (wl hr)) (pv 10) (pv 5) (zw _)) (qV (yv (xH (uD rfl B.isi (pv 11) rfl B.bool jb2) (λZ=>rfl))))))) (zf (zm yw))
    zo) (zf (zm (yn yq (pv 11) (cl0 rJ hr .nil rfl (za (pv 5) (za (pv 6) (za (pv 8) (za (pv 3) ze))))) (zw _)))))))))))))))))))),?_]
  have s16:=yd;change H'=H/\∃c:Int,w8 c/\σ=%[!!a,~~~!c|10]
  ·rfl'
   exact xa hS hB ∅ λc hc=>#[rfl,c,hc,rfl]
  rintro σ H0 ⟨rfl,c,hc,rfl⟩:0;change H'=H0/\∃x y:Nat,vm [x,y]=AE/\σ=%[!!a,~~~!c,AC ⇑[x,y]|9]
  ·rfl'
   refine YJ hc ∅ ∅ λl hl hn hs=>#[rfl,?_]
   match l,hl,hn,hs with
   | [x,y],_,hn,hs=>exact#[x,y,u9 #[by simp,by simp,hs,hn],rfl]
  rintro σ H ⟨rfl,x,y,hg,rfl⟩:0;change H'=H/\σ=%[!!a,~~~!c,AC ⇑[x,y]|9]
  ·rfl'
   exact xa hS hB ∅ λc1 Z=>#[_,rfl,∅,yl (λZ=>xa hS hB ∅ λc2 hc2=>#[x,y,c2,rfl,hg,hc2,λH' Z=>q H']) λZ=>rfl]
  rintro σ H0 ⟨rfl,rfl⟩:0;change Same H0 H'/\∃(rk W:rQ) (k:Int) (ws:List Int),(H' rk=AC (.tup [.int k,⇑[x,y],.ref W])/\H' W=AC (.lst (ws.map V.int))/\0<=k/\k<3/\ws.length=2/\∀n ∈ ws,1<=n/\n<=3)/\σ=%[!!a,~~~!c,AC ⇑[x,y],!!rk|8]
  ·rfl'
   refine#[∅,#[∅,∅],∅,#[∅,∅],∅,⋯,λp hp=>#[⋯,λp1 hp1=>#[(zd hp).trans (zd hp1),p1,p,c % 3,zc,[1+c / 3 % 3,1+c / 9 % 3],zd hp1 _ _ zc,⋯,⋯,rfl,λn hn=>?_,rfl]]]
   erw[bX,ci,or_false]at hn
   rcases hn with rfl | rfl <;> lia
  rintro σ H1 ⟨s1,rk,W,k,ws,⟨hrk,hW,k0,k3,hwl,hwb⟩,rfl⟩:_;have hS1:=s1.seq hS;right;change H'=H1/\∃wh:Int,σ=%[!!a,~~~!c,AC ⇑[x,y],!!rk,~~~!wh|7]
  ·rfl'
   exact xa hS1 hB ∅ λc Z=>#[rfl,c,rfl]
  rintro σ H ⟨rfl,wh,rfl⟩:0;change Same H H'/\∃(pa:rQ) (rs:List zF),(LsA K H' pa (rs.map dR)/\PG3 [x,y] rs)/\σ=%[!!a,~~~!c,AC ⇑[x,y],!!rk,~~~!wh,!!pa|6]
  ·erw[xm]
   rfl'
   refine#[#[∅,∅],∅,⋯,⋯,λD hD=>CompR.by (λi AI H'=>Same H H'/\H' D=AC (.lst AI)/\∃rs:List zF,Iss K H' (rs.map dR) AI/\rs.length=i/\∀r ∈ rs,r.1.length<=3/\r.2.length<=3/\(∀z ∈ r.1,z ∈ [x,y])/\∀z ∈ r.2,z ∈ [x,y]) #[zd hD,zc,[],by erw[aL,Iss],rfl,λr h=>(nomatch h)] ?_ ?_]
   ·refine nm3 ?_;rintro i AI H' hi ⟨hs,hH,rs,hI,hrl,hrb⟩:_;have hal:=hI.len;rw[aa]at hal;have hi4:i<4:=⋯;right
    erw[yW]
    rfl'
    refine#[yx,xa (hs.seq hS1) hB ⋯ λc3 hc3=>Q5 hc3 (by simp) (by simp) ∅ ∅ λo n p ho hn mo mn hp=>#[zd hp _ _ hH,⋯,x8 hi #[zy (hs.trans (zd hp)) hD,zc,rs ++ [(o,n)],?_,by rw[ag,hrl];rfl,λr hr'=>?_]]]
    ·rw[al];exact vS hH hI hp V0 (va rs) (by erw[z9,xf,and_self])
    ·rcases AK.mp hr' with h | h
     ·exact hrb r h
     ·rw[AL.mp h];exact#[by show o.length<=3;lia,by show n.length<=3;lia,mo,mn]
   ·refine nmB ?_;rintro AI H' ⟨hs,hH,rs,hI,hrl,hrb⟩:0;exact#[hs,D,rs,#[AI,hH,hI],#[⋯,hrb],rfl]
  rintro σ H2 ⟨s2,pa,rs,⟨hA,hP⟩,rfl⟩:_;have hS2:=s2.seq hS1;right;change Same H2 H'/\∃(wd:rQ) (u v:()),(H' wd=AC (.lst [⇑u,⇑v])/\H2 wd=AD/\(u.length<=5/\v.length<=5)/\(∀c ∈ u,c ∈ [x,y])/\∀c ∈ v,c ∈ [x,y])/\σ=%[!!a,~~~!c,AC ⇑[x,y],!!rk,~~~!wh,!!pa,!!wd|5]
  ·erw[xm]
   rfl'
   refine#[∅,∅,λD hD=>CompR.by (λi AI H'=>Same H2 H'/\H' D=AC (.lst AI)/\∃us:List (()),AI=us.map (λw=>V.str (tx w))/\us.length=i/\∀w ∈ us,w.length<=5/\∀c ∈ w,c ∈ [x,y]) #[zd hD,zc,[],rfl,rfl,λr h=>(nomatch h)] ?_ ?_]
   ·refine nm3 ?_;rintro i AI H' hi ⟨hs,hH,us,rfl,hul,hub⟩:_;have hi2:i<2:=hi;right
    erw[yW]
    rfl'
    refine#[yx,xa (hs.seq hS2) hB ⋯ λc3 hc3=>xu hc3 ∅ ∅ λz hz=>kn hz (by simp) (by simp) ∅ ∅ λw hw mw=>#[hH,by rw[aa];lia,x8 hi #[zy hs hD,zc,us ++ [w],by rw[al];rfl,by rw[ag,hul];rfl,λr hr'=>?_]]];rcases AK.mp hr' with h | h
    ·exact hub r h
    ·rw[AL.mp h];exact#[⋯,mw]
   ·refine nmB ?_;rintro AI H' ⟨hs,hH,us,rfl,hul,hub⟩:0
    match us,hul,hub,hH with
    | [u,v],_,hub,hH =>
     have h1:=hub u (by simp);have h2:=hub v (by simp);exact#[hs,D,u,v,hH,hD,h1.1,h2.1,h1.2,h2.2,rfl]
  rintro σ H3 ⟨s3,wd,u,v,⟨hwd,hwn,hl5,hu,hv⟩,rfl⟩:_;have hS3:=s3.seq hS2;right;change H'=H3/\∃sp:Int,w8 sp/\σ=%[!!a,~~~!c,AC ⇑[x,y],!!rk,~~~!wh,!!pa,!!wd,~~~!sp|4]
  ·rfl'
   exact xa hS3 hB ∅ λc hc=>#[rfl,c,hc,rfl]
  rintro σ H ⟨rfl,sp,hsp,rfl⟩:0;change Same H H'/\∃f:rQ,(H' f=AC (.tup [.str "open"]))/\σ=%[!!a,~~~!c,AC ⇑[x,y],!!rk,~~~!wh,!!pa,!!wd,~~~!sp,!!f|3]
  ·rfl'
   exact#[⋯,λf hf=>#[zd hf,zc]]
  rintro σ H4 ⟨s4,f,hf,rfl⟩:_;have G:OG [x,y] ws k.toNat:=#[hg,⋯,hwl,λn hn=>by have:=hwb n hn;lia];have PE0:zc6 [x,y] ws k rs u v:=#[G,k0,k3,rfl,λn hn=>(hwb n hn).2,hP,hl5.1,hl5.2,hu,hv];have s24:=s3.trans s4;have s14:=s2.trans s24;have s04:=s1.trans s14;have hS4:=s04.seq hS;have hA4:=hA.same s24;have hwd4:=s4 _ _ hwd;have hrk4:=s14 _ _ hrk;have hW4:=s14 _ _ hW;have hWw:W≠wd:=λz=>by rw[z]at hW;rw[s2 _ _ hW]at hwn;cases hwn
  have hrw:rk≠wd:=λz=>by rw[z]at hrk;rw[s2 _ _ hrk]at hwn;cases hwn
  have st4:StF K H4 pa wd rk W f [x,y] ws k rs u v .open_:=#[hA4,hP,hwd4,hl5.1,hrk4,hW4,hf,trivial,trivial,trivial];right;change ∃(f:rQ) (v':()) (an:Ans),StF K H' pa wd rk W f [x,y] ws k rs u v' an/\(wh % 4=1\/(v'=v/\H' T2=AC (.tbl #[])/\H' T3=AC (.tbl #[])/\SqL K H' a (ns.map V.int)))/\σ=%[!!a,~~~!c,AC ⇑[x,y],!!rk,~~~!wh,!!pa,!!wd,~~~!sp,!!f|3]
  ·rfl'
   refine#[∅,yl (λh1=>#[_,x4 hwd4,_,rfl,pa,a,[x,y],rs,u,ns,sp,rfl,hA4,hP,hl5.1,hS4,hB,hsp,s04 _ _ hT1,λp f' ss v' H5 s5 hp hf' h6=>?_]) λh1=>?_]
   ·have hT14:=s04 _ _ hT1;have hwd5:=s5.at hT14 hwd4 λZ z=>by cases z
    have hA5:=hA4.samT s5 hT14;let#[S,g1,g2]:=hf';have hfw:f'≠wd:=λz=>by rw[z,hwd5]at g1;cases g1
    refine#[p,rfl,_,x6 hp,rfl,_,_,rfl,_,_,rfl,?_];unfold zbQ
    rfl'
    refine#[wd,[⇑u,⇑v],1,1,rfl,rfl,hwd5,rfl,f',v',#[.alike ss,#[Jg hA5 hwd5,hP,zc,hl5.1,?_,?_,#[S,?_,Q7 g2 hwd5],?_,?_,?_]],.inl h1,rfl]
    ·rw[zk hrw];exact s5.at hT14 hrk4 λZ z=>by cases z
    ·rw[zk hWw];exact s5.at hT14 hW4 λZ z=>by cases z
    ·rw[zk hfw];exact g1
    ·show u.length+100 * ss.length<=900;lia
    ·show ss.length<=100;lia
    ·show ss.length<=100;lia
   ·exact#[f,v,#[_,st4],.inr #[rfl,s04 _ _ hT2,s04 _ _ hT3,hS4],rfl]
  rintro σ H5 ⟨f5,v5,an5,st5,hd5,rfl⟩:0;change ∃(pa' f:rQ) (rs':List zF) (v':()) (an:Ans),StF K H' pa' wd rk W f [x,y] ws k rs' u v' an/\((wh % 4=1\/wh % 4=2)\/(rs'=rs/\v'=v/\H' T3=AC (.tbl #[])))/\σ=%[!!a,~~~!c,AC ⇑[x,y],!!rk,~~~!wh,!!pa',!!wd,~~~!sp,!!f|3]
  ·rfl'
   refine#[∅,yl (λh2=>?_) λh2=>#[pa,f5,rs,v5,#[_,st5],hd5.elim (λh=>.inl (.inl h)) λh=>.inr #[rfl,h.1,h.2.2.1],rfl,rfl]];rcases hd5 with h | ⟨rfl,t2,t3,hS5⟩
   ·lia
   refine#[a,ns,sp,rfl,hS5,hB,hsp,t2,λf' tab H6 s6 hf' h3=>?_];have st:StF K H6 pa wd rk W f' [x,y] ws k rs u v5 (.world tab):=#[st5.a.samT s6 t2,hP,s6.at t2 st5.w (λZ z=>by cases z),hl5.1,s6.at t2 st5.r (λZ z=>by cases z),s6.at t2 st5.W (λZ z=>by cases z),hf',#[⋯,hP.inp,hu,hv],by show tab.length<=8;lia,⋯,hu,hv];let#[t,ra,g1,g2]:=id hf';refine#[#[∅,∅],∅,yl (λh4=>#[f',rfl,_,x6 g1,_,rfl,pa,t,[x,y],ra,tab,rs,rfl,st.a,hP,g2,⋯,rfl,λD rs' H7 s7 hD hP'=>#[D,f',rs',v5,#[_,#[hD,hP',s7 _ _ st.w,hl5.1,s7 _ _ st.r,s7 _ _ st.W,hf'.same s7,#[⋯,hP'.inp,hu,hv],st.s,st.d]],.inl (.inr h2),rfl,rfl]]) λh4=>#[pa,f',rs,v5,#[_,st],.inl (.inr h2),rfl,rfl]]
  rintro σ H6 ⟨pa6,f6,rs6,v6,an6,st6,hd6,rfl⟩:0;change ∃(f:rQ) (v':()) (an:Ans),StF K H' pa6 wd rk W f [x,y] ws k rs6 u v' an/\σ=%[!!a,~~~!c,AC ⇑[x,y],!!rk,~~~!wh,!!pa6,!!wd,~~~!sp,!!f|3]
  ·rfl'
   refine#[∅,yl (λh2=>?_) λh2=>#[v6,_,st6]];rcases hd6 with h | ⟨rfl,rfl,t3⟩
   ·lia
   refine#[pa6,wd,rk,W,k,[x,y],ws,rs6,u,v6,sp,rfl,st6.a,st6.w,st6.r,st6.W,PE0,hsp,t3,λf' es x' z' H7 s7 hf' h3 hk=>#[f',#[v6,.forms es x' z',#[st6.a.samT s7 t3,hP,s7.at t3 st6.w (λZ z=>by cases z),hl5.1,s7.at t3 st6.r (λZ z=>by cases z),s7.at t3 st6.W (λZ z=>by cases z),hf',JN PE0 h3 hk,by show es.length<=30;lia,#[G,hP.ok,JN PE0 h3 hk,λe he=>?_]]],rfl]];have:=(hk e he).1;lia
  rintro σ H7 ⟨f7,v7,an7,st7,rfl⟩:0;change Same H7 H'/\∃hd:rQ,AnsAt K H' hd an7/\σ=%[!!a,~~~!c,AC ⇑[x,y],!!rk,~~~!wh,!!pa6,!!wd,~~~!sp,!!f7,!!hd|2]
  ·rfl'
   exact#[f7,an7,rfl,st7.f,st7.s,λf' H' s' h'=>#[s',f',h',rfl]]
  rintro σ H8 ⟨s8,hd,hh,rfl⟩:0;change Same H8 H'/\∃asd:rQ,LsA K H' asd (rs6.map dR)/\σ=[!!a,~~~!c,AC ⇑[x,y],!!rk,~~~!wh,!!pa6,!!wd,~~~!sp,!!f7,!!hd,!!asd,AD]
  ·ac_rfl;let#[xs,hX,hI]:=st7.a.same s8;exact#[_,.inl (x4 hX),λh hh=>#[zd hh,#[xs,zc,ja1 (zd hh) _ _ hI]]]
  rintro σ H9 ⟨s9,asd,hAs,rfl⟩:_;have s79:=s8.trans s9;right;change Same H9 H'/\σ=[!!a,~~~!c,AC ⇑[x,y],!!rk,~~~!wh,!!pa6,!!wd,~~~!sp,!!f7,!!hd,!!asd,AC (.bl (uo k.toNat [x,y] ws rs6 u v7 an7))]
  ·rfl'
   exact#[_,x6 (s79 _ _ st7.r),_,rfl,_,x6 (s79 _ _ st7.r),_,rfl,k,[x,y],W,ws,rfl,k0,k3,hg,s79 _ _ st7.W,hwl,G.nb,λo Ho so ho=>#[_,x4 ((s79.trans so) _ _ st7.w),_,rfl,_,x4 ((s79.trans so) _ _ st7.w),_,rfl,o,asd,hd,k.toNat,[x,y],ws,rs6,u,v7,an7,rfl,ho,G,hAs.same so,st7.p.ok,hh.same (s9.trans so),st7.ok,λH' s'=>#[so.trans s',rfl]]]
  rintro σ H10 ⟨s10,rfl⟩:_;have s70:=s79.trans s10;right;change Same H10 H'/\σ=[!!a,~~~!c,AC ⇑[x,y],!!rk,~~~!wh,!!pa6,!!wd,~~~!sp,!!f7,!!hd,!!asd,AC (.bl (uo k.toNat [x,y] ws rs6 u v7 an7))]
  ·rfl'
   refine YN (.inr #[(hh.same (s9.trans s10)).is,(st7.f.same s70).is]) (zau an7) #[_,rfl,?_];rw[wP];refine zdt (YN (.inl #[(hAs.same s10).is,(st7.a.same s70).is]) (cN (zcu _) ∅) #[_,rfl,?_]);rw[wP];exact zdt #[_,.inl (.bl _),_,TB'.b,yl (λz=>by cases z) λZ=>x9 _]
  rintro σ H11 ⟨s11,rfl⟩:_;have s71:=s70.trans s11;right
  rfl'
  refine#[pa6,wd,f7,rk,W,k,[x,y],ws,rs6,u,v7,an7,rfl,st7.a.same s71,st7.p,s71 _ _ st7.w,by have:=st7.u5;lia,s71 _ _ st7.r,s71 _ _ st7.W,k0,k3,rfl,st7.f.same s71,st7.d,λH' s'=>#[rfl,?_]];rw[u9 rfl];exact q H'
end
end
mutual section
def FnE(K:rP)(x q:rV)(st:si)(f:rQ):Prop:=∃fd,Fun K x q st f fd
def FnA(K:rP)(x:rV)(st:si)(f:rQ):Prop:=aC K rM x=AC (AC (.ref f))/\FnE K x x st f
def FnA.mk{K:rP}{x:rV}{st:si}{f:rQ}{h:sq}{mg:rV->Option rR}(q:FnA K x st f)(X:K.In h)(G:h.Ns rM mg):mg x=AC (.ref f)/\aE K (.ref f)=AE/\FnE K x x st f:=by let#[a,fd,F]:=q;exact#[aI X G a,F.kp,fd,F]
def W3{us:List rR}(h:us.length=1):∃a,us=[a]:=List.length_eq_one_iff.mp h
theorem jk{us:List rR}(h:us.length=2):∃a0 a1,us=[a0,a1]:=by
 cases us with
 | nil=>cases h
 | cons a r =>
  let#[a1,rfl]:=W3 (Nat.succ.inj h);exact#[a,a1,rfl]
theorem qA{us:List rR}(h:us.length=3):∃a0 a1 a2,us=[a0,a1,a2]:=by
 cases us with
 | nil=>cases h
 | cons a r =>
  let#[a1,a2,rfl]:=jk (Nat.succ.inj h);exact#[a,a1,a2,rfl]
theorem WZ{us:List rR}(h:us.length=4):∃a0 a1 a2 a3,us=[a0,a1,a2,a3]:=by
 cases us with
 | nil=>cases h
 | cons a r =>
  let#[a1,a2,a3,rfl]:=qA (Nat.succ.inj h);exact#[a,a1,a2,a3,rfl]
theorem zbb{us:List rR}(h:us.length=5):∃a0 a1 a2 a3 a4,us=[a0,a1,a2,a3,a4]:=by
 cases us with
 | nil=>cases h
 | cons a r =>
  let#[a1,a2,a3,a4,rfl]:=WZ (Nat.succ.inj h);exact#[a,a1,a2,a3,a4,rfl]
theorem zeO{us:List rR}(h:us.length=6):∃a0 a1 a2 a3 a4 a5,us=[a0,a1,a2,a3,a4,a5]:=by
 cases us with
 | nil=>cases h
 | cons a r =>
  let#[a1,a2,a3,a4,a5,rfl]:=zbb (Nat.succ.inj h);exact#[a,a1,a2,a3,a4,a5,rfl]
theorem zeY{us:List rR}(h:us.length=7):∃a0 a1 a2 a3 a4 a5 a6,us=[a0,a1,a2,a3,a4,a5,a6]:=by
 cases us with
 | nil=>cases h
 | cons a r =>
  let#[a1,a2,a3,a4,a5,a6,rfl]:=zeO (Nat.succ.inj h);exact#[a,a1,a2,a3,a4,a5,a6,rfl]
def dfm(P:rX)(w:sk){K:rP}{mg:rV->Option rR}(base:sq){CX:CXT}{k:Nat}{f:rQ}{fd:rW}{nm:rV}{ps:List rV}{sp:Sp}(h:FnOk P w K mg base CX k f fd ps sp)(m:mg nm=AC (.ref f))(p:aE K (.ref f)=AE)(b:Binds K fd ps []):Df P w K mg base CX k nm ps [] sp:=#[_,_,h,m,p,b]
def FnA.df(P:rX)(w:sk){K:rP}{h:sq}{mg:rV->Option rR}(base:sq){x:rV}{st:si}{f:_}{CX:CXT}{k:Nat}{ps:List rV}{sp:Sp}(q:FnA K x st f)(X:K.In h)(G:h.Ns rM mg)(H:∀{fd},Fun K x x st f fd->FnOk P w K mg base CX k f fd ps sp)(hb:∀(kV doc pm:rR) (an:Option rQ) (cdv ct:rR) (us:List rR),us.length=ps.length->bindArgs (be x x (yG st) (zZ st) (zg st) .none kV doc pm an cdv ct) #[us,[]]=pure (ps.zip us)):Df P w K mg base CX k x ps [] sp:=by let#[M,p,_,F]:=q.mk X G;exact dfm P w base (H F) M p (F.binds hb)
end
local macro_rules | `(tactic| injections)=>`(tactic| (intro _ _ _ _ _ _ us hl;first | (obtain⟨_,e⟩:=W3 hl;subst e;rfl) | (obtain⟨_,_,e⟩:=jk hl;subst e;rfl) | (obtain⟨_,_,_,e⟩:=qA hl;subst e;rfl) | (obtain⟨_,_,_,_,e⟩:=WZ hl;subst e;rfl) | (obtain⟨_,_,_,_,_,e⟩:=zbb hl;subst e;rfl)))
local macro_rules | `(nofun)=>`(by injections)
def all_mk{l:PySem.W.OpenLaw}{w:sk}{K:rP}{h:sq}{mg:rV->Option rR}{fa f0 f1 f2 f3 f4 f5 f6 f7 f8 f9 f10 f11 f12 f13 f14 f15 f16 f17 f18 f19 f20 f21 f22 f23 f24 f25 f26 f27 f28 f29 f30 f31 f32 f33 f34 f35 f36 f37 f38 f39 f40 f41 f42 f43 f44 f45 f46 f47 f48 f49 f50 f51 pw gn gy gg gf ge gi gj gr gq gm gh:rQ}{cc T cc2 T2 cc3 T3:rQ}(X:K.In h)(G:h.Ns rM mg)(hfa:mg "law" = AC (.ref fa))(hlam:vv mg h "_law_steps_paper" cc T)(hlam2:vv mg h "_law_table_paper" cc2 T2)(hlam3:vv mg h "_law_entries_paper" cc3 T3)
{od6 an6 od47 an47 od48 an48 od49 an49 od51 an51:Option rQ}{sl6 sl47 sl48 sl49 sl51:Array (Option rR)}{oc6 kV6 dc6 pm6 cd6 ct6 oc47 kV47 dc47 pm47 cd47 ct47 oc48 kV48 dc48 pm48 cd48 ct48 oc49 kV49 dc49 pm49 cd49 ct49 oc51 kV51 dc51 pm51 cd51 ct51:rR}
  {t6 t7:Ad}
  {fI:rQ}
  {odI anI:Option rQ}
  {slI:Array (Option rR)}
  {ocI kVI dcI pmI cdI ctI:rR}
  {t8:Ad}
  {fU:rQ}
  {odU anU:Option rQ}
  {slU:Array (Option rR)}
  {ocU kVU dcU pmU cdU ctU:rR}
  {t9:Ad}
  {tml:Ad}
  {gQ:rQ}
  {il:rQ}
  {iL:rQ}
  {iB:rQ}
  {iC:rQ}
  {hV:rQ}
  {gU:rQ}
  {gD:rQ}
  {lr:rQ}
  {ip:rQ}
  {gH:rQ}
  {lE:rQ}
  {lu:rQ}
  {me:rQ}
  {iR:rQ}
  {iS:rQ}
  {nN:rQ}
  {mP:Ad}
  {d1_gone:rR}
  {d2_gone:Option rQ}
  {d3_gone:Nat}
  {d4_gone:Array (Option rR)}
  (a0:FnA K "is_small_letter" yY f0)
  (a1:FnA K "letters_of" w4 f1)
  (a2:FnA K "stands_at" vF f2)
  (a3:FnA K "put" zaV f3)
  (a4:FnA K "first_within" xB f4)
  (a5:FnA K "first_from" wy f5)
  (a6:aC K rM "gone" = AC (AC (.ref f6))) (l6:K.lookup f6=AC #[oc6,od6,.func (be "gone" "gone" (yG vz) (zZ vz) (zg vz) (.ref nN) kV6 dc6 pm6 an6 cd6 ct6),sl6]) (k6:bB K cd6 "gone" = AE) (p6:aE K (.ref f6)=AE)
  (a7:FnA K "used" Vf f7)
  (a8:FnA K "walked" kD f8)
  (a9:FnA K "pairs_of" vc f9)
  (a10:FnA K "_law_order" YQ f10)
  (a11:FnA K "system_by" vG f11)
  (a12:FnA K "agree" YD f12)
  (a13:FnA K "overlaps" uh f13)
  (a14:FnA K "peak" Vj f14)
  (a15:FnA K "form_of" qL f15)
  (a16:FnA K "is_met" kr f16)
  (a17:FnA K "table_of" ve f17)
  (a18:FnA K "tells_apart" wf f18)
  (a19:FnA K "leads" Yr f19)
  (a20:FnA K "entry_stands" xO f20)
  (a21:FnA K "all_meet" ul f21)
  (a22:FnA K "forms_agree" wg f22)
  (a23:FnA K "forms_stand" wa f23)
  (a24:FnA K "world_stands" xK f24)
  (a25:FnA K "stands" ke f25)
  (a26:FnA K "_law_cell" U0 f26)
  (a27:FnA K "_law_mixed" YI f27)
  (a28:FnA K "_law_letters" jf f28)
  (a29:FnA K "_law_word" Vb f29)
  (a30:FnA K "_law_pair" Vr f30)
  (a31:FnA K "_law_used" kT f31)
  (a32:FnA K "_law_uses" VA f32)
  (a33:FnA K "_law_chain" Xa f33)
  (a34:FnA K "_law_end" KM f34)
  (a35:FnA K "_law_rank" jF f35)
  (a36:FnA K "_law_form" UN f36)
  (a37:FnA K "_law_meet" Vo f37)
  (a38:FnA K "_law_forms_stand" zW f38)
  (a39:FnA K "_law_whole" Yy f39)
  (a40:FnA K "_law_table_ok" vf f40)
  (a41:FnA K "_law_led" zan f41)
  (a42:FnA K "_law_holds" Yq f42)
  (a43:FnA K "_law_holding" vL f43)
  (a44:FnA K "_law_copied" vQ f44)
  (a45:FnA K "_law_due" zaM f45)
  (a46:FnA K "_law_spoilt" ko f46)
  (a47:aC K rM "_law_steps_paper" = AC (AC (.ref f47))) (l47:K.lookup f47=AC #[oc47,od47,.func (be "_law_steps_paper" "_law_steps_paper" (yG yh) (zZ yh) (zg yh) .none kV47 dc47 pm47 an47 cd47 ct47),sl47]) (k47:bB K cd47 "_law_steps_paper" = AE) (p47:aE K (.ref f47)=AE)
  (a48:aC K rM "_law_table_paper" = AC (AC (.ref f48))) (l48:K.lookup f48=AC #[oc48,od48,.func (be "_law_table_paper" "_law_table_paper" (yG yo) (zZ yo) (zg yo) .none kV48 dc48 pm48 an48 cd48 ct48),sl48]) (k48:bB K cd48 "_law_table_paper" = AE) (p48:aE K (.ref f48)=AE)
  (a49:aC K rM "_law_entries_paper" = AC (AC (.ref f49))) (l49:K.lookup f49=AC #[oc49,od49,.func (be "_law_entries_paper" "_law_entries_paper" (yG zL) (zZ zL) (zg zL) .none kV49 dc49 pm49 an49 cd49 ct49),sl49]) (k49:bB K cd49 "_law_entries_paper" = AE) (p49:aE K (.ref f49)=AE)
  (a50:FnA K "_law_far_forms" wn f50)
  (a51:aC K rM "law" = AC (AC (.ref f51))) (l51:K.lookup f51=AC #[oc51,od51,.func (be "law" "law" (yG qM) (zZ qM) (zg qM) .none kV51 dc51 pm51 an51 cd51 ct51),sl51]) (k51:bB K cd51 "law" = AE) (p51:aE K (.ref f51)=AE)
  (g_LetterError:aC K rM "LetterError" = AC (AC (.ref pw)))
  (g_NoLetters:aC K rM "NoLetters" = AC (AC (.ref gn)))
  (g_NoOrder:aC K rM "NoOrder" = AC (AC (.ref gy)))
  (g_Order:aC K rM "Order" = AC (AC (.ref gg)))
  (g_FromRight:aC K rM "FromRight" = AC (AC (.ref gf)))
  (g_ByWeights:aC K rM "ByWeights" = AC (AC (.ref ge)))
  (g_NotTurned:aC K rM "NotTurned" = AC (AC (.ref gi)))
  (g_System:aC K rM "System" = AC (AC (.ref gj)))
  (g_NoUse:aC K rM "NoUse" = AC (AC (.ref gr)))
  (g_TooFar:aC K rM "TooFar" = AC (AC (.ref gq)))
  (g_NoWorld:aC K rM "NoWorld" = AC (AC (.ref gm)))
  (g_World:aC K rM "World" = AC (AC (.ref gh)))
  (kbb:aX K (.type "bool") (.type "bool")=AC AE)
  (kt:aX K (.type "tuple") (.type "tuple")=AC AE)
  (ki:aX K (.type "int") (.type "int")=AC AE)
  (kb:aX K (.type "int") (.type "bool")=AC AF)
  (kl:aX K (.type "list") (.type "list")=AC AE)
  (XIl:XI K gn)
  (xi:ae K (.ref gn) "__init__" = AC (AC (.builtin "ValueError.__init__")))
  (XIo:XI K gy)
  (yi:ae K (.ref gy) "__init__" = AC (AC (.builtin "ValueError.__init__")))
  (most:aC K rM "MOST_LETTERS" = AC (AC (.int 6 t6)))
  (mostw:aC K rM "MOST_WEIGHT" = AC (AC (.int 1000000 t7)))
  (nY:bK K gg d9=AE)
  (nZ:bO K gg=AE)
  (oa:bW K gg=AE)
  (og:ae K (.ref gg) "__setattr__" = AC (AC (.builtin "object.__setattr__")))
  (oh:cp K gg=AE)
  (oj:aE K (.ref gg)=AE)
  (om:ae K (.ref gg) "letters" = AC AD)
  (pJ:aX K (.ref gg) (.ref gg)=AC AE)
  (pK:ae K (.ref gg) "__class__" = AC (AC (.builtin "object.__class__")))
  (pL:bE K gg (.type "object")=AC AE)
  (mf:bK K gf d9=AE)
  (mh:bO K gf=AE)
  (mi:bW K gf=AE)
  (mj:ae K (.ref gf) "__setattr__" = AC (AC (.builtin "object.__setattr__")))
  (ml:cp K gf=AE)
  (mm:aE K (.ref gf)=AE)
  (mq:ae K (.ref gf) "letters" = AC AD)
  (nw:aX K (.ref gf) (.ref gg)=AC AE)
  (ny:ae K (.ref gf) "__class__" = AC (AC (.builtin "object.__class__")))
  (nz:bE K gf (.type "object")=AC AE)
  (mr:bK K ge d9=AE)
  (ms:bO K ge=AE)
  (mv:bW K ge=AE)
  (my:ae K (.ref ge) "__setattr__" = AC (AC (.builtin "object.__setattr__")))
  (mz:cp K ge=AE)
  (mB:aE K (.ref ge)=AE)
  (mC:ae K (.ref ge) "letters" = AC AD)
  (nA:aX K (.ref ge) (.ref gg)=AC AE)
  (nB:ae K (.ref ge) "__class__" = AC (AC (.builtin "object.__class__")))
  (nC:bE K ge (.type "object")=AC AE)
  (nw_ByWeights:ae K (.ref ge) "weights" = AC AD)
  (sgO:cz K (.ref gg) "__getattribute__" = AC (AC (.builtin "type.__getattribute__")))
  (rdO:gb K gg (.type "type")=AE)
  (win:aC K rM "WINDOW" = AC (AC (.int 128 t8)))
  (XIt:XI K gi)
  (nn:ae K (.ref gi) "number" = AC AD)
  (ini:ae K (.ref gi) "__init__" = AC (AC (.ref fI)))
  (lI:K.lookup fI=AC #[ocI,odI,.func (be "__init__" "NotTurned.__init__" (yG ye) (zZ ye) (zg ye) .none kVI dcI pmI anI cdI ctI),slI])
  (kI:bB K cdI "NotTurned.__init__" = AE)
  (pI:aE K (.ref fI)=AE)
  (fnI:aP K (.ref fI)=AE)
  (nD:bK K gj d9=AE)
  (nE:bO K gj=AE)
  (nF:bW K gj=AE)
  (nG:ae K (.ref gj) "__setattr__" = AC (AC (.builtin "object.__setattr__")))
  (nH:cp K gj=AE)
  (nI:aE K (.ref gj)=AE)
  (no_System:ae K (.ref gj) "order" = AC AD)
  (nr_System:ae K (.ref gj) "rules" = AC AD)
  (XIu:XI K gr)
  (ua:ae K (.ref gr) "at" = AC AD)
  (iniU:ae K (.ref gr) "__init__" = AC (AC (.ref fU)))
  (lU:K.lookup fU=AC #[ocU,odU,.func (be "__init__" "NoUse.__init__" (yG yy) (zZ yy) (zg yy) .none kVU dcU pmU anU cdU ctU),slU])
  (kU:bB K cdU "NoUse.__init__" = AE)
  (pU:aE K (.ref fU)=AE)
  (fnU:aP K (.ref fU)=AE)
  (XIf:XI K gq)
  (vi:ae K (.ref gq) "__init__" = AC (AC (.builtin "ValueError.__init__")))
  (sFF:bL K (.ref gq) (.ref gq)=AC AE)
  (XIq:XI K gm)
  (nwi:ae K (.ref gm) "__init__" = AC (AC (.builtin "ValueError.__init__")))
  (mostr:aC K rM "MOST_ROOMS" = AC (AC (.int 8 t9)))
  (oo:bK K gh d9=AE)
  (oq:bO K gh=AE)
  (ot:bW K gh=AE)
  (ou:ae K (.ref gh) "__setattr__" = AC (AC (.builtin "object.__setattr__")))
  (ow:cp K gh=AE)
  (oy:aE K (.ref gh)=AE)
  (oz:ae K (.ref gh) "letters" = AC AD)
  (nt_World:ae K (.ref gh) "table" = AC AD)
  (ks:aX K (.type "str") (.type "str")=AC AE)
  (nmin:aC K rM "min" = AC AD)
  (nany:aC K rM "any" = AC AD)
  (subU:bL K (.ref gr) (.ref gr)=AC AE)
  (mml:aC K rM "MOST_LOOKED_AT" = AC (AC (.int 4000 tml)))
  (subQ:bL K (.ref gm) (.ref gm)=AC AE)
  (lF:ae K (.ref gg) "__init__" = AC (AC (.ref gQ)))
  (lG:FnE K "__init__" "Order.__init__" wX gQ)
  (iM:aP K (.ref gQ)=AE)
  (iT:ae K (.ref gg) "weight" = AC (AC (.ref il)))
  (iU:FnE K "weight" "Order.weight" xG il)
  (im:aP K (.ref il)=AE)
  (lH:ae K (.ref gg) "seen" = AC (AC (.ref iL)))
  (lJ:FnE K "seen" "Order.seen" wA iL)
  (iN:aP K (.ref iL)=AE)
  (iD:ae K (.ref gf) "seen" = AC (AC (.ref iB)))
  (iE:FnE K "seen" "FromRight.seen" xh iB)
  (iF:aP K (.ref iB)=AE)
  (iG:ae K (.ref ge) "__init__" = AC (AC (.ref iC)))
  (iH:FnE K "__init__" "ByWeights.__init__" xg iC)
  (iI:aP K (.ref iC)=AE)
  (ic:ae K (.ref ge) "weight" = AC (AC (.ref hV)))
  (ie:FnE K "weight" "ByWeights.weight" yu hV)
  (ig:aP K (.ref hV)=AE)
  (lK:ae K (.ref gg) "rank" = AC (AC (.ref gU)))
  (lL:FnE K "rank" "Order.rank" xw gU)
  (gX:aP K (.ref gU)=AE)
  (iV:ae K (.ref gg) "before" = AC (AC (.ref gD)))
  (iW:FnE K "before" "Order.before" xF gD)
  (gE:aP K (.ref gD)=AE)
  (lv:ae K (.ref gj) "__init__" = AC (AC (.ref lr)))
  (lw:FnE K "__init__" "System.__init__" wp lr)
  (lx:aP K (.ref lr)=AE)
  (iq:ae K (.ref gj) "shortest" = AC (AC (.ref ip)))
  (ir:FnE K "shortest" "System.shortest" yX ip)
  (iu:aP K (.ref ip)=AE)
  (gJ:ae K (.ref gj) "rules_told" = AC (AC (.ref gH)))
  (gK:FnE K "rules_told" "System.rules_told" yH gH)
  (gL:aP K (.ref gH)=AE)
  (lM:ae K (.ref gh) "__init__" = AC (AC (.ref lE)))
  (lN:FnE K "__init__" "World.__init__" wS lE)
  (lP:aP K (.ref lE)=AE)
  (ly:ae K (.ref gh) "rooms" = AC (AC (.ref lu)))
  (lz:FnE K "rooms" "World.rooms" wm lu)
  (lA:aP K (.ref lu)=AE)
  (mD:ae K (.ref gh) "led" = AC (AC (.ref me)))
  (mE:FnE K "led" "World.led" vC me)
  (mF:aP K (.ref me)=AE)
  (iX:ae K (.ref gh) "parted" = AC (AC (.ref iR)))
  (iY:FnE K "parted" "World.parted" xE iR)
  (iZ:aP K (.ref iR)=AE)
  (la:ae K (.ref gh) "broken" = AC (AC (.ref iS)))
  (lb:FnE K "broken" "World.broken" xJ iS)
  (lc:aP K (.ref iS)=AE)
  (nO:K.lookup nN=AC #[d1_gone,d2_gone,.seq #[.int 4000 mP] d3_gone,d4_gone])
  (fcO:gc K (.ref gg) (.type "type") "__init__" = AC (.val (.ref gQ)))
  (fiR_init:ae K (.ref gf) "__init__" = AC (AC (.ref gQ)))
  (fiR_weight:ae K (.ref gf) "weight" = AC (AC (.ref il)))
  (fiW_seen:ae K (.ref ge) "seen" = AC (AC (.ref iL)))
  (fiR_rank:ae K (.ref gf) "rank" = AC (AC (.ref gU)))
  (fiW_rank:ae K (.ref ge) "rank" = AC (AC (.ref gU)))
  (fiR_before:ae K (.ref gf) "before" = AC (AC (.ref gD)))
  (fiW_before:ae K (.ref ge) "before" = AC (AC (.ref gD)))
  (b0:aC K rM "len" = AC AD)
  (b1:aC K rM "range" = AC AD)
  (b2:aC K rM "isinstance" = AC AD)
  (b3:aC K rM "str" = AC AD)
  (b4:aC K rM "int" = AC AD)
  (b5:aC K rM "tuple" = AC AD)
  (b6:aC K rM "list" = AC AD)
  (b7:aC K rM "bool" = AC AD)
  (b8:aC K rM "enumerate" = AC AD)
  (b9:aC K rM "all" = AC AD)
  (b10:aC K rM "ValueError" = AC AD)
  (b11:aC K rM "max" = AC AD)
  (b12:aC K rM "reversed" = AC AD)
  (b13:aC K rM "zip" = AC AD)
  (b14:aC K rM "sum" = AC AD)
  (b15:aC K rM "sorted" = AC AD)
  : ∃fd:rW,(∀(s:rS) (v:rR),tN s fd #[[v],[]] [("_law_script",v)])/\∀base:sq,K.In base->base.Ns rM mg->ux mg base cc T->ux mg base cc2 T2->ux mg base cc3 T3->FnOk l.prog w K mg base CX0 12 fa fd ["_law_script"] (XM K T T2 T3):=by
 have e:=hfa.symm.trans (aI X G a51);cases e;have B:Bt mg:=#[aM X G b0,aM X G b1,aM X G b2,aM X G b3,aM X G b4,aM X G b5,aM X G b6,aM X G b7,aM X G b8,aM X G b9,aM X G b10,aM X G b11,aM X G b12,aM X G b13,aM X G b14,aM X G b15];have F6:FunD K "gone" "gone" vz (.ref nN) f6 (be "gone" "gone" (yG vz) (zZ vz) (zg vz) (.ref nN) kV6 dc6 pm6 an6 cd6 ct6):=⟨#[_,_,_,_,_,_,_,_,_,rfl,l6,k6]⟩;have M6:=aI X G a6;let#[M46,p46,_,F46]:=a46.mk X G;have B46:=F46.binds (ps:=["_law_rows","_law_cell_here","_law_changed"]) nofun;have F47:=fun_mk (st:=yh) l47 k47 p47;have M47:=aI X G a47;have F48:=fun_mk (st:=yo) l48 k48 p48;have M48:=aI X G a48;have F49:=fun_mk (st:=zL) l49 k49 p49;have M49:=aI X G a49;have F51:=fun_mk (st:=qM) l51 k51 p51;have B51:=F51.binds (ps:=["_law_script"]) nofun;have M51:=aI X G a51
 have HCC:cd47=.ref cc:=by
  let#[ai,oi,fdi,m1,m2,m3,m4]:=hlam.1;have e1:=m1.symm.trans (aI X G a47);cases e1;have e2:=m2.symm.trans (X _ _ l47);cases e2;cases m3;exact m4
 have HCC2:cd48=.ref cc2:=by
  let#[ai,oi,fdi,m1,m2,m3,m4]:=hlam2.1;have e1:=m1.symm.trans (aI X G a48);cases e1;have e2:=m2.symm.trans (X _ _ l48);cases e2;cases m3;exact m4
 have HCC3:cd49=.ref cc3:=by
  let#[ai,oi,fdi,m1,m2,m3,m4]:=hlam3.1;have e1:=m1.symm.trans (aI X G a49);cases e1;have e2:=m2.symm.trans (X _ _ l49);cases e2;cases m3;exact m4
 refine#[be "law" "law" (yG qM) (zZ qM) (zg qM) .none kV51 dc51 pm51 an51 cd51 ct51,λs v=>.of_eq rfl,λbase Z Z HT1 HT2 HT3=>?_];have hg1:=hlam.2;have hg2:=hlam2.2;have hg3:=hlam3.2;have TL:zeh K mg gn:=#[XIl,xi,aI X G g_NoLetters,t6,aI X G most];have TN:zeC K mg gy:=#[XIo,yi,aI X G g_NoOrder,t7,aI X G mostw];have TO:TOrd K mg gg gf ge:=#[#[nY,nZ,oa,og],#[mf,mh,mi,mj],#[mr,ms,mv,my],aI X G g_Order,aI X G g_FromRight,aI X G g_ByWeights,om,mq,mC,nw_ByWeights];have TNt:TNT K mg gi:=#[XIt,aI X G g_NotTurned,nn];have FI:=fun_mk (st:=ye) lI kI pI;have BI:=FI.binds (ps:=["self","number"]) nofun;have TD:DNT l.prog w K mg base gi:=#[TNt,_,_,ini,fnI,uB TNt FI,BI];have TS:za9 K mg gj:=#[#[nD,nE,nF,nG],aI X G g_System,no_System,nr_System];have TWi:zeo mg:=#[t8,aI X G win];have TNu:TNU K mg gr:=#[XIu,aI X G g_NoUse,ua];have FU:=fun_mk (st:=yy) lU kU pU;have BU:=FU.binds (ps:=["self","at"]) nofun;have TUd:DNU l.prog w K mg base gr:=#[TNu,_,_,iniU,fnU,kg TNu FU,BU];have TF:zee K mg gq:=#[XIf,vi,aI X G g_TooFar];have TNw:zct K mg gm:=#[XIq,nwi,aI X G g_NoWorld,t9,aI X G mostr];have CLw:Kj K mg gh:=#[#[oo,oq,ot,ou],aI X G g_World,oz,nt_World];have THu:DNH l.prog w K mg base gr:=#[TNu,_,_,iniU,fnU,jr TNu FU,BU];have TNcU:TNc K mg gr:=#[XIu,aI X G g_NoUse,subU];have TMlk:TMl mg:=#[tml,aI X G mml];have TQcW:TQc K mg gm:=#[XIq,aI X G g_NoWorld,subQ];have d:=λ{x st f CX k ps sp}(q:FnA K x st f) H hb=>FnA.df l.prog w base (CX:=CX) (k:=k) (ps:=ps) (sp:=sp) q X G H hb;have D0:=d a0 (λF=>Jr F) nofun;have D1:=d a1 (λF=>kK B TL F D0) nofun;have D2:=d a2 (λF=>ZJ B F) nofun;have D3:=d a3 (λF=>zbT B TUd F D2) nofun;let#[_,gY]:=lG;have pz:=gY.kp;have lQ:=gY.binds (ps:=["self","letters"]) nofun;have pA:DMk l.prog w K mg base CX0 3 gg ["self","letters"] (u7 K):=#[_,_,#[oh,lF,iM,oj],wc B gY D1,lQ];have DI:DOI l.prog w K mg base gg:=#[_,_,#[sgO,rdO,fcO,pz],wc B gY D1,lQ];let#[_,io]:=iU;have mK:=io.kp;have mL:=io.binds (ps:=["self","word"]) nofun;have oI:DM l.prog w K mg base CX0 1 gg "weight" ["self","word"] kd:=#[_,_,#[iT,im,mK],wz B io,mL];let#[_,iO]:=lJ;have nh:=iO.kp;have ni:=iO.binds (ps:=["self","word"]) nofun;have pB:DM l.prog w K mg base CX0 1 gg "seen" ["self","word"] X8:=#[_,_,#[lH,iN,nh],v0 B iO,ni];let#[_,iJ]:=iE;have nP:=iJ.kp;have nQ:=iJ.binds (ps:=["self","word"]) nofun;have nR:DM l.prog w K mg base CX0 1 gf "seen" ["self","word"] YL:=#[_,_,#[iD,iF,nP],uf B iJ,nQ];let#[_,iK]:=iH;have re:=iK.kp;have nS:=iK.binds (ps:=["self","letters","weights"]) nofun;have nU:DMk l.prog w K mg base (CXx l.prog w) 4 ge ["self","letters","weights"] (kM K ge):=#[_,_,#[mz,iG,iI,mB],uu B TO TN DI iK,nS];let#[_,ij]:=ie;have nj:=ij.kp;have nk:=ij.binds (ps:=["self","word"]) nofun;have nq:DM l.prog w K mg base CX0 1 ge "weight" ["self","word"] (Y4 ge):=#[_,_,#[ic,ig,nj],vE B TO ij,nk];have TT:TWS l.prog w K mg base gg gf ge:=#[TO,pA,#[_,_,#[ml,fiR_init,iM,mm],wc B gY D1,lQ],nU,oI,#[_,_,#[fiR_weight,im,mK],wz B io,mL],nq,pB,nR,#[_,_,#[fiW_seen,iN,nh],v0 B iO,ni]];let#[_,gZ]:=lL;have lS:=gZ.kp;have lT:=gZ.binds (ps:=["self","word"]) nofun;have pC:DM l.prog w K mg base CX0 2 gg "rank" ["self","word"] (Xg gg gf ge):=#[_,_,#[lK,gX,lS],we B TT gZ,lT];have DRk:DR l.prog w K mg base gg gf ge:=⟨λC h=>by rcases h with e | e | e; (rw[e];exact#[TO.cO,pC]); (rw[e];exact#[TO.cR,#[_,_,#[fiR_rank,gX,lS],we B TT gZ,lT]]); (rw[e];exact#[TO.cW,#[_,_,#[fiW_rank,gX,lS],we B TT gZ,lT]])⟩;let#[_,gF]:=iW;have lg:=gF.kp;have lh:=gF.binds (ps:=["self","one","other"]) nofun;have oJ:DM l.prog w K mg base CX0 3 gg "before" ["self","one","other"] (Vv gg gf ge):=#[_,_,#[iV,gE,lg],xq B DRk gF,lh];have DBk:DB l.prog w K mg base gg gf ge:=⟨λC h=>by rcases h with e | e | e; (rw[e];exact#[TO.cO,oJ]); (rw[e];exact#[TO.cR,#[_,_,#[fiR_before,gE,lg],xq B DRk gF,lh]]); (rw[e];exact#[TO.cW,#[_,_,#[fiW_before,gE,lg],xq B DRk gF,lh]])⟩;have D4:=d a4 (λF=>qD B F) nofun;have D5:=d a5 (λF=>kJ B TWi F D4) nofun;have O6:=Kq (P:=l.prog) (w:=w) (base:=base) B TF TUd F6 D5 D3;have D6:Df l.prog w K mg base (CXx l.prog w) 4 "gone" ["rules","word","most"] [] (vI K gq):=#[_,_,O6,M6,p6,λs us hK hl=>by let#[_,_,_,rfl]:=qA (us:=us) ↥hl;exact BindsTo.of_defaults rfl (hK _ _ nO) rfl rfl rfl];have D6d:Df l.prog w K mg base (CXx l.prog w) 4 "gone" ["rules","word","most"] [.int 4000 mP] (vI K gq):=#[_,_,O6,M6,p6,λs us hK hl=>by let#[_,_,rfl]:=jk (us:=us) ↥hl;exact BindsTo.of_defaults rfl (hK _ _ nO) rfl rfl rfl];have D7:=d a7 (λF=>zaI B TUd F D3) nofun;have D8:=d a8 (λF=>Vw B THu subU F D7) nofun;have D9:=d a9 (λF=>YA B F) nofun;have D10:=d a10 (λF=>QD B TT F) nofun;let#[_,lB]:=lw;have rA:=lB.kp;have oX:=lB.binds (ps:=["self","order","rules"]) nofun;have oY:DMk l.prog w K mg base (CXx l.prog w) 5 gj ["self","order","rules"] (qe K gg gf ge gi gj):=#[_,_,#[nH,lv,lx,nI],jA B TD TS DBk lB,oX];have MS:MkS l.prog w K mg base gg gf ge gi gj:=oY;have D11:=d a11 (λF=>Zr B TS MS F D9) nofun;let#[_,iw]:=ir;have nJ:=iw.kp;have nK:=iw.binds (ps:=["self","word"]) nofun;have nL:DM l.prog w K mg base (CXx l.prog w) 5 gj "shortest" ["self","word"] (qg K gj):=#[_,_,#[iq,iu,nJ],vP B TS iw D6 D6d,nK];have D12:=d a12 (λF=>Jy B F) nofun;have D13:=d a13 (λF=>Ys B F D12) nofun;have D14:=d a14 (λF=>zaK B F D3) nofun;have D15:=d a15 (λF=>WH B F D6 D6d) nofun;have D16:=d a16 (λF=>Uc B F D14 D15) nofun;let#[_,gM]:=gK;have mY:=gM.kp;have mZ:=gM.binds (ps:=["self"]) nofun;have nc:DM l.prog w K mg base CX0 1 gj "rules_told" ["self"] (j9 K gj):=#[_,_,#[gJ,gL,mY],vo B TS gM,mZ];have D17:=d a17 (λF=>Y2 B TNw F) nofun;let#[_,lV]:=lN;have rB:=lV.kp;have pD:=lV.binds (ps:=["self","letters","table"]) nofun;have pE:DMk l.prog w K mg base (CXx l.prog w) 4 gh ["self","letters","table"] (uw gn gm gh):=#[_,_,#[ow,lM,lP,oy],Ze B CLw lV D1 D17,pD];let#[_,lC]:=lz;have oZ:=lC.kp;have pb:=lC.binds (ps:=["self"]) nofun;have pc:DM l.prog w K mg base CX0 1 gh "rooms" ["self"] (qj gh):=#[_,_,#[ly,lA,oZ],jo B CLw lC,pb];let#[_,mG]:=mE;have pM:=mG.kp;have pN:=mG.binds (ps:=["self","room","word"]) nofun;have nM:DM l.prog w K mg base CX0 1 gh "led" ["self","room","word"] (qw gh):=#[_,_,#[mD,mF,pM],ZN B CLw mG,pN];let#[_,li]:=iY;have oK:=li.kp;have oM:=li.binds (ps:=["self","one","other"]) nofun;have oN:DM l.prog w K mg base CX0 2 gh "parted" ["self","one","other"] (w9 gh):=#[_,_,#[iX,iZ,oK],je B CLw li pc nM,oM];let#[_,lj]:=lb;have oO:=lj.kp;have oP:=lj.binds (ps:=["self","pacts"]) nofun;have oQ:DM l.prog w K mg base CX0 3 gh "broken" ["self","pacts"] (ur K gh):=#[_,_,#[la,lc,oO],qB B CLw lj oN,oP];have D18:=d a18 (λF=>jt B CLw F nM oQ) nofun;have D19:=d a19 (λF=>Q8 B TNcU F D8) nofun;have D20:=d a20 (λF=>qJ B DBk F D19) nofun;have D21:=d a21 (λF=>Y0 B TMlk F D13 D16) nofun;have D22:=d a22 (λF=>jv B TS F D21 nL nc) nofun;have D23:=d a23 (λF=>jx B TF F D22 D20 D11) nofun;have D24:=d a24 (λF=>ji B CLw TQcW F D18 pE) nofun;have D25:=d a25 (λF=>UD B TO F D19 D23 D24) nofun;have D26:=d a26 (λF=>KO B F) nofun;have D27:=d a27 (λF=>Qx B F) nofun;have D28:=d a28 (λF=>WR B F D27) nofun;have D29:=d a29 (λF=>zaW B F) nofun;have D30:=d a30 (λF=>zaQ B F D29 D27) nofun;have D31:=d a31 (λF=>Ui B F) nofun;have D32:=d a32 (λF=>za2 B F D31) nofun;have D33:=d a33 (λF=>QM B F D32 D31 D27) nofun;have D34:=d a34 (λF=>zcA B F D31) nofun;have D35:=d a35 (λF=>Kz B F) nofun;have D36:=d a36 (λF=>zap B ⟨(aM X G nmin)⟩ F) nofun;have D37:=d a37 (λF=>zaE B ⟨(aM X G nmin)⟩ F D36) nofun;have D38:=d a38 (λF=>uV B (aM X G nany) F D37 D36 D35 D34) nofun;have D39:=d a39 (λF=>Q3 B #[ki,kb] F) nofun;have D40:=d a40 (λF=>Yw B ⟨kl⟩ F D39) nofun;have D41:=d a41 (λF=>zck B F) nofun;have D42:=d a42 (λF=>QO B F D41) nofun;have D43:=d a43 (λF=>WE B F D40 D42) nofun;have D44:=d a44 (λF=>Ud B F) nofun;have D45:=d a45 (λF=>zcd B F D38 D41 D34 D40 D42) nofun;have D46:DfE l.prog w K mg base 2 "_law_spoilt" ["_law_rows","_law_cell_here","_law_changed"] (xR K):=#[_,_,λL cl cvs hL=>V5 B hL F46 D27,M46,p46,B46];have D47:=dfm l.prog w base (jq B HT1 hg1 F47 HCC D33 D34 D27 D46 D26) M47 p47 (F47.binds nofun);have D48:=dfm l.prog w base (jy B HT2 hg2 F48 HCC2 D27 D46 D26) M48 p48 (F48.binds nofun);have D49:=dfm l.prog w base (uW B HT3 hg3 F49 HCC3 D36 D35 D46) M49 p49 (F49.binds nofun);have D50:=d a50 (λF=>ZS B TT ⟨kbb⟩ F D25 D27) nofun;exact zb3 B ⟨kbb⟩ F51 D26 D28 D44 D25 D50 D30 D29 D47 D48 D49 D10 D45 D27 D43
def walk{l:PySem.W.OpenLaw}{q:rX}{loose:List rV}{XP:(rV->Option rR)->sq->Prop}{YP:sk->sq->Prop}{d:DefRec}{K:Params->rP}(hn:l.most=AC 63)(hdf:d.params.defaults=[])(hY:∀(w:sk) (h:sq),YP w h->(K w.params).In h) (hj:((d5 q).find? λr=>r.name ==("_law_steps_paper" : rV)).isSome=AE) (hj':((d5 q).find? λr=>r.name ==("_law_table_paper" : rV)).isSome=AE) (hk:((d5 q).find? λr=>r.name ==("_law_entries_paper" : rV)).isSome=AE) (hno:∀w:sk,KQ (K w.params)=AE)(F:∀(w:sk) (mg:rV->Option rR) (fa:rQ) (h:sq) (c1 T1 c2 T2 c3 T3:rQ),(K w.params).In h->h.Ns rM mg->mg d.name=AC (.ref fa)->vv mg h "_law_steps_paper" c1 T1->vv mg h "_law_table_paper" c2 T2->vv mg h "_law_entries_paper" c3 T3 ->
   ∃fd:rW,(∀(s:rS) (u:rR),tN s fd #[[u],[]] [("_law_script",u)])/\∀base:sq,(K w.params).In base->base.Ns rM mg->ux mg base c1 T1->ux mg base c2 T2->ux mg base c3 T3->FnOk l.prog w (K w.params) mg base CX0 12 fa fd ["_law_script"] (XM (K w.params) T1 T2 T3)) :
  PySem.W.WalkO q loose XP YP l.row.toRowW d [] (λf vs=>gd f vs):=by
 let#[da,h1]:=AS.mp hj;let#[db,h2]:=AS.mp hj';let#[dc,h3]:=AS.mp hk;have n1:da.name="_law_steps_paper":=by simpa using cQ h1
 have n2:db.name="_law_table_paper":=by simpa using cQ h2
 have n3:dc.name="_law_entries_paper":=by simpa using cQ h3
 exact L3.walk_ofT3 (n:=63) (k:=12) (x:="_law_script") (CX:=λZ=>CX0) (da:=da) (db:=db) (dc:=dc) (sp:=λw T1 T2 T3=>XM (K w.params) T1 T2 T3) hn ∅ hdf #[rfl,∅,∅] (cD h1) (cD h2) (cD h3) hY hno (λw mg fa h c1 T1 c2 T2 c3 T3 a b c e1 e2 e3=>F w mg fa h c1 T1 c2 T2 c3 T3 a b c (n1 ▸ e1) (n2 ▸ e2) (n3 ▸ e3)) (λZ Z a ns T1 T2 T3 hl hB hT hT2 hT3 hS=>#[a,ns,rfl,hS,hB,hT,hT2,hT3,λZ=>rfl]) λZ Z Z Z Z z=>z
end LL
namespace PySem.W.Fast
local macro_rules | `(#print $s:str)=>do let c:=s.getString.toList;let d<-(List.range (c.length/10)).mapM λi=>`(def $(mkIdent (.mkSimple s!"tw{((c.drop (10*i)).take 10).foldl (λa x=>let n:=x.toNat;a*86+(n-36-if n>92 then 5 else if n>64 then 3 else if n>47 then 2 else if n>45 then 1 else 0)) 0}")):ident:=Nat);return Lean.mkNullNode d.toArray
#print "EHLx(Cnl6KXMx6)^5Ua%0D:G|Nw_gH2Z`|w>rbN07Bb3=D_tVVRq))o?rk7_(>8gOy0o1f>0Fg_0MP5En`AT]J74ISZqNg%A*Y=U+t(3}LW:';?E_50<U1HTUc_WnNqwrFh~OW1Bw:xWh(V^t*0z<qlOC6QDI6M<>2Zb}C9BMILV93.K'jwZ>>8nR:MCd&JZVSI:u's,'w%1mKrZ]Nod*Mc=476^=Uzz}X2&dkP+)J&QA<0M^PpA):=e5vP3FKgD}wpK`Gz|{>5&~Q<=RHy(ROLrdi$iSx.M7]k&bv5H>WfIj3ePXw{MJklqe$<&4(j$WL;%_U(e$aVDjI0)G&^$]cy0^uTtrubjKuBtsJTPc`|;nTqYXz&;Er4_$`xW$$3PYPvvt?gEXyCxz|REnSxeG=vTmu_7X;{^MUEw=CzhD3^EWTVXqFu1qO{.Pd{qMU8})pQkI%ZB5Ds^fbMGEBM^3c,WmUiOiu;v'I7*d^%SJr4'ItaVzxyZ=jG2YR')yAT*<J(bUVkK2Q8x=?yaQi``=GBQV_wx%=a6$|w?$ioq)1IbNqLKgFvUnYOWB8+NOx=]Sx$FZ9AXNb6.CFEuhB:GvMVy(=3>U<,*?g5HgmFvfI^kKD`C$Ld~WiV^5UxN_8=n],|cL,^w+V5$6=+]O8KT6]sXR5=_gCj3S;Vr5L:>PC>umoEi<?5=aBEXsUuZVMihXT7DxG?K(2~;;.w.,FjR`m^23TJjy7=j(R$mM{F`Xt8U7PlbxqMJU1IJc6k^=)nph,5>H3VDKzFJfIfkQ3q{tXhNG;RKuv}F^`on~g%iq}:GYCnxV)(Kcr*bkCE)c&4>zluOu_OY)WZ1NQ=^x)D=:3y}_D`NA&Q)WAzfAHOytX}nXx'^V$s_z(?3`T_v|qPr:NxIOSO~IY{(+I8dENbket<8ZPWA|:b>YJAS^X5%|KD<R|G9Y0ea|o0V*VsK<x5Jal4G+ioUmtC3Os=~SBihPV84yj>+6H0T9NqFpc`c'UxFbwTSQX%y7b=SWJZlMI<Uj77GFKey<?$9JYkzhD})]U<us5Bhq6<HS*>]NCol6k<sNtDhtD3%XMrpa8jN]|YT7>.mZ>o]P>zzJBXL$=Px5??bld_{`.7Ggr7>(5lD'?A&bs?tq5`VK_Eic`c*U77e306jlFA%>?cIN&{iJVg;BDSQ$%qfZVN(w~A_EJN>]lGZ8aTI2$iOg*|=wiUR^(j|>PL;b=2R2eagpc8D$~iNXvY{2A?xZdf{=b]7vW6nG.ceXjkiLa:~a.EGKf|?)vAIP9q*<BNq<z5ngK~435wbAg66meVS9EQQ8'B2;gwq*,}$cLQ3L_<POg.;:0C8Kz,,5,jZe5F=vLn$v'=%`k_{m~&ygrFJDA~kSh4Q$>e:okM,,:Rp4ym+vSeD5>CFYa5Y)HSl9xLsW$N}LjRqTVd?RVKwD<W8vzh7&7yQNyb.pAJlCnUm^5Z6^C>:++3X9$aK:';1$wRsX)><Os^dnr5*8956S=Qp`RKM0s+DPH(*'gYRs<uTA9b_<+0:K)gvVf4Tid9m'1&^Uu*dXJTZ_tn7*<}ALvez?=zx`$d$+ONpf.5X_e=$%7My+}gE:$:kbjSQUP02E;tNnco}A^cU],Te]zrh3au.'h(i8ac2}dxqCksmL`*ygYI1t(){eeUX'Sc4t>d_7=lNvLO31~Q1IQNmvUwst|W?=Orn7O^6O8ZEi(im*P+%khp3dVly>e,`9H]58pU^ET`PF^6Z2T0T;Tr>tES0%tGdyga=p<|f2K1d3^kM<]c8*?):*~..evQ5&tWz^+AV>}?q5Ue'bTtA9y?cx85(SqdoR3|}JOXXTAWMko9]GGa~Pj))g`r)Cqou<yJ2jJvbm0jU7QE,4G4m6j?^J?2PPS{aKNB784oqpzquf&L;QMhlYLx2j}LIL.GM]nkT?TLAVawT;XH~JZ]Q7McsW|Vk<ofC`>$64O9fPGJc5HR.KK}HFb,4VGz]_]8`kCltnRAfJdm_LTgp;:BL]EZu.lH~}d9LFT^Q?_>t+:%|6x%{OT]dp=%uI5oY1B<+{_}8|ef]2X%)VZLVDLi5=t3{?p%eTG799)`Y)=6R_1tlWiEjqx5g&UE$+3z8XJJz00)g,}D$+KTg;BI(lq1XtnD)lAA2dj>q0F2B_hz*]yK'`4KI.'mQTC*sX`XhnZ<%CSrUe6ArWWGa3Gw]Wd>IANa`QaiSO^`>ugg4IX5v<kr'.;$A$3&p>~_,^:PH>kRWil.L2KLk%=pS|zh~x|r?`8Wq*2^,kWAt$?:qv7<.Y*8Rm=mBF~CTASKfrCOYMDcH:|^0?s~Vs:nJA]~=4Iz&=:0VqwV|rTWaiY(h7rVgWU9*?U%cJY$&8FsrjRQYoAAgjG$r}**?NBCZ:_aIXLE9>OQ2q,0N>*QA^6AJTRa)5?pA|%nVatOiItc02W>;avWl8jBBOS%J`=D=OC:='pa0uX(BT)_hemX:WS(HX1J5bF%jY~C4Nhb&HivN8GGE3X2AwPmh:y)0WmG?zcn=klaKQq+R$;f3C(C]qpb%fl%3<_Jp<.WPa$;n|p,R(LCOTiP0F1^wf~2Za)o~4D'n0%Ea7`G.V0n('KR%cr^MdQ0{A?^JRazEepnyjw(vX_PS6EY<++s?Lk$:ANhwtWUr't3Wfx{ER|lP9wE^sdHistxo%;iLvE6LGwPSOoOgdfQ,JF_3wZ8B>>97,(ARlC9Pjs^naV;}0f7%(T<Jg<=MQg*aj_sr4{n(.LYMBxW96^7'dk}zyek+auNPd?bCgLKv7O=BLC`Wiu7}VE]Q+qz7purTn6?7RO'VZ;UgpFZe:J^(B^UcVS3a&%YE&^99JE5E_}ISJ*SG}(m2f<.5]%.Du0]x=k86XuCK6^QTHmf%kF;o00O_%zr,ogop'G]qBP;yGU;VwPtI)0?,<~sG~nD.3S*>*=]i)'%CT}P?VUfFb(e*e]r]2Uq8En6M]=avB424Ecom3Vq=rg4{9LDLSmP)l`$vD0YISrsCnJ,Y=5SMy)9:pbOc9F3b>=INFy<`hK{bW2,z5)5&X&nn6WI&FKZ:D^x)g?hyv9YlyRI7VvebR*=9|$I}A1b?%7hD9m5`3t>RTK%%Y,m*9T^{.nj]ORrOQYwMZrSym<30wQM)&_+]g.&p|Ak(1?TDTowz8I}*5+PNKghM+'PEt_=+9uq6z<QyHf>?cCKMZA.._c6WpZtkrT2cC<X^kkgY$2KcTqG~2lVtvI{b8]fJK8;39Z'BU]32i*mUL|QJ89ZioH.g>ngB{0{a2_V~Vi+LCOYr(|6'Gp`S]]+)g5Lw+Zhwu`Iy^C.KsW6BW6BH*OjdXK&fKT3SCH=JXB&NdGzg3A&A7|&p();B4kV42kVkDb&EBH3j)G{?$Q.:^F?L1mapzT31zH|cNn:>L_v+60Wdm|i}jiblFgvGhN8.>^WP}xy?>{sDFoSLY}Cb1M>*hSRmz:IX%?0SBlvA)zYEEVZRMjrB+GW?*zXJz,OaTw8teU}+5$s<=i{Rp()OdRqct1%`cNs%RSU>;DZcrblX=JG?7JkIYQ:%eE<ryHvP''Mo2`TpK{,Pt(*bS%nXpj>BasiY+:sPXNY6<N;`TkX>f9~tNpu|oBUqt92n;b;e=TXS?EzC6F.e+c^5,mR$:f?|xX}~1BSn<FQl`47'Wh4kG$sJ;Q)g^$kYBw]u4j6$<4d~8ij|St6x%T7)1J)2FzqOc8UodYMneqJyQmkaGJt]7LOtk+6~3o5CbWgc;iCt&,M]`EvP?]}UI{]+9.1VF%UF_Sn9ysW8Mt]?3i|JWWmOCyz,S]IATK7H{rk:x,XWQw{]?4v=n&lWgR2BX)lAs*7aB'x4S>4msOOB6h3cG+gA{=M1gY;&9u,=9f>aQSg*$%?b>bwQ8OBz+BJxG|W)+_R`9d>D+tP8_OV9V:=tO^2^,m^jy2ww5LA9IIUSqAtYH]15$)Ce+}h'Jk4}++m4R0$e$D;20VY{u{batbhU8&ytKAwQ2.%?JymMsL:HD:{Yzmx$F4a7YySY:w|HF?v<6XK2Z(8Ss`&<H&0J&447%3CH]`6Ey|5NF,Q87q'j65%sEbE&9;tsON?x5>'?3,HgyJB>L}UjJH2L5yfKl3M%B7(1TU]g4G8>J?Ns,LO)hR6I{ZKWg8.ElLek+*7Q*KAIv4:3Z*x1TY+P5|5gOn&3=YOr42`+&x|ZgX+ad7]<1af)%uwM_uzgb>`B5TE03Qxad'k~fDag<6c7U71itklWn](<M_Wk%gUB7z>,kW?%am=>a~TgzLU%QLmnTKz,8iSxiOa'PfW05FJl&wQU]yf8+S78<p{%E;l=n8tyS1hEp0d)OLf$']UkGlgDfCuR'S7>WRAL40NtfC'|mO{;4Nq(tvbZ1P&VHGJPMIYKIS39+o*.ELfKe'e4xGYCJU7wgDEWMA>kDx7~mYFF*;S;Bf48k`Z}MR:`~Y&(%S4*54]|NQiiH6j;<Hp*_LP?KnSOZN1N.8Ujr.<wA_oGgV&WK7;F]]S+cdk?3UH1~44CzPWl|OQ}OSLci<]VV}h>CPm~1Z={>5VN:&(tHc^2'6&hscB|D(1onhGU,sxb`uC)zPC98<>C%n,EnWFO}E&'nrXm$G1iRt,]~N6Dq~=2ic'iV_iXOqkA=2^}li.J%X>:OV]y=';R99+=lVDA*=3$]97wOx79Tq3VSZ$b8lNY57:IKV]B|&J%Xi.klWcvxv;;Rc'V?N^NI6M8'Pp?n*j88V?x5=+qWMi^a(t*DHsen9NTub;?+w7(YNrMCtw,8M]Hj'fn>.'RS10b74v=%Didna5`&O=xE4,8lqtNR+7S7qT`$gWC$:2YdJ6Y(km4k5v9M5Tdn28^+HYt>]E+tTHu+iY?GWxu?AMc?b`tL9NvSjm0`CUdR)WoBs`>0e|]D'EEJTKNs?Y(lLs<4_wP+EK`}zzGgAhmhY3{:DAR%L'C^a~G^y;j]PzJ^,??P__|]K?&H}xk2Z9(}6)KnrWvgF.mVjZRBj?M.2{+<cY4BP`g.N}iHnF<Z=2'FR:nSjV5*]'S,%>1ll_4}o]yU,lMLy_p'bmTH*%j$SexUC`b+N'TG7taW8_DFw8*cc_zq:*}4rYYa04g8f>xA=d|6h)BmM.Vj0YXBb7dMbvr`{C}UD*`QcVgx:Ice^V;~Gmyl))8y<4Sz2gWJaT4_'$JgbZ]Y].'md'V|A~}KzxIQU^FE(RhzW;q;m+rN+N0;VE|l=hA1WTnXC`N8ndQ6oaa?2Tf`yJEME.qq&zUDTokn8EiH{Na:(.0~>+%hb=_kOs2Da,va`~5XCy%$o_i&.HTh54&S,MrO3D,M=Jjxe6Q_6(yZyQdPGa.f9w1;gAtwfe)h(a&lSYZ=+q4Swu`qTc3:9HS9OdBWlu)bgD5AzPI~t::I+=E:`.Zl*ce(PCA%:{4TN.kQ>*4A,5^tJkchq^_BbYnlL_6,MODm(gSb:;|^|XJo&}H.*N.`f]7B_7{)1yMbGNJ1FeeAdZ)*~?76()gc6LHYhXz?&P_K2n+3*>PHOrQS]7&DAhV?+Qr<,M85`Z%v=TPm0g]&ADd2jqRl?Z7ea4x)N;ge~&Vw9$:Yp='z3$f)D_CA)TAhDgWV1(FSj7$j7PlyAV;jT$NFX?WfG]LNCBBy}|e'eOmNk~|R%t34616$.,7N;vuNs^O'{Y>M>KcJBKWLY6|'2MMG9PqUF2(AKo_YsI4fEU]y?,3tSlur'yVqt*8onJ9S$ecLiZj.he~l10^TucO5Y%.BPKJUMD|]GbF%3k?=mby.oC>&O(ISWJ?;CmX~7S5|.0,j}y_wG~)R6*d_jVH;&8EH6YZ>DEGW<r_BNT$i{`=+K)E]pj;W_v.=_OK1=8Uo(bPAT87LiD''DO3h+LdPlXVpiD_khia6iBnwCkJegCbt)5Q2Hvy=gaWb^,O,tg5YnRxg5REQ;xBU'%r`Wh%}h(e8GLvFy4mM`8])UeLFczFA5m}Wn`jXVGTB:dviFZvn2S2Hyhj+K]6tk'iK)k<Q?$,)uny`Ug7+X~L4+'b0^c'ZOkQ}C&Phd<n%=em]RX_>S9BU+.xHd^CgGCdIF:h,~t8)yQZJi7YYya{2sqpI,3)^ofAVQDlB}6m$M~T){O&sgUC:YsT*d,iT3130ZBw:yF6hJ]C66ZZgX>RE7NO_3$Cq7)NQ_)n8XnC=}(R'1J*sRkr;5.28H0w`:p,yzp,_+}eT|f69cSyf6T(+^^BC~6>uDo<<b%'fETOUE9:vk84`_Aj?i8P>>|e85NqtfbOOJY^Md]n4R~2?<`do8_HE8+1p(+;Awpdb$T]N{GMVu&VYW+tOvs6Wzdhiwg;>_i|e)T]S)2j~FbI+H{FhSa>Va<1HJdhq|Y^R=:PT]_OkW.r*tojLb.4rVZPh:rxmdX+6ngEhhWzOo(<|K50Y.y+{RbaT3R2xT5G}3yyg^dL+<}Zy:RaP:5|2vY+^pAbJUX)DbY*H8:$1,Ea&u,zf3hnPR(KM*&{J$5Mj0)R,yFo.T'?+h](wh9P9o:Z}fAQ0B.c;~;ajpN4e<mec8fG;Y,ex3u2ef%Yda7?sI(g'KOwgCWuL+'d7rSn7isTCv%=iz&,AT2W+:bb29mM{Di3uNmb(3yg&|&muIge2cG;FUNy0jSW&`=ZBLMZO?Pd^qjGS]*wMY&))]fd(GS4+'CK,bl`n=Is.o'kEB%cD.KLoF>zl%*+9^ipd<MWz=P59=iA2b$*+'AlpZ66'%2?B_vxa99`xQnX%b"
end PySem.W.Fast
open PySem PySem.W PyProof.Rows
set_option maxRecDepth 100000 in
set_option maxHeartbeats 0 in
theorem PySem.Challenge.cw_letterlaw_k87_papers_looked_at_holds : PySem.Challenge.rw_letterlaw_k87_papers_looked_at.Holds := by
 w_on;o_law;k_head; (case hw=>w_witness2)
 k_fill
 refine LL.walk (l:=PySem.Challenge.rw_letterlaw_k87_papers_looked_at) rfl rfl (λw h Y=>PySem.W.km_in_of Y) ?hJJ ?hJK ?hJL ?hNN ?hFF
 case hJJ=>first | kernel_rfl | rfl | decide +kernel
 case hJK=>first | kernel_rfl | rfl | decide +kernel
 case hJL=>first | kernel_rfl | rfl | decide +kernel
 case hNN=>intro w;first | kernel_rfl | rfl
 case hFF =>
  intro w mg fa h cc T cc2 T2 cc3 T3 KX G hmg hlam hlam2 hlam3
  refine' LL.all_mk KX G hmg hlam hlam2 hlam3 ?a0 ?a1 ?a2 ?a3 ?a4 ?a5 ?a6 ?l6 ?k6 ?p6 ?a7 ?a8 ?a9 ?a10 ?a11 ?a12 ?a13 ?a14 ?a15 ?a16 ?a17 ?a18 ?a19 ?a20 ?a21 ?a22 ?a23 ?a24 ?a25 ?a26 ?a27 ?a28 ?a29 ?a30 ?a31 ?a32 ?a33 ?a34 ?a35 ?a36 ?a37 ?a38 ?a39 ?a40 ?a41 ?a42 ?a43 ?a44 ?a45 ?a46 ?a47 ?l47 ?k47 ?p47 ?a48 ?l48 ?k48 ?p48 ?a49 ?l49 ?k49 ?p49 ?a50 ?a51 ?l51 ?k51 ?p51 ?g_LetterError ?g_NoLetters ?g_NoOrder ?g_Order ?g_FromRight ?g_ByWeights ?g_NotTurned ?g_System ?g_NoUse ?g_TooFar ?g_NoWorld ?g_World ?kbb ?kt ?ki ?kb ?kl ?XIl ?xi ?XIo ?yi ?most ?mostw ?nY ?nZ ?oa ?og ?oh ?oj ?om ?pJ ?pK ?pL ?mf ?mh ?mi ?mj ?ml ?mm ?mq ?nw ?ny ?nz ?mr ?ms ?mv ?my ?mz ?mB ?mC ?nA ?nB ?nC ?nw_ByWeights ?sgO ?rdO ?win ?XIt ?nn ?ini ?lI ?kI ?pI ?fnI ?nD ?nE ?nF ?nG ?nH ?nI ?no_System ?nr_System ?XIu ?ua ?iniU ?lU ?kU ?pU ?fnU ?XIf ?vi ?sFF ?XIq ?nwi ?mostr ?oo ?oq ?ot ?ou ?ow ?oy ?oz ?nt_World ?ks ?nmin ?nany ?subU ?mml ?subQ ?lF ?lG ?iM ?iT ?iU ?im ?lH ?lJ ?iN ?iD ?iE ?iF ?iG ?iH ?iI ?ic ?ie ?ig ?lK ?lL ?gX ?iV ?iW ?gE ?lv ?lw ?lx ?iq ?ir ?iu ?gJ ?gK ?gL ?lM ?lN ?lP ?ly ?lz ?lA ?mD ?mE ?mF ?iX ?iY ?iZ ?la ?lb ?lc ?nO ?fcO ?fiR_init ?fiR_weight ?fiW_seen ?fiR_rank ?fiW_rank ?fiR_before ?fiW_before ?b0 ?b1 ?b2 ?b3 ?b4 ?b5 ?b6 ?b7 ?b8 ?b9 ?b10 ?b11 ?b12 ?b13 ?b14 ?b15
  (case a0|a1|a2|a3|a4|a5=>exact#[by k_is,_,L2.fun_mk (by k_is) (by k_is) (by k_is)])
  case a6|l6|k6|p6=>k_is
  (case a7|a8|a9|a10|a11|a12|a13|a14|a15|a16|a17|a18|a19|a20|a21|a22|a23|a24|a25|a26|a27|a28|a29|a30|a31|a32|a33|a34|a35|a36|a37|a38|a39|a40|a41|a42|a43|a44|a45|a46=>exact#[by k_is,_,L2.fun_mk (by k_is) (by k_is) (by k_is)])
  case a47|l47|k47|p47|a48|l48|k48|p48|a49|l49|k49|p49=>k_is
  (case a50=>exact#[by k_is,_,L2.fun_mk (by k_is) (by k_is) (by k_is)])
  case a51|l51|k51|p51|g_LetterError|g_NoLetters|g_NoOrder|g_Order|g_FromRight|g_ByWeights|g_NotTurned|g_System|g_NoUse|g_TooFar|g_NoWorld|g_World|xi|yi|most|mostw|og|oj|om|pK|pL|mj|mm|mq|ny|nz|my|mB|mC|nB|nC|nw_ByWeights|sgO|win|nn|ini|lI|kI|pI|nG|nI|no_System|nr_System|ua|iniU|lU|kU|pU|vi|sFF|nwi|mostr|ou|oy|oz|nt_World|nmin|nany|subU|mml|subQ|lF|iT|lH|iD|iG|ic|lK|iV|lv|iq|gJ|lM|ly|mD|iX|la=>k_is
  (case XIl|XIo|XIt|XIu|XIf|XIq=>exact#[#[by first | kernel_rfl | rfl | k_is | decide +kernel,by k_is,by k_is,by k_is,by k_is],by k_is,by k_is,by k_is,by k_is])
  case nO|fcO|fiR_init|fiR_weight|fiW_seen|fiR_rank|fiW_rank|fiR_before|fiW_before|b0|b1|b2|b3|b4|b5|b6|b7|b8|b9|b10|b11|b12|b13|b14|b15=>k_is
  (case lG|iU|lJ|iE|iH|ie|lL|iW|lw|ir|gK|lN|lz|mE|iY|lb=>exact#[_,L2.fun_mk (by k_is) (by k_is) (by k_is)])
  (case kbb|kt|ki|kb|kl|pJ|nw|nA|ks=>first | kernel_rfl | rfl)
  (case nY|oa|oh|mf|mi|ml|mr|mv|mz|rdO|nD|nF|nH|oo|ot|ow=>first | kernel_rfl | rfl | k_is | decide +kernel)
  (case nZ|mh|ms|fnI|nE|fnU|oq|iM|im|iN|iF|iI|ig|gX|gE|lx|iu|gL|lP|lA|mF|iZ|lc=>first | kernel_rfl | rfl | k_is)
#print axioms PySem.Challenge.cw_letterlaw_k87_papers_looked_at_holds
