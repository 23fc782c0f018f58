import PyProof.Rows.All
import Wide.All
import OpenK.AllK
import Wide.FinOn
import PyProof.EqAt
import PyProof.EqKinds
import PyProof.NeKinds
import PyProof.TupleCall
import KE.KRevIter
import PyProof.ZipIter
import PyProof.Rows.SetFrom
import PyProof.StrWalks
import PyProof.DictStraight
import PyProof.StrLawsFrom
import PyProof.Rows.StrNews2
import KE.KMinBuiltin
import PyProof.Rows.CallKwBuiltin
import PyProof.Rows.SortShell
import KE.KSortTup
import KE.KBoundM
import KE.KLam
import KE.KDictLaws
import PyProof.DictWalks
import Lean
import PySem.Challenge.RW_letterlaw_k79_rounds_judged
set_option compiler.extract_closed false
open Lean(mkIdent)
set_option tactic.hygienic false
def zzP(s:Lean.Syntax):Lean.MacroM Lean.Syntax:=s.rewriteBottomUpM λs=>do if s.isIdent then `(rcasesPat| $(⟨s⟩):ident) else if s[0].getAtomVal=="#[" then `(rcasesPat| ⟨$(←s[1].getSepArgs.mapM λp=>`(Lean.Parser.Tactic.rcasesPatLo| $(⟨p⟩):rcasesPat)),*⟩) else if s[0].getAtomVal=="_" then `(rcasesPat| _) else return s
local macro_rules | `(tactic| let#[$a,*]:=$e)=>do `(tactic| obtain $(⟨←zzP (←`(#[$a,*]))⟩):rcasesPat:=$e)
def zzA(h:True:=by first | rfl | decide):=h
local macro_rules | `(‹$t›)=>`(autoParam $t $(mkIdent `zzA._auto_1))
local macro_rules | `(end in $d)=>do let m<-`(noncomputable def x:=0);return d.raw.setArg 0 m.raw[0]
local macro_rules | `(!0)=>`(by decide +kernel)
local macro_rules | `(!-$i)=>`($(mkIdent `zk) $(mkIdent `u5) ($(mkIdent `pv) $i) $(mkIdent `zf))
local macro_rules | `(tactic| exists $t)=>`(tactic| refine $t (λvs H Q E h=>by repeat (first | (obtain⟨e,_⟩:=h;subst e;rfl) | obtain⟨_,h⟩:=h)) (λ$(mkIdent `cdv) $(mkIdent `A) $(mkIdent `outer) $(mkIdent `s) $(mkIdent `H) $(mkIdent `vs) $(mkIdent `Q) $(mkIdent `E) $(mkIdent `hr) $(mkIdent `h)=>?_))
local macro_rules | `(tactic| exists $t,0)=>`(tactic| refine $t (λvs H Q E h=>by repeat (first | (obtain⟨e,_⟩:=h;subst e;rfl) | obtain⟨_,h⟩:=h)) (λ$(mkIdent `cdv) $(mkIdent `A) $(mkIdent `outer) $(mkIdent `s) $(mkIdent `H) $(mkIdent `vs) $(mkIdent `Q) $(mkIdent `E) $(mkIdent `hr) $(mkIdent `hx) $(mkIdent `h)=>?_))
local macro_rules | `(tactic| rintro $p* : _)=>`(tactic| rintro $(mkIdent `Gz):ident $(mkIdent `hGz):ident $p*)
local macro_rules | `(tactic| right)=>`(tactic| subst $(mkIdent `hGz))
local macro_rules | `($s⁻¹)=>`(($s).heap.objs.size)
def sizL{n:Nat}(h:n.ble 9=true):n<=PySem.sizeLine:=Nat.le_trans (Nat.le_of_ble_eq_true h) (by decide)
local macro_rules | `(⋯)=>`(by first | exact $(mkIdent `sizL) rfl | lia)
local macro_rules | `(∅)=>`(by decide)
local macro_rules | `(tactic| erw [$[$a:term],*] $[$l:location]?)=>`(tactic| simp only [$[$a:term],*] $[$l:location]?)
local macro_rules | `(())=>`(List Nat)
local macro_rules | `(#[$a,*])=>if a.getElems.size>1 then `(⟨$a,*⟩) else Lean.Macro.throwUnsupported
open List renaming toArray→t7
open PySem.Value renaming ref→r9
open PySem.Value renaming none→r8
open PySem.PassesOwn renaming never→p9
open PySem.Builtin.Str renaming strSliceIndices→p8
open PySem.Builtin.Range renaming rangeSize→p7
open List renaming getElem?_eq_some_iff→AS,mem_map→AT,mem_cons→AU,mem_append→AV,mem_singleton→AW,all_eq_true→AX,mem_range→AY,mem_filter→Ba,mem_reverse→Bb,pairwise_map→Bc,nodup_cons→Bd,length_pos_iff→Be,isPerm_iff→Bf,mem_iff_getElem?→Bh,pairwise_cons→Bj,mem_filterMap→Bm,any_eq_true→Bo,find?_eq_none→Bp,nodup_iff_count→Bq,pairwise_append→Br,mem_flatMap→Bs
open Option renaming map_eq_some_iff→AZ,isSome_iff_exists→Bg,bind_eq_some_iff→Bk,isNone_iff_eq_none→Bl
open Bool renaming eq_false_iff→Bn
local macro_rules | `(tactic| symm)=>`(tactic| decide +kernel)
local macro_rules | `(tactic| nofun)=>`(tactic| exact⟨rfl,rfl,rfl,by decide +kernel,rfl,by decide +kernel,by decide +kernel⟩)
open List renaming length_map→aa,mem_of_getElem?→ac,getD_eq_getElem?_getD→ae,getElem?_eq_getElem→af,size_toArray→aj,length_append→ak,map_cons→am,map_append→aq,mem_cons_of_mem→ar,getElem?_map→au,mem_cons_self→ay,map_nil→aA,length_cons→aC,mem_append_right→aG,length_take→aH,range→aJ,take_length→aK,replicate→aM,toArray→aR,set_cons_zero→aT,set_cons_succ→aU,append_assoc→aV,map_congr_left→aW,drop_eq_getElem_cons→aX,map_map→aY,length_drop→aZ,lookup_cons→ba,append_nil→bc,length_nil→bg,take_of_length_le→bn,drop_of_length_le→bo,getElem?_reverse→bq,length_reverse→br,cons_append→bu,sum_cons→bv,take_append_of_le_length→bw,lookup→bx,take_zero→bA,length_replicate→bE,length_range→bF,getElem?_append_right→bG,mem_append_left→bH,mem_of_mem_take→bJ,idxOf_lt_length_of_mem→bL,getElem?_append_left→bQ,nil_append→bR,take_append_drop→cf,getElem?_eq_none→ci,range_succ→cy,drop_append_of_le_length→cB,replicate_succ→cC,count_cons→cF,getElem?_take_of_lt→cK,not_mem_nil→cL,getElem?_cons_zero→cM,map_take→cP,map_drop→cQ,contains_cons→cU,filter_append→cX,length_filter_le→db,map_reverse→dh,mem_of_mem_drop→di,replicate_succ'→dj,mem_cons→dn,take_succ_cons→dq,flatMap_append→dv,of_mem_zip→dw,filter_nil→dA,zip_cons_cons→dC,drop_zero→dF,pairwise_singleton→dH,getElem?_cons_succ→dI,reverse_cons→dL,flatten_cons→dM,length→dP,range_succ_eq_map→dQ,any_cons→dX,find?_some→ee,eq_nil_of_length_eq_zero→eh,filterMap_cons→eC,getElem?_range→eF,replicate_zero→eG,getElem_idxOf→eK,getElem_range→eL,map_replicate→eM,all_cons→eQ,count_append→eU,flatMap_cons→eV,extract_eq_drop_take→eW,mem_of_find?_eq_some→eX,drop_length→eY,all_map→eZ,any_map→e8,map_fst_zip→fk,filter_cons→fo,getElem?_replicate→fu,filter_cons_of_pos→fv,filter_cons_of_neg→fw,forIn_cons→fB,idxOf_cons→fG,getElem?_set_self→fH,length_singleton→fO,drop_drop→fR,mem_range→fS,take_take→fV,getElem?_set_ne→gb,find?_eq_none→gu,map_id→gx,map→gA
open PySem.Heap renaming get?_push_of_some→ag,lt_size→av,get?_update_other→aB,get?_push_size→aI,get?_update_self→ce,size_push→cZ,size_update→dg,get?_update_ne→gm
open PySem.W renaming findIn→ah,nsIn→aw,mg_of→aN,keepIn→aO,mg_none_of→aP,kitOne→aS,isFn→be,kia_one→bp,fnOf→bB,emptyDict→bP,mroIn→bU,codeIn→bV,plainGet→bY,callWith_K→cb,kla_fn→cj,instObj→cq,hasDictIn→cA,methodCall_KW→cE,plainOver→cG,looks_findIn→cH,makesIn→cT,subIn→dk,specialIn→dJ,takesIn→d5,plainGet_of→eE,lookIn→eI,methodObj→eR,kitx_list→eS,envX→fg,takerIn→fz,cellsFrom_some→fJ,callWith_K0→gk,kitx_tuple→gp,set_plain→gv,kitx_dict→gw,handedIn→gy,bind_fn→gB,findObj→gC,kat_nil→gD,kas_ask→gF
open Nat renaming le_refl→ao,lt_of_lt_of_le→ax,ne_of_lt→az,zero_le→aD,le_trans→aL,not_lt_zero→bI,lt_of_le_of_lt→bT,mul_le_mul_left→bX,ne_of_gt→cr,mul_le_mul_right→cI,le_succ→cJ,lt_irrefl→cN,lt_succ_of_lt→cY,le_of_not_lt→df,min_eq_left→dz,le_of_lt→dB,lt_trichotomy→dO,lt_succ_self→dY,min_eq_right→dZ,succ_mul→d6,lt_or_ge→d8,zero_add→d9,sub_self→ef,one_mul→eJ,min_self→e7,le_add_right→e9,add_zero→ft,add_mul→fN,mul_le_mul→fP,add_le_add→fW,lt_trans→gr
open Int renaming toNat_natCast→aE,eq_ofNat_of_zero_le→bM,emod_lt_of_pos→cp,emod_nonneg→cz,natCast_nonneg→cD,natCast_mul→eg
open Bool renaming false_ne_true→aF,and_eq_true→aQ,false_eq_true→bf,eq_false_or_eq_true→cw,eq_iff_iff→cS,and_false→dD,not_eq_true'→dN,or_true→d7,not_false→fQ,and_true→ge,beq_comm→gf,not_true→gg,true_and→gh
open PySem.F renaming plainAttrs_list→bh,plainAttrs_str→bz,slot_list_append→bC,type_list_append→bD,plain_max_loop→bN,plain_min_loop→bO,slot_str_find→dc,type_str_find→de,entry_max_loop→dU,entry_min_loop→dW,excBase_ValueError→eP,slot_str_index→fL,type_str_index→fM,slot_str_join→fY,type_str_join→fZ
open PyProof.Rows renaming callWith_type1→bK,boot_sorted→fm,boot_all→fX
open Decidable renaming byContradiction→bS
open PySem renaming mem_of_lookup→bW,strKind→dm,frameOf→eO,call→gc,passOn→gq
open Option renaming bind_some→bZ,join_some→fh,join_none→fj,getD_some→fq,map_some→fF,getD_none→gz
open PySem.Str renaming ofString→cu,empty→fA
open Array renaming length_toList→eD,getD→gd,toList_append→gn
open PySem renaming wpAny_bind→si,wpAny_pure→sj,mainGlobals→sk,starEach→so,sizeLine→sq
open PySem.W renaming Frag→sr
open PySem renaming Addr→su,Value→sv,Shared→sw,wpAny→sy,Str→sB,compareOp→sH,Stmt→sI,Program→sJ,sizeLine_eq→sK,wpAny_truthy_bool→sL,wpAny_holding→sM,keywordEach→sN,World→sP,backTo→sQ,wpAny_Call_Name_kw→sS,Heap→sU,bootBuiltins→sV,wpAny_tryCatch→sW,backToKw→sX,Around→sY,wpAny_loadPart_at→sZ,codeAny_builtin→tj,wpAny_passesOwn→tm,wpAny_standAt→tu,wpAny_noRaise→tw,codeAny→tz,wpAny_letGo→tB,wpAny_mono→tD,wpAny_updateSeq→tE,wpAny_execs_nil→tF,wpAny_setField→tG,wpAny_seqItems→tH,wpAny_field→tI,wpAny_call→tJ,Expr→tK,wpAny_execs_cons→tL,codeAny_mono→tM,Obj→tN,wpAny_isSubtype_exc→tO,FuncData→tQ,wpAny_pyIter_list→tR,wpAny_newObj_type→tS,plainObj_wpAny_Assign_Attribute→tT,wpAny_newList→tU,codeAny_call_builtin→tW,NameKind→tX,Scope→tY,wpAny_comprehension_free→tZ,wpAny_getItem_str_slice→Aa,wpAny_pyNext_range_end→Ab,wpAny_pyIter_rangeiter→Ac,wpAny_pyIter_revIter→Ae,wpAny_newFunctionEnv→Af,wpAny_loadPart→Ag,recursionLimit→Ah,excClassObj→Ai,IsRangeIter→Aj,BindsTo→Ak,wpAny_attempt→Al,wpAny_pyIter_range→An,wpAny_pyIter_enum→Ao,wpAny_assign_Name→Ap,wpAny_Return_some→Aq,wpAny_Assign_Name→Ar,wpAny_lookBehind→Au,wpAny_Try_except→Av,Arguments→Aw,isCodeTable→Ax,CmpOp→Ay,Tok→Az,Keyword→AA,wpAny_rule→AB,wpAny_Name→AC,Env→AE,TriplesOk→AF,Paired→AG,Pos→AI
open PyProof.Rows renaming seqObj→sC,envOfC→tP,AllBare→tV,subscriptTail_builtinR→Ad,subscriptTail→Am,IntsAre→As,Subscript_→AD
open PySem.W renaming OpenLaw→AH,KasT→AJ
open Option renaming some→AK,none→AL
open Bool renaming true→AM,false→AN
open PySem PySem.Spec PyProof.Rows
local macro_rules | `(tactic| change $t:term)=>`(tactic| refine $(mkIdent `zj) (λ$(mkIdent `σ) $(mkIdent `H')=>$t) ?_ ?_)
local macro_rules | `(tactic| intros $xs*)=>`(tactic| (intro $(mkIdent `AO):ident $(mkIdent `s):ident $(mkIdent `σ):ident $(mkIdent `H):ident;intro $[$(xs.map λx=>(⟨x.raw⟩:Lean.TSyntax `term))]*))
def w9:=@if_neg
def w6:=@if_pos
def w4:=@absurd
def v9:=@decide_eq_false
def u9:=@decide_eq_true
def u6:=@of_decide_eq_true
set_option Elab.async false
set_option linter.all false
set_option maxRecDepth 100000
set_option maxHeartbeats 4000000
set_option compiler.extract_closed false
namespace L2
end in abbrev Key:=Sum Int sB
end in def zeP:Key->sv->Bool
 | .inl k,v=>Value.isInt k v
 | .inr x,v=>Value.isStrOf x v
end in def zhc(w:sP):Key->Int
 | .inl k=>hashInt k
 | .inr x=>hashStr w x
theorem yi:∀{k:Key} {v:sv},zeP k v=AM->(∃i t,k=Sum.inl i/\v=Value.int i t)\/(∃x t,k=Sum.inr x/\v=Value.str x t)
 | .inl i,v,h=>by
  let#[t,e]:=Value.isInt_shape (k:=i) (v:=v) h;exact .inl #[i,t,rfl,e]
 | .inr x,v,h=>by
  let#[t,e]:=Value.isStrOf_shape (x:=x) (v:=v) h;exact .inr #[x,t,rfl,e]
def zeC(a b:Int):decide ((Sum.inl a:Key)=Sum.inl b)=(a == b):=by
 by_cases e:a=b
 ·subst e;simp
 ·have h:¬ (Sum.inl a:Key)=Sum.inl b:=λq=>e (Sum.inl.inj q);rw[v9 h];exact (beq_eq_false_iff_ne.mpr e).symm
def zdD(a b:sB):decide ((Sum.inr a:Key)=Sum.inr b)=decide (a=b):=by
 by_cases e:a=b
 ·subst e;simp
 ·have h:¬ (Sum.inr a:Key)=Sum.inr b:=λq=>e (Sum.inr.inj q);rw[v9 h,v9 e]
def zdM(a:Int)(b:sB):decide ((Sum.inl a:Key)=Sum.inr b)=AN:=v9 (λq=>nomatch q)
def zeK(a:sB)(b:Int):decide ((Sum.inr a:Key)=Sum.inl b)=AN:=v9 (λq=>nomatch q)
end in def Wo(prog:sJ)(w:sP):PySem.KeyKind prog w Key where
 is:=zeP
 hash:=zhc w
 inj:=λv a b ha hb=>by
  rcases yi ha with ⟨i,t,rfl,rfl⟩ | ⟨x,t,rfl,rfl⟩
  ·rcases yi hb with ⟨j,u,rfl,e⟩ | ⟨y,u,rfl,e⟩
   ·injection e with e1 _;rw[e1]
   ·exact nomatch e
  ·rcases yi hb with ⟨j,u,rfl,e⟩ | ⟨y,u,rfl,e⟩
   ·exact nomatch e
   ·injection e with e1 _;rw[e1]
 byValue:=λk v h=>by
  rcases yi h with ⟨i,t,rfl,rfl⟩ | ⟨x,t,rfl,rfl⟩ <;> rfl
 pyHash:=λhv h=>by
  rcases yi hv with ⟨i,t,rfl,rfl⟩ | ⟨x,t,rfl,rfl⟩
  ·exact wpAny_pyHash_int h
  ·exact wpAny_pyHash_str h
 eqBool:=λhu hv h=>by
  rcases yi hu with ⟨i,t,rfl,rfl⟩ | ⟨x,t,rfl,rfl⟩
  ·rcases yi hv with ⟨j,u,rfl,rfl⟩ | ⟨y,u,rfl,rfl⟩
   ·rw[zeC]at h;exact wpAny_eqBool_int h
   ·rw[zdM]at h;exact SeqAt.EqAt.int_str i t y u _ _ _ _ h
  ·rcases yi hv with ⟨j,u,rfl,rfl⟩ | ⟨y,u,rfl,rfl⟩
   ·rw[zeK]at h;exact SeqAt.EqAt.str_int x t j u _ _ _ _ h
   ·rw[zdD]at h;exact wpAny_eqBool_str h
 «strs»:=λk x t v h=>by
  rcases yi h with ⟨i,u,rfl,e⟩ | ⟨y,u,rfl,e⟩
  ·exact nomatch e
  ·injection e with e1 _;subst e1;cases v <;> rfl
inductive V where
 | non | bl (b:Bool) | int (i:Int) | str (x:sB) | byt (b:Array UInt8) | flt (b:UInt64) | ref (a:su) | ty (n:String)
 deriving DecidableEq
def RelV:V->sv->Prop
 | .non,u=>u=r8
 | .bl b,u=>u=Value.bool b
 | .int i,u=>∃t,u=Value.int i t
 | .str x,u=>∃t,u=Value.str x t
 | .byt b,u=>∃t,u=Value.bytes b t
 | .flt b,u=>∃t,u=Value.float b t
 | .ref a,u=>u=r9 a
 | .ty n,u=>u=Value.type n
abbrev Vals:List V->List sv->Prop:=AG RelV
def Vals.length(r:Vals xs us):xs.length=us.length:=Paired.length r
theorem Vals.get:∀{xs:List V} {us:List sv} {i:Nat} {x:V},Vals xs us->xs[i]? = AK x->∃u,us[i]? = AK u/\RelV x u
 | _,_,_,_,.nil,e=>by simp at e
 | _,_,0,_,.cons r _,e=>by simp at e;subst e;exact#[_,rfl,r]
 | _,_,i+1,x,.cons _ t,e=>by
  let#[u,h1,h2]:=Vals.get (i:=i) (x:=x) t (by simpa using e);exact#[u,by simpa using h1,h2]
theorem Vals.set(r:RelV x u):∀{xs:List V} {us:List sv} (i:Nat),Vals xs us->Vals (xs.set i x) (us.set i u)
 | _,_,_,.nil=>.nil
 | _,_,0,.cons _ t=>.cons r t
 | _,_,i+1,.cons q t=>.cons q (Vals.set r i t)
theorem Vals.append(h:Vals xs us)(s:Vals ys ws):Vals (xs ++ ys) (us ++ ws):=by
 induction h with
 | nil=>exact s
 | cons r t ih=>exact .cons r ih
theorem Vals.take:∀{xs:List V} {us:List sv} (n:Nat),Vals xs us->Vals (xs.take n) (us.take n)
 | _,_,0,_=>.nil
 | _,_,_+1,.nil=>.nil
 | _,_,n+1,.cons r t=>.cons r (Vals.take n t)
theorem Vals.drop:∀{xs:List V} {us:List sv} (n:Nat),Vals xs us->Vals (xs.drop n) (us.drop n)
 | _,_,0,r=>r
 | _,_,_+1,.nil=>.nil
 | _,_,n+1,.cons _ t=>Vals.drop n t
def RelO:Option V->Option sv->Prop
 | some v,AK u=>RelV v u
 | none,AL=>True
 | _,_=>False
def KV{κ:Type}:List (κ × V)->List (κ × sv)->Prop:=AG λ(p:κ × V) (q:κ × sv)=>p.1=q.1/\RelV p.2 q.2
end in def kV:Key->V
 | .inl i=>.int i
 | .inr x=>.str x
inductive HO where
  | lst (xs:List V)
  | tup (xs:List V)
  | dK (kvs:List (Key × V)) | dT (kvs:List (List Key × V))
  | set (S:Int->Bool) (n:Nat)
  | ins (C dx:su) (fs:List (sB × V))
  | own (x:su)
  | xd (fs:List (sB × V))
  | met (f x:su)
  | rng (lo hi:Int)
  | frz (o:tN) (u:HO)
  | tbl (ps:Array sv)
  | ext (φ:sU->Prop)
end in abbrev Hp:=su->Option HO
end in def upd(H:Hp)(a:su)(o:HO):Hp:=λb=>if b=a then AK o else H b
def zb : upd H a o a=AK o:=by unfold upd;rw[w6 rfl]
def zq(h:b≠a):upd H a o b=H b:=by unfold upd;rw[w9 h]
def zM{H:Hp}(h:H a=AK o)(h':H b=AL):a≠b:=by intro e;subst e;rw[h]at h';cases h'
section
variable(P:sJ)(w:sP)
def ObjOk(H:Hp)(h:sU)(a:su):HO->Prop
 | .lst xs=>xs.length<=sq/\∃(its:List sv) (n:Nat),Vals xs its/\h.get? a=AK { cls:=.type "list",data:=.seq its.toArray n }
 | .tup xs=>xs.length<=sq/\∃its:List sv,Vals xs its/\IsTup h a its.toArray
 | .dK kvs=>kvs.length<=sq/\(a == sysModules)=AN/\∃vs,KV kvs vs/\h.DictOf (Wo P w) a vs
 | .dT kvs=>kvs.length<=sq/\(a == sysModules)=AN/\∃xs:List (List Key × su × sv),
   AG (λ(p:List Key × V) (q:List Key × su × sv)=>p.1=q.1/\H q.2.1=AK (.tup (p.1.map kV))/\RelV p.2 q.2.2) kvs xs /\
   ∃o es ep,h.get? a=AK o/\o.ExactDict/\o.data=.dict es ep/\es.toList=xs.map (entryOfKey (tupleKind (Wo P w)))/\(xs.map (·.1)).Nodup
 | .set S n=>h.SetOf (intKind P w) a S n
 | .ins C dx fs=>H dx=AK (.own a)/\fs.length<=1000/\dx≠a/\h.get? a=AK (cq C dx) /\
   ∃mA,h.Ns1 dx mA/\(∀f,RelO (fs.lookup f) (mA f))/\PySem.Within mA (fs.map (·.1))
 | .own _=>∃o,h.get? a=AK o
 | .xd fs=>∃mA,h.Ns1 a mA/\∀f,RelO (fs.lookup f) (mA f)
 | .rng lo hi=>∃t u v,h.get? a=AK { cls:=.type "range",data:=.fields (t7 [.int lo t,.int hi u,.int 1 v]) }
 | .frz o u=>h.get? a=AK o/\ObjOk H h a u
 | .tbl ps=>h.get? a=AK { cls:=.none,data:=.fields ps }
 | .met f x=>h.get? a=AK (eR (.ref f) (.ref x))
 | .ext φ=>φ h/\(∃o,h.get? a=AK o)/\∀h1 h2:sU,φ h1->(∀o,h1.get? a=AK o->h2.get? a=AK o)->φ h2
def HOk(H:Hp)(h:sU):Prop:=∀a o,H a=AK o->ObjOk P w H h a o
end
theorem ObjOk.lt(x:ObjOk P w H h a o):a<h.objs.size:=by
 cases o with
 | lst xs=>let#[_,_,_,_,e]:=x;exact av e
 | tup xs=>let#[_,_,_,p]:=x;exact p.lt
 | dK kvs=>let#[_,_,_,_,o,_,_,e,_]:=x;exact av e
 | dT kvs=>let#[_,_,_,_,o,_,_,e,_]:=x;exact av e
 | set S n=>let#[o,_,_,_,e,_]:=x;exact av e
 | ins C dx fs=>let#[_,_,_,e,_]:=x;exact av e
 | own y=>let#[_,e]:=x;exact av e
 | xd fs=>let#[_,#[_,_,_,e,_],_]:=x;exact av e
 | rng lo hi=>let#[_,_,_,e]:=x;exact av e
 | frz ob u=>let#[e,_]:=x;exact av e
 | tbl ps=>exact av (show h.get? a=AK _ from x)
 | met f y=>exact av (show h.get? a=AK _ from x)
 | ext φ=>let#[_,#[_,e],_]:=x;exact av e
theorem Paired.mapP(h:AG F l₁ l₂)(f:∀a b,F a b->G a b):AG G l₁ l₂:=by
 induction h with
 | nil=>exact .nil
 | cons r t ih=>exact .cons (f _ _ r) ih
theorem ObjOk.stay(x:ObjOk P w H h a o)(k:∀b u,(b=a\/H b=AK (.own a))->h.get? b=AK u->h'.get? b=AK u)(ho:∀b,H b=AK (.own a)->H' b=AK (.own a)) (ht:∀b xs,H b=AK (.tup xs)->H' b=AK (.tup xs)):ObjOk P w H' h' a o:=by
 induction o with
 | lst xs=>let#[z,its,n,r,e]:=x;exact#[z,its,n,r,k _ _ (.inl rfl) e]
 | tup xs=>let#[z,its,r,ob,e,c]:=x;exact#[z,its,r,ob,k _ _ (.inl rfl) e,c]
 | dK kvs=>let#[z,y,vs,r,ob,es,ep,e,c]:=x;exact#[z,y,vs,r,ob,es,ep,k _ _ (.inl rfl) e,c]
 | dT kvs =>
  let#[z,y,xs,r,ob,es,ep,e,c]:=x;exact#[z,y,xs,Paired.mapP r λp q z=>#[z.1,ht _ _ z.2.1,z.2.2],ob,es,ep,k _ _ (.inl rfl) e,c]
 | set S n=>let#[ob,es,ep,t,e,c]:=x;exact#[ob,es,ep,t,k _ _ (.inl rfl) e,c]
 | ins C dx fs =>
  let#[d,z,ne,e,mA,#[od,es,ep,e2,c],r]:=x;exact#[ho _ d,z,ne,k _ _ (.inl rfl) e,mA,#[od,es,ep,k _ _ (.inr d) e2,c],r]
 | own y=>let#[ob,e]:=x;exact#[ob,k _ _ (.inl rfl) e]
 | xd fs=>let#[mA,#[od,es,ep,e,c],r]:=x;exact#[mA,#[od,es,ep,k _ _ (.inl rfl) e,c],r]
 | rng lo hi=>let#[t,u,v,e]:=x;exact#[t,u,v,k _ _ (.inl rfl) e]
 | frz ob u ih=>let#[e,q]:=x;exact#[k _ _ (.inl rfl) e,ih q]
 | tbl ps =>
  have e:h.get? a=AK { cls:=.none,data:=.fields ps }:=x;show h'.get? a=AK { cls:=.none,data:=.fields ps };exact k a _ (.inl rfl) e
 | met f y =>
  have e:h.get? a=AK (eR (.ref f) (.ref y)):=x;show h'.get? a=AK (eR (.ref f) (.ref y));exact k a _ (.inl rfl) e
 | ext φ=>let#[p,#[o,e],st]:=x;exact#[st _ _ p λo q=>k _ _ (.inl rfl) q,#[o,k _ _ (.inl rfl) e],st]
def HOk.lt(x:HOk P w H h)(e:H a=AK o):a<h.objs.size:=(x a o e).lt
theorem HOk.fresh(x:HOk P w H h)(e:h.objs.size<=a):H a=AL:=by
 cases q:H a with
 | none=>rfl
 | some u=>exact w4 (ax (x.lt q) e) (cN _)
def HOk.kept(x:HOk P w H h)(k:∀b u,h.get? b=AK u->h'.get? b=AK u):HOk P w H h':=λa o e =>
 (x a o e).stay (λb u Z q=>k b u q) (λZ q=>q) λZ Z q=>q
def HOk.laid(x:HOk P w H h)(k:∀b u,h.get? b=AK u->h'.get? b=AK u)(hp:h.objs.size<=a)(new:ObjOk P w (upd H a o) h' a o):HOk P w (upd H a o) h':=λb u e=>by
 have hn:=x.fresh hp;by_cases hb:b=a
 ·subst hb;rw[zb]at e;cases e;exact new
 ·rw[zq hb]at e;exact (x b u e).stay (λc v Z q=>k c v q) (λc q=>by rw[zq (zM q hn)];exact q) λc xs q=>by rw[zq (zM q hn)];exact q
def Rd(H:Hp)(a:su)(u:HO):Prop:=H a=AK u\/∃o,H a=AK (.frz o u)
def Rd.ok(r:Rd H a u)(x:HOk P w H h):ObjOk P w H h a u:=by
 rcases r with r | ⟨o,r⟩
 ·exact x a u r
 ·let#[_,q]:=x a _ r;exact q
def Mut:Option HO->Prop
 | some (.lst _)=>True
 | some (.dK _)=>True
 | some (.dT _)=>True
 | some (.set _ _)=>True
 | some (.ins _ _ _)=>True
 | some (.ext _)=>True
 | _=>False
def HOk.write(ok:HOk P w H h)(mu:Mut (H x))(he:e=x\/H e=AK (.own x))(k:∀b u,b≠e->h.get? b=AK u->h'.get? b=AK u)(heo:∃u,h'.get? e=AK u)(new:ObjOk P w (upd H x o') h' x o'):HOk P w (upd H x o') h':=λb u q=>by
 have nown:∀c y,H c=AK (.own y)->c≠x:=λc y r z=>by subst z;rw[r]at mu;exact mu
 have ntup:∀c xs,H c=AK (.tup xs)->c≠x:=λc xs r z=>by subst z;rw[r]at mu;exact mu
 by_cases hb:b=x
 ·subst hb;rw[zb]at q;cases q;exact new
 ·rw[zq hb]at q;by_cases hbe:b=e
  ·have q':H b=AK (.own x):=by
    rcases he with z | z
    ·exact w4 (hbe.trans z) hb
    ·rw[hbe];exact z
   rw[q]at q';cases q';let#[v,hv]:=heo;exact#[v,by rw[hbe];exact hv]
  ·refine (ok b u q).stay (λc v hc r=>k c v ?_ r) (λc r=>by rw[zq (nown c b r)];exact r) λc xs r=>by rw[zq (ntup c xs r)];exact r
   rcases hc with rfl | hc
   ·exact hbe
   ·rintro rfl;rcases he with z | z
    ·exact nown c b hc z
    ·rw[hc]at z;cases z;exact hb rfl
structure Un(fs ex:List su)(H H':Hp)(h h':sU):Prop where
 keep:∀b o,h.get? b=AK o->H b=AL->b ∉ fs->b ∉ ex->h'.get? b=AK o
 slot:∀b o,h.get? b=AK o->H b=AL->b ∈ fs->b ∉ ex->∃sl,h'.get? b=AK { o with slots:=sl }
 free:∀b o,h.get? b=AK o->H b=AL->b ∉ ex->H' b=AL
 there:∀b o,h.get? b=AK o->b ∉ ex->∃o',h'.get? b=AK o'
 tups:∀b xs,H b=AK (.tup xs)->H' b=AK (.tup xs)
 frzs:∀b o u,H b=AK (.frz o u)->H' b=AK (.frz o u)
 tbls:∀b ps,H b=AK (.tbl ps)->∃more,H' b=AK (.tbl (ps ++ more))
def Un.any(u:Un fs ex H H1 h h1)(q:h.get? b=AK ob)(n:H b=AL)(hx:b ∉ ex):∃sl,h1.get? b=AK { ob with slots:=sl }:=by
 by_cases hb:b ∈ fs
 ·exact u.slot b ob q n hb hx
 ·exact#[ob.slots,u.keep b ob q n hb hx]
def Un.kept(k:∀b u,h.get? b=AK u->h'.get? b=AK u):Un fs ex H H h h' :=
 #[λb ob q Z Z Z=>k b ob q,λb ob q Z Z Z=>#[ob.slots,k b ob q],λZ Z Z n Z=>n,λb ob q Z=>#[ob,k b ob q],λZ Z q=>q,λZ Z Z q=>q,λZ ps q=>#[#[],by rw[q];simp]]
def Un.refl:Un fs ex H H h h:=Un.kept λZ Z q=>q
def Un.laid(k:∀b u,h.get? b=AK u->h'.get? b=AK u)(hp:h.objs.size<=a)(hn:H a=AL):Un fs ex H (upd H a o) h h' where
 keep:=λb u q Z Z Z=>k b u q
 slot:=λb u q Z Z Z=>#[u.slots,k b u q]
 free:=λb u q n Z=>by rw[zq (az (ax (av q) hp))];exact n
 there:=λb u q Z=>#[u,k b u q]
 tups:=λb xs q=>by rw[zq (zM q hn)];exact q
 frzs:=λb u xs q=>by rw[zq (zM q hn)];exact q
 tbls:=λb ps q=>#[#[],by rw[zq (zM q hn),q];simp]
def Un.write(mu:Mut (H x))(he:e=x\/H e=AK (.own x))(k:∀b u,b≠e->h.get? b=AK u->h'.get? b=AK u)(heo:∃u,h'.get? e=AK u):Un fs ex H (upd H x o) h h':=by
 have hx:∀b,H b=AL->b≠x:=λb n z=>by subst z;rw[n]at mu;exact mu
 have hb:∀b,H b=AL->b≠e:=λb n z=>by
  subst z;rcases he with r | r
  ·exact hx b n r
  ·rw[n]at r;cases r
 have hm:∀b u,H b=AK u->¬ Mut (AK u)->b≠x:=λb u q nm z=>by subst z;rw[q]at mu;exact nm mu
 refine#[λb u q n Z Z=>k b u (hb b n) q,λb u q n Z Z=>#[u.slots,k b u (hb b n) q],λb u q n Z=>by rw[zq (hx b n)];exact n,λb u q Z=>?_,
  λb xs q=>by rw[zq (hm b _ q λz=>z)];exact q,λb u xs q=>by rw[zq (hm b _ q λz=>z)];exact q,λb ps q=>#[#[],by rw[zq (hm b _ q λz=>z),q];simp]]
 by_cases hbe:b=e
 ·subst hbe;exact heo
 ·exact#[u,k b u hbe q]
end in def trk(h:sU)(H:Hp):List su:=(aJ h.objs.size).filter λa=>(H a).isSome
end in def QO(h:sU)(H:Hp):sU:=PySem.W.hideAll h (trk h H)
def UF(h:sU)(H:Hp):(QO h H).objs.size=h.objs.size:=PySem.W.hideAll_size _ _
def VA(e:h.get? b=AK o)(n:H b=AL):(QO h H).get? b=AK o :=
 PySem.W.hideAll_get _ e λhm=>by
  have q:(H b).isSome=AM:=(Ba.mp hm).2;rw[n]at q;simp at q
theorem zcS(e:(QO h H).get? b=AK o):h.get? b=AK o/\H b=AL:=by
 have e':h.get? b=AK o:=PySem.W.of_hideAll (trk h H) e;refine#[e',?_]
 cases q:H b with
 | none=>rfl
 | some x =>
  have hm:b ∈ trk h H:=Ba.mpr #[AY.mpr (av e'),by simp [q]];have z:(QO h H).get? b=AL:=PySem.W.hideAll_none (trk h H) hm;rw[z]at e;cases e
end in def zcc(g h:sU)(L:su):List (su × tN):=(aJ h.objs.size).filterMap λa=>if a=L\/(g.get? a).isSome=AM then AL else (h.get? a).map λo=>(a,o)
end in def rest(g h:sU)(L d:su):List (su × tN):=(zcc g h L).filter λp=>decide (p.1≠d)
structure Mod(K:sr)(mg:sB->Option sv)(base:sU):Prop where
 kin:K.In base
 glob:base.Ns sk mg
 blt:∃mb,base.Ns builtinsNs mb/\∀x:sB,x≠"__name__"->mb x=sV x
 nolimit:base.NoLimit
structure Cx where
 prog:sJ
 w:sP
 K:sr
 mg:sB->Option sv
 base:sU
 A:sY
 N:List sB
 s₀:sw
 H₀:Hp
 env:AE
 outer:List AE
 stack:List AE
 ex:List su
 fn:sB->Bool
 calm:Bool
 pn:List (su × tN)
 xe:sv->sw->Prop
end in def frs(l:List AE):List su:=l.filterMap (·.frame)
end in abbrev Cx.fs(X:Cx):List su:=frs X.outer
def Vis(sc:tY)(x:sB):Prop:=sc.names.lookup x=AK .local\/sc.names.lookup x=AK .cell\/sc.names.lookup x=AK .free
def Loc(sc:tY)(x:sB):Prop:=sc.names.lookup x=AK .local\/sc.names.lookup x=AK .cell
def zg8(env:AE)(h:sU)(m:sB->Option sv)(x:sB)(u:sv):Prop :=
 (env.kindOf x=AK .local/\m x=AK u)\/((env.kindOf x=AK .cell\/env.kindOf x=AK .free)/\∃c,env.cells.lookup x=AK c/\h.IsCell c (AK u))
structure Cx.Ok(X:Cx):Prop where
 mod:Mod X.K X.mg X.base
 kind:X.env.scope.kind=.function
 glob:X.env.globals=sk
 blt:X.env.builtins=builtinsNs
 above:X.s₀.heap.objs.size<=X.env.locals
 inj:∀x y c,X.env.cells.lookup x=AK c->X.env.cells.lookup y=AK c->x=y
 has:∀x,(X.env.kindOf x=AK .cell\/X.env.kindOf x=AK .free)->∃c,X.env.cells.lookup x=AK c
 cab:∀x c,X.fn x=AM->X.env.cells.lookup x=AK c->X.s₀.heap.objs.size<=c
 hd:X.calm=AM->X.A.handled=AL
 frames:X.A.frames=AK X.stack
 stk:X.stack=X.outer\/(X.stack=X.env::X.outer/\X.env.frame=AK X.env.locals)
 exf:∀b ∈ X.ex,b≠X.env.locals/\∀x c,X.env.cells.lookup x=AK c->c≠b
 bs:∀b o,X.base.get? b=AK o->X.s₀.heap.get? b=AK o/\X.H₀ b=AL
 bsz:X.base.objs.size<=X.s₀.heap.objs.size
 noex:∀b o,X.base.get? b=AK o->b ∉ X.ex
 exfs:∀b ∈ X.ex,b ∉ X.fs
 funs:X.s₀.heap.FunFrames X.base X.outer
 frf:∀b ∈ X.fs,X.H₀ b=AL
structure Inv(X:Cx)(AO:List (su × tN))(σ:List (Option V))(H:Hp)(s:sw):Prop where
 ok:X.Ok
 os:s.os=X.s₀.os
 bare:tV s.gens
 base:Un X.fs X.ex X.H₀ H X.s₀.heap s.heap
 loc:∃m,s.heap.Ns X.env.locals m/\∀(i:Nat) (x:sB) (v:V),X.N[i]? = AK x->σ[i]? = AK (AK v)->Vis X.env.scope x->∃u,RelV v u/\zg8 X.env s.heap m x u
 cell:∀x c,X.env.cells.lookup x=AK c->∃v,s.heap.IsCell c v
 free:H X.env.locals=AL
 freeC:∀x c,X.env.cells.lookup x=AK c->H c=AL
 pin:∀p ∈ X.pn ++ AO,s.heap.get? p.1=AK p.2/\H p.1=AL/\p.1≠X.env.locals/\p.1 ∉ X.fs/\∀v,p.2.data≠.cell v
 hok:HOk X.prog X.w H s.heap
 len:σ.length=X.N.length
def Cx.Ok.nofr{X:Cx}(ok:X.Ok)(e:X.base.get? b=AK o):b ∉ X.fs:=λhb=>by
 have:=(ok.funs.mem hb).1;rw[e]at this;cases this
def Inv.bs(I:Inv X AO σ H s):∀b o,X.base.get? b=AK o->s.heap.get? b=AK o/\H b=AL:=λb o e =>
 #[I.base.keep b o (I.ok.bs b o e).1 (I.ok.bs b o e).2 (I.ok.nofr e) (I.ok.noex b o e),I.base.free b o (I.ok.bs b o e).1 (I.ok.bs b o e).2 (I.ok.noex b o e)]
def Inv.bk(I:Inv X AO σ H s):∀b o,X.base.get? b=AK o->s.heap.get? b=AK o:=λb o e=>(I.bs b o e).1
def Inv.mod(I:Inv X AO σ H s):Mod X.K X.mg X.base:=I.ok.mod
def Inv.kIn(I:Inv X AO σ H s):X.K.In s.heap:=I.ok.mod.kin.keeps I.bk
def Inv.nolimit(I:Inv X AO σ H s):s.heap.NoLimit:=I.ok.mod.nolimit.keeps I.bk
def Inv.fr(I:Inv X AO σ H s):∃m,Fr X.base X.env.locals s.heap m :=
 let #[m,hn,_]:=I.loc
 #[m,hn,I.bk,aL I.ok.bsz I.ok.above]
def Inv.lt(I:Inv X AO σ H s):X.env.locals<s⁻¹:=let #[_,hn,_]:=I.loc;hn.lt
def Inv.sz(I:Inv X AO σ H s):X.s₀.heap.objs.size<=s⁻¹:=aL I.ok.above (dB I.lt)
def Inv.nofs(I:Inv X AO σ H s)(h:s⁻¹<=a):a ∉ X.fs:=λhb=>by
 let#[_,o,ho,_]:=I.ok.funs.mem hb;exact w4 (ax (av ho) (aL I.sz h)) (cN _)
def Inv.cne(I:Inv X AO σ H s):∀x c,X.env.cells.lookup x=AK c->c≠X.env.locals:=λx c e z=>by
 let#[v,o,ho,hd]:=I.cell x c e;let#[m,#[o',es,ep,ho',hd',_],_]:=I.loc;rw[z,ho']at ho;cases ho;rw[hd']at hd;cases hd
def Inv.funs(I:Inv X AO σ H s):s.heap.FunFrames X.base X.outer:=by
 have all:∀(l:List AE),(∀b ∈ frs l,b ∈ X.fs)->X.s₀.heap.FunFrames X.base l->s.heap.FunFrames X.base l:=by
  intro l
  induction l with
  | nil=>intro _ _;trivial
  | cons env r ih =>
   intro hs hl;let#[hk,#[L,o,hf,hn,ho,hd],hr]:=hl;have hL:L ∈ X.fs:=hs L (by unfold frs;rw[eC,hf];exact ay);let#[sl,e]:=I.base.slot L o ho (I.ok.frf L hL) hL λz=>I.ok.exfs L z hL;exact#[hk,#[L,_,hf,hn,e,hd],ih (λb hb=>hs b (by unfold frs;rw[eC,hf];exact ar _ hb)) hr]
 exact all X.outer (λZ hb=>hb) I.ok.funs
def Inv.stack(I:Inv X AO σ H s):s.heap.FunFrames X.base X.stack:=by
 rcases I.ok.stk with e | ⟨e,hf⟩
 ·rw[e];exact I.funs
 ·rw[e];let#[m,hn,_]:=I.loc;refine .cons (by rw[I.ok.kind];decide) hf hn ?_ I.funs;exact Heap.get?_none_of_le (aL I.ok.bsz I.ok.above)
def Inv.stkSub(I:Inv X AO σ H s):∀b ∈ frs X.stack,b ∈ X.env.locals::X.fs:=λb hb=>by
 rcases I.ok.stk with e | ⟨e,hf⟩
 ·rw[e]at hb;exact ar _ hb
 ·rw[e]at hb;unfold frs at hb;rw[eC,hf]at hb;exact hb
def Inv.stkFree(I:Inv X AO σ H s):∀b ∈ frs X.stack,H b=AL:=λb hb=>by
 rcases AU.mp (I.stkSub b hb)with e | hb
 ·rw[e];exact I.free
 ·let#[_,o,ho,_]:=I.ok.funs.mem hb;exact I.base.free b o ho (I.ok.frf b hb) λz=>I.ok.exfs b z hb
def Inv.step{ch:List su}(I:Inv X AO σ H s)(hch:∀b ∈ ch,(b ∈ X.ex\/X.s₀.heap.objs.size<=b)/\b≠X.env.locals/\(∀x c,X.env.cells.lookup x=AK c->c≠b)/\∀p ∈ X.pn ++ AO,p.1≠b)(keep:∀b o,b≠X.env.locals->b ∉ X.fs->b ∉ ch->s.heap.get? b=AK o->H b=AL->h'.get? b=AK o)(slot:∀b o,b≠X.env.locals->b ∈ X.fs->b ∉ ch->s.heap.get? b=AK o->H b=AL->∃sl,h'.get? b=AK { o with slots:=sl })(free:∀b o,b ∉ ch->s.heap.get? b=AK o->H b=AL->H' b=AL)(there:∀b o,b ∉ ch->s.heap.get? b=AK o->∃o',h'.get? b=AK o')(tups:∀b xs,H b=AK (.tup xs)->H' b=AK (.tup xs))(frzs:∀b o u,H b=AK (.frz o u)->H' b=AK (.frz o u))(tbls:∀b ps,H b=AK (.tbl ps)->∃more,H' b=AK (.tbl (ps ++ more)))(ns:∀m,s.heap.Ns X.env.locals m->h'.Ns X.env.locals m)(hok:HOk X.prog X.w H' h')(hg:tV g') :
  Inv X AO σ H' { s with heap:=h',gens:=g',drawn:=d',toks:=t' }:=by
 have neL:∀b o,X.s₀.heap.get? b=AK o->b≠X.env.locals:=λb o e=>az (ax (av e) I.ok.above)
 have neC:∀b o,X.s₀.heap.get? b=AK o->b ∉ X.ex->b ∉ ch:=λb o e hx hb=>by
  rcases (hch b hb).1 with z | z
  ·exact hx z
  ·exact w4 (ax (av e) z) (cN _)
 have cellK:∀x c,X.env.cells.lookup x=AK c->∀v,s.heap.IsCell c v->h'.IsCell c v:=λx c e v ⟨o,ho,hd⟩=>by
  have nch:c ∉ ch:=λz=>(hch c z).2.2.1 x c e rfl;by_cases hc:c ∈ X.fs
  ·let#[sl,q]:=slot c o (I.cne x c e) hc nch ho (I.freeC x c e);exact#[_,q,hd]
  ·exact#[o,keep c o (I.cne x c e) hc nch ho (I.freeC x c e),hd]
 refine#[I.ok,I.os,hg,#[λb o e n hb hx=>?_,λb o e n hb hx=>?_,λb o e n hx=>?_,λb o e hx=>?_,λb xs e=>tups b xs (I.base.tups b xs e),λb o xs e=>frzs b o xs (I.base.frzs b o xs e),λb ps e=>?_],?_,λx c e=>?_,?_,λx c e=>?_,λp hp=>?_,hok,I.len]
 ·exact keep b o (neL b o e) hb (neC b o e hx) (I.base.keep b o e n hb hx) (I.base.free b o e n hx)
 ·let#[sl,e1]:=I.base.slot b o e n hb hx;let#[sl',e2]:=slot b _ (neL b o e) hb (neC b o e hx) e1 (I.base.free b o e n hx);exact#[sl',e2]
 ·let#[o',e1]:=I.base.there b o e hx;exact free b o' (neC b o e hx) e1 (I.base.free b o e n hx)
 ·let#[o',e1]:=I.base.there b o e hx;exact there b o' (neC b o e hx) e1
 ·let#[m1,e1]:=I.base.tbls b ps e;let#[m2,e2]:=tbls b _ e1;exact#[m1 ++ m2,by rw[e2,Array.append_assoc]]
 ·let#[m,hn,hl]:=I.loc;refine#[m,ns m hn,λi x v e1 e2 e3=>?_];let#[u,r,l]:=hl i x v e1 e2 e3;refine#[u,r,?_];rcases l with l | ⟨k,c,e,z⟩
  ·exact .inl l
  ·exact .inr #[k,c,e,cellK x c e _ z]
 ·let#[v,z]:=I.cell x c e;exact#[v,cellK x c e v z]
 ·let#[m,#[o,_,_,ho,_],_]:=I.loc;exact free _ o (λz=>(hch _ z).2.1 rfl) ho I.free
 ·let#[v,o,ho,hd]:=I.cell x c e;exact free c o (λz=>(hch c z).2.2.1 x c e rfl) ho (I.freeC x c e)
 ·let#[e,n,ne,nf,d]:=I.pin p hp;have nch:p.1 ∉ ch:=λz=>(hch p.1 z).2.2.2 p hp rfl;exact#[keep p.1 p.2 ne nf nch e n,free p.1 p.2 nch e n,ne,nf,d]
def Inv.un(I:Inv X AO σ H s)(u:Un X.fs [] H H' s.heap h')(hok:HOk X.prog X.w H' h'):Inv X AO σ H' { s with heap:=h',toks:=t' }:=by
 let#[m,#[o,es,ep,ho,r],_]:=id I.loc;let#[sl,hL]:=u.any ho I.free (by simp)
 exact I.step (g':=s.gens) (d':=s.drawn) (ch:=[]) (λZ z=>nomatch z) (λb o Z hb Z e n=>u.keep b o e n hb (by simp)) (λb o Z hb Z e n=>u.slot b o e n hb (by simp)) (λb o Z e n=>u.free b o e n (by simp)) (λb o Z e=>u.there b o e (by simp)) u.tups u.frzs u.tbls (λm' hm=>by
  let#[o',es',ep',ho',r']:=hm;rw[ho]at ho';cases ho'
  exact#[_,es',ep',hL,r']) hok I.bare
def Inv.call(I:Inv X AO σ H s)(u:Un (frs X.stack) ch H H' s.heap h')(hok:HOk X.prog X.w H' h')(hg:tV g')(hch:∀b ∈ ch,(b ∈ X.ex\/X.s₀.heap.objs.size<=b)/\b≠X.env.locals/\(∀x c,X.env.cells.lookup x=AK c->c≠b)/\∀p ∈ X.pn ++ AO,p.1≠b) :
  Inv X AO σ H' { s with heap:=h',gens:=g',drawn:=d',toks:=t' }:=by
 let#[m,#[o,es,ep,ho,r],_]:=id I.loc;let#[sl,hL]:=u.any ho I.free λz=>(hch _ z).2.1 rfl
 exact I.step (ch:=ch) hch (λb o hL hb hc e n=>u.keep b o e n (λz=>(AU.mp (I.stkSub b z)).elim hL hb) hc) (λb o Z Z hc e n=>u.any e n hc) (λb o hc e n=>u.free b o e n hc) (λb o hc e=>u.there b o e hc) u.tups u.frzs u.tbls (λm' hm=>by
  let#[o',es',ep',ho',r']:=hm;rw[ho]at ho';cases ho'
  exact#[_,es',ep',hL,r']) hok hg
def Inv.turned(I:Inv X AO σ H s)(k:∀b o,b≠it->s.heap.get? b=AK o->h'.get? b=AK o)(hn:H it=AL)(hL:it≠X.env.locals)(h1:it ∈ X.ex\/X.s₀.heap.objs.size<=it)(h2:∀x c,X.env.cells.lookup x=AK c->c≠it)(h3:∀p ∈ X.pn ++ AO,p.1≠it):Inv X AO σ H { s with heap:=h',toks:=t' }:=by
 have nit:∀b u,H b=AK u->b≠it:=λb u e z=>by rw[z,hn]at e;cases e
 refine I.step (g':=s.gens) (d':=s.drawn) (ch:=[it]) (λb hb=>?_) (λb o Z Z hc e Z=>k b o (λz=>hc (by simp [z])) e) (λb o Z Z hc e Z=>#[o.slots,k b o (λz=>hc (by simp [z])) e]) (λZ Z Z Z n=>n)
  (λb o hc e=>#[o,k b o (λz=>hc (by simp [z])) e]) (λZ Z e=>e) (λZ Z Z e=>e) (λb ps e=>#[#[],by rw[e];simp]) (λm hm=>?_) (λb u e=>?_) I.bare
 ·have e:b=it:=by simpa using hb
  subst e;exact#[h1,hL,h2,h3]
 ·let#[o,es,ep,ho,r]:=hm;exact#[o,es,ep,k _ o (Ne.symm hL) ho,r]
 ·refine (I.hok b u e).stay (λc v hc q=>k c v ?_ q) (λZ q=>q) λZ Z q=>q;rcases hc with z | z
  ·rw[z];exact nit b u e
  ·exact nit c _ z
def Inv.tok(I:Inv X AO σ H s)(t:Nat):Inv X AO σ H { s with toks:=t }:=I.un (h':=s.heap) (t':=t) Un.refl I.hok
def Inv.kept(I:Inv X AO σ H s)(k:∀b u,s.heap.get? b=AK u->h'.get? b=AK u):Inv X AO σ H { s with heap:=h',toks:=t' }:=I.un (Un.kept k) (I.hok.kept k)
def Inv.laid(I:Inv X AO σ H s)(k:∀b u,s.heap.get? b=AK u->h'.get? b=AK u)(hp:s⁻¹<=a)(new:ObjOk X.prog X.w (upd H a o) h' a o) :
  Inv X AO σ (upd H a o) { s with heap:=h',toks:=t' }:=I.un (Un.laid k hp (I.hok.fresh hp)) (I.hok.laid k hp new)
def Inv.write(I:Inv X AO σ H s)(mu:Mut (H x))(he:e=x\/H e=AK (.own x))(k:∀b u,b≠e->s.heap.get? b=AK u->h'.get? b=AK u)(heo:∃u,h'.get? e=AK u)(new:ObjOk X.prog X.w (upd H x o) h' x o):Inv X AO σ (upd H x o) { s with heap:=h',toks:=t' }:=I.un (Un.write mu he k heo) (I.hok.write mu he k heo new)
def Inv.weak(I:Inv X AO σ H s)(hl:σ'.length=σ.length)(w:∀(i:Nat) v,σ'[i]? = AK (AK v)->σ[i]? = AK (AK v)):Inv X AO σ' H s :=
 #[I.ok,I.os,I.bare,I.base,let #[m,hn,hl']:=I.loc; #[m,hn,λi x v e1 e2 e3=>hl' i x v e1 (w i v e2) e3],I.cell,I.free,I.freeC,I.pin,I.hok,hl.trans I.len]
def Inv.pins_of(I:Inv X AO σ H s)(h:∀p ∈ pins',s.heap.get? p.1=AK p.2/\H p.1=AL/\p.1≠X.env.locals/\p.1 ∉ X.fs/\∀v,p.2.data≠.cell v):Inv X pins' σ H s :=
 #[I.ok,I.os,I.bare,I.base,I.loc,I.cell,I.free,I.freeC,λp hp=>(AV.mp hp).elim (λz=>I.pin p (bH _ z)) (h p),I.hok,I.len]
def WA{N:List sB}(hN:N.Nodup){i j:Nat}(a:N[i]? = AK x)(b:N[j]? = AK x):i=j:=by let#[h1,e1]:=AS.mp a;let#[h2,e2]:=AS.mp b;exact (List.getElem_inj hN).mp (e1.trans e2.symm)
def Xb(I:Inv X AO σ H s)(hN:X.N.Nodup)(hi:X.N[i]? = AK x)(hx:Loc X.env.scope x)(r:RelV v u)(h:∀s',Inv X AO (σ.set i (AK v)) H s'->(∃a,Heap.SameBut a s.heap s'.heap/\(a=X.env.locals\/X.env.cells.lookup x=AK a))->Q Unit.unit s')(hf:X.fn x=AM\/X.env.scope.names.lookup x=AK .local:=by first | exact .inl rfl | exact .inr rfl | assumption):sy M A (storeName X.env x u) Q E s:=by
 let#[m,hn,hl]:=id I.loc;have hcls:(X.env.scope.kind == .class || (X.env.scope.kind == .module && X.env.locals != X.env.globals))=AN:=by rw[I.ok.kind];rfl
 have hiσ:i<σ.length:=by rw[I.len];exact (AS.mp hi).1
 have cne:=I.cne
 have tracked:∀{a:su} {h':sU},(∃o,s.heap.get? a=AK o/\H a=AL)->Heap.SameBut a s.heap h'->HOk X.prog X.w H h':=λ{a h'} ha hs b ob e=>by
  let#[_,_,hfree]:=ha;refine (I.hok b ob e).stay (λc w' hc q=>(hs.2 c ?_).trans q) (λZ q=>q) λZ Z q=>q;rintro rfl;rcases hc with rfl | hc
  ·rw[hfree]at e;cases e
  ·rw[hfree]at hc;cases hc
 rcases hx with hk | hk
 ·refine wpAny_storeName_local hk hn (λh' hn' hs=>?_) hcls;let#[oL,_,_,hoL,_]:=id hn;refine h _ #[I.ok,I.os,I.bare,#[λb o e n hb hx=>?_,λb o e n hb hx=>?_,I.base.free,λb o e hx=>?_,I.base.tups,I.base.frzs,I.base.tbls],#[_,hn',λj y v' e1 e2 e3=>?_],λy c e=>?_,I.free,I.freeC,λp hp=>?_,tracked #[oL,hoL,I.free] hs,by simpa using I.len] #[_,hs,.inl rfl]
  ·exact (hs.2 b (az (ax (av e) I.ok.above))).trans (I.base.keep b o e n hb hx)
  ·let#[sl,e1]:=I.base.slot b o e n hb hx;exact#[sl,(hs.2 b (az (ax (av e) I.ok.above))).trans e1]
  ·let#[o',e1]:=I.base.there b o e hx;exact#[o',(hs.2 b (az (ax (av e) I.ok.above))).trans e1]
  ·by_cases hj:j=i
   ·subst hj;rw[hi]at e1;cases e1;rw[fH hiσ]at e2;cases e2;exact#[u,r,.inl #[hk,by simp]]
   ·rw[gb (Ne.symm hj)]at e2;let#[u',r',q]:=hl j y v' e1 e2 e3;refine#[u',r',?_];rcases q with ⟨k,e⟩ | ⟨k,c,e,z⟩
    ·refine .inl #[k,?_];have:y≠x:=λe=>hj (WA hN e1 (e ▸ hi));simp [this,e]
    ·exact .inr #[k,c,e,z.sameBut hs (cne y c e)]
  ·let#[w',z]:=I.cell y c e;exact#[w',z.sameBut hs (cne y c e)]
  ·let#[e,n,ne,nf,d]:=I.pin p hp;exact#[(hs.2 p.1 ne).trans e,n,ne,nf,d]
 ·have hfn:X.fn x=AM:=by
   rcases hf with z | z
   ·exact z
   ·rw[z]at hk;cases hk
  let#[c,hc]:=I.ok.has x (.inl hk);let#[w',z]:=I.cell x c hc;refine wpAny_storeName_cell I.ok.kind hk hc z (λh' hc' hs=>?_);let#[oc,hoc,hocd]:=id z;refine h { s with heap:=h' } #[I.ok,I.os,I.bare,#[λb o e n hb hx=>?_,λb o e n hb hx=>?_,I.base.free,λb o e hx=>?_,I.base.tups,I.base.frzs,I.base.tbls],#[m,hn.sameBut hs (Ne.symm (cne x c hc)),λj y v' e1 e2 e3=>?_],λy c' e=>?_,I.free,I.freeC,λp hp=>?_,tracked #[oc,hoc,I.freeC x c hc] hs,by simpa using I.len] #[c,hs,.inr hc]
  ·exact (hs.2 b (az (ax (av e) (I.ok.cab x c hfn hc)))).trans (I.base.keep b o e n hb hx)
  ·let#[sl,e1]:=I.base.slot b o e n hb hx;exact#[sl,(hs.2 b (az (ax (av e) (I.ok.cab x c hfn hc)))).trans e1]
  ·let#[o',e1]:=I.base.there b o e hx;exact#[o',(hs.2 b (az (ax (av e) (I.ok.cab x c hfn hc)))).trans e1]
  ·by_cases hj:j=i
   ·subst hj;rw[hi]at e1;cases e1;rw[fH hiσ]at e2;cases e2;exact#[u,r,.inr #[.inl hk,c,hc,hc']]
   ·rw[gb (Ne.symm hj)]at e2;let#[u',r',q]:=hl j y v' e1 e2 e3;refine#[u',r',?_];rcases q with q | ⟨k,c',e,z'⟩
    ·exact .inl q
    ·refine .inr #[k,c',e,z'.sameBut hs ?_];rintro rfl;exact hj (WA hN e1 (I.ok.inj _ _ _ e hc ▸ hi))
  ·by_cases hcc:c'=c
   ·subst hcc;exact#[_,hc']
   ·let#[w2,z2]:=I.cell y c' e;exact#[w2,z2.sameBut hs hcc]
  ·let#[e,n,ne,nf,d]:=I.pin p hp;refine#[(hs.2 p.1 ?_).trans e,n,ne,nf,d];intro q;rw[q,hoc]at e;have q':oc=p.2:=Option.some.inj e;exact d w' (by rw[<- q'];exact hocd)
def Yc(I:Inv X AO σ H s)(hN:X.N.Nodup)(hi:X.N[i]? = AK x)(hx:Loc X.env.scope x)(r:RelV v u)(h:∀s',Inv X AO (σ.set i (AK v)) H s'->Q Unit.unit s')(hf:X.fn x=AM\/X.env.scope.names.lookup x=AK .local:=by first | exact .inl rfl | exact .inr rfl | assumption):sy M A (storeName X.env x u) Q E s :=
 Xb I hN hi hx r (λs' I' Z=>h s' I') hf
def Inv.call'(I:Inv X AO σ H s)(ho:s'.os=s.os)(u:Un (frs X.stack) ch H H' s.heap s'.heap)(hok:HOk X.prog X.w H' s'.heap)(hg:tV s'.gens)(hch:∀b ∈ ch,(b ∈ X.ex\/X.s₀.heap.objs.size<=b)/\b≠X.env.locals/\(∀x c,X.env.cells.lookup x=AK c->c≠b)/\∀p ∈ X.pn ++ AO,p.1≠b):Inv X AO σ H' s':=by let#[h',g',d',t',o']:=s';have e:o'=s.os:=ho;subst e;exact I.call (g':=g') (t':=t') (d':=d') u hok hg hch
end in abbrev XK:=sv->Option su->Hp->Prop
end in abbrev St:=List (Option V)
end in abbrev VK:=V->Hp->Prop
end in abbrev TE:=St->Hp->VK->Prop
end in abbrev TT:=St->Hp->(Bool->Hp->Prop)->Prop
end in abbrev TA:=St->Hp->(List V->Hp->Prop)->Prop
structure Yj where
 nx:St->Hp->Prop
 rt:VK
 bk:St->Hp->Prop:=λZ Z=>False
 ct:St->Hp->Prop:=λZ Z=>False
end in abbrev TS:=Yj->St->Hp->Prop
def EP(X:Cx)(AO:List (su × tN))(σ:St)(Q:VK)(u:sv)(s':sw):Prop:=∃v H',Inv X AO σ H' s'/\RelV v u/\Q v H'
def TP(X:Cx)(AO:List (su × tN))(σ:St)(Q:Bool->Hp->Prop)(b:Bool)(s':sw):Prop:=∃H',Inv X AO σ H' s'/\Q b H'
def AP(X:Cx)(AO:List (su × tN))(σ:St)(Q:List V->Hp->Prop)(us:List sv)(s':sw):Prop:=∃vs H',Inv X AO σ H' s'/\Vals vs us/\Q vs H'
def SP(X:Cx)(AO:List (su × tN))(D:Yj)(f:Flow)(s':sw):Prop :=
 match f with
 | .next=>∃σ' H',Inv X AO σ' H' s'/\D.nx σ' H'
 | .brk=>∃σ' H',Inv X AO σ' H' s'/\D.bk σ' H'
 | .cont=>∃σ' H',Inv X AO σ' H' s'/\D.ct σ' H'
 | .ret u=>∃v σ' H',Inv X AO σ' H' s'/\RelV v u/\D.rt v H'
def PE(X:Cx)(e:tK)(t:TE):Prop :=
 ∀(AO:List (su × tN)) (s:sw) (σ:St) (H:Hp) (Q:VK),Inv X AO σ H s->t σ H Q->sy (model X.prog X.w) X.A (eval e X.env) (EP X AO σ Q) X.xe s
def PT(X:Cx)(e:tK)(t:TT):Prop :=
 ∀(AO:List (su × tN)) (s:sw) (σ:St) (H:Hp) (Q:Bool->Hp->Prop),Inv X AO σ H s->t σ H Q->sy (model X.prog X.w) X.A (isTrue e X.env (eval e X.env)) (TP X AO σ Q) X.xe s
def PW(X:Cx)(e:tK)(t:TT):Prop :=
 ∀(whole:Sem sv) (AO:List (su × tN)) (s:sw) (σ:St) (H:Hp) (Q:Bool->Hp->Prop),Inv X AO σ H s->t σ H Q->sy (model X.prog X.w) X.A (isTrue e X.env whole) (TP X AO σ Q) X.xe s
def PW.pt(h:PW X e t):PT X e t:=h _
def PA(X:Cx)(es:List tK)(t:TA):Prop :=
 ∀(pos:AI) (AO:List (su × tN)) (s:sw) (σ:St) (H:Hp) (Q:List V->Hp->Prop),Inv X AO σ H s->t σ H Q->sy (model X.prog X.w) X.A (spliced (sQ pos (so es X.env))) (AP X AO σ Q) X.xe s
def PS(X:Cx)(st:sI)(t:TS):Prop :=
 ∀(AO:List (su × tN)) (s:sw) (σ:St) (H:Hp) (D:Yj),Inv X AO σ H s->t D σ H->sy (model X.prog X.w) X.A (exec st X.env) (SP X AO D) X.xe s
def PSs(X:Cx)(st:List sI)(t:TS):Prop :=
 ∀(AO:List (su × tN)) (s:sw) (σ:St) (H:Hp) (D:Yj),Inv X AO σ H s->t D σ H->sy (model X.prog X.w) X.A (execs st X.env) (SP X AO D) X.xe s
def thn(h:sy M A t Q E s)(hQ:∀a s,Q a s->Q' a s):sy M A t Q' E s:=tD h hQ λZ Z x=>x
def el5{α β:Type}{a b c:α->β->Prop}{C:Prop}(f:∀x y,a x y->b x y->c x y->C):(∃x y,a x y/\b x y/\c x y)->C:=λh=>Exists.elim h λx h=>Exists.elim h λy h=>f x y h.1 h.2.1 h.2.2
def el3{α:Type}{a b:α->Prop}{C:Prop}(f:∀x,a x->b x->C):(∃x,a x/\b x)->C:=λh=>Exists.elim h λx h=>f x h.1 h.2
def ua2{a b C:Prop}(f:a->b->C):a/\b->C:=λh=>f h.1 h.2
section
variable{X:Cx}
def onSl(σ:St)(i:Nat)(p:V->Prop):Prop:=match σ[i]? with | some (AK v)=>p v | _=>False
theorem onSl.of(h:onSl σ i p):∃v,σ[i]? = AK (AK v)/\p v:=by
 unfold onSl at h;split at h
 ·exact#[_,by assumption,h]
 ·exact h.elim
def onInt(x:V)(p:Int->Prop):Prop:=match x with | .int k=>p k | _=>False
def onInt.of(h:onInt x p):∃k,x=.int k/\p k:=by cases x <;> first | exact#[_,rfl,h] | exact h.elim
def onInt.to(h:∃k,x=.int k/\p k):onInt x p:=by let#[k,rfl,h]:=h;exact h
def onStr(x:V)(p:sB->Prop):Prop:=match x with | .str k=>p k | _=>False
def onStr.of(h:onStr x p):∃k,x=.str k/\p k:=by cases x <;> first | exact#[_,rfl,h] | exact h.elim
def onStr.to(h:∃k,x=.str k/\p k):onStr x p:=by let#[k,rfl,h]:=h;exact h
def onBl(x:V)(p:Bool->Prop):Prop:=match x with | .bl k=>p k | _=>False
def onBl.of(h:onBl x p):∃k,x=.bl k/\p k:=by cases x <;> first | exact#[_,rfl,h] | exact h.elim
def onBl.to(h:∃k,x=.bl k/\p k):onBl x p:=by let#[k,rfl,h]:=h;exact h
def onRef(x:V)(p:su->Prop):Prop:=match x with | .ref k=>p k | _=>False
def onRef.of(h:onRef x p):∃k,x=.ref k/\p k:=by cases x <;> first | exact#[_,rfl,h] | exact h.elim
def onRef.to(h:∃k,x=.ref k/\p k):onRef x p:=by let#[k,rfl,h]:=h;exact h
def zW(i:Nat):TE:=λσ H Q=>onSl σ i λv=>Q v H
def tC(v:V):TE:=λZ H Q=>Q v H
def zeT(hN:X.N[i]? = AK x)(hv:Vis X.env.scope x)(hd:‹(x ==("__debug__" : sB))=AN›)(hcd:‹(x ==("__classdict__" : sB))=AN›):PE X (.Name x pos) (zW i):=by
 intros Q I h;let#[v,e,h]:=onSl.of h;let#[m,hn,hl]:=I.loc;let#[u,r,l]:=hl i x v hN e hv;have fin:EP X AO σ Q u s:=#[v,H,I,r,h];rcases l with ⟨hk,hm⟩ | ⟨hk,c,hc,hcell⟩
 ·exact AC (wpAny_loadName_local I.ok.kind hk hn hm fin) hd
 ·rcases hk with hk | hk
  ·exact AC (wpAny_loadName_cell I.ok.kind hk hc hcell fin) hd
  ·exact AC (wpAny_loadName_free I.ok.kind hk hc hcell fin hcd) hd
def zf{i j pos}:PE X (.Constant (.int i) j pos) (tC (.int i)):=λZ Z Z H Z I h=>wpAny_Constant_int #[.int i,H,I.tok _,#[_,rfl],h]
def yC{b j pos}:PE X (.Constant (.bool b) j pos) (tC (.bl b)):=λZ Z Z H Z I h=>Constant_bool #[.bl b,H,I,rfl,h]
def yb{j pos}:PE X (.Constant .none j pos) (tC .non):=λZ Z Z H Z I h=>Constant_none #[.non,H,I,rfl,h]
def zQ{x j pos}:PE X (.Constant (.str x) j pos) (tC (.str x)):=λZ Z Z H Z I h=>Calls.Constant_str #[.str x,H,I.tok _,#[_,rfl],h]
def Gl(X:Cx)(x:sB):Prop:=X.env.kindOf x=AK .globalImplicit
def uc(I:Inv X AO σ H s)(hg:Gl X x)(hm:X.mg x=AK u)(h:Q u s)(hd:‹(x ==("__debug__" : sB))=AN›):sy (model X.prog X.w) X.A (eval (.Name x pos) X.env) Q E s :=
 Calls.Name_function_global I.ok.kind hg (Calls.loadGlobal_global (by rw[I.ok.glob];exact I.mod.glob.keeps I.bk) hm h) hd
def vN(I:Inv X AO σ H s)(hg:Gl X x)(hm:X.mg x=AL)(hv:sV x=AK u)(h:Q u s)(hn:‹x≠"__name__"›)(hd:‹(x ==("__debug__" : sB))=AN›):sy (model X.prog X.w) X.A (eval (.Name x pos) X.env) Q E s:=by let#[mb,h1,h2]:=I.mod.blt;exact Calls.Name_function_global I.ok.kind hg (Calls.loadGlobal_builtin (by rw[I.ok.glob];exact I.mod.glob.keeps I.bk) hm (by rw[I.ok.blt];exact h1.keeps I.bk) ((h2 x hn).trans hv) h) hd
def yJ(hg:Gl X x)(hm:X.mg x=AK u)(r:RelV v u)(hd:‹(x ==("__debug__" : sB))=AN›):PE X (.Name x pos) (tC v) :=
 λZ Z Z H Z I h=>uc I hg hm #[v,H,I,r,h] hd
def zcC(hg:Gl X x)(hm:X.mg x=AL)(hv:sV x=AK u)(r:RelV v u)(hn:‹x≠"__name__"›)(hd:‹(x ==("__debug__" : sB))=AN›):PE X (.Name x pos) (tC v) :=
 λZ Z Z H Z I h=>vN I hg hm hv #[v,H,I,r,h] hn hd
variable{a b:tK}{ta tb:TE}{pos:AI}
def PC(X:Cx)(op:Ay)(a b:tK)(t:TE):Prop :=
 ∀(AO:List (su × tN)) (s:sw) (σ:St) (H:Hp) (Q:VK),Inv X AO σ H s->t σ H Q ->
  sy (model X.prog X.w) X.A (eval a X.env) (λv s₁=>sy (model X.prog X.w) X.A (eval b X.env) (λu s₂=>sy (model X.prog X.w) X.A (sH op v u) (EP X AO σ Q) X.xe s₂) X.xe s₁) X.xe s
def zan(b:tK)(h:op≠.In)(h2:op≠.NotIn):behindInMarks op b=AN:=by
 have e1:(op == CmpOp.In)=AN:=by cases op <;> first | rfl | exact w4 rfl h
 have e2:(op == CmpOp.NotIn)=AN:=by cases op <;> first | rfl | exact w4 rfl h2
 cases b <;> simp [behindInMarks,e1,e2]
def yy(h:PC X op a b t)(h1:behindInMarks op b=AN:=by first | exact zan _ ∅ ∅ | rfl):PE X (.Compare a [op] [b] pos) t:=λAO s σ H Q I hw=>wpAny_Compare1 (h AO s σ H Q I hw) h1
variable{tA tB':TT}{rest:List tK}
def zfe(t u:TT):TT:=λσ H Q=>t σ H λc H1=>if c=AM then u σ H1 Q else Q AN H1
def tOr(t u:TT):TT:=λσ H Q=>t σ H λc H1=>if c=AM then Q AM H1 else u σ H1 Q
def zdr(t:TT):TT:=λσ H Q=>t σ H λc H1=>Q (!c) H1
theorem X4(ha:PT X a tA):PW X (.BoolOp .And [a] pos) tA:=by
 intro wh AO s σ H Q I h;refine isTrue_and (thn (ha AO s σ H Q I h) λc s1 e=>?_)
 cases c with
 | true=>exact isTrue_and_nil e
 | false=>exact e
theorem wH(ha:PT X a tA):PW X (.BoolOp .Or [a] pos) tA:=by
 intro wh AO s σ H Q I h;refine isTrue_or (thn (ha AO s σ H Q I h) λc s1 e=>?_)
 cases c with
 | false=>exact isTrue_or_nil e
 | true=>exact e
theorem Jn(ha:PT X a tA)(hb:PW X (.BoolOp .And (b::rest) pos) tB'):PW X (.BoolOp .And (a::b::rest) pos) (zfe tA tB'):=by
 intro wh AO s σ H Q I h;refine isTrue_and (thn (ha AO s σ H _ I h) λc s1=>el3 λH1 I1 q1=>?_)
 cases c with
 | true=>exact hb wh AO s1 σ H1 Q I1 q1
 | false=>exact#[H1,I1,q1]
theorem vF(ha:PT X a tA)(hb:PW X (.BoolOp .Or (b::rest) pos) tB'):PW X (.BoolOp .Or (a::b::rest) pos) (tOr tA tB'):=by
 intro wh AO s σ H Q I h;refine isTrue_or (thn (ha AO s σ H _ I h) λc s1=>el3 λH1 I1 q1=>?_)
 cases c with
 | true=>exact#[H1,I1,q1]
 | false=>exact hb wh AO s1 σ H1 Q I1 q1
def yd(ha:PT X a tA):PT X (.UnaryOp .Not a pos) (zdr tA):=by intros Q I h;exact isTrue_not (ha AO s σ H (λc H1=>Q (!c) H1) I h)
def QL(ta tb:TE):TE:=λσ H Q=>ta σ H λx H1=>onBl x λc=>if c=AM then tb σ H1 Q else Q (.bl AN) H1
def J0(ta:TE):TE:=λσ H Q=>ta σ H λx H1=>onBl x λc=>Q (.bl (!c)) H1
def jE{op}(h:PE X a t):PE X (.BoolOp op [a] pos) t:=λAO s σ H Q I hw=>BoolOp_one (h AO s σ H Q I hw)
theorem jG(ha:PE X a ta)(hb:PE X (.BoolOp .And (b::rest) pos) tb):PE X (.BoolOp .And (a::b::rest) pos) (QL ta tb):=by
 intros Q I h;refine BoolOp_and (thn (ha AO s σ H _ I h) λv s1=>el5 λx H1 I1 r1 q1=>?_);let#[c,rfl,q1]:=onBl.of q1;cases r1;refine sL ?_
 cases c with
 | true=>exact hb AO s1 σ H1 Q I1 q1
 | false=>exact#[.bl AN,H1,I1,rfl,q1]
def zaK(ha:PE X a ta):PE X (.UnaryOp .Not a pos) (J0 ta):=by intros Q I h;refine UnaryOp_ (thn (ha AO s σ H _ I h) λv s1=>el5 λx H1 I1 r1 q1=>?_);let#[c,rfl,q1]:=onBl.of q1;cases r1;exact not_of (sL #[.bl (!c),H1,I1,rfl,q1])
def tIf(t:TT)(ta tb:TE):TE:=λσ H Q=>t σ H λc H1=>if c=AM then ta σ H1 Q else tb σ H1 Q
theorem xE(hc:PT X c tA)(ha:PE X a ta)(hb:PE X b tb):PE X (.IfExp c a b pos) (tIf tA ta tb):=by
 intros Q I h;refine wpAny_IfExp (thn (hc AO s σ H _ I h) λd s1=>el3 λH1 I1 q1=>?_)
 cases d with
 | true=>exact ha AO s1 σ H1 Q I1 q1
 | false=>exact hb AO s1 σ H1 Q I1 q1
end
def SqL(K:sr)(H:Hp)(a:su)(xs:List V):Prop :=
 Rd H a (.lst xs) \/
  ∃(o:tN) (its:Array sv) (n:Nat),K.lookup a=AK o/\o.cls=.type "list"/\o.dict=AL/\o.data=.seq its n/\its.size<=sq/\Vals xs its.toList
def SqT(K:sr)(H:Hp)(a:su)(xs:List V):Prop :=
 Rd H a (.tup xs) \/
  ∃(o:tN) (its:Array sv) (n:Nat),K.lookup a=AK o/\o.cls=.type "tuple"/\o.data=.seq its n/\its.size<=sq/\Vals xs its.toList
end in def zg1:sv->Option V
 | .none=>AK .non
 | .bool b=>AK (.bl b)
 | .int i _=>AK (.int i)
 | .str x _=>AK (.str x)
 | .bytes b _=>AK (.byt b)
 | .float b _=>AK (.flt b)
 | .ref a=>AK (.ref a)
 | .type n=>AK (.ty n)
 | _=>AL
theorem RelV.abs(r:RelV x u):zg1 u=AK x:=by
 cases x with
 | non=>cases r;rfl
 | bl _=>cases r;rfl
 | int _=>let#[t,rfl]:=r;rfl
 | str _=>let#[t,rfl]:=r;rfl
 | byt _=>let#[t,rfl]:=r;rfl
 | flt _=>let#[t,rfl]:=r;rfl
 | ref _=>cases r;rfl
 | ty _=>cases r;rfl
def RelV.inj(r:RelV x u)(q:RelV y u):x=y:=Option.some.inj (r.abs.symm.trans q.abs)
theorem Vals.inj(h:Vals xs us)(h':Vals ys us):xs=ys:=by
 induction h generalizing ys with
 | nil =>
  cases h';rfl
 | cons r t ih =>
  cases h' with
  | cons r' t'=>rw[r.inj r',ih t']
def SqL.of{K:sr}(h:H a=AK (.lst xs)):SqL K H a xs:=.inl (.inl h)
def SqT.of{K:sr}(h:H a=AK (.tup xs)):SqT K H a xs:=.inl (.inl h)
def Inv.list(I:Inv X AO σ H s)(h:SqL X.K H a xs):∃its:List sv,Vals xs its/\PlainL s.heap a its.toArray/\xs.length<=sq:=by
 rcases h with h | ⟨o,its,n,hk,hc,hd,hs,hz,r⟩
 ·let#[z,its,n,r,e]:=h.ok I.hok;exact#[its,r,#[_,n,e,rfl,rfl,rfl],z]
 ·refine#[its.toList,r,#[o,n,I.kIn a o hk,hc,hd,by simpa using hs],?_];have e:=r.length
  erw[eD]at e
  lia
def Inv.tuple(I:Inv X AO σ H s)(h:SqT X.K H a xs):∃its:List sv,Vals xs its/\IsTup s.heap a its.toArray/\xs.length<=sq:=by
 rcases h with h | ⟨o,its,n,hk,hc,hs,hz,r⟩
 ·let#[z,its,r,p]:=h.ok I.hok;exact#[its,r,p,z]
 ·refine#[its.toList,r,#[o,I.kIn a o hk,hc,n,by simpa using hs],?_];have e:=r.length
  erw[eD]at e
  lia
def Inv.list_inj(I:Inv X AO σ H s)(h:SqL X.K H a xs)(h':SqL X.K H a ys):xs=ys:=by
 let#[its,r,#[o,n,e,_,_,d],_]:=I.list h;let#[its',r',#[o',n',e',_,_,d'],_]:=I.list h';rw[e]at e';cases e';rw[d]at d';injection d' with d1 _;have:its=its':=by simpa using congrArg Array.toList d1
 subst this;exact r.inj r'
def Inv.tuple_inj(I:Inv X AO σ H s)(h:SqT X.K H a xs)(h':SqT X.K H a ys):xs=ys:=by
 let#[its,r,#[o,e,_,n,d],_]:=I.tuple h;let#[its',r',#[o',e',_,n',d'],_]:=I.tuple h';rw[e]at e';cases e';rw[d]at d';injection d' with d1 _;have:its=its':=by simpa using congrArg Array.toList d1
 subst this;exact r.inj r'
end in abbrev Cx.wish(X:Cx)(E:sv->sw->Prop):Cx:={ X with xe:=E }
end in abbrev Cx.nox(X:Cx):Cx:=X.wish λZ Z=>False
def Cx.Ok.wish{X:Cx}(ok:X.Ok)(E:sv->sw->Prop):(X.wish E).Ok :=
 #[ok.mod,ok.kind,ok.glob,ok.blt,ok.above,ok.inj,ok.has,ok.cab,ok.hd,ok.frames,ok.stk,ok.exf,ok.bs,ok.bsz,ok.noex,ok.exfs,ok.funs,ok.frf]
def Cx.Ok.unwish{X:Cx}(ok:(X.wish E).Ok):X.Ok :=
 #[ok.mod,ok.kind,ok.glob,ok.blt,ok.above,ok.inj,ok.has,ok.cab,ok.hd,ok.frames,ok.stk,ok.exf,ok.bs,ok.bsz,ok.noex,ok.exfs,ok.funs,ok.frf]
def Inv.wish(I:Inv X AO σ H s)(E:sv->sw->Prop):Inv (X.wish E) AO σ H s:=#[I.ok.wish E,I.os,I.bare,I.base,I.loc,I.cell,I.free,I.freeC,I.pin,I.hok,I.len]
def Inv.unwish(I:Inv (X.wish E) AO σ H s):Inv X AO σ H s:=#[I.ok.unwish,I.os,I.bare,I.base,I.loc,I.cell,I.free,I.freeC,I.pin,I.hok,I.len]
theorem SP.unwish(h:SP (X.wish E) AO D f s'):SP X AO D f s':=by
 cases f with
 | next=>let#[σ',H',I,q]:=h;exact#[σ',H',I.unwish,q]
 | brk=>let#[σ',H',I,q]:=h;exact#[σ',H',I.unwish,q]
 | cont=>let#[σ',H',I,q]:=h;exact#[σ',H',I.unwish,q]
 | ret u=>let#[v,σ',H',I,r,q]:=h;exact#[v,σ',H',I.unwish,r,q]
def PSs.nox{st:List sI}(h:PSs X.nox st t):PSs X st t:=λAO s σ H D I hw =>
 tD (h AO s σ H D (I.wish _) hw) (λZ Z q=>q.unwish) λZ Z z=>False.elim z
def KL:TS:=λD σ H=>D.nx σ H
def zfc(t u:TS):TS:=λD σ H=>t { D with nx:=u D } σ H
def zp:PSs X [] KL:=λZ Z σ H Z I h=>tF #[σ,H,I,h]
theorem zG{X:Cx}{st:sI}{rest:List sI}{t:TS}{u:TS}(h1:PS X st t)(h2:PSs X rest u):PSs X (st::rest) (zfc t u):=by
 intros D I h;refine tL (thn (h1 AO s σ H { D with nx:=u D } I h) λf s1 q=>?_)
 cases f with
 | next =>
  let#[σ',H',I',q]:=q;exact h2 AO s1 σ' H' D I' q
 | ret v=>exact q
 | brk=>exact q
 | cont=>exact q
theorem zg{X:Cx}{st:sI}{t:TS}(h1:PS X st t):PSs X [st] t:=by
 intros D I h;refine tL (thn (h1 AO s σ H D I h) λf s1 q=>?_)
 cases f with
 | next=>exact tF q
 | ret v=>exact q
 | brk=>exact q
 | cont=>exact q
def Inv.quiet(I:Inv X AO σ H s):interactive X.env=AN:=by simp [interactive,I.ok.kind]
def K4(te:TE):TS:=λD σ H=>te σ H λZ H1=>D.nx σ H1
def xt(he:PE X e te)(hs:‹swapsWith e AL pos.line X.env=pure AN›):PS X (.Expr e pos) (K4 te):=by intros D I h;exact wpAny_Expr_any (thn (he AO s σ H _ I h) λv s1=>el5 λx H1 I1 r1 q1=>#[σ,H1,I1,q1]) I.quiet hs
def zbA(te:TE):TS:=λD σ H=>te σ H D.rt
def zl(he:PE X e te):PS X (.Return (AK e) pos) (zbA te):=by intros D I h;exact Aq (thn (he AO s σ H _ I h) λv s1=>el5 λx H1 I1 r1 q1=>#[x,σ,H1,I1,r1,q1])
def zfb(c:TT)(t u:TS):TS:=λD σ H=>c σ H λb H1=>if b=AM then t D σ H1 else u D σ H1
theorem zJ(hc:PT X c tc)(ha:PSs X a t)(hb:PSs X b u):PS X (.If c a b pos) (zfb tc t u):=by
 intros D I h;refine wpAny_If (thn (hc AO s σ H _ I h) λd s1=>el3 λH1 I1 q1=>?_)
 cases d with
 | true=>exact ha AO s1 σ H1 D I1 q1
 | false=>exact hb AO s1 σ H1 D I1 q1
end in abbrev TG:=V->St->Hp->(St->Hp->Prop)->Prop
end in abbrev TGs:=List V->St->Hp->(St->Hp->Prop)->Prop
def PG(X:Cx)(target:tK)(t:TG):Prop :=
 ∀(AO:List (su × tN)) (s:sw) (σ:St) (H:Hp) (v:V) (u:sv) (Q:St->Hp->Prop),Inv X AO σ H s->RelV v u->t v σ H Q ->
  sy (model X.prog X.w) X.A (assign target X.env u) (λZ s'=>∃σ' H',Inv X AO σ' H' s'/\Q σ' H') X.xe s
def PGs(X:Cx)(ts:List tK)(t:TGs):Prop :=
 ∀(AO:List (su × tN)) (s:sw) (σ:St) (H:Hp) (vs:List V) (us:List sv) (Q:St->Hp->Prop),Inv X AO σ H s->Vals vs us->t vs σ H Q ->
  sy (model X.prog X.w) X.A (assignInOrder ((assignEach ts X.env).map (·.2)) us) (λZ s'=>∃σ' H',Inv X AO σ' H' s'/\Q σ' H') X.xe s
end in abbrev zgU:=V->V->V->Hp->(Hp->Prop)->Prop
def zfQ(X:Cx)(t:zgU):Prop :=
 ∀(AO:List (su × tN)) (s:sw) (σ:St) (H:Hp) (o i v:V) (ov iv u:sv) (Q:Hp->Prop),Inv X AO σ H s->RelV o ov->RelV i iv->RelV v u->t o i v H Q ->
  sy (model X.prog X.w) X.A (setItem ov iv u) (λZ s'=>∃H',Inv X AO σ H' s'/\Q H') X.xe s
def yx(i:Nat):TG:=λv σ H Q=>Q (σ.set i (AK v)) H
def zr(hN:X.N.Nodup)(hi:X.N[i]? = AK x)(hx:Loc X.env.scope x)(hf:X.fn x=AM\/X.env.scope.names.lookup x=AK .local:=by first | exact .inl rfl | exact .inr rfl | assumption):PG X (.Name x pos) (yx i):=by intros v u Q I r h;exact Ap (Yc I hN hi hx r (λs' I'=>#[_,H,I',h]) hf)
def zcG:TGs:=λvs σ H Q=>vs=[]/\Q σ H
def kH(t:TG)(u:TGs):TGs:=λvs σ H Q=>∃v r,vs=v::r/\t v σ H λσ' H'=>u r σ' H' Q
def vb:PGs X [] zcG:=by intros vs us Q I r h;let#[e,h]:=h;subst e;cases r;exact assignInOrder_nil #[σ,H,I,h]
theorem ye(h1:PG X e t)(h2:PGs X es u)(hs:‹(assignEach (e::es) X.env).map (·.2)=assign e X.env::(assignEach es X.env).map (·.2)›):PGs X (e::es) (kH t u):=by
 intros vs us Q I r h;let#[v,vr,e1,h]:=h;subst e1
 cases r with
 | cons r rr =>
  rw[hs];refine assignInOrder_cons (thn (h1 AO s σ H _ _ _ I r h) λ_ s1 ⟨σ1,H1,I1,q1⟩=>?_);exact h2 AO s1 σ1 H1 _ _ Q I1 rr q1
def zbO(K:sr)(n:Nat)(t:TGs):TG:=λv σ H Q=>∃a xs,v=.ref a/\SqT K H a xs/\xs.length=n/\t xs σ H Q
def qr(hc:X.calm=AM)(h:PGs X es t)(hn:‹(assignEach es X.env).length=n›)(hst:‹(assignEach es X.env).findIdx? (·.1)=AL›):PG X (.Tuple es k pos) (zbO X.K n t):=by intros v u Q I r hw;let#[a,xs,e1,hq,hl,hw]:=hw;subst e1;cases r;let#[its,rv,ht,hz]:=I.tuple hq;refine assign_Tuple_tuple (I.ok.hd hc) ht (by simp [hn,<- hl,rv.length]) hst λh' hx=>?_;have I1:Inv X AO σ H { s with heap:=h' }:=I.kept (t':=s.toks) λb o e=>hx b o (az (av e)) e;exact h AO _ σ H xs _ Q I1 (by simpa using rv) hw
def zfu(to ti:TE)(t:zgU):TG:=λv σ H Q=>to σ H λo H1=>ti σ H1 λi H2=>t o i v H2 λH3=>Q σ H3
def za3(ho:PE X o to)(hi:PE X i ti)(hs:zfQ X t)(ha:∀v,assign (.Subscript o i pos) X.env v=(do
   let ov <- holding [v] (eval o X.env)
   let iv <- holding [v,ov] (eval i X.env)
   standAt pos
   holding [v,ov,iv] (setItem ov iv v)
   release [v,ov,iv] []):=by intro _;rfl):PG X (.Subscript o i pos) (zfu to ti t):=by intros v u Q I r h;rw[ha];refine si (sM (thn (ho AO s σ H _ I h) λov s1=>el5 λx H1 I1 r1 q1=>?_));refine si (sM (thn (hi AO s1 σ H1 _ I1 q1) λiv s2=>el5 λy H2 I2 r2 q2=>?_));refine si (tu (si (sM (thn (hs AO s2 σ H2 x y v ov iv u _ I2 r1 r2 r q2) λZ s3=>el3 λH3 I3 q3=>?_))));exact wpAny_release #[σ,H3,I3,q3]
def zdq(te:TE)(g:TG):TS:=λD σ H=>te σ H λx H1=>g x σ H1 D.nx
def zbt(he:PE X e te)(hg:PG X tg g)(hs:‹swapsWithSole [tg] e pos.line X.env=pure AN›)(hw:‹swappedStores [tg] e X.env=pure AL›)(h1:‹(assignEach [tg] X.env).map (·.2)=[assign tg X.env]›):PS X (.Assign [tg] e pos) (zdq te g):=by intros D I h;refine wpAny_Assign_stores (thn (he AO s σ H _ I h) λv s1=>el5 λx H1 I1 r1 q1=>?_) hs hw;rw[h1];exact thn (hg AO s1 σ H1 x v _ I1 r1 q1) λZ s2 q=>q
def yT(hN:X.N.Nodup)(hi:X.N[i]? = AK x)(hx:Loc X.env.scope x)(he:PE X e te)(hs:‹swapsWith e (AK (.Name x pos')) pos.line X.env=pure AN›)(hf:X.fn x=AM\/X.env.scope.names.lookup x=AK .local:=by first | exact .inl rfl | exact .inr rfl | assumption) :
  PS X (.Assign [.Name x pos'] e pos) (zdq te (yx i)):=by intros D I h;refine Ar (thn (he AO s σ H _ I h) λv s1=>el5 λy H1 I1 r1 q1=>?_) hs;exact Yc I1 hN hi hx r1 (λs2 I2=>#[_,H1,I2,q1]) hf
def YB(c:TT)(tb:TS):TS:=λD σ H=>∃W:Nat->St->Hp->Prop,(∃m,W m σ H)/\∀m σ H,W m σ H ->
 c σ H λb H1=>if b=AM then ∃N:St->Hp->Prop,(∀σ' H',N σ' H'->∃m',m'<m/\W m' σ' H')/\tb { D with nx:=N,ct:=N,bk:=D.nx } σ H1 else D.nx σ H1
theorem uI(hp:PassesOwn (model X.prog X.w) X.A X.env X.xe)(hc:PT X c tc)(hb:PSs X body tb):PS X (.While c body [] pos) (YB tc tb):=by
 intros D I h;let#[W,#[m0,w0],turn]:=h;refine wpAny_While (codeAny_whileLoop (λn s'=>∃σ' H',Inv X AO σ' H' s'/\W n σ' H') ?_ m0 #[σ,H,I,w0]);rintro n s1 ⟨σ1,H1,I1,w1⟩;refine tm hp (thn (hc AO s1 σ1 H1 _ I1 (turn n σ1 H1 w1)) λb s2=>el3 λH2 I2 q2=>?_)
 cases b with
 | true =>
  let#[N,hN,q2]:=q2;rw[w6 rfl];refine tm hp (thn (hb AO s2 σ1 H2 _ I2 q2) λf s3 q3=>?_)
  cases f with
  | next =>
   let#[σ3,H3,I3,n3]:=q3;let#[m',hm,w3]:=hN σ3 H3 n3;exact#[m',hm,σ3,H3,I3,w3]
  | cont =>
   let#[σ3,H3,I3,n3]:=q3;let#[m',hm,w3]:=hN σ3 H3 n3;exact#[m',hm,σ3,H3,I3,w3]
  | brk=>exact q3
  | ret v=>exact q3
 | false =>
  rw[w9 aF];exact tF #[σ1,H2,I2,q2]
structure It where
 go:Nat->Hp->Prop
 yld:Nat->Hp->V->Hp->Prop
 stop:Nat->Hp->Prop
def wj(X:Cx)(AO:List (su × tN))(H:Hp)(b:su):Prop :=
 H b=AL/\b≠X.env.locals/\b ∉ X.fs/\(b ∈ X.ex\/X.s₀.heap.objs.size<=b)/\(∀x c,X.env.cells.lookup x=AK c->c≠b)/\∀p ∈ X.pn ++ AO,p.1≠b
def Inv.fpOk(I:Inv X AO σ H s)(hb:s⁻¹<=b)(hn:H' b=AL):wj X AO H' b:=by
 refine#[hn,cr (ax I.lt hb),I.nofs hb,.inr (aL I.sz hb),λx c e z=>?_,λp hp z=>?_]
 ·let#[v,q]:=I.cell x c e;exact w4 (ax q.lt (by rw[z];exact hb)) (cN _)
 ·exact w4 (ax (av (I.pin p hp).1) (by rw[z];exact hb)) (cN _)
structure zaN(P:sJ)(w:sP)(K:sr)(tg:tK)(J:It)(fp:List su)(it:su)(tn:Nat->sU->Prop):Prop where
 mem:it ∈ fp
 obj:∀i h,tn i h->∀b ∈ fp,∃o,h.get? b=AK o/\∀v,o.data≠.cell v
 keep:∀i h h',tn i h->(∀b ∈ fp,∀o,h.get? b=AK o->h'.get? b=AK o)->tn i h'
 item:∀(X:Cx),X.prog=P->X.w=w->X.K=K->X.calm=AM->∀(i:Nat) (AO:List (su × tN)) (s:sw) (σ:St) (H:Hp) (E:sv->sw->Prop),Inv X AO σ H s->(∀b ∈ fp,wj X AO H b)->tn i s.heap->J.go i H ->
  sy (model P w) X.A (pyNext (.ref it)) (λr s1=>∃u,r=AK u /\
   sy (model P w) X.A (letOwnedTupleGo tg (.ref it) u) (λZ s2=>∃x H',Inv X AO σ H' s2/\RelV x u/\J.yld i H x H'/\tn (i+1) s2.heap/\∀b ∈ fp,H' b=AL) E s1) E s
 done:∀(X:Cx),X.prog=P->X.w=w->X.K=K->X.calm=AM->∀(i:Nat) (AO:List (su × tN)) (s:sw) (σ:St) (H:Hp) (E:sv->sw->Prop),Inv X AO σ H s->(∀b ∈ fp,wj X AO H b)->tn i s.heap->J.stop i H ->
  sy (model P w) X.A (pyNext (.ref it)) (λr s1=>r=AL/\Inv X AO σ H s1) E s
 self:∀(A:sY) (i:Nat) (s:sw) (Q:sv->sw->Prop) (E:sv->sw->Prop),tn i s.heap->Q (.ref it) s->sy (model P w) A (pyIter (.ref it)) Q E s
end in abbrev TI:=St->Hp->(It->Hp->Prop)->Prop
def PIE(X:Cx)(AO:List (su × tN))(σ:St)(tg:tK)(R:It->Hp->Prop)(itv:sv)(s2:sw):Prop :=
 ∃(it:su) (fp:List su) (tn:Nat->sU->Prop) (J:It) (H':Hp),itv=.ref it/\Inv X AO σ H' s2/\zaN X.prog X.w X.K tg J fp it tn/\tn 0 s2.heap/\(∀b ∈ fp,wj X AO H' b)/\R J H'
def PI(X:Cx)(tg iter:tK)(wi:TI):Prop :=
 ∀(AO:List (su × tN)) (s:sw) (σ:St) (H:Hp) (R:It->Hp->Prop),Inv X AO σ H s->wi σ H R ->
  sy (model X.prog X.w) X.A (eval iter X.env) (λv s1=>sy (model X.prog X.w) X.A (pyIter v) (PIE X AO σ tg R) X.xe s1) X.xe s
def QA(ho:s.heap.get? it=AK o)(hc:o.cls=.type n)(hd:o.data=.fields vs)(hn:["enumerate","zip","dict_itemiterator","dict_reverseitemiterator","odict_iterator","itertools.zip_longest","itertools.pairwise"].contains n=AN)(hQ:Q Unit.unit s):sy M A (letOwnedTupleGo tg (.ref it) u) Q E s:=by
  unfold letOwnedTupleGo
  cases tg <;> first
    | exact sj hQ
    | (cases u <;> first
        | exact sj hQ
        | (refine si (wpAny_load ho ?_)
           rw[hc,hd];show sy M A (if (["enumerate","zip","dict_itemiterator","dict_reverseitemiterator","odict_iterator","itertools.zip_longest","itertools.pairwise"].contains n && vs[0]? == AK (rawInt _))=AM then _ else _) Q E s;rw[w9 (by intro h;rw[hn,Bool.false_and]at h;cases h)]
           exact sj hQ))
end in def Itl(K:sr)(a:su):It :=
 #[λi H=>∃xs x,SqL K H a xs/\xs[i]? = AK x,λi H x H'=>H'=H/\∀xs,SqL K H a xs->xs[i]? = AK x,λi H=>∃xs,SqL K H a xs/\xs.length<=i]
end in def Itt(K:sr)(a:su):It :=
 #[λi H=>∃xs x,SqT K H a xs/\xs[i]? = AK x,λi H x H'=>H'=H/\∀xs,SqT K H a xs->xs[i]? = AK x,λi H=>∃xs,SqT K H a xs/\xs.length<=i]
end in def Itr(lo:Int)(n:Nat):It:=#[λi Z=>i<n,λi H x H'=>H'=H/\x=.int (lo+i),λi Z=>n<=i]
def JR{K:sr}(a it:su):zaN P w K tg (Itl K a) [it] it (λi h=>h.IsListIter it a i) where
 mem:=by simp
 obj:=λi h st b hb=>by
  have e:b=it:=by simpa using hb
  subst e;let#[o,e,c,d]:=st;exact#[o,e,λv z=>by rw[d]at z;cases z]
 keep:=λi h h' st k=>st.at λo e=>k it (by simp) o e
 item:=by
  intro X hP hw hK hc i AO s σ H E I hf st hg;subst hP hw hK;let#[xs,x,hq,hx]:=hg;let#[its,rv,p,hz]:=I.list hq;let#[u,hu,ru]:=rv.get hx;let#[f0,f1,f2,f3,f4,f5]:=hf it (by simp);refine wpAny_pyNext_list_item st p.isList (x:=u) (by simpa using hu) λh' st' sb=>?_;have I1:Inv X AO σ H { s with heap:=h' }:=I.turned (t':=s.toks) (λb o hb e=>(sb.2 b hb).trans e) f0 f1 f3 f4 f5;let#[o,e,c,d]:=id st';exact#[u,rfl,QA (s:={ s with heap:=h' }) e c d ∅ #[x,H,I1,ru,#[rfl,λys hy=>by rw[I.list_inj hy hq];exact hx],st',λb hb=>(hf b hb).1]]
 done:=by
  intro X hP hw hK hc i AO s σ H E I hf st hg;subst hP hw hK;let#[xs,hq,hx]:=hg;let#[its,rv,p,hz]:=I.list hq;let#[f0,f1,f2,f3,f4,f5]:=hf it (by simp);have hl:=rv.length;exact wpAny_pyNext_list_end (I.ok.hd hc) st p.isList (by simp;lia) λh' eb=>#[rfl,I.turned (t':=s.toks) (λb o hb e=>eb b o hb e) f0 f1 f3 f4 f5]
 self:=λZ Z Z Z Z st h=>wpAny_pyIter_listiter st h
def VM{K:sr}(it:su)(lo:Int)(n:Nat):zaN P w K tg (Itr lo n) [it] it (λi h=>Aj h it (lo+(i:Nat) * 1) ((n:Int) - (i:Nat)) 1) where
 mem:=by simp
 obj:=λi h st b hb=>by
  have e:b=it:=by simpa using hb
  subst e
  exact#[_,st,λv z=>by
   have z':Data.fields _=Data.cell v:=z
   cases z']
 keep:=λi h h' st k=>k it (by simp) _ st
 item:=by
  intro X hP hw hK hc i AO s σ H E I hf st hg;subst hP hw hK;let#[f0,f1,f2,f3,f4,f5]:=hf it (by simp);have W:=Walks.range (prog:=X.prog) (w:=X.w) (I.ok.hd hc) it lo 1 n;refine W.item i s _ _ hg st λv h' tk hv st' kk=>?_;let#[t,rfl]:=hv;have I1:Inv X AO σ H { s with heap:=h',toks:=tk }:=I.turned (λb o hb e=>kk b o (by simpa using hb) e) f0 f1 f3 f4 f5;refine#[_,rfl,QA (s:={ s with heap:=h',toks:=tk }) (n:="range_iterator") st' rfl rfl ∅ #[.int (lo+i),H,I1,#[t,?_],#[rfl,rfl],st',λb hb=>(hf b hb).1]];rw[Int.mul_one]
 done:=by
  intro X hP hw hK hc i AO s σ H E I hf st hg;subst hP hw hK;let#[f0,f1,f2,f3,f4,f5]:=hf it (by simp);exact Ab (I.ok.hd hc) st (by have:n<=i:=hg;lia) λh' eb=>#[rfl,I.turned (t':=s.toks) (λb o hb e=>eb b o hb e) f0 f1 f3 f4 f5]
 self:=λZ Z Z Z Z st h=>Ac st h
def zcj(K:sr)(tl:TE):TI:=λσ H R=>tl σ H λx H1=>∃a,x=.ref a/\(∃xs,SqL K H1 a xs)/\R (Itl K a) H1
def zg4(K:sr)(tl:TE):TI:=λσ H R=>tl σ H λx H1=>∃a,x=.ref a/\(∃xs,SqT K H1 a xs)/\R (Itt K a) H1
def zX(hl:PE X l tl):PI X tg l (zcj X.K tl):=by
 intros R I h;refine thn (hl AO s σ H _ I h) λv s1=>el5 λx H1 I1 r1 q1=>?_;let#[a,e,#[xs,hq],q]:=q1;subst e;cases r1;let#[its,rv,p,hz]:=I1.list hq;refine tR p.isList ?_;refine#[s1⁻¹,[s1⁻¹],_,_,H1,rfl,I1.kept (t':=s1.toks) λb o e=>ag _ e,JR a _,#[_,aI _ rfl,rfl,rfl],λb hb=>?_,q];have e:b=s1⁻¹:=by simpa using hb
 subst e;exact I1.fpOk (ao _) (I1.hok.fresh (ao _))
def Wy{lo hi:Int}(I:Inv X AO σ H s)(h1:-(2 ^ 62)<=lo)(h2:lo<2 ^ 62)(h3:-(2 ^ 62)<=hi)(h4:hi<2 ^ 62)(q:R (Itr lo (hi - lo).toNat) H):sy (model X.prog X.w) X.A (pyIter (.ref s⁻¹)) (PIE X AO σ tg R) E { s with heap:=s.heap.push { cls:=.type "range",data:=.fields (t7 [.int lo t,.int hi u,.int 1 v]) },toks:=tk }:=by
 refine An (IsRange.new ..) (small_one h1 h2 h3 h4) ?_;have I1:Inv X AO σ H { s with heap:=s.heap.push { cls:=.type "range",data:=.fields (t7 [.int lo t,.int hi u,.int 1 v]) },toks:=tk }:=I.kept λb o e=>ag _ e
 refine#[(s.heap.push { cls:=.type "range",data:=.fields (t7 [.int lo t,.int hi u,.int 1 v]) }).objs.size,[(s.heap.push { cls:=.type "range",data:=.fields (t7 [.int lo t,.int hi u,.int 1 v]) }).objs.size],_,_,H,rfl,
  I1.kept (t':=tk) λb o e=>ag _ e,VM _ lo (hi - lo).toNat,?_,λb hb=>?_,q]
 ·have e1:lo+((0:Nat):Int) * 1=lo:=by simp
  have e2:(((hi - lo).toNat:Nat):Int) - ((0:Nat):Int)=p7 lo hi 1:=by rw[rangeSize_one];split <;> lia
  show Aj _ _ (lo+((0:Nat):Int) * 1) ((((hi - lo).toNat:Nat):Int) - ((0:Nat):Int)) 1;rw[e1,e2];exact aI _ rfl
 ·have e:b=(s.heap.push { cls:=.type "range",data:=.fields (t7 [.int lo t,.int hi u,.int 1 v]) }).objs.size:=by simpa using hb
  subst e;exact I1.fpOk (ao _) (I1.hok.fresh (ao _))
def zcr(ta:TA):TI:=λσ H R=>ta σ H λvs H1=>∃j:Int,vs=[.int j]/\-(2 ^ 62)<=j/\j<2 ^ 62/\R (Itr 0 j.toNat) H1
def zdB(ta:TA):TI:=λσ H R=>ta σ H λvs H1=>∃i j:Int,vs=[.int i,.int j]/\(-(2 ^ 62)<=i/\i<2 ^ 62/\-(2 ^ 62)<=j/\j<2 ^ 62)/\R (Itr i (j - i).toNat) H1
theorem zV(hg:Gl X "range")(hm:X.mg "range" = AL)(ha:PA X [a] ta)(hs:‹so [a] X.env=[(AN,eval a X.env)]›):PI X tg (.Call (.Name "range" p) [a] [] pos) (zcr ta):=by
 intros R I h;refine Call_ (vN I hg hm boot_range (bK (thn (ha pos AO s σ H _ I h) λus s1=>el5 λvs H1 I1 r1 q1=>?_) hs rfl));let#[j,e,q1,q2,q]:=q1;subst e
 cases r1 with
 | cons r rr =>
  cases rr;let#[t,rfl]:=r;exact call_range_1 (Wy I1 ⋯ ⋯ q1 q2 (by simpa using q))
theorem Yr(hg:Gl X "range")(hm:X.mg "range" = AL)(ha:PA X [a,b] ta)(hs:‹so [a,b] X.env=[(AN,eval a X.env),(AN,eval b X.env)]›)(hs2:‹so [b] X.env=[(AN,eval b X.env)]›) :
  PI X tg (.Call (.Name "range" p) [a,b] [] pos) (zdB ta):=by
 intros R I h;refine Call_ (vN I hg hm boot_range (bK (thn (ha pos AO s σ H _ I h) λus s1=>el5 λvs H1 I1 r1 q1=>?_) (by rw[hs,hs2]) (by rw[hs2];rfl)));let#[i,j,e,#[q1,q2,q3,q4],q]:=q1;subst e
 cases r1 with
 | cons r rr =>
  cases rr with
  | cons r' rr =>
   cases rr;let#[t,rfl]:=r;let#[t',rfl]:=r';exact call_range_2 (Wy I1 q1 q2 q3 q4 q)
def zam(wi:TI)(g:TG)(tb:TS):TS:=λD σ H=>wi σ H λJ H1=>∃W:Nat->Nat->St->Hp->Prop,(∃m,W 0 m σ H1)/\∀i m σ H,W i m σ H ->
 (J.stop i H/\D.nx σ H)\/(J.go i H/\∃N:St->Hp->Prop,(∀σ' H',N σ' H'->∃m',m'<m/\W (i+1) m' σ' H')/\∀x H',J.yld i H x H'->g x σ H' λσ2 H2=>tb { D with nx:=N,ct:=N,bk:=D.nx } σ2 H2)
end in def Ys(fp:List su)(h:sU):List (su × tN):=fp.filterMap λb=>(h.get? b).map λo=>(b,o)
def vw(hb:b ∈ fp)(e:h.get? b=AK o):(b,o) ∈ Ys fp h:=Bm.mpr #[b,hb,by rw[e];rfl]
theorem JB(hp:p ∈ Ys fp h):p.1 ∈ fp/\h.get? p.1=AK p.2:=by
 let#[b,hb,e]:=Bm.mp hp
 cases q:h.get? b with
 | none=>rw[q]at e;cases e
 | some o =>
  rw[q]at e;have e':(b,o)=p:=Option.some.inj e;subst e';exact#[hb,q]
def Inv.pinned(I:Inv X AO σ H s)(hf:∀b ∈ fp,wj X AO H b)(ho:∀b ∈ fp,∃o,s.heap.get? b=AK o/\∀v,o.data≠.cell v):Inv X (AO ++ Ys fp s.heap) σ H s :=
 I.pins_of λp hp=>(AV.mp hp).elim (λz=>I.pin p (aG _ z)) λz=>by
  let#[hb,e]:=JB z;let#[f0,f1,f2,_]:=hf p.1 hb;let#[o,e',d]:=ho p.1 hb;rw[e]at e';cases e';exact#[e,f0,f1,f2,d]
def Inv.unpinned(I:Inv X (AO ++ pl) σ H s):Inv X AO σ H s:=I.pins_of λp hp=>I.pin p (aG _ (bH _ hp))
def zZ(hp:PassesOwn (model X.prog X.w) X.A X.env X.xe)(hc:X.calm=AM)(hi:PI X tg iter wi)(hg:PG X tg g)(hb:PSs X body tb)(hs:∀x,foldedSetIterable iter X.env x=pure x:=by intro _;rfl):PS X (.For tg iter body [] pos) (zam wi g tb):=by
 intros D I h;refine wpAny_For (thn (hi AO s σ H _ I h) λv s1 h1=>thn h1 λitv s2 h2=>?_) hs;let#[it,fp,tn,J,H2,e,I2,T,st2,f2,W,#[m0,w0],turn]:=h2;subst e;have stat:∀{H':Hp},(∀b ∈ fp,H' b=AL)->∀b ∈ fp,wj X AO H' b:=λhn b hb=>#[hn b hb,(f2 b hb).2];refine codeAny_forLoop_any (λn s'=>∃i σ' H',Inv X AO σ' H' s'/\tn i s'.heap/\(∀b ∈ fp,H' b=AL)/\W i n σ' H') ?_ m0 #[0,σ,H2,I2,st2,λb hb=>(f2 b hb).1,w0];rintro n s3 ⟨i,σ3,H3,I3,st3,fr3,w3⟩;rcases turn i n σ3 H3 w3 with ⟨stop,qn⟩ | ⟨go,N,hN,step⟩
 ·refine tm hp (thn (T.done X rfl rfl rfl hc i AO s3 σ3 H3 X.xe I3 (stat fr3) st3 stop) λr s4 ⟨hr,I4⟩=>?_);subst hr;exact tF #[σ3,H3,I4,qn]
 ·refine tm hp (thn (T.item X rfl rfl rfl hc i AO s3 σ3 H3 X.xe I3 (stat fr3) st3 go) λr s4 ⟨u,hr,h4⟩=>?_);subst hr;refine tm hp (thn h4 λZ s5=>el5 λx H5 I5 r5 q_z=>?_);let#[y5,st5,fr5]:=q_z;have I5':=I5.pinned (stat fr5) (T.obj _ _ st5);refine tm hp (thn (hg _ s5 σ3 H5 x u _ I5' r5 (step x H5 y5)) λ_ s6 ⟨σ6,H6,I6,q6⟩=>?_);refine tm hp (thn (hb _ s6 σ6 H6 _ I6 q6) λf s7 q7=>?_)
  have again:∀{σ7:St} {H7:Hp},Inv X (AO ++ Ys fp s5.heap) σ7 H7 s7->N σ7 H7->∃m,m<n/\∃i σ' H',Inv X AO σ' H' s7/\tn i s7.heap/\(∀b ∈ fp,H' b=AL)/\W i m σ' H':=λ{σ7 H7} I7 n7=>by
   let#[m',hm,w7]:=hN σ7 H7 n7;refine#[m',hm,i+1,σ7,H7,I7.unpinned,T.keep _ _ _ st5 λb hb o e=>(I7.pin (b,o) (aG _ (aG _ (vw hb e)))).1,λb hb=>?_,w7];let#[o,e,d]:=T.obj _ _ st5 b hb;exact (I7.pin (b,o) (aG _ (aG _ (vw hb e)))).2.1
  cases f with
  | next=>let#[σ7,H7,I7,n7]:=q7;exact again I7 n7
  | cont=>let#[σ7,H7,I7,n7]:=q7;exact again I7 n7
  | brk=>let#[σ7,H7,I7,q7]:=q7;exact#[σ7,H7,I7.unpinned,q7]
  | ret v=>let#[x7,σ7,H7,I7,r7,q7]:=q7;exact#[x7,σ7,H7,I7.unpinned,r7,q7]
def Ku{K:sr}{g:TG}{tb:TS}{D:Yj}(Pv:Nat->St->Hp->Prop)(h0:Pv 0 σ H)(hl:∀i σ H,i<=xs.length->Pv i σ H->SqL K H a xs)(hs:∀i x σ H,xs[i]? = AK x->Pv i σ H->g x σ H λσ2 H2=>tb { D with nx:=Pv (i+1),ct:=Pv (i+1),bk:=D.nx } σ2 H2)(hd:∀σ H,Pv xs.length σ H->D.nx σ H) :
  ∃W:Nat->Nat->St->Hp->Prop,(∃m,W 0 m σ H)/\∀i m σ H,W i m σ H ->
   ((Itl K a).stop i H/\D.nx σ H)\/((Itl K a).go i H/\∃N:St->Hp->Prop,(∀σ' H',N σ' H'->∃m',m'<m/\W (i+1) m' σ' H')/\∀x H',(Itl K a).yld i H x H'->g x σ H' λσ2 H2=>tb { D with nx:=N,ct:=N,bk:=D.nx } σ2 H2):=by
 refine#[λi m σ H=>m=xs.length - i/\i<=xs.length/\Pv i σ H,#[xs.length,by simp,aD _,h0],?_];rintro i m σ H ⟨rfl,hi,p⟩;have q:=hl i σ H hi p;by_cases hlt:i<xs.length
 ·refine .inr #[#[xs,xs[i],q,by simp [hlt]],Pv (i+1),λσ' H' p'=>#[xs.length - (i+1),⋯,rfl,hlt,p'],λx H' y=>?_];let#[e,y]:=y;subst e;exact hs i x σ _ (y xs q) p
 ·have e:i=xs.length:=⋯;subst e;exact .inl #[#[xs,q,ao _],hd σ H p]
def UM{lo:Int}{g:TG}{tb:TS}{D:Yj}(Pv:Nat->St->Hp->Prop)(h0:Pv 0 σ H)(hs:∀i σ H,i<n->Pv i σ H->g (.int (lo+i)) σ H λσ2 H2=>tb { D with nx:=Pv (i+1),ct:=Pv (i+1),bk:=D.nx } σ2 H2)(hd:∀σ H,Pv n σ H->D.nx σ H) :
  ∃W:Nat->Nat->St->Hp->Prop,(∃m,W 0 m σ H)/\∀i m σ H,W i m σ H ->
   ((Itr lo n).stop i H/\D.nx σ H)\/((Itr lo n).go i H/\∃N:St->Hp->Prop,(∀σ' H',N σ' H'->∃m',m'<m/\W (i+1) m' σ' H')/\∀x H',(Itr lo n).yld i H x H'->g x σ H' λσ2 H2=>tb { D with nx:=N,ct:=N,bk:=D.nx } σ2 H2):=by
 refine#[λi m σ H=>m=n - i/\i<=n/\Pv i σ H,#[n,by simp,aD _,h0],?_];rintro i m σ H ⟨rfl,hi,p⟩;by_cases hlt:i<n
 ·refine .inr #[hlt,Pv (i+1),λσ' H' p'=>#[n - (i+1),⋯,rfl,hlt,p'],λx H' y=>?_];let#[e,y]:=y;subst e y;exact hs i σ _ hlt p
 ·have e:i=n:=⋯;subst e;exact .inl #[ao _,hd σ H p]
end in abbrev R2:=V->V->Hp->VK->Prop
def OpR(X:Cx)(f:sv->sv->Sem sv)(r:R2):Prop :=
 ∀(AO:List (su × tN)) (s:sw) (σ:St) (H:Hp) (x y:V) (v u:sv) (Q:VK),Inv X AO σ H s->RelV x v->RelV y u->r x y H Q ->
  sy (model X.prog X.w) X.A (f v u) (EP X AO σ Q) X.xe s
def UnR(X:Cx)(f:sv->Sem sv)(r:V->Hp->VK->Prop):Prop :=
 ∀(AO:List (su × tN)) (s:sw) (σ:St) (H:Hp) (x:V) (v:sv) (Q:VK),Inv X AO σ H s->RelV x v->r x H Q ->
  sy (model X.prog X.w) X.A (f v) (EP X AO σ Q) X.xe s
def vY(X:Cx)(f:sv)(r:List V->Hp->VK->Prop):Prop :=
 ∀(AO:List (su × tN)) (s:sw) (σ:St) (H:Hp) (xs:List V) (us:List sv) (Q:VK),Inv X AO σ H s->Vals xs us->r xs H Q ->
  sy (model X.prog X.w) X.A (call f us) (EP X AO σ Q) X.xe s
def zhj(X:Cx)(r:V->Hp->(Bool->Hp->Prop)->Prop):Prop :=
 ∀(AO:List (su × tN)) (s:sw) (σ:St) (H:Hp) (x:V) (v:sv) (Q:Bool->Hp->Prop),Inv X AO σ H s->RelV x v->r x H Q ->
  sy (model X.prog X.w) X.A (truthy v) (TP X AO σ Q) X.xe s
def tOp(r:R2)(ta tb:TE):TE:=λσ H Q=>ta σ H λx H1=>tb σ H1 λy H2=>r x y H2 Q
def tUn(r:V->Hp->VK->Prop)(ta:TE):TE:=λσ H Q=>ta σ H λx H1=>r x H1 Q
def rI(C:Int->Int->Prop)(g:Int->Int->V):R2:=λx y H Q=>onInt x λi=>onInt y λj=>C i j/\Q (g i j) H
def rI0(g:Int->Int->V):R2:=λx y H Q=>onInt x λi=>onInt y λj=>Q (g i j) H
def rU(g:Int->V):V->Hp->VK->Prop:=λx H Q=>onInt x λi=>Q (g i) H
def zfX(ha:PE X a ta)(hb:PE X b tb){R:V->V->Hp->Prop}(I:Inv X AO σ H s)(h:ta σ H λx H1=>tb σ H1 λy H2=>R x y H2){f:sv->sv->Sem sv}(hf:∀v u s2 x y H2,Inv X AO σ H2 s2->RelV x v->RelV y u->R x y H2->sy (model X.prog X.w) X.A (f v u) Q X.xe s2) :
  sy (model X.prog X.w) X.A (eval a X.env) (λv s₁=>sy (model X.prog X.w) X.A (eval b X.env) (λu s₂=>sy (model X.prog X.w) X.A (f v u) Q X.xe s₂) X.xe s₁) X.xe s:=by refine thn (ha AO s σ H _ I h) λv s1=>el5 λx H1 I1 r1 q1=>?_;refine thn (hb AO s1 σ H1 _ I1 q1) λu s2=>el5 λy H2 I2 r2 q2=>?_;exact hf v u s2 x y H2 I2 r1 r2 q2
def zD(ho:OpR X (binaryOp op) r)(ha:PE X a ta)(hb:PE X b tb):PE X (.BinOp a op b pos) (tOp r ta tb):=by intros Q I h;exact wpAny_BinOp (zfX ha hb I h λv u s2 x y H2 I2 rx ry q=>ho AO s2 σ H2 x y v u Q I2 rx ry q)
def zfo(ho:UnR X (unaryOp op) r)(ha:PE X a ta):PE X (.UnaryOp op a pos) (tUn r ta):=by intros Q I h;exact UnaryOp_ (thn (ha AO s σ H _ I h) λv s1=>el5 λx H1 I1 r1 q1=>ho AO s1 σ H1 x v Q I1 r1 q1)
def opI{g:Int->Int->Int}(rule:∀(i j:Int) (t u:Az) (s:sw) (Q:sv->sw->Prop) (E:sv->sw->Prop),C i j->Q (.int (g i j) s.toks) { s with toks:=s.toks+1 }->sy (model X.prog X.w) X.A (f (.int i t) (.int j u)) Q E s) :
  OpR X f (rI C λi j=>.int (g i j)):=by intros x y v u Q I rx ry h;let#[i,rfl,h2]:=onInt.of h;let#[j,rfl,hc,q]:=onInt.of h2;let#[t,rfl]:=rx;let#[t',rfl]:=ry;exact rule i j t t' s _ _ hc #[.int (g i j),H,I.tok _,#[_,rfl],q]
def zgQ{g:Int->Int->Int}(rule:∀(i j:Int) (t u:Az) (s:sw) (Q:sv->sw->Prop) (E:sv->sw->Prop),Q (.int (g i j) s.toks) { s with toks:=s.toks+1 }->sy (model X.prog X.w) X.A (f (.int i t) (.int j u)) Q E s) :
  OpR X f (rI0 λi j=>.int (g i j)):=by intros x y v u Q I rx ry h;let#[i,rfl,h2]:=onInt.of h;let#[j,rfl,q]:=onInt.of h2;let#[t,rfl]:=rx;let#[t',rfl]:=ry;exact rule i j t t' s _ _ #[.int (g i j),H,I.tok _,#[_,rfl],q]
def zfi{g:Int->Int->Bool}(rule:∀(i j:Int) (t u:Az) (s:sw) (Q:sv->sw->Prop) (E:sv->sw->Prop),Q (.bool (g i j)) s->sy (model X.prog X.w) X.A (f (.int i t) (.int j u)) Q E s) :
  OpR X f (rI0 λi j=>.bl (g i j)):=by intros x y v u Q I rx ry h;let#[i,rfl,h2]:=onInt.of h;let#[j,rfl,q]:=onInt.of h2;let#[t,rfl]:=rx;let#[t',rfl]:=ry;exact rule i j t t' s _ _ #[.bl (g i j),H,I,rfl,q]
def zg9(i j:Int):Prop:=0<j/\j<1073741824
def CMul(i j:Int):Prop:=(-(2 ^ 64)<i/\i<2 ^ 64)\/(-(2 ^ 64)<j/\j<2 ^ 64)
def CMul.ok(h:CMul i j):IntMulOk i j:=by
 rcases h with ⟨h1,h2⟩ | ⟨h1,h2⟩
 ·exact .of_left (intBits_le_64 h1 h2)
 ·exact .of_right (intBits_le_64 h1 h2)
def yz:OpR X (binaryOp .Add) (rI0 λi j=>.int (i+j)):=zgQ λZ Z Z Z Z Z Z q=>add_int q
def xD:OpR X (binaryOp .Sub) (rI0 λi j=>.int (i - j)):=zgQ λZ Z Z Z Z Z Z q=>sub_int q
def uH:OpR X (binaryOp .Mult) (rI CMul λi j=>.int (i * j)):=opI λZ Z Z Z Z Z Z hc q=>mul_int q hc.ok
def vm:OpR X (binaryOp .FloorDiv) (rI zg9 λi j=>.int (i / j)):=opI λi j Z Z Z Z Z hc q=>by
 have h1:(0:Int)<j:=hc.1;have h2:j<1073741824:=hc.2;exact floordiv_int ⋯ (by rw[Int.fdiv_eq_ediv_of_nonneg i ⋯];exact q) (.inl (PyProof.noPylong_small ⋯))
def xp:OpR X (binaryOp .Mod) (rI (λZ j=>0<j) λi j=>.int (i % j)):=opI λi j Z Z Z Z Z hc q=>by
 have h1:(0:Int)<j:=hc;exact mod_int' ⋯ (by rw[Int.fmod_eq_emod_of_nonneg i ⋯];exact q)
def unI{g:Int->Int}(rule:∀(i:Int) (t:Az) (s:sw) (Q:sv->sw->Prop) (E:sv->sw->Prop),Q (.int (g i) s.toks) { s with toks:=s.toks+1 }->sy (model X.prog X.w) X.A (f (.int i t)) Q E s) :
  UnR X f (rU λi=>.int (g i)):=by intros x v Q I rx h;let#[i,rfl,q]:=onInt.of h;let#[t,rfl]:=rx;exact rule i t s _ _ #[.int (g i),H,I.tok _,#[_,rfl],q]
def zdK:UnR X (unaryOp .USub) (rU λi=>.int (-i)):=unI λZ Z Z Z Z q=>neg_int q
end in def J4:V->V->Bool
 | .non,.non=>AM | .non,.int _=>AM | .int _,.non=>AM | .non,.bl _=>AM | .bl _,.non=>AM | .non,.str _=>AM | .str _,.non=>AM
 | .int _,.int _=>AM | .bl _,.bl _=>AM | .str _,.str _=>AM | .byt _,.byt _=>AM
 | .int _,.str _=>AM | .str _,.int _=>AM | .bl _,.str _=>AM | .str _,.bl _=>AM
 | _,_=>AN
def rEq:R2:=λx y H Q=>match x,y with | .int a,.int b=>Q (.bl (decide (a=b))) H | .str a,.str b=>Q (.bl (decide (a=b))) H | x,y=>J4 x y=AM/\Q (.bl (decide (x=y))) H
def rEq_is : rEq x y H Q=(J4 x y=AM/\Q (.bl (decide (x=y))) H):=by cases x <;> cases y <;> first | rfl | (show Q _ H=(AM=AM/\Q _ H);rw[eq_self,true_and];congr 2;exact decide_eq_decide.mpr #[λh=>by rw[h],λh=>by cases h;rfl])
def rNe:R2:=λx y H Q=>match x,y with | .int a,.int b=>Q (.bl (!decide (a=b))) H | .str a,.str b=>Q (.bl (!decide (a=b))) H | x,y=>J4 x y=AM/\Q (.bl (!decide (x=y))) H
def rNe_is : rNe x y H Q=(J4 x y=AM/\Q (.bl (!decide (x=y))) H):=by cases x <;> cases y <;> first | rfl | (show Q _ H=(AM=AM/\Q _ H);rw[eq_self,true_and];congr 2;congr 1;exact decide_eq_decide.mpr #[λh=>by rw[h],λh=>by cases h;rfl])
def UT : decide (V.int i=V.int j)=(i == j):=by rw[cS];simp
def zbC : decide (V.bl i=V.bl j)=(i == j):=by rw[cS];simp
def JT : decide (V.str i=V.str j)=(i == j):=by rw[cS];simp
def Jv : decide (V.byt i=V.byt j)=(i.toList == j.toList):=by rw[cS];cases i;cases j;simp
def zU(I:Inv X AO σ H s)(q:Q (.bl k) H)(e:k=k'):EP X AO σ Q (.bool k') s:=by subst e;exact#[.bl k,H,I,rfl,q]
theorem yW:OpR X (sH .Eq) rEq:=by
 intros x y v u Q I rx ry h;let#[hs,q]:=rEq_is.mp h
 cases x with
 | non =>
  cases rx
  cases y with
  | non=>cases ry;exact PySem.EqNone.eq_none_none (zU I q (by simp))
  | bl j=>cases ry;exact PySem.EqNone.eq_none_bool (zU I q (by simp))
  | int j=>let#[t',rfl]:=ry;exact PySem.EqNone.eq_none_int (zU I q (by simp))
  | str j=>let#[t',rfl]:=ry;exact PySem.EqNone.eq_none_str (zU I q (by simp))
  | _=>exact w4 (show AN=AM from hs) aF
 | bl i =>
  cases rx
  cases y with
  | non=>cases ry;exact PySem.EqNone.eq_bool_none (zU I q (by simp))
  | bl j=>cases ry;exact eq_bool (zU I q zbC)
  | str j=>let#[t',rfl]:=ry;exact PySem.EqMixed.eq_bool_str (zU I q (by simp))
  | _=>exact w4 (show AN=AM from hs) aF
 | int i =>
  let#[t,rfl]:=rx
  cases y with
  | non=>cases ry;exact PySem.EqNone.eq_int_none (zU I q (by simp))
  | int j=>let#[t',rfl]:=ry;exact eq_int (zU I q UT)
  | str j=>let#[t',rfl]:=ry;exact PySem.EqMixed.eq_int_str (zU I q (by simp))
  | _=>exact w4 (show AN=AM from hs) aF
 | str i =>
  let#[t,rfl]:=rx
  cases y with
  | non=>cases ry;exact PySem.EqNone.eq_str_none (zU I q (by simp))
  | bl j=>cases ry;exact PySem.EqMixed.eq_str_bool (zU I q (by simp))
  | int j=>let#[t',rfl]:=ry;exact PySem.EqMixed.eq_str_int (zU I q (by simp))
  | str j=>let#[t',rfl]:=ry;exact eq_str (zU I q JT)
  | _=>exact w4 (show AN=AM from hs) aF
 | byt i =>
  let#[t,rfl]:=rx
  cases y with
  | byt j=>let#[t',rfl]:=ry;exact PySem.W.eq_bytes (zU I q Jv)
  | _=>exact w4 (show AN=AM from hs) aF
 | _=>cases y <;> exact w4 (show AN=AM from hs) aF
theorem qG:OpR X (sH .NotEq) rNe:=by
 intros x y v u Q I rx ry h;let#[hs,q]:=rNe_is.mp h
 cases x with
 | non =>
  cases rx
  cases y with
  | non=>cases ry;exact PySem.EqNone.ne_none_none (zU I q (by simp))
  | bl j=>cases ry;exact PySem.EqNone.ne_none_bool (zU I q (by simp))
  | int j=>let#[t',rfl]:=ry;exact PySem.EqNone.ne_none_int (zU I q (by simp))
  | str j=>let#[t',rfl]:=ry;exact PySem.EqNone.ne_none_str (zU I q (by simp))
  | _=>exact w4 (show AN=AM from hs) aF
 | bl i =>
  cases rx
  cases y with
  | non=>cases ry;exact PySem.EqNone.ne_bool_none (zU I q (by simp))
  | bl j=>cases ry;exact ne_bool (zU I q (congrArg not zbC))
  | str j=>let#[t',rfl]:=ry;exact PySem.EqMixed.ne_bool_str (zU I q (by simp))
  | _=>exact w4 (show AN=AM from hs) aF
 | int i =>
  let#[t,rfl]:=rx
  cases y with
  | non=>cases ry;exact PySem.EqNone.ne_int_none (zU I q (by simp))
  | int j=>let#[t',rfl]:=ry;exact ne_int (zU I q (congrArg not UT))
  | str j=>let#[t',rfl]:=ry;exact PySem.EqMixed.ne_int_str (zU I q (by simp))
  | _=>exact w4 (show AN=AM from hs) aF
 | str i =>
  let#[t,rfl]:=rx
  cases y with
  | non=>cases ry;exact PySem.EqNone.ne_str_none (zU I q (by simp))
  | bl j=>cases ry;exact PySem.EqMixed.ne_str_bool (zU I q (by simp))
  | int j=>let#[t',rfl]:=ry;exact PySem.EqMixed.ne_str_int (zU I q (by simp))
  | str j=>let#[t',rfl]:=ry;exact ne_str (zU I q (congrArg not JT))
  | _=>exact w4 (show AN=AM from hs) aF
 | byt i =>
  let#[t,rfl]:=rx
  cases y with
  | byt j=>let#[t',rfl]:=ry;exact PySem.W.ne_bytes (zU I q (congrArg not Jv))
  | _=>exact w4 (show AN=AM from hs) aF
 | _=>cases y <;> exact w4 (show AN=AM from hs) aF
def Xy:OpR X (sH .Lt) (rI0 λi j=>.bl (decide (i<j))):=zfi λZ Z Z Z Z Z Z q=>lt_int q
def zft:OpR X (sH .LtE) (rI0 λi j=>.bl (decide (i<=j))):=zfi λZ Z Z Z Z Z Z q=>le_int q
def UG:OpR X (sH .Gt) (rI0 λi j=>.bl (decide (j<i))):=zfi λZ Z Z Z Z Z Z q=>gt_int q
def zgn:OpR X (sH .GtE) (rI0 λi j=>.bl (decide (j<=i))):=zfi λZ Z Z Z Z Z Z q=>ge_int q
def UZ:OpR X (sH .Lt) (λx y H Q=>∃i j,x=.str i/\y=.str j/\Q (.bl (decide (i.cps.toList<j.cps.toList))) H):=by intros x y v u Q I rx ry h;let#[i,j,rfl,rfl,q]:=h;let#[t,rfl]:=rx;let#[t',rfl]:=ry;exact lt_str (zU I q rfl)
def zd7:OpR X (sH .Is) (λx y H Q=>y=.non/\Q (.bl (decide (x=.non))) H):=by
 intros x y v u Q I rx ry h;let#[rfl,q]:=h;cases ry;refine is_none_gen (zU I q ?_)
 cases x <;> first
  | (cases rx;rfl)
  | (let#[t,rfl]:=rx;rfl)
def zb3:OpR X (sH .IsNot) (λx y H Q=>y=.non/\Q (.bl (!decide (x=.non))) H):=by
 intros x y v u Q I rx ry h;let#[rfl,q]:=h;cases ry;refine isnot_none_gen (zU I q ?_)
 cases x <;> first
  | (cases rx;rfl)
  | (let#[t,rfl]:=rx;rfl)
def zv(b:tK)(h:‹op≠.In›)(h2:‹op≠.NotIn›):behindInMarks op b=AN:=by
 have e1:(op == CmpOp.In)=AN:=by cases op <;> first | rfl | exact w4 rfl h
 have e2:(op == CmpOp.NotIn)=AN:=by cases op <;> first | rfl | exact w4 rfl h2
 cases b <;> simp [behindInMarks,e1,e2]
def yf(ho:OpR X (sH op) r)(ha:PE X a ta)(hb:PE X b tb)(hm:behindInMarks op b=AN):PE X (.Compare a [op] [b] pos) (tOp r ta tb):=by intros Q I h;exact wpAny_Compare1 (zfX ha hb I h λv u s2 x y H2 I2 rx ry q=>ho AO s2 σ H2 x y v u Q I2 rx ry q) hm
def Wf(t:TE):TT:=λσ H Q=>t σ H λx H'=>onBl x λk=>Q k H'
def zt(ho:OpR X (sH op) r)(ha:PE X a ta)(hb:PE X b tb)(hm:behindInMarks op b=AN):PT X (.Compare a [op] [b] pos) (Wf (tOp r ta tb)):=by
 intros Q I h
 refine wpAny_isTrue_Compare1 (thn (ha AO s σ H _ I h) λv s1=>el5 λx H1 I1 r1 q1=>thn (hb AO s1 σ H1 _ I1 q1) λu s2=>el5 λy H2 I2 r2 q2 =>
  thn (ho AO s2 σ H2 x y v u _ I2 r1 r2 q2) λc s3=>el5 λz H3 I3 r3 q3=>?_) hm
 let#[k,rfl,q3]:=onBl.of q3;cases r3;exact sL #[H3,I3,q3]
def kW(r r':R2)(ta tb tc:TE):TE:=λσ H Q=>ta σ H λx H1=>tb σ H1 λy H2=>r x y H2 λz H3=>onBl z λk =>
 (if k=AM then tc σ H3 λw' H4=>r' y w' H4 Q else Q (.bl AN) H3)
theorem Vy(ho:OpR X (sH op) r)(ho':OpR X (sH op') r')(ha:PE X a ta)(hb:PE X b tb)(hc:PE X c tc)(hm:lastMarks [op,op'] [b,c]=AN:=by with_unfolding_all rfl):PE X (.Compare a [op,op'] [b,c] pos) (kW r r' ta tb tc):=by
 intros Q I h
 refine Compare_chain (thn (ha AO s σ H _ I h) λv s1=>el5 λx H1 I1 r1 q1=>chain_link (thn (hb AO s1 σ H1 _ I1 q1) λu s2=>el5 λy H2 I2 r2 q2 =>
  thn (ho AO s2 σ H2 x y v u _ I2 r1 r2 q2) λd s3=>el5 λz H3 I3 r3 q3=>?_)) hm
 let#[k,rfl,q3]:=onBl.of q3;cases r3;refine sL ?_
 cases k with
 | false=>exact ite_ff #[.bl AN,H3,I3,rfl,q3]
 | true=>exact ite_tt (chain_last (thn (hc AO s3 σ H3 _ I3 q3) λw' s4=>el5 λz' H4 I4 r4 q4=>ho' AO s4 σ H4 y z' u w' Q I4 r2 r4 q4))
theorem qV(ho:OpR X (sH op) r)(ho':OpR X (sH op') r')(ha:PE X a ta)(hb:PE X b tb)(hc:PE X c tc)(hm:lastMarks [op,op'] [b,c]=AN:=by with_unfolding_all rfl):PT X (.Compare a [op,op'] [b,c] pos) (Wf (kW r r' ta tb tc)):=by
 intros Q I h
 refine isTrue_chain (thn (ha AO s σ H _ I h) λv s1=>el5 λx H1 I1 r1 q1=>test_link (thn (hb AO s1 σ H1 _ I1 q1) λu s2=>el5 λy H2 I2 r2 q2 =>
  thn (ho AO s2 σ H2 x y v u _ I2 r1 r2 q2) λd s3=>el5 λz H3 I3 r3 q3=>?_)) hm
 let#[k,rfl,q3]:=onBl.of q3;cases r3;refine sL ?_
 cases k with
 | false =>
  exact ite_ff #[H3,I3,q3]
 | true =>
  refine ite_tt (test_last (thn (hc AO s3 σ H3 _ I3 q3) λw' s4=>el5 λz' H4 I4 r4 q4=>thn (ho' AO s4 σ H4 y z' u w' _ I4 r2 r4 q4) λd' s5=>el5 λz2 H5 I5 r5 q5=>?_));let#[k2,rfl,q5]:=onBl.of q5;cases r5;exact sL #[H5,I5,q5]
def zer(K:sr)(x:V)(H:Hp)(k:Bool):Prop :=
 match x with
 | .non=>k=AN
 | .bl b=>k=b
 | .int i=>k=(i != 0)
 | .str y=>y.length<=sq/\k=((y.length:Int) != 0)
 | .byt y=>y.size<=sq/\k=((y.size:Int) != 0)
 | .ref p=>(∃xs,SqL K H p xs/\k=!xs.isEmpty)\/(∃xs,SqT K H p xs/\k=!xs.isEmpty)\/∃kvs,H p=AK (.dK kvs)/\k=!kvs.isEmpty
 | _=>False
def Ud(r:KV kvs vs):(!vs.isEmpty)=!kvs.isEmpty:=by cases r <;> rfl
def Zd(r:Vals xs its):(!its.toArray.isEmpty)=!xs.isEmpty:=by cases r <;> simp
def k9:(sq:Nat)<2 ^ 63:=by rw[sK];decide
theorem zbq:zhj X (λx H Q=>∃k,zer X.K x H k/\Q k H):=by
 intros x v Q I rx h;let#[k,e,q]:=h;have hl:=k9;have hs:sq=16777216:=sK
 cases x with
 | non =>
  cases rx;have e':k=AN:=e;subst e';exact truthy_none #[H,I,q]
 | bl b =>
  cases rx;have e':k=b:=e;subst e';exact sL #[H,I,q]
 | int i =>
  let#[t,rfl]:=rx;have e':k=(i != 0):=e;subst e';exact PySem.P.truthy_int #[H,I,q]
 | str y =>
  let#[t,rfl]:=rx;obtain⟨hy,e'⟩:y.length<=sq/\k=((y.length:Int) != 0):=e;subst e';exact PySem.P.truthy_str ⋯ #[H,I.tok _,q]
 | byt y =>
  let#[t,rfl]:=rx;obtain⟨hy,e'⟩:y.size<=sq/\k=((y.size:Int) != 0):=e;subst e';exact PySem.W.truthy_bytes ⋯ #[H,I.tok _,q]
 | ref p =>
  cases rx;have e':(∃xs,SqL X.K H p xs/\k=!xs.isEmpty)\/(∃xs,SqT X.K H p xs/\k=!xs.isEmpty)\/∃kvs,H p=AK (.dK kvs)/\k=!kvs.isEmpty:=e;rcases e' with ⟨xs,hx,e'⟩ | ⟨xs,hx,e'⟩ | ⟨kvs,hx,e'⟩
  ·subst e';let#[its,r,pl,hz]:=I.list hx;have hlen:=r.length;exact wpAny_truthy_list pl.isList (by erw[aj];lia) #[H,I.tok _,by rw[Zd r];exact q]
  ·subst e';let#[its,r,pl,hz]:=I.tuple hx;have hlen:=r.length;exact truthy_tuple pl (by erw[aj];lia) #[H,I.tok _,by rw[Zd r];exact q]
  ·subst e';obtain⟨hz,hS,vs,r,m⟩:kvs.length<=sq/\(p == sysModules)=AN/\∃vs,KV kvs vs/\s.heap.DictOf (Wo X.prog X.w) p vs:=I.hok p _ hx;have hlen:kvs.length=vs.length:=Paired.length r;exact wpAny_truthy_dict hS m ⋯ #[H,I.tok _,by rw[Ud r];exact q]
 | _=>exact (show False from e).elim
def Vw(ha:PE X a ta)(he:∀whole,isTrue a X.env whole=(do let v <- whole;standAt a.pos;holding [v] (truthy v))) :
  PT X a (λσ H Q=>ta σ H λx H'=>∃k,zer X.K x H' k/\Q k H'):=by intros Q I h;exact isTrue_plain (thn (ha AO s σ H _ I h) λv s1=>el5 λx H1 I1 r1 q1=>zbq AO s1 σ H1 x v Q I1 r1 q1) (he _)
def zL:OpR X (binaryOp .Add) (λx y H Q=>∃i j,x=.str i/\y=.str j/\i.length+j.length<=sq/\Q (.str (i ++ j)) H):=by intros x y v u Q I rx ry h;let#[i,j,rfl,rfl,hz,q]:=h;let#[t,rfl]:=rx;let#[t',rfl]:=ry;exact add_str (λt' tk=>#[.str (i ++ j),H,I.tok _,#[_,rfl],q]) hz
theorem wM(r:Vals [x] us):∃u,us=[u]/\RelV x u:=by
 cases r with
 | cons r1 r2=>cases r2;exact#[_,rfl,r1]
theorem QY(r:Vals [x,y] us):∃u w',us=[u,w']/\RelV x u/\RelV y w':=by
 cases r with
 | cons r1 r2 =>
  cases r2 with
  | cons r3 r4=>cases r4;exact#[_,_,rfl,r1,r3]
def UW(hc:X.calm=AM):vY X (.builtin "max") (λxs H Q=>∃i j,xs=[.int i,.int j]/\Q (.int (if j > i then j else i)) H):=by
 intros xs us Q I r h;let#[i,j,rfl,q]:=h;let#[u,w',rfl,#[t,rfl],#[t',rfl]]:=QY r;refine max_two_ints (I.ok.hd hc) λh' tk k=>#[_,H,I.kept k,?_,q];by_cases hj:j > i
 ·rw[w6 hj,w6 hj];exact#[_,rfl]
 ·rw[w9 hj,w9 hj];exact#[_,rfl]
def Qx:vY X (.type "int") (λxs H Q=>(∃i,xs=[.int i]/\Q (.int i) H)\/∃k,xs=[.bl k]/\Q (.int (if k then 1 else 0)) H):=by
 intros xs us Q I r h;rcases h with ⟨i,rfl,q⟩ | ⟨k,rfl,q⟩
 ·let#[u,rfl,t,rfl]:=wM r;exact call_int_int #[.int i,H,I,#[_,rfl],q]
 ·let#[u,rfl,r1]:=wM r;cases r1;exact call_int_bool #[.int (if k then 1 else 0),H,I.tok _,#[_,rfl],q]
def zec(K:sr)(x:V)(H:Hp)(n:Nat):Prop :=
 match x with
 | .str y=>y.length<=sq/\n=y.length
 | .byt y=>y.size<=sq/\n=y.size
 | .ref p=>(∃xs,SqL K H p xs/\n=xs.length)\/∃xs,SqT K H p xs/\n=xs.length
 | _=>False
theorem KO:vY X (.builtin "len") (λxs H Q=>∃x n,xs=[x]/\zec X.K x H n/\Q (.int n) H):=by
 intros xs us Q I r h;let#[x,n,rfl,e,q]:=h;let#[u,rfl,rx]:=wM r;have hl:=k9;have hs:sq=16777216:=sK
 cases x with
 | str y =>
  let#[t,rfl]:=rx;obtain⟨hy,e'⟩:y.length<=sq/\n=y.length:=e;subst e';exact len_str ⋯ #[.int _,H,I.tok _,#[_,rfl],q]
 | byt y =>
  let#[t,rfl]:=rx;obtain⟨hy,e'⟩:y.size<=sq/\n=y.size:=e;subst e';exact PySem.W.len_bytes ⋯ #[.int _,H,I.tok _,#[_,rfl],q]
 | ref p =>
  cases rx;have e':(∃xs,SqL X.K H p xs/\n=xs.length)\/∃xs,SqT X.K H p xs/\n=xs.length:=e;rcases e' with ⟨xs,hx,e'⟩ | ⟨xs,hx,e'⟩
  ·subst e';let#[its,r',pl,hz]:=I.list hx;have hlen:=r'.length;exact Calls.call_len_list pl.isList (by erw[aj];lia) #[.int xs.length,H,I.tok _,#[_,by erw[aj];rw[hlen]],q]
  ·subst e';let#[its,r',pl,hz]:=I.tuple hx;have hlen:=r'.length;exact len_tuple pl (by erw[aj];lia) #[.int xs.length,H,I.tok _,#[_,by erw[aj];rw[hlen]],q]
 | _=>exact (show False from e).elim
structure ObjM(h:sU)(x dx C:su)(mA:sB->Option sv):Prop where
 obj:h.get? x=AK (cq C dx)
 ns:h.Ns1 dx mA
 ne:dx≠x
set_option tactic.hygienic true in
def Q0{h:sU}(n:h.Ns1 dx mA):∃od,h.get? dx=AK od/\∀name,eI name od=AK (mA name):=by
 let#[o,es,ep,ho,hd,hk,_,hm]:=n;refine#[o,ho,λname=>?_];have e:=hm name;unfold nsFind findBy at e;rw[<- Array.find?_toList]at e;unfold eI;rw[hd];dsimp only;split
 ·rename_i y q;rw[q]at e;exact congrArg AK e
 ·rename_i q;rw[q]at e
  have a:es.toList.any (·.refKey)=AN:=by
   rw[List.any_eq_false];intro y hy;let#[z,t,hkey]:=hk y (Array.mem_toList_iff.mp hy);simp [DictEntry.refKey,hkey]
  have a':¬ es.toList.any (·.refKey)=AM:=by rw[a];exact aF
  rw[w9 a'];exact congrArg AK e
def ObjM.look(I:ObjM h x dx C mA):∃od,PySem.W.InstAt h x (cq C dx) C (AK od)/\∀name,eI name od=AK (mA name) :=
 let #[od,ho,hl]:=Q0 I.ns
 #[od,#[I.obj,rfl,rfl,ho],hl]
section
variable{prog:sJ}{w:sP}{A:sY}{E:sv->sw->Prop}{s:sw}{K:sr}{x dx C f:su}{mA:sB->Option sv}{name:sB}{v:sv}
def zbT(X:K.In s.heap)(I:ObjM s.heap x dx C mA)(hg:bY K C name=AM)(hh:cA K C=AM)(ha:ah K (.ref C) name=AK AL)(hv:mA name=AK v)(hv':gy v=AM)(h:Q v { s with toks:=s.toks+1 }) :
  sy (model prog w) A (getAttr (.ref x) name expr) Q E s:=by let#[od,J,hl]:=I.look;exact PySem.W.get_value X J (eE hg).1 (PySem.W.findObj_own hh ha rfl (by rw[hl,hv])) hv' h
def Kt(X:K.In s.heap)(I:ObjM s.heap x dx C mA)(hg:bY K C name=AM)(hf:ah K (.ref C) name=AK (AK (.ref f)))(ht:be K (.ref f)=AM)(hv:mA name=AL)(h:Q (.ref f,[.ref x]) s) :
  sy (model prog w) A (getMethod (.ref x) name pl) Q E s:=by let#[od,J,hl]:=I.look;exact PySem.W.method_fn X J (eE hg).1 (eE hg).2 hf (beq_iff_eq.mp ht) (by show (eI name od).map (·.isSome)=AK AN;rw[hl,hv];rfl) h
theorem zcW(X:K.In s.heap)(I:ObjM s.heap x dx C mA)(hs:ah K (.ref C) "__setattr__" = AK (AK (.builtin "object.__setattr__")))(hp:cG K C=AM)(ht:fz K C name=AK AL)(hh:cA K C=AM)(hw:PySem.Within mA ns)(hsz:ns.length<=sq)(h:∀h',ObjM h' x dx C (λy=>if y=name then AK v else mA y)->Heap.SameBut dx s.heap h'->Q Unit.unit { s with heap:=h',toks:=s.toks+2 }) :
  sy (model prog w) A (setAttr (.ref x) name v) Q E s:=by let#[od,J,hl]:=I.look;refine gv X J hs (PySem.W.osa_open (s:={ s with toks:=s.toks+1 }) (r:=AL) X J hp ht λb=>?_);let#[cd,hc,hd']:=PySem.W.any_some hh;have hx:s.heap.get? x=AK #[.ref C,AK dx,.plain,#[]]:=I.obj;refine si (sj (si (si (Ag hx (si (PySem.W.Looks.here (s:={ s with toks:=s.toks+1 }) (PySem.W.looks_clsIn X hc) ?_))))));rw[hd'];refine sj (a:=AK dx) (si (sj (si ?_)));refine wpAny_nsSet1 (s:={ s with toks:=s.toks+1 }) I.ns λh' hn2 hs2=>?_;let#[oD,esD,epD,hoD,hdD,hcD]:=hn2.count (PySem.Within.cons name v hw);refine si (Au hoD (by rw[hdD];exact pastItsLine_dict (aL hcD (by rw[aC];lia))) ?_);exact sj (h _ #[(hs2.2 _ (Ne.symm I.ne)).trans I.obj,hn2,I.ne] hs2)
def Kl(X:K.In s.heap)(hm:cT K C=AM)(hi:ah K (.ref C) "__init__" = AK (AK (.ref f)))(hf:PySem.W.typeIn K (.ref f)=AK (.type "function"))(h:tz (model prog w) (A.under (.builtin "type.__call__" #[.ref C::vs,kw])) (.call (.ref f) #[.ref (s⁻¹+1)::vs,kw]) (PySem.W.InitBack (s⁻¹+1) R)
   { s with heap:=(s.heap.push bP).push (cq C s⁻¹) }) :
  tz (model prog w) A (.call (.ref C) #[vs,kw]) R s:=by let#[hh,g,d,t,os]:=s;exact PySem.W.make_core (PySem.W.makes_of X hm) (cH X hi) (λself=>gB X self hf) (.inl rfl) h
end
end in def Yk(f:sB)(v:V):List (sB × V)->List (sB × V)
  | []=>[(f,v)]
  | (g,x)::r=>if g=f then (g,v)::r else (g,x)::Yk f v r
theorem j5(f g:sB)(v:V):∀fs:List (sB × V),(Yk f v fs).lookup g=if g=f then AK v else fs.lookup g
  | []=>by
    show bx g [(f,v)]=_;by_cases h:g=f
    . have hb:(g == f)=AM:=beq_iff_eq.mpr h
      erw[bx,hb,w6 h]
    . have hb:(g == f)=AN:=beq_eq_false_iff_ne.mpr h
      erw[bx,hb,w9 h]
  | (k,x)::r=>by
    have ih:=j5 f g v r;rw[show Yk f v ((k,x)::r)=(if k=f then (k,v)::r else (k,x)::Yk f v r)from rfl];by_cases hk:k=f
    . rw[w6 hk]
      by_cases h:g=k
      . have hb:(g == k)=AM:=beq_iff_eq.mpr h
        erw[bx,hb,w6 (h.trans hk)]
      . have hb:(g == k)=AN:=beq_eq_false_iff_ne.mpr h
        erw[bx,hb,w9 (λe:g=f=>h (e.trans hk.symm))]
    . rw[w9 hk]
      by_cases h:g=k
      . have hb:(g == k)=AM:=beq_iff_eq.mpr h
        erw[bx,hb,w9 (λe:g=f=>hk (h.symm.trans e))]
      . have hb:(g == k)=AN:=beq_eq_false_iff_ne.mpr h
        erw[bx,hb]
        exact ih
theorem kd(f:sB)(v:V):∀fs:List (sB × V),f ∈ (Yk f v fs).map (·.1)/\∀g,g ∈ fs.map (·.1)->g ∈ (Yk f v fs).map (·.1)
  | []=>#[by simp [Yk],λg h=>by simp at h]
  | (k,x)::r=>by
    let#[i1,i2]:=kd f v r;rw[show Yk f v ((k,x)::r)=(if k=f then (k,v)::r else (k,x)::Yk f v r)from rfl];by_cases hk:k=f
    . rw[w6 hk]
      subst hk;exact#[by simp,λg h=>by simpa using h]
    . rw[w9 hk]
      refine#[?_,λg h=>?_]
      . rw[am]
        exact ar _ i1
      . rw[am]at h ⊢
        rcases AU.mp h with e | e
        . exact AU.mpr (.inl e)
        . exact ar _ (i2 g e)
theorem j7(f:sB)(v:V):∀fs:List (sB × V),(Yk f v fs).length<=fs.length+1
  | []=>by simp [Yk]
  | (k,x)::r=>by
    have ih:=j7 f v r;rw[show Yk f v ((k,x)::r)=(if k=f then (k,v)::r else (k,x)::Yk f v r)from rfl];by_cases hk:k=f
    . rw[w6 hk,aC,aC];lia
    . rw[w9 hk,aC,aC];lia
theorem RelO.some_of(r:RelO (AK v) o):∃u,o=AK u/\RelV v u:=by
 cases o with
 | none=>exact (show False from r).elim
 | some u=>exact#[u,rfl,r]
theorem RelO.none_of(r:RelO AL o):o=AL:=by
 cases o with
 | none=>rfl
 | some u=>exact (show False from r).elim
theorem UV(r:RelV v u):gy u=AM:=by
 cases v with
 | non=>cases (show u=r8 from r);rfl
 | bl b=>cases (show u=Value.bool b from r);rfl
 | int i=>let#[t,e]:=(show ∃t,u=Value.int i t from r);cases e;rfl
 | str x=>let#[t,e]:=(show ∃t,u=Value.str x t from r);cases e;rfl
 | byt b=>let#[t,e]:=(show ∃t,u=Value.bytes b t from r);cases e;rfl
 | flt b=>let#[t,e]:=(show ∃t,u=Value.float b t from r);cases e;rfl
 | ref a=>cases (show u=r9 a from r);rfl
 | ty n=>cases (show u=Value.type n from r);rfl
def Zy(hok:HOk P w H h)(e:H a=AK (.ins C dx fs)):∃mA,ObjM h a dx C mA/\(∀f,RelO (fs.lookup f) (mA f))/\PySem.Within mA (fs.map (·.1))/\fs.length<=1000/\H dx=AK (.own a):=by let#[d,z,ne,ob,mA,n,r,q]:=(show ObjOk P w H h a (.ins C dx fs)from hok a _ e);exact#[mA,#[ob,n,ne],r,q,z,d]
structure Cls(K:sr)(C:su):Prop where
 pg:bY K C fA=AM
 hd:cA K C=AM
 po:cG K C=AM
 sa:ah K (.ref C) "__setattr__" = AK (AK (.builtin "object.__setattr__"))
def Cls.get{K:sr}(c:Cls K C)(f:sB):bY K C f=AM:=c.pg
def NoAttr(K:sr)(C:su)(f:sB):Prop:=ah K (.ref C) f=AK AL
def NoAttr.taker{K:sr}(n:NoAttr K C f):fz K C f=AK AL:=by unfold fz;rw[show ah K (.ref C) f=AK AL from n];rfl
structure zdw(K:sr)(C:su)(m:sB)(f:su):Prop where
 at_:ah K (.ref C) m=AK (AK (.ref f))
 fn:be K (.ref f)=AM
 kp:aO K (.ref f)=AM
def V4(I:Inv X AO σ H s)(e:H a=AK (.ins C dx fs))(c:Cls X.K C)(n:NoAttr X.K C f)(l:fs.lookup f=AK v)(h:∀u s',Inv X AO σ H s'->RelV v u->Q u s'):sy (model X.prog X.w) A (getAttr (.ref a) f b) Q E s:=by let#[mA,O,r,_,_,_]:=Zy I.hok e;let#[u,hu,ru]:=RelO.some_of (v:=v) (o:=mA f) (by rw[<- l];exact r f);exact zbT I.kIn O (c.get f) c.hd n hu (UV ru) (h u _ (I.tok _) ru)
def wb(I:Inv X AO σ H s)(e:H a=AK (.ins C dx fs))(c:Cls X.K C)(k:zdw X.K C m g)(l:fs.lookup m=AL)(h:Q (.ref g,[.ref a]) s):sy (model X.prog X.w) A (getMethod (.ref a) m pl) Q E s:=by let#[mA,O,r,_,_,_]:=Zy I.hok e;have hn:mA m=AL:=RelO.none_of (by rw[<- l];exact r m);exact Kt I.kIn O (c.get m) k.at_ k.fn hn h
def Ub(I:Inv X AO σ H s)(e:H a=AK (.ins C dx fs))(c:Cls X.K C)(n:NoAttr X.K C f)(hl:fs.length<1000)(ry:RelV y u)(h:∀s',Inv X AO σ (upd H a (.ins C dx (Yk f y fs))) s'->Q Unit.unit s'):sy (model X.prog X.w) A (setAttr (.ref a) f u) Q E s:=by
 let#[mA,O,r,wi,_,ho]:=Zy I.hok e;have hz:(fs.map (·.1)).length<=sq:=by rw[aa,sK];lia
 refine zcW I.kIn O c.sa c.po n.taker c.hd wi hz λh' O' sb=>h _ ?_;have hd:∃o,h'.get? dx=AK o:=let #[o,_,_,e',_]:=O'.ns; #[o,e'];refine I.write (x:=a) (e:=dx) (by rw[e];exact True.intro) (.inr ho) (λb q hb z=>(sb.2 b hb).trans z) hd ?_;refine#[by rw[zq O.ne];exact ho,?_,O.ne,O'.obj,_,O'.ns,λg=>?_,λg hg=>?_]
 ·have:=j7 f y fs;lia
 ·show RelO ((Yk f y fs).lookup g) (if g=f then AK u else mA g);rw[j5];by_cases q:g=f
  ·rw[w6 q,w6 q];exact ry
  ·rw[w9 q,w9 q];exact r g
 ·by_cases q:g=f
  ·rw[q];exact (kd f y fs).1
  ·refine (kd f y fs).2 g (wi g λz=>hg ?_);show (if g=f then AK u else mA g)=AL;rw[w9 q];exact z
def Inv.made(I:Inv X AO σ H s):Inv X AO σ (upd (upd H s⁻¹ (.own (s⁻¹+1))) (s⁻¹+1) (.ins C s⁻¹ [])) { s with heap:=(s.heap.push bP).push (cq C s⁻¹) }:=by
 have e1:(s.heap.push bP).get? s⁻¹=AK bP:=aI s.heap rfl
 have e2:((s.heap.push bP).push (cq C s⁻¹)).get? (s⁻¹+1)=AK (cq C s⁻¹):=by
  have:=aI (s.heap.push bP) (o:=cq C s⁻¹) rfl
  rwa [cZ]at this
 have e3:(s.heap.push bP).Ns s⁻¹ (λZ=>AL):=#[bP,#[],_,e1,rfl,(λe he=>w4 he (by simp)),λZ=>rfl];have I1:=I.laid (a:=s⁻¹) (o:=.own (s⁻¹+1)) (h':=s.heap.push bP) (t':=s.toks) (λb u q=>ag _ q) (ao _) #[_,e1];refine I1.laid (a:=s⁻¹+1) (o:=.ins C s⁻¹ []) (t':=s.toks) (λb u q=>ag _ q) (Nat.le_of_eq (cZ _ _)) ?_;have ne:s⁻¹≠s⁻¹+1:=az (dY _);refine#[by rw[zq ne,zb],aD _,ne,e2,λZ=>AL,(Heap.Ns1.of_empty e3).at λo q=>ag _ q,λZ=>True.intro,λy hy=>w4 rfl hy]
def zb1(hb:attributeBase e f env (eval e env)=eval e env)(h:sy (model prog w) A (eval e env) (λo s₁=>sy (model prog w) A (getAttr o f AM) Q E s₁) E s):sy (model prog w) A (eval (.Attribute e f pos) env) Q E s :=
 Attribute_any_ h (by rw[arm_eval_Attribute,hb])
def zdt(K:sr)(ta:TE)(f:sB):TE:=λσ H Q=>ta σ H λx H1=>∃a C dx fs v,x=.ref a/\H1 a=AK (.ins C dx fs)/\Cls K C/\NoAttr K C f/\fs.lookup f=AK v/\Q v H1
def zfr(K:sr)(ta tv:TE)(f:sB):TS:=λD σ H=>tv σ H λy H1=>ta σ H1 λx H2=>∃a C dx fs,x=.ref a/\H2 a=AK (.ins C dx fs)/\Cls K C/\NoAttr K C f/\fs.length<1000 /\
 D.nx σ (upd H2 a (.ins C dx (Yk f y fs)))
def j3(he:PE X e ta)(hb:attributeBase e f X.env (eval e X.env)=eval e X.env):PE X (.Attribute e f pos) (zdt X.K ta f):=by intros Q I h;refine zb1 hb (thn (he AO s σ H _ I h) λu s1=>el5 λx H1 I1 rx q_z=>?_);let#[a,C,dx,fs,v,ex,ea,c,n,l,q]:=q_z;subst ex;obtain rfl:u=r9 a:=rx;exact V4 I1 ea c n l λu' s2 I2 ru=>#[v,H1,I2,ru,q]
def Yl(ha:PE X o ta)(hv:PE X value tv)(hs:swapsWith value (AK (.Attribute o f pos')) pos.line X.env=pure AN):PS X (.Assign [.Attribute o f pos'] value pos) (zfr X.K ta tv f):=by intros D I h;refine tT (thn (hv AO s σ H _ I h) λu s1=>el5 λy H1 I1 ry q=>thn (ha AO s1 σ H1 _ I1 q) λov s2=>el5 λx H2 I2 rx q_z=>?_) hs;let#[a,C,dx,fs,ex,ea,c,n,l,q2]:=q_z;subst ex;obtain rfl:ov=r9 a:=rx;exact Ub I2 ea c n l ry λs3 I3=>#[σ,_,I3,q2]
def zcl(he:PE X e te)(I:Inv X AO σ H s)(h:te σ H λx H1=>∃a C dx fs g,x=.ref a/\H1 a=AK (.ins C dx fs)/\Cls X.K C/\zdw X.K C m g/\fs.lookup m=AL /\
      ∀s1,Inv X AO σ H1 s1->sy (model X.prog X.w) X.A (callWith pos (.ref g) [.ref a] (sQ pos (so args X.env)) (sX pos (sN [] X.env))) Q X.xe s1) (ht:eval (.Call (.Attribute e m apos) args [] pos) X.env=(do
      let ov <- eval e X.env
      standAt apos.atName
      let (f,first) <- holding [ov] (getMethod ov m pl)
      callWith pos f first (sQ pos (so args X.env)) (sX pos (sN [] X.env)))) :
    sy (model X.prog X.w) X.A (eval (.Call (.Attribute e m apos) args [] pos) X.env) Q X.xe s:=by refine cE (pl:=pl) (thn (he AO s σ H _ I h) λu s1=>el5 λx H1 I1 rx q_z=>?_) ht;let#[a,C,dx,fs,g,ex,ea,c,k,l,q]:=q_z;subst ex;obtain rfl:u=r9 a:=rx;exact wb I1 ea c k l (q s1 I1)
inductive WM(K:sr)(H:Hp):V->sv->Prop where
 | non:WM K H .non (.type "NoneType")
 | bl (x:Bool):WM K H (.bl x) (.type "bool")
 | int (i:Int):WM K H (.int i) (.type "int")
 | str (x:sB):WM K H (.str x) (.type "str")
 | flt (x:UInt64):WM K H (.flt x) (.type "float")
 | lst {a:su} {xs:List V} (e:H a=AK (.lst xs)):WM K H (.ref a) (.type "list")
 | frz {a:su} {o:tN} {xs:List V} (e:H a=AK (.frz o (.lst xs))):WM K H (.ref a) (.type "list")
 | tup {a:su} {xs:List V} (e:H a=AK (.tup xs)):WM K H (.ref a) (.type "tuple")
 | dK {a:su} {kvs:List (Key × V)} (e:H a=AK (.dK kvs)):WM K H (.ref a) (.type "dict")
 | dT {a:su} {kvs:List (List Key × V)} (e:H a=AK (.dT kvs)):WM K H (.ref a) (.type "dict")
 | ins {a C dx:su} {fs:List (sB × V)} (e:H a=AK (.ins C dx fs)) (cl:Cls K C) (ha:ah K (.ref C) "__class__" = AK (AK (.builtin "object.__class__")))
   (hn:dJ K (.builtin "object.__class__") "__get__" = AK (AK (.builtin "getset_descriptor.__get__"))) (htk:d5 K (.builtin "object.__class__")=AK AM)
   (hm:bU K C (.type "object")=AK AM):WM K H (.ref a) (.ref C)
theorem JP(I:Inv X AO σ H s)(rx:RelV x u)(ty:WM X.K H x t)(e:aS X.K t c=AK b)(h:∀tk,Q (.bool b) { s with toks:=tk }) :
  sy (model X.prog X.w) A (call (.builtin "isinstance") [u,c]) Q E s:=by
 cases ty with
 | non=>cases (show u=r8 from rx);exact bp PySem.W.kitx_none I.kIn True.intro e (λz=>nomatch z) h
 | bl y=>cases (show u=Value.bool y from rx);exact bp PySem.W.kitx_bool I.kIn True.intro e (λz=>nomatch z) h
 | int i=>let#[t,q]:=(show ∃t,u=Value.int i t from rx);cases q;exact bp PySem.W.kitx_int I.kIn True.intro e (λz=>nomatch z) h
 | str y=>let#[t,q]:=(show ∃t,u=Value.str y t from rx);cases q;exact bp PySem.W.kitx_str I.kIn True.intro e (λz=>nomatch z) h
 | flt y=>let#[t,q]:=(show ∃t,u=Value.float y t from rx);cases q;exact bp PySem.W.kitx_float I.kIn True.intro e (λz=>nomatch z) h
 | @lst a xs ea =>
  cases (show u=r9 a from rx);let#[_,_,n,_,h1]:=(show ObjOk X.prog X.w H s.heap a (.lst xs)from I.hok a _ ea);exact bp eS I.kIn #[_,h1,rfl] e (λz=>nomatch z) h
 | @frz a ob xs ea =>
  cases (show u=r9 a from rx);let#[_,_,_,n,_,h1]:=(show ObjOk X.prog X.w H s.heap a (.frz ob (.lst xs))from I.hok a _ ea);exact bp eS I.kIn #[_,h1,rfl] e (λz=>nomatch z) h
 | @tup a xs ea =>
  cases (show u=r9 a from rx);let#[_,_,_,p]:=(show ObjOk X.prog X.w H s.heap a (.tup xs)from I.hok a _ ea);let#[o,h1,h2,_]:=p;exact bp gp I.kIn #[o,h1,h2] e (λz=>nomatch z) h
 | @dK a kvs ea =>
  cases (show u=r9 a from rx);let#[_,_,vs,_,p]:=(show ObjOk X.prog X.w H s.heap a (.dK kvs)from I.hok a _ ea);let#[o,es,ep,h1,h2,_]:=p;exact bp gw I.kIn #[o,h1,h2.1] e (λz=>nomatch z) h
 | @dT a kvs ea =>
  cases (show u=r9 a from rx);let#[_,_,xs,_,o,es,ep,h1,h2,_]:=(show ObjOk X.prog X.w H s.heap a (.dT kvs)from I.hok a _ ea);exact bp gw I.kIn #[o,h1,h2.1] e (λz=>nomatch z) h
 | @ins a C dx fs ea cl ha hn htk hm =>
  cases (show u=r9 a from rx);let#[mA,O,_]:=Zy I.hok ea;let#[od,J,_]:=O.look;exact bp (PySem.W.kitx_own (cl.get _) cl.hd ha hn htk hm) I.kIn J e (λz=>nomatch z) h
structure Room(k:Nat)(A:sY):Prop where
 hd:A.handled=AL
 dp:A.depth+3 * k+5<Ah
 un:A.units+16 * k+200<cLine
def Room.mono(r:Room k A)(h:j<=k):Room j A:=#[r.hd,by have:=r.dp;lia,by have:=r.un;lia]
def Room.deeper(r:Room (k+1) A)(env:AE):Room k (A.deeper env) :=
 #[r.hd,by have:=r.dp;show A.depth+1+3 * k+5<_;lia,by have:=r.un;show A.units+3+16 * k+200<_;lia]
def Room.in1(r:Room (k+1) A):Room k A.in1 :=
 #[r.hd,by have:=r.dp;show A.depth+3 * k+5<_;lia,by have:=r.un;show A.units+1+16 * k+200<_;lia]
def Ug{A:sY}:(A.under (.builtin "type.__call__" #[.ref C::us,kw])).depth=A.depth+1:=by first | rfl | simp [Around.under,Code.weight,Code.isCreation,Code.isGuard,Code.isCaller,Code.frames,Code.isFrame,guardIds]
def Uh{A:sY}:(A.under (.builtin "type.__call__" #[.ref C::us,kw])).units=A.units+1:=by first | rfl | simp [Around.under,Code.cUnits,Code.frames,Code.isFrame]
def Room.make(r:Room (k+1) A)(C:su)(us:List sv)(kw:List (sB × sv)):Room k (A.under (.builtin "type.__call__" #[.ref C::us,kw])) :=
 #[r.hd,by have:=r.dp;rw[Ug];lia,by have:=r.un;rw[Uh];lia]
def Room.depth(r:Room k A):A.depth<Ah:=by have:=r.dp;lia
def Room.units(r:Room k A):A.units+64<cLine:=by have:=r.un;lia
def xb:TA:=λZ H Q=>Q [] H
def zI(ta:TE)(tr:TA):TA:=λσ H Q=>ta σ H λx H1=>tr σ H1 λxs H2=>Q (x::xs) H2
def ze:PA X [] xb:=λZ Z Z Z H Q I h=>Calls.spliced_nil #[[],H,I,.nil,h]
def za(ha:PE X e te)(hr:PA X es t)(hs:‹so (e::es) X.env=(AN,eval e X.env)::so es X.env›):PA X (e::es) (zI te t):=by intro pos AO s σ H Q I h;rw[hs];show sy _ _ (spliced ((AN,eval e X.env)::sQ pos (so es X.env))) _ _ s;refine Calls.spliced_cons (thn (ha AO s σ H _ I h) λu s1=>el5 λx H1 I1 r1 q1=>?_);exact thn (hr pos AO s1 σ H1 _ I1 q1) λus s2=>el5 λxs H2 I2 r2 q2=>#[x::xs,H2,I2,.cons r1 r2,q2]
def Um(t:TA):TE:=λσ H Q=>t σ H λxs H1=>xs.length<=sq/\∀p,H1 p=AL->Q (.ref p) (upd H1 p (.tup xs))
def zeZ(t:TA):TE:=λσ H Q=>t σ H λxs H1=>xs.length<=sq/\∀p,H1 p=AL->Q (.ref p) (upd H1 p (.lst xs))
def zN{x1}(h:PA X es t):PE X (.Tuple es x1 pos) (Um t):=by intros Q I hq;refine wpAny_Tuple_spliced (thn (h pos AO s σ H _ I hq) λus s1=>el5 λxs H1 I1 r=>ua2 λz q=>#[by rw[<- r.length];exact z,?_]);have hf:H1 s1⁻¹=AL:=I1.hok.fresh (ao _);refine#[.ref s1⁻¹,upd H1 s1⁻¹ (.tup xs),I1.laid (t':=s1.toks) (λb u e=>ag _ e) (ao _) ?_,rfl,q _ hf];exact#[z,us,r,#[_,aI _ rfl,rfl,_,rfl]]
def y6(h:PA X es t):PE X (.List es pos) (zeZ t):=by intros Q I hq;refine wpAny_List_spliced (thn (h pos AO s σ H _ I hq) λus s1=>el5 λxs H1 I1 r=>ua2 λz q=>#[by rw[<- r.length];exact z,?_]);have hf:H1 s1⁻¹=AL:=I1.hok.fresh (ao _);refine#[.ref s1⁻¹,upd H1 s1⁻¹ (.lst xs),I1.laid (t':=s1.toks) (λb u e=>ag _ e) (ao _) ?_,rfl,q _ hf];exact#[z,us,0,r,aI _ rfl]
end in abbrev Sp:=List V->Hp->VK->XK->Prop
end in abbrev CXT:=List AE->Hp->sw->XK->sv->sw->Prop
structure Env0(P:sJ)(w:sP)(K:sr)(mg:sB->Option sv)(base:sU)(A:sY)(outer:List AE)(s:sw)(H:Hp):Prop where
 frames:A.frames=AK outer
 mod:Mod K mg base
 bs:∀b o,base.get? b=AK o->s.heap.get? b=AK o/\H b=AL
 bsz:base.objs.size<=s⁻¹
 funs:s.heap.FunFrames base outer
 frf:∀b ∈ frs outer,H b=AL
 hok:HOk P w H s.heap
 bare:tV s.gens
def CE(outer:List AE)(P:sJ)(w:sP)(H:Hp)(s:sw)(Q:VK)(u:sv)(s':sw):Prop :=
 ∃v H',s'.os=s.os/\tV s'.gens/\Un (frs outer) [] H H' s.heap s'.heap/\HOk P w H' s'.heap/\RelV v u/\Q v H'
def CR(CX:CXT)(outer:List AE)(P:sJ)(w:sP)(H:Hp)(s:sw)(Q:VK)(E:XK)(r:Result)(s':sw):Prop :=
 match r with
 | .ok (.ret u)=>CE outer P w H s Q u s'
 | .ok _=>False
 | .error e=>CX outer H s E e s'
structure FnOk(P:sJ)(w:sP)(K:sr)(mg:sB->Option sv)(base:sU)(CX:CXT)(k:Nat)(f:su)(fd:tQ)(ps:List sB)(sp:Sp):Prop where
 len:∀vs H Q E,sp vs H Q E->vs.length=ps.length
 run:∀(A:sY) (outer:List AE) (s:sw) (H:Hp) (args:Args) (us:List sv) (vs:List V) (Q:VK) (E:XK),Room k A->Env0 P w K mg base A outer s H->Ak s fd args (ps.zip us)->Vals vs us->sp vs H Q E ->
  tz (model P w) A (.call (.ref f) args) (CR CX outer P w H s Q E) s
def FnOk.imp{K:sr}(F:FnOk P w K mg base CX k f fd ps sp)(h:∀vs H Q E,sp' vs H Q E->sp vs H Q E):FnOk P w K mg base CX k f fd ps sp' :=
 #[λvs H Q E q=>F.len vs H Q E (h _ _ _ _ q),λA outer s H args us vs Q E hr he hb hv hs=>F.run A outer s H args us vs Q E hr he hb hv (h _ _ _ _ hs)]
def Env0.make{K:sr}(e:Env0 P w K mg base A outer s H)(C:su)(us:List sv)(kw:List (sB × sv)) :
  Env0 P w K mg base (A.under (.builtin "type.__call__" #[.ref C::us,kw])) outer s H:=#[by first | exact e.frames | (simpa [Around.under,Code.envs,Code.isFrame,pushEnvs] using e.frames),e.mod,e.bs,e.bsz,e.funs,e.frf,e.hok,e.bare]
def Inv.env0(I:Inv X AO σ H s):Env0 X.prog X.w X.K X.mg X.base X.A X.stack s H :=
 #[I.ok.frames,I.ok.mod,I.bs,aL I.ok.bsz I.sz,I.stack,I.stkFree,I.hok,I.bare]
def Inv.after(I:Inv X AO σ H s)(h:CE X.stack X.prog X.w H s Q u s'):EP X AO σ Q u s':=by let#[v,H',os,bare,un,hok,r,q]:=h;let#[hh,g,d,t,os']:=s';obtain rfl:os'=s.os:=os;exact#[v,H',I.call (h':=hh) (g':=g) (d':=d) (t':=t) (ch:=[]) un hok bare (λb z=>w4 z (by simp)),r,q]
def vE(sp:Sp)(dvs:List V)(E:XK)(t:TA):TE:=λσ H Q=>t σ H λvs H1=>sp (vs ++ dvs) H1 Q E
def Zp(C:su)(m:sB)(sp:Sp)(dvs:List V)(E:XK)(ta:TE)(t:TA):TE:=λσ H Q=>ta σ H λx H1=>∃a dx fs,x=.ref a/\H1 a=AK (.ins C dx fs)/\fs.lookup m=AL /\
 t σ H1 λvs H2=>sp (x::(vs ++ dvs)) H2 Q E
def JK(C:su)(sp:Sp)(dvs:List V)(E:XK)(t:TA):TE:=λσ H Q=>t σ H λvs H1=>∀x dx,H1 x=AL->H1 dx=AL->dx≠x ->
 sp (.ref x::(vs ++ dvs)) (upd (upd H1 dx (.own x)) x (.ins C dx [])) (λv H2=>v=.non/\Q (.ref x) H2) E
def Binds(K:sr)(fd:tQ)(ps:List sB)(ds:List sv):Prop :=
 ∀(s:sw) (us:List sv),K.In s.heap->(us ++ ds).length=ps.length->Ak s fd #[us,[]] (ps.zip (us ++ ds))
def Binds.all{K:sr}(h:∀us:List sv,us.length=ps.length->bindArgs fd #[us,[]]=pure (ps.zip us)):Binds K fd ps []:=λs us Z hl=>by
 rw[bc]at hl ⊢;exact .of_eq (h us hl)
def qt(CX:CXT)(X:Cx)(E:XK):Prop:=∀(AO:List (su × tN)) (σ:St) (H:Hp) (s:sw) (e:sv) (s':sw),Inv X AO σ H s->CX X.stack H s E e s'->X.xe e s'
theorem YJ(F:FnOk X.prog X.w X.K X.mg X.base CX k f fd ps sp)(hr:Room k X.A)(hb:Binds X.K fd ps ds)(hd:Vals dvs ds)(hx:qt CX X E)(I:Inv X AO σ H s)(r:Vals vs us)(h:sp (vs ++ dvs) H Q E):sy (model X.prog X.w) X.A (call (.ref f) us) (EP X AO σ Q) X.xe s:=by
 have r2:Vals (vs ++ dvs) (us ++ ds):=r.append hd;have hl:(us ++ ds).length=ps.length:=by rw[<- r2.length];exact F.len _ _ _ _ h
 refine tJ (tM (F.run X.A X.stack s H #[us,[]] (us ++ ds) (vs ++ dvs) Q E hr I.env0 (hb s us I.kIn hl) r2 h) λr s' hq=>?_)
 cases r with
 | error e=>exact hx AO σ H s e s' I hq
 | ok fl =>
  cases fl with
  | ret u=>exact I.after hq
  | next=>exact False.elim hq
  | brk=>exact False.elim hq
  | cont=>exact False.elim hq
def Jp(F:FnOk X.prog X.w X.K X.mg X.base CX k f fd ps sp)(hr:Room k X.A)(hg:Gl X x)(hm:X.mg x=AK (.ref f))(hk:aO X.K (.ref f)=AM)(hb:Binds X.K fd ps ds)(hd:Vals dvs ds)(hx:qt CX X E)(ha:PA X (e::es) t) (hdb:‹(x ==("__debug__" : sB))=AN›) (he:‹so (e::es) X.env=(AN,eval e X.env)::so es X.env›) (hpl:‹(sQ pos (so es X.env)).any (·.1)=AN›) :
  PE X (.Call (.Name x p) (e::es) [] pos) (vE sp dvs E t):=by intros Q I h;refine sS (uc I hg hm ?_ hdb);refine cb (h₀:=X.base) I.ok.mod.kin hk (thn (ha pos AO s σ H _ I h) λus s1=>el5 λvs H1 I1 r q=>#[I1.kIn,?_]) he hpl;exact YJ F hr hb hd hx I1 r q
def zcs(he:PE X o ta)(c:Cls X.K C)(hm:zdw X.K C m f)(F:FnOk X.prog X.w X.K X.mg X.base CX k f fd ps sp)(hr:Room k X.A)(hb:Binds X.K fd ps ds)(hd:Vals dvs ds)(hx:qt CX X E)(ha:PA X (e::es) t)(hst:‹so (e::es) X.env=(AN,eval e X.env)::so es X.env›)(hpl:‹(sQ pos (so es X.env)).any (·.1)=AN›)(ht:eval (.Call (.Attribute o m apos) (e::es) [] pos) X.env=(do
      let ov <- eval o X.env
      standAt apos.atName
      let (f,first) <- holding [ov] (getMethod ov m pl)
      callWith pos f first (sQ pos (so (e::es) X.env)) (sX pos (sN [] X.env))):=by rfl) :
    PE X (.Call (.Attribute o m apos) (e::es) [] pos) (Zp C m sp dvs E ta t):=by intros Q I h;refine cE (pl:=pl) (thn (he AO s σ H _ I h) λu s1=>el5 λx H1 I1 rx q_z=>?_) ht;let#[a,dx,fs,ex,ea,l,q]:=q_z;subst ex;obtain rfl:u=r9 a:=rx;refine wb I1 ea c hm l ?_;refine cb (first:=[.ref a]) (h₀:=X.base) I.ok.mod.kin hm.kp (thn (ha pos AO s1 σ H1 _ I1 q) λus s2=>el5 λvs H2 I2 r q2=>#[I2.kIn,?_]) hst hpl;exact YJ (us:=.ref a::us) (vs:=.ref a::vs) F hr hb hd hx I2 (.cons rfl r) q2
def KM(he:PE X o ta)(c:Cls X.K C)(hm:zdw X.K C m f)(F:FnOk X.prog X.w X.K X.mg X.base CX k f fd ps sp)(hr:Room k X.A)(hb:Binds X.K fd ps ds)(hd:Vals dvs ds)(hx:qt CX X E)(ht:eval (.Call (.Attribute o m apos) [] [] pos) X.env=(do
      let ov <- eval o X.env
      standAt apos.atName
      let (f,first) <- holding [ov] (getMethod ov m pl)
      callWith pos f first (sQ pos (so [] X.env)) (sX pos (sN [] X.env))):=by rfl) :
    PE X (.Call (.Attribute o m apos) [] [] pos) (Zp C m sp dvs E ta xb):=by intros Q I h;refine cE (pl:=pl) (thn (he AO s σ H _ I h) λu s1=>el5 λx H1 I1 rx q_z=>?_) ht;let#[a,dx,fs,ex,ea,l,q]:=q_z;subst ex;obtain rfl:u=r9 a:=rx;refine wb I1 ea c hm l ?_;exact gk (first:=[.ref a]) I1.kIn hm.kp (YJ (us:=[.ref a]) (vs:=[.ref a]) F hr hb hd hx I1 (.cons rfl .nil) q)
structure Mk(K:sr)(C f:su):Prop where
 makes:cT K C=AM
 init:ah K (.ref C) "__init__" = AK (AK (.ref f))
 fn:be K (.ref f)=AM
 kp:aO K (.ref C)=AM
theorem Kb(M:Mk X.K C f)(F:FnOk X.prog X.w X.K X.mg X.base CX k f fd ps sp)(hr:Room (k+1) X.A)(hb:Binds X.K fd ps ds)(hd:Vals dvs ds)(hx:qt CX X E)(I:Inv X AO σ H s)(r:Vals vs us)(h:∀x dx,H x=AL->H dx=AL->dx≠x->sp (.ref x::(vs ++ dvs)) (upd (upd H dx (.own x)) x (.ins C dx [])) (λv H2=>v=.non/\Q (.ref x) H2) E) :
  sy (model X.prog X.w) X.A (call (.ref C) us) (EP X AO σ Q) X.xe s:=by
 have hq:=h (s⁻¹+1) s⁻¹ (I.hok.fresh (cJ _)) (I.hok.fresh (ao _)) (az (dY _));have I2:=Inv.made (C:=C) I;have r2:Vals (V.ref (s⁻¹+1)::(vs ++ dvs)) (r9 (s⁻¹+1)::(us ++ ds)):=.cons rfl (r.append hd)
 have hl:(r9 (s⁻¹+1)::us ++ ds).length=ps.length:=by
  have e:=r2.length;rw[F.len _ _ _ _ hq]at e;exact e.symm
 refine tJ (Kl (f:=f) I.kIn M.makes M.init (beq_iff_eq.mp M.fn) (tM (F.run _ X.stack _ _ #[r9 (s⁻¹+1)::us,[]] (r9 (s⁻¹+1)::(us ++ ds)) _ _ E (hr.make C us [])
  (I2.env0.make C us []) (hb _ (r9 (s⁻¹+1)::us) I2.kIn hl) r2 hq) λr s' hq'=>?_))
 cases r with
 | error e=>exact hx AO σ _ _ e s' I2 hq'
 | ok fl =>
  cases fl with
  | ret u =>
   let#[v,H',I3,rv,ev,q3]:=I2.after hq';subst ev;exact#[rv,#[V.ref (s⁻¹+1),H',I3,rfl,q3]]
  | next=>exact False.elim hq'
  | brk=>exact False.elim hq'
  | cont=>exact False.elim hq'
def Qq(M:Mk X.K C f)(F:FnOk X.prog X.w X.K X.mg X.base CX k f fd ps sp)(hr:Room (k+1) X.A)(hg:Gl X x)(hm:X.mg x=AK (.ref C))(hb:Binds X.K fd ps ds)(hd:Vals dvs ds)(hx:qt CX X E)(ha:PA X (e::es) t) (hdb:‹(x ==("__debug__" : sB))=AN›) (he:‹so (e::es) X.env=(AN,eval e X.env)::so es X.env›) (hpl:‹(sQ pos (so es X.env)).any (·.1)=AN›) :
  PE X (.Call (.Name x p) (e::es) [] pos) (JK C sp dvs E t):=by intros Q I h;refine sS (uc I hg hm ?_ hdb);refine cb (h₀:=X.base) I.ok.mod.kin M.kp (thn (ha pos AO s σ H _ I h) λus s1=>el5 λvs H1 I1 r q=>#[I1.kIn,?_]) he hpl;exact Kb M F hr hb hd hx I1 r q
def PK(X:Cx)(kws:List AA)(t:TA):Prop :=
 ∀(pos:AI) (AO:List (su × tN)) (s:sw) (σ:St) (H:Hp) (Q:List V->Hp->Prop),Inv X AO σ H s->t σ H Q->sy (model X.prog X.w) X.A (evalAll ((sX pos (sN kws X.env)).map (·.2))) (AP X AO σ Q) X.xe s
section
variable{X:Cx}{CX:CXT}{k:Nat}{f C:su}{fd:tQ}{ps ks:List sB}{sp:Sp}{E:XK}{x m:sB}{p pos apos kpos:AI}{e o:tK}{es:List tK}{kws:List AA}{te ta:TE}{t tk:TA}{nm:Option sB}
def zbb:PK X [] xb:=λZ Z Z Z H Q I h=>wpAny_evalAll_nil #[[],H,I,.nil,h]
def Qz(ha:PE X e te)(hr:PK X kws t):PK X (#[nm,e,kpos]::kws) (zI te t):=by intro pos AO s σ H Q I h;show sy _ _ (evalAll ((do let v <- eval e X.env;standAt pos;pure v)::(sX pos (sN kws X.env)).map (·.2))) _ _ s;refine wpAny_evalAll_cons (si (thn (ha AO s σ H _ I h) λu s1=>el5 λx H1 I1 r1 q1=>si (tu (sj ?_))));exact thn (hr pos AO s1 σ H1 _ I1 q1) λus s2=>el5 λxs H2 I2 r2 q2=>#[x::xs,H2,I2,.cons r1 r2,q2]
variable{g:List sv->List sv->List sv}{gV:List V->List V->List V}
end
structure zm(N P:List sB)(sc:tY):Prop where
 kind:sc.kind=.function
 co:sc.isCoroutine=AN
 gen:sc.isGenerator=AN
 nd:N.Nodup
 pre:N.take P.length=P
 par:∀x ∈ P,sc.names.lookup x=AK .local\/sc.names.lookup x=AK .cell
 nofree:∀y ∈ sc.names,y.2≠.free
theorem YG{kindOf:sB->Option tX}:∀{binds:List (sB × sv)} {m:sB->Option sv},(∀v,(x,v) ∉ binds)->bindL kindOf binds m x=m x
  | [],_,_=>rfl
  | (n,v)::r,m,h=>by
    unfold bindL;rw[YG λw hw=>h w (ar _ hw)];split
    . have:x≠n:=by rintro rfl;exact h v ay
      simp [this]
    . rfl
theorem Yu{kindOf:sB->Option tX}:∀{binds:List (sB × sv)} {m:sB->Option sv},(∀v,(x,v) ∉ binds)->bindC kindOf binds m x=m x
  | [],_,_=>rfl
  | (n,v)::r,m,h=>by
    unfold bindC;rw[Yu λw hw=>h w (ar _ hw)];split
    . rfl
    . have:x≠n:=by rintro rfl;exact h v ay
      simp [this]
theorem YI{kindOf:sB->Option tX}:∀{P:List sB} {vs:List sv} {i:Nat} {m:sB->Option sv},P.Nodup->P[i]? = AK x->vs[i]? = AK v->kindOf x=AK .local ->
  bindL kindOf (P.zip vs) m x=AK v
 | [],_,_,_,_,h,_,_=>by simp at h
 | _::_,[],_,_,_,_,h,_=>by simp at h
 | p::P,w::vs,0,m,nd,h1,h2,hk=>by
  simp at h1 h2;subst h1;subst h2;show bindL kindOf ((p,w)::P.zip vs) m p=_;unfold bindL;rw[YG λv hv=>(Bd.mp nd).1 (dw hv).1,w6 hk];simp
 | p::P,w::vs,i+1,m,nd,h1,h2,hk=>by
  show bindL kindOf ((p,w)::P.zip vs) m x=_;unfold bindL;exact YI (i:=i) (Bd.mp nd).2 (by simpa using h1) (by simpa using h2) hk
theorem Y1{kindOf:sB->Option tX}:∀{P:List sB} {vs:List sv} {i:Nat} {m:sB->Option sv},P.Nodup->P[i]? = AK x->vs[i]? = AK v->kindOf x≠AK .local ->
  bindC kindOf (P.zip vs) m x=AK v
 | [],_,_,_,_,h,_,_=>by simp at h
 | _::_,[],_,_,_,_,h,_=>by simp at h
 | p::P,w::vs,0,m,nd,h1,h2,hk=>by
  simp at h1 h2;subst h1;subst h2;show bindC kindOf ((p,w)::P.zip vs) m p=_;unfold bindC;rw[Yu λv hv=>(Bd.mp nd).1 (dw hv).1,w9 hk];simp
 | p::P,w::vs,i+1,m,nd,h1,h2,hk=>by
  show bindC kindOf ((p,w)::P.zip vs) m x=_;unfold bindC;exact Y1 (i:=i) (Bd.mp nd).2 (by simpa using h1) (by simpa using h2) hk
end in def start(N:List sB)(vs:List V):St:=vs.map AK ++ aM (N.length - vs.length) AL
end in def qZ(CX:CXT)(P:sJ)(w:sP)(K:sr)(mg:sB->Option sv)(base:sU)(N:List sB)(qual:sB)(scope:tY)(f:su)(cd:sv)(A:sY)(outer:List AE)(s:sw)(H:Hp)(E:XK):Cx where
 prog:=P
 w:=w
 K:=K
 mg:=mg
 base:=base
 A:=A.deeper (tP qual scope s⁻¹ f cd)
 N:=N
 s₀:=s
 H₀:=H
 env:=tP qual scope s⁻¹ f cd
 outer:=outer
 stack:=tP qual scope s⁻¹ f cd::outer
 ex:=[]
 calm:=AM
 fn:=λZ=>AM
 pn:=[]
 xe:=λe s'=>sy (model P w) (A.deeper (tP qual scope s⁻¹ f cd)) (leaving (tP qual scope s⁻¹ f cd) e) (λZ s''=>CX outer H s E e s'') (λe' s''=>CX outer H s E e' s'') s'
def WE{sc:tY}(h:sc.names.lookup x=AK .cell):∃c,(cellsFrom n sc.names []).lookup x=AK c:=by have q:=fJ sc.names n [] (.inl h);exact Bg.mp q
def QQ{K:sr}(S:zm N ps scope)(hd:A.handled=AL)(e0:Env0 P w K mg base A outer s H)(hl:vs.length=ps.length)(r:Vals vs us)(x:InCallC s s⁻¹ (bindL (tP qual scope s⁻¹ f cd).kindOf (ps.zip us) λZ=>AL) (cellsFrom (s⁻¹+1) scope.names []) (bindC (tP qual scope s⁻¹ f cd).kindOf (ps.zip us) λZ=>AL) s1) :
  Inv (qZ CX P w K mg base N qual scope f cd A outer s H E) [] (start N vs) H s1:=by
 have hpl:ps.length<=N.length:=by have:=congrArg dP S.pre;rw[aH]at this;lia
 let#[h1,tk,rfl,hk]:=x.done;have noA:∀b:su,b ∉ (qZ CX P w K mg base N qual scope f cd A outer s H E).ex:=λb z=>w4 (show b ∈ ([]:List su)from z) (by simp)
 refine#[#[e0.mod,S.kind,rfl,rfl,ao _,λy z c h1 h2=>?_,λy hy=>?_,λy c Z h=>?_,λZ=>hd,Around.frames_deeper e0.frames,.inr #[rfl,rfl],λb z=>w4 z (noA b),e0.bs,e0.bsz,λb Z Z=>noA b,λb z=>w4 z (noA b),e0.funs,e0.frf],
  rfl,e0.bare,Un.kept hk,#[_,x.toInCall.ns,λi y v h1 h2 h3=>?_],λy c h=>#[_,x.cell y c h],e0.hok.fresh (ao _),λy c h=>?_,λp hp=>w4 (show p ∈ ([]:List (su × tN))from hp) (by simp),e0.hok.kept hk,?_]
 ·exact name_of_addr x.apart (bW h1) (bW h2)
 ·have hy:scope.names.lookup y=AK .cell\/scope.names.lookup y=AK .free:=hy;rcases hy with hy | hy
  ·exact WE hy
  ·exact w4 rfl (S.nofree _ (bW hy))
 ·exact dB (x.above y c (bW h))
 ·have hi:i<vs.length:=by
   unfold start at h2;by_cases hi:i<vs.length
   ·exact hi
   ·rw[bG (by simpa using hi)]at h2;rw[fu]at h2;split at h2 <;> cases h2
  have ha:vs[i]? = AK v:=by
   unfold start at h2;rw[bQ (by simpa using hi),au]at h2
   cases e:vs[i]? with
   | none=>rw[e]at h2;cases h2
   | some a=>rw[e]at h2;cases h2;rfl
  let#[u,hu,rv]:=r.get ha
  have hp:ps[i]? = AK y:=by
   rw[<- S.pre,cK ⋯];exact h1
  have ndP:ps.Nodup:=by rw[<- S.pre];exact S.nd.sublist (List.take_sublist _ _)
  refine#[u,rv,?_];rcases S.par y (ac hp)with k | k
  ·exact .inl #[k,YI ndP hp hu k]
  ·let#[c,e]:=WE (n:=s⁻¹+1) k;refine .inr #[.inl k,c,e,?_];have q:=x.cell y c e;rw[Y1 ndP hp hu (by show scope.names.lookup y≠_;rw[k];decide)]at q;exact q
 ·exact e0.hok.fresh (dB (x.above y c (bW h)))
 ·unfold start;show _=N.length;rw[ak,aa,bE];lia
theorem Kr{K:sr}{dV kV doc pm cdv ct oc:sv}(lk:K.lookup f=AK #[oc,od,.func (bB name qual params body scope dV kV doc pm an cdv ct),osl])(hcd:bV K cdv qual=AM)(S:zm N ps scope)(len:∀vs H Q E,sp vs H Q E->vs.length=ps.length)(hbody:∀(A:sY) (outer:List AE) (s:sw) (H:Hp) (vs:List V) (Q:VK) (E:XK),Room k (A.deeper (tP qual scope s⁻¹ f cdv))->sp vs H Q E ->
   ∃t,PSs (qZ CX P w K mg base N qual scope f cdv A outer s H E) body t/\t { nx:=λZ H'=>Q .non H',rt:=Q } (start N vs) H) :
  FnOk P w K mg base CX (k+1) f (bB name qual params body scope dV kV doc pm an cdv ct) ps sp:=by
 refine#[len,λA outer s H args us vs Q E hr e0 hb r hsp=>?_];have hl:=len _ _ _ _ hsp;have KX:K.In s.heap:=e0.mod.kin.keeps λb o e=>(e0.bs b o e).1;have lim:s.heap.NoLimit:=e0.mod.nolimit.keeps λb o e=>(e0.bs b o e).1
 have hkind:∀y ∈ ps.zip us,scope.names.lookup y.1=AK .local\/(scope.names.lookup y.1=AK .cell/\((cellsFrom (s⁻¹+1) scope.names []).lookup y.1).isSome=AM):=λ⟨n,v⟩ hy=>by
  rcases S.par n (dw hy).1 with q | q
  ·exact .inl q
  ·exact .inr #[q,fJ _ _ _ (.inl q)]
 refine codeAny_call_function hr.depth (KX _ _ lk) rfl S.co S.gen rfl (PySem.W.codeRec_of KX hcd) (hb _ _ _ _ ?_);refine wpAny_newFunctionEnv_cells S.kind hkind λenv he s1 x=>?_;subst he;refine#[lim.keeps x.toInCall.keep,codeAny_func ?_];let#[t,ht,hq]:=hbody A outer s H vs Q E (hr.deeper _) hsp;have I:Inv (qZ CX P w K mg base N qual scope f cdv A outer s H E) [] (start N vs) H s1:=QQ S hr.hd e0 hl r x;refine tD (ht [] s1 (start N vs) H _ I hq) (λfl s' hs=>?_) λe s' hs=>hs
 have fin:∀{σ':St} {H':Hp} {v:V} {u:sv},Inv (qZ CX P w K mg base N qual scope f cdv A outer s H E) [] σ' H' s'->RelV v u->Q v H'->CE outer P w H s Q u s' :=
  λ{σ' H' v u} J rv q=>#[v,H',J.os,J.bare,J.base,J.hok,rv,q]
 cases fl with
 | ret u =>
  let#[v,σ',H',J,rv,q]:=hs;exact fin J rv q
 | next =>
  let#[σ',H',J,q]:=hs;exact fin (v:=V.non) (u:=r8) J rfl q
 | brk =>
  let#[_,_,_,q]:=hs;exact False.elim q
 | cont =>
  let#[_,_,_,q]:=hs;exact False.elim q
def tCB(r:List V->Hp->VK->Prop)(t:TA):TE:=λσ H Q=>t σ H λvs H1=>r vs H1 Q
def yR{X:Cx}{x:sB}{p:AI}{pos:AI}{e:tK}{es:List tK}{t:TA}{id:String}{r:List V->Hp->VK->Prop}(hc:vY X (.builtin id) r)(hg:Gl X x)(hm:X.mg x=AL)(hv:sV x=AK (.builtin id))(ha:PA X (e::es) t)(hn:‹x≠"__name__"›)(hdb:‹(x ==("__debug__" : sB))=AN›)(he:‹so (e::es) X.env=(AN,eval e X.env)::so es X.env›) (hpl:‹(sQ pos (so es X.env)).any (·.1)=AN›):PE X (.Call (.Name x p) (e::es) [] pos) (tCB r t):=by intros Q I h;refine sS (vN I hg hm hv ?_ hn hdb);exact PyProof.Rows.callWith_builtin1 (thn (ha pos AO s σ H _ I h) λus s1=>el5 λvs H1 I1 r1 q1=>hc AO s1 σ H1 vs us Q I1 r1 q1) he hpl
def vg(hc:vY X (.type T) r)(hg:Gl X x)(hm:X.mg x=AL)(hv:sV x=AK (.type T))(ha:PA X (e::es) t)(hn:‹x≠"__name__"›)(hdb:‹(x ==("__debug__" : sB))=AN›)(he:‹so (e::es) X.env=(AN,eval e X.env)::so es X.env›) (hpl:‹(sQ pos (so es X.env)).any (·.1)=AN›):PE X (.Call (.Name x p) (e::es) [] pos) (tCB r t):=by intros Q I h;refine sS (vN I hg hm hv ?_ hn hdb);exact bK (thn (ha pos AO s σ H _ I h) λus s1=>el5 λvs H1 I1 r1 q1=>hc AO s1 σ H1 vs us Q I1 r1 q1) he hpl
end L2
namespace HT
open PySem PyProof.Rows
section
open PySem.SeqAt
open PySem.AutoSeq1 (wpAny_loadPart')
open PySem.MeetsSeq PySem.MeetsSeq2 PySem.MeetsSeq3
end
end in def sIx(n d:Nat):Option Int->Nat
 | none=>d
 | some v=>if v<0 then (v+(n:Int)).toNat else min v.toNat n
def sIx_none(n d:Nat):sIx n d AL=d:=rfl
def sIx_nat(n d k:Nat):sIx n d (AK (k:Int))=min k n:=by show (if (k:Int)<0 then ((k:Int)+(n:Int)).toNat else min (k:Int).toNat n)=min k n;rw[w9 ⋯,aE]
theorem sIx_le(n d:Nat)(hd:d<=n)(o:Option Int):sIx n d o<=n:=by
 cases o with
 | none=>exact hd
 | some v =>
  show (if v<0 then (v+(n:Int)).toNat else min v.toNat n)<=n;by_cases hv:v<0
  ·rw[w6 hv];lia
  ·rw[w9 hv];exact Nat.min_le_right _ _
end HT
namespace L2
end in abbrev TO:=St->Hp->(Option Int->Hp->Prop)->Prop
def PO(X:Cx)(e:Option tK)(t:TO):Prop :=
 ∀(AO:List (su × tN)) (s:sw) (σ:St) (H:Hp) (Q:Option Int->Hp->Prop),Inv X AO σ H s->t σ H Q ->
  sy (model X.prog X.w) X.A (evalPart e X.env) (λu s'=>∃o H',Inv X AO σ H' s'/\IsPart u o/\Q o H') X.xe s
def Zh:TO:=λZ H Q=>Q AL H
def Yw(t:TE):TO:=λσ H Q=>t σ H λx H1=>onInt x λi=>Q (AK i) H1
section
variable{X:Cx}{e:tK}{te:TE}{lo hi:Option tK}{tl th:TO}{pos p2:AI}
def yG:PO X AL Zh:=by intros Q I h;rw[evalPart_none];exact sj #[AL,H,I,.none,h]
def z6(h:PE X e te):PO X (AK e) (Yw te):=by intros Q I hw;rw[evalPart_some];refine thn (h AO s σ H _ I hw) λu s1=>el5 λx H1 I1 r1 q1=>?_;let#[i,rfl,q]:=onInt.of q1;let#[t,rfl]:=r1;exact#[AK i,H1,I1,.int i t,q]
def SlR(X:Cx)(r:V->Option Int->Option Int->Hp->VK->Prop):Prop :=
 ∀(AO:List (su × tN)) (s:sw) (σ:St) (H:Hp) (x:V) (v vl vu:sv) (lo hi:Option Int) (sl:su) (Q:VK),Inv X AO σ H s->RelV x v->s.heap.IsSliceOf sl vl vu .none->IsPart vl lo->IsPart vu hi->r x lo hi H Q ->
  ∃T id,typeLookup (.type T) "__getitem__" = pure (AK (.builtin id))/\s.TypeIs v T/\sy (model X.prog X.w) X.A (getItem v (.ref sl)) (EP X AO σ Q) X.xe s
def tSl(r:V->Option Int->Option Int->Hp->VK->Prop)(te:TE)(tl th:TO):TE:=λσ H Q=>te σ H λx H1=>tl σ H1 λl H2=>th σ H2 λu H3=>r x l u H3 Q
def zY(hr:SlR X r)(he:PE X e te)(hl:PO X lo tl)(hu:PO X hi th):PE X (.Subscript e (.Slice lo hi AL p2) pos) (tSl r te tl th):=by intros Q I h;refine AD (thn (he AO s σ H _ I h) λv s1=>el5 λx H1 I1 r1 q1=>?_);refine wpAny_Slice (thn (hl AO s1 σ H1 _ I1 q1) λvl s2=>el5 λl H2 I2 pl q2=>thn (hu AO s2 σ H2 _ I2 q2) λvu s3=>el5 λu H3 I3 pu q3=>?_);rw[evalPart_none];refine sj ?_;have I4:Inv X AO σ H3 { s3 with heap:=s3.heap.push { cls:=.type "slice",data:=.fields (t7 [vl,vu,.none]) } }:=I3.kept (t':=s3.toks) λb ob q=>ag _ q;let#[T,id,hT,ht,hg]:=hr AO { s3 with heap:=s3.heap.push { cls:=.type "slice",data:=.fields (t7 [vl,vu,.none]) } } σ H3 x v vl vu l u s3⁻¹ Q I4 r1 (Heap.IsSliceOf.new ..) pl pu q3;show sy (model X.prog X.w) X.A (Am e (.Slice lo hi AL p2) v (.ref s3⁻¹)) (EP X AO σ Q) X.xe { s3 with heap:=s3.heap.push { cls:=.type "slice",data:=.fields (t7 [vl,vu,.none]) } };exact tail_any (ops:=[.ref s3⁻¹,v]) ht hT hg (by with_unfolding_all rfl)
end in def Vv(xs:List V)(lo hi:Option Int):List V:=(xs.drop (HT.sIx xs.length 0 lo)).take (HT.sIx xs.length xs.length hi - HT.sIx xs.length 0 lo)
theorem XQ(xs:List V)(lo hi:Option Int):(Vv xs lo hi).length<=xs.length:=by unfold Vv;rw[aH,aZ];lia
end
end in def ixN(n:Nat)(i:Int):Option Nat:=if 0<=i then (if i<n then AK i.toNat else AL)else if -(n:Int)<=i then AK (i+n).toNat else AL
end in def atI{α:Type}(xs:List α)(i:Int):Option α:=(ixN xs.length i).bind λj=>xs[j]?
def JH(h:ixN n i=AK j):seqIndex? i n=AK j/\j<n/\-(n:Int)<=i/\i<n:=by
 unfold ixN at h;by_cases h0:0<=i
 ·rw[w6 h0]at h;by_cases h1:i<n
  ·rw[w6 h1]at h;have e:i.toNat=j:=Option.some.inj h;exact#[by rw[seqIndex_of h0 h1,e],⋯,⋯,h1]
  ·rw[w9 h1]at h;cases h
 ·rw[w9 h0]at h;by_cases h1:-(n:Int)<=i
  ·rw[w6 h1]at h;have e:(i+n).toNat=j:=Option.some.inj h;exact#[by rw[seqIndex_neg ⋯ h1,e],⋯,h1,⋯]
  ·rw[w9 h1]at h;cases h
theorem Wq(h:atI xs i=AK v):∃j,seqIndex? i xs.length=AK j/\xs[j]? = AK v/\j<xs.length/\-(xs.length:Int)<=i/\i<xs.length:=by
 unfold atI at h
 cases e:ixN xs.length i with
 | none=>rw[e]at h;cases h
 | some j =>
  rw[e]at h;let#[h1,h2,h3,h4]:=JH e;exact#[j,h1,h,h2,h3,h4]
def wz{xs:List α}{j:Nat}{v:α}(h:xs[j]? = AK v):atI xs (j:Int)=AK v:=by
 have hj:j<xs.length:=(AS.mp h).1
 have e:ixN xs.length (j:Int)=AK j:=by
  unfold ixN;rw[w6 ⋯,w6 ⋯];simp
 unfold atI;rw[e];exact h
def JN(b:tK):Prop:=∀o i,subscripted b AN o i=operate [o,i] (getItem o i)
def IxR(X:Cx)(r:R2):Prop :=
 ∀(value slice:tK) (AO:List (su × tN)) (s:sw) (σ:St) (H:Hp) (x y:V) (v u:sv) (Q:VK),Inv X AO σ H s->RelV x v->RelV y u->r x y H Q ->
  subscripted slice AN v u=operate [v,u] (getItem v u)->sy (model X.prog X.w) X.A (Am value slice v u) (EP X AO σ Q) X.xe s
def MtR(X:Cx)(id:String)(r:V->List V->Hp->VK->Prop):Prop :=
 ∀(AO:List (su × tN)) (s:sw) (σ:St) (H:Hp) (x:V) (xs:List V) (v:sv) (us:List sv) (Q:VK),Inv X AO σ H s->RelV x v->Vals xs us->r x xs H Q ->
  sy (model X.prog X.w) X.A (call (.builtin id) (v::us)) (EP X AO σ Q) X.xe s
section
variable{X:Cx}{a b:tK}{ta tb:TE}{pos:AI}
def IxR.or(h:IxR X r)(h':IxR X r'):IxR X (λx y H Q=>r x y H Q\/r' x y H Q):=by
 intro value slice AO s σ H x y v u Q I rx ry q hs;rcases q with q | q
 ·exact h value slice AO s σ H x y v u Q I rx ry q hs
 ·exact h' value slice AO s σ H x y v u Q I rx ry q hs
def zgw(hr:IxR X r)(ha:PE X a ta)(hb:PE X b tb)(hs:JN b):PE X (.Subscript a b pos) (tOp r ta tb):=by intros Q I h;exact AD (zfX ha hb I h λv u s2 x y H2 I2 rx ry q=>hr a b AO s2 σ H2 x y v u Q I2 rx ry q (hs _ _))
def zdk(K:sr):R2:=λx y H Q=>onRef x λp=>onInt y λi=>∃xs,SqL K H p xs/\∃v,atI xs i=AK v/\Q v H
def ud(K:sr):R2:=λx y H Q=>onRef x λp=>onInt y λi=>∃xs,SqT K H p xs/\∃v,atI xs i=AK v/\Q v H
def za5:R2:=λx y H Q=>onStr x λz=>onInt y λi=>z.length<=sq/\∃c,atI z.cps.toList i=AK c/\Q (.str ⟨#[c]⟩) H
theorem ix_list:IxR X (zdk X.K):=by
 intro value slice AO s σ H x y v u Q I rx ry h hs;let#[p,rfl,h2]:=onRef.of h;let#[i,rfl,xs,hq,z,he,q]:=onInt.of h2;cases rx;let#[t,rfl]:=ry;let#[its,r,pl,hz]:=I.list hq;let#[j,h1,h2,h3,h4,h5]:=Wq he;let#[w,ew,rw']:=r.get h2;have hl:=r.length;have hn:=k9;have fin:EP X AO σ Q w s:=#[z,H,I,rw',q];by_cases h0:0<=i
 ·have hj:i.toNat=j:=by
   rw[seqIndex_of h0 h5]at h1;exact Option.some.inj h1
  exact item_listR pl.isList h0 ⋯ (by rw[hj];simpa using ew) fin hs
 ·have hj:(i+(its.toArray.size:Int)).toNat=j:=by
   rw[seqIndex_neg ⋯ h4]at h1;rw[aj,<- hl];exact Option.some.inj h1
  exact Ad (x:=w) pl.isList.typeIs slot_list_getitem.lookup
   (wpAny_getItem_list_neg (Q:=λr s'=>r=w/\EP X AO σ Q r s') pl.isList ⋯ (by rw[aj] <;> lia) ⋯ (by rw[hj];simpa using ew) #[rfl,fin]) hs
theorem u5:IxR X (ud X.K):=by
 intro value slice AO s σ H x y v u Q I rx ry h hs;let#[p,rfl,h2]:=onRef.of h;let#[i,rfl,xs,hq,z,he,q]:=onInt.of h2;cases rx;let#[t,rfl]:=ry;let#[its,r,pl,hz]:=I.tuple hq;let#[j,h1,h2,h3,h4,h5]:=Wq he;let#[w,ew,rw']:=r.get h2;have hl:=r.length;have hn:=k9;have fin:EP X AO σ Q w s:=#[z,H,I,rw',q]
 exact Ad (x:=w) pl.typeIs slot_tuple_getitem.lookup
  (getItem_tuple (j:=j) (Q:=λr s'=>r=w/\EP X AO σ Q r s') pl ⋯ ⋯ (by rw[aj,<- hl];exact h1) (by simpa using ew) #[rfl,fin]) hs
theorem wJ:IxR X za5:=by
 intro value slice AO s σ H x y v u Q I rx ry h hs;let#[z,rfl,h2]:=onStr.of h;let#[i,rfl,hz,c,he,q]:=onInt.of h2;let#[t,rfl]:=rx;let#[t',rfl]:=ry;let#[j,h1,h2,h3,h4,h5]:=Wq he;have hl:z.cps.toList.length=z.length:=by simp [Str.length]
 rw[hl]at h1 h4 h5;have hn:=k9
 exact tail_any (typeIs_str s z t) slot_str_getitem.lookup (getItem_str (c:=c) (by
  have e1:decide (i < -(2 ^ 63:Int))=AN:=v9 ⋯;have e2:decide (i ≥ 2 ^ 63)=AN:=v9 ⋯
  rw[e1,e2,Bool.or_false]) (by rw[h1];simpa using h2) #[.str ⟨#[c]⟩,H,I.tok _,#[_,rfl],q]) hs
def rIx(K:sr):R2:=λx y H Q=>match x with | .ref p=>onInt y λi=>(∃xs,SqL K H p xs/\∃v,atI xs i=AK v/\Q v H)\/∃xs,SqT K H p xs/\∃v,atI xs i=AK v/\Q v H | .str z=>za5 (.str z) y H Q | _=>False
def rIx.of{K:sr}(h:rIx K x y H Q):zdk K x y H Q\/ud K x y H Q\/za5 x y H Q:=by unfold rIx at h;cases x <;> first | exact .inr (.inr h) | (let#[i,rfl,h]:=onInt.of h;exact h.elim .inl λh=>.inr (.inl h)) | exact h.elim
def zbm:IxR X (rIx X.K):=λa b AO s σ H x y v u Q I rx ry h hs=>(ix_list.or (u5.or wJ)) a b AO s σ H x y v u Q I rx ry h.of hs
def V6(its:List sv)(n j:Nat)(u:sv):Obj.mapSeq (·.setIfInBounds j u) { cls:=.type "list",data:=.seq its.toArray n }={ cls:=.type "list",data:=.seq (its.set j u).toArray n }:=by simp [Obj.mapSeq]
def Inv.lst{AO:List (su × tN)}{σ:St}{H:Hp}{s:sw}{p:su}{xs:List V}(I:Inv X AO σ H s)(h:H p=AK (.lst xs)) :
  ∃(its:List sv) (n:Nat),Vals xs its/\s.heap.get? p=AK { cls:=.type "list",data:=.seq its.toArray n }/\xs.length<=sq:=by let#[z,its,n,r,e]:=I.hok p _ h;exact#[its,n,r,e,z]
def Inv.lstUpd{its its':List sv}(I:Inv X AO σ H s)(h:H p=AK (.lst xs))(ho:s.heap.get? p=AK { cls:=.type "list",data:=.seq its.toArray n })(hf:f { cls:=.type "list",data:=.seq its.toArray n }={ cls:=.type "list",data:=.seq its'.toArray n' })(r:Vals ys its')(hz:ys.length<=sq)(t:Nat) :
  Inv X AO σ (upd H p (.lst ys)) { s with heap:=s.heap.update p f,toks:=t }:=by
 have e:(s.heap.update p f).get? p=AK { cls:=.type "list",data:=.seq its'.toArray n' }:=by
  rw[ce f ho (by rw[hf] <;> rfl),hf]
 refine I.write (x:=p) (e:=p) (by rw[h];trivial) (.inl rfl) (λb u hb q=>(aB _ _ (Ne.symm hb)).trans q) #[_,e] ?_;exact#[hz,its',n',r,e]
def zgf:V->V->V->Hp->(Hp->Prop)->Prop:=λo i v H Q=>∃p xs k j,o=.ref p/\i=.int k/\H p=AK (.lst xs)/\ixN xs.length k=AK j/\Q (upd H p (.lst (xs.set j v)))
theorem zau:zfQ X zgf:=by
 intros o i v ov iv u Q I ro ri rv h;let#[p,xs,k,j,rfl,rfl,hp,hj,q]:=h;cases ro;let#[t,rfl]:=ri;let#[its,n,r,ho,hz]:=I.lst hp;let#[h1,h2,h3,h4]:=JH hj;have hl:=r.length;have hn:=k9
 have I':Inv X AO σ (upd H p (.lst (xs.set j v))) { s with heap:=s.heap.update p (Obj.mapSeq (·.setIfInBounds j u)) } :=
  I.lstUpd hp ho (V6 its n j u) (r.set rv j) (by rw[List.length_set];exact hz) s.toks
 by_cases h0:0<=k
 ·have hk:k.toNat=j:=by
   rw[seqIndex_of h0 h4]at h1;exact Option.some.inj h1
  exact PySem.W.ki_setAt ho h0 ⋯ (by rw[aj,<- hl];exact h4) (by rw[hk];exact#[_,I',q])
 ·have hk:(k+(its.toArray.size:Int)).toNat=j:=by
   rw[seqIndex_neg ⋯ h3]at h1;rw[aj,<- hl];exact Option.some.inj h1
  exact PySem.W.ki_setBack ho ⋯ (by rw[aj,<- hl];exact h3) ⋯ (by rw[hk];exact#[_,I',q])
theorem Y6(lo hi:Option Int)(n:Nat):(sliceBounds lo hi AL n).1=((HT.sIx n 0 lo:Nat):Int)/\(sliceBounds lo hi AL n).2.1=((HT.sIx n n hi:Nat):Int)/\(sliceBounds lo hi AL n).2.2=1:=by
 refine#[?_,?_,rfl]
 ·cases lo with
  | none=>simp [sliceBounds,HT.sIx]
  | some i =>
   erw[sliceBounds,HT.sIx,gz,show (1:Int) > 0 by decide,if_true]
   by_cases h:i<0
   ·erw[h,if_true] <;> lia
   ·erw[h,if_false] <;> lia
 ·cases hi with
  | none=>simp [sliceBounds,HT.sIx]
  | some i =>
   erw[sliceBounds,HT.sIx,gz,show (1:Int) > 0 by decide,if_true]
   by_cases h:i<0
   ·erw[h,if_true] <;> lia
   ·erw[h,if_false] <;> lia
def ZM(its:List sv)(lo hi:Option Int):slicePick its.toArray lo hi AL=((its.drop (HT.sIx its.length 0 lo)).take (HT.sIx its.length its.length hi - HT.sIx its.length 0 lo)).toArray:=by
 let#[h1,h2,h3]:=Y6 lo hi its.toArray.size;unfold slicePick;rw[h1,h2,h3]
 erw[sliceRange_one,pick_run,aj] <;> rfl
def zdO(K:sr):V->Option Int->Option Int->Hp->VK->Prop:=λx lo hi H Q=>onRef x λa=>∃xs,SqL K H a xs/\∀p,H p=AL->Q (.ref p) (upd H p (.lst (Vv xs lo hi)))
theorem uR:SlR X (zdO X.K):=by intros x v vl vu lo hi sl Q I rx hs pl pu h;let#[a,rfl,xs,hx,q]:=onRef.of h;cases rx;let#[its,r,ht,hz]:=I.list hx;have hlen:=r.length;refine#["list",_,slot_list_getitem.lookup,ht.isList.typeIs,?_];refine wpAny_getItem_list_slice ht.isList hs pl pu .none (by simp) ?_ (by rw[aj] <;> lia);rw[ZM,<- hlen];refine#[.ref s⁻¹,_,I.laid (t':=s.toks) (o:=.lst (Vv xs lo hi)) (λb ob q=>ag _ q) (ao _) ?_,rfl,q _ (I.hok.fresh (ao _))];exact#[aL (XQ xs lo hi) hz,_,0,(r.drop (HT.sIx xs.length 0 lo)).take (HT.sIx xs.length xs.length hi - HT.sIx xs.length 0 lo),aI _ rfl]
end in def zeY:V->Bool
 | .non=>AM
 | .bl _=>AM
 | .int _=>AM
 | .str _=>AM
 | _=>AN
end in def eqV:V->V->Bool
 | .non,.non=>AM
 | .bl a,.bl b=>a == b
 | .bl a,.int b=>(if a then 1 else 0) == b
 | .int a,.bl b=>a ==(if b then 1 else 0)
 | .int a,.int b=>a == b
 | .str a,.str b=>a == b
 | _,_=>AN
theorem WH(ry:RelV y u)(rx:RelV x v)(fy:zeY y=AM)(fx:zeY x=AM):SeqAt.EqAt A s u v (eqV y x):=by
 cases y with
 | non =>
  cases ry
  cases x with
  | non=>cases rx;exact SeqAt.EqAt.same _
  | bl b=>cases rx;exact SeqAt.EqAt.none_bool b
  | int b=>let#[t,rfl]:=rx;exact SeqAt.EqAt.none_int b t
  | str b=>let#[t,rfl]:=rx;exact SeqAt.EqAt.none_str b t
  | _=>exact w4 (show AN=AM from fx) aF
 | bl a =>
  cases ry
  cases x with
  | non=>cases rx;exact SeqAt.EqAt.bool_none a
  | bl b=>cases rx;exact SeqAt.EqAt.bool_bool a b
  | int b=>let#[t,rfl]:=rx;exact SeqAt.EqAt.bool_int a b t
  | str b=>let#[t,rfl]:=rx;exact SeqAt.EqAt.bool_str a b t
  | _=>exact w4 (show AN=AM from fx) aF
 | int a =>
  let#[t',rfl]:=ry
  cases x with
  | non=>cases rx;exact SeqAt.EqAt.int_none a t'
  | bl b=>cases rx;exact SeqAt.EqAt.int_bool a t' b
  | int b=>let#[t,rfl]:=rx;exact SeqAt.EqAt.int_int a t' b t
  | str b=>let#[t,rfl]:=rx;exact SeqAt.EqAt.int_str a t' b t
  | _=>exact w4 (show AN=AM from fx) aF
 | str a =>
  let#[t',rfl]:=ry
  cases x with
  | non=>cases rx;exact SeqAt.EqAt.str_none a t'
  | bl b=>cases rx;exact SeqAt.EqAt.str_bool a t' b
  | int b=>let#[t,rfl]:=rx;exact SeqAt.EqAt.str_int a t' b t
  | str b=>let#[t,rfl]:=rx;exact SeqAt.EqAt.str_str a t' b t
  | _=>exact w4 (show AN=AM from fx) aF
 | _=>exact w4 (show AN=AM from fy) aF
theorem xF:vY X (.type "list") (λxs H Q=>∃p ys,xs=[.ref p]/\(SqL X.K H p ys\/SqT X.K H p ys)/\∀l,H l=AL->Q (.ref l) (upd H l (.lst ys))):=by
 intros xs us Q I r h;let#[p,ys,rfl,hq,q]:=h;let#[u,rfl,rx]:=wM r;cases rx
 have fin:∀(its:List sv),Vals ys its->ys.length<=sq->∀(h':sU) (c':Nat),(∀b o',s.heap.get? b=AK o'->h'.get? b=AK o') ->
   h'.get? s⁻¹=AK { cls:=.type "list",dict:=AL,data:=.seq its.toArray c',slots:=#[] }->EP X AO σ Q (.ref s⁻¹) { s with heap:=h' }:=λits r' hz h' c' kp e =>
  #[.ref s⁻¹,_,I.laid (t':=s.toks) kp (ao _) (show ObjOk X.prog X.w _ h' _ (.lst ys)from #[hz,its,c',r',e]),rfl,q _ (I.hok.fresh (ao _))]
 rcases hq with hq | hq
 ·let#[its,r',pl,hz]:=I.list hq;have hlen:=r'.length;let#[o,ho,hc,n,hd]:=pl.isList;exact call_list_seq p (.inl rfl) ho hc hd (λh' c' kp e=>fin its r' hz h' c' kp e) (by erw[aj] <;> lia)
 ·let#[its,r',pl,hz]:=I.tuple hq;have hlen:=r'.length;let#[o,ho,hc,n,hd]:=pl;exact call_list_seq p (.inr rfl) ho hc hd (λh' c' kp e=>fin its r' hz h' c' kp e) (by erw[aj] <;> lia)
def tyV(K:sr)(T:String)(x:V)(H:Hp):Prop:=match x with
 | .str _=>T="str"
 | .int _=>T="int"
 | .ref p=>(T="list"/\∃xs,SqL K H p xs)\/(T="tuple"/\∃o,K.lookup p=AK o/\o.cls=.type "tuple"/\o.dict=AL) \/
   (T="dict"/\((∃kvs,H p=AK (.dK kvs))\/∃kvs,H p=AK (.dT kvs)))\/(T="set"/\∃S n,H p=AK (.set S n))
 | _=>False
theorem zbn(I:Inv X AO σ H s)(r:RelV x v)(ty:tyV X.K T x H) :
  s.TypeIs v T/\∀a,v=.ref a->∃ob,s.heap.get? a=AK ob/\ob.dict=AL:=by
 cases x with
 | str z =>
  let#[t,rfl]:=r;cases (show T="str" from ty);exact#[typeIs_str s z t,λZ e=>nomatch e]
 | int i =>
  let#[t,rfl]:=r;cases (show T="int" from ty);exact#[typeIs_int s i t,λZ e=>nomatch e]
 | ref p =>
  cases r;rcases ty with ⟨rfl,xs,hq⟩ | ⟨rfl,o,hk,hc,hd⟩ | ⟨rfl,hk⟩ | ⟨rfl,S,n,hk⟩
  ·let#[its,_,pl,_]:=I.list hq;refine#[pl.isList.typeIs,λa e=>?_];cases e;let#[o,n,e,c,hd,_]:=pl;exact#[o,e,hd]
  ·refine#[#[o,I.kIn p o hk,hc],λa e=>?_];cases e;exact#[o,I.kIn _ o hk,hd]
  ·have z:∃o,s.heap.get? p=AK o/\o.ExactDict:=by
    rcases hk with ⟨kvs,hk⟩ | ⟨kvs,hk⟩
    ·let#[_,_,_,_,o,_,_,e,ex,_]:=I.hok p _ hk;exact#[o,e,ex]
    ·let#[_,_,_,_,o,_,_,e,ex,_]:=I.hok p _ hk;exact#[o,e,ex]
   let#[o,e,ex]:=z;refine#[#[o,e,ex.1],λa e2=>?_];cases e2;exact#[o,e,ex.2.1]
  ·let#[o,_,_,_,e,ex,_]:=I.hok p _ hk;refine#[#[o,e,ex.1],λa e2=>?_];cases e2;exact#[o,e,ex.2.1]
 | _=>exact False.elim ty
def zfh(K:sr)(T:String)(r:V->List V->Hp->VK->Prop)(to:TE):TE:=λσ H Q=>to σ H λx H1=>tyV K T x H1/\r x [] H1 Q
def tBM(K:sr)(T:String)(r:V->List V->Hp->VK->Prop)(to:TE)(t:TA):TE:=λσ H Q=>to σ H λx H1=>tyV K T x H1/\t σ H1 λxs H2=>r x xs H2 Q
variable{o e:tK}{es:List tK}{to:TE}{t:TA}{name:sB}{apos cpos:AI}{T id:String}{r:V->List V->Hp->VK->Prop}
def zex(pa:PlainAttrs T)(slot:Slot T name id)(hty:typeOf (.builtin id)=pure (.type "method_descriptor"))(hm:MtR X id r)(ho:PE X o to)(hbase:‹attributeBase o name X.env (eval o X.env)=eval o X.env›) (hline:‹(apos.endLine == cpos.line)=AM›):PE X (.Call (.Attribute o name apos) [] [] cpos) (zfh X.K T r to):=by intros Q I h;refine wpAny_Call_method0_late hbase hline (thn (ho AO s σ H _ I h) λv s1=>el5 λx H1 I1 r1=>ua2 λty q1=>?_);let#[h1,h2]:=zbn I1 r1 ty;exact#[T,id,pa,slot,hty,h1,h2,Calls.callWith_builtin rfl (PySem.evalArgs_none (hm AO s1 σ H1 x [] v [] Q I1 r1 .nil q1))]
def wL(pa:PlainAttrs T)(slot:Slot T name id)(hty:typeOf (.builtin id)=pure (.type "method_descriptor"))(hm:MtR X id r)(ho:PE X o to)(ha:PA X (e::es) t)(hbase:‹attributeBase o name X.env (eval o X.env)=eval o X.env›)(hfew:((sQ cpos (so (e::es) X.env)).all (λx=>!x.1) && (sX cpos (sN [] X.env)).all (λx=>x.1.isSome)
   && decide ((e::es).length+([]:List AA).length+(if ([]:List AA).isEmpty then 0 else 1)<30))=AM:=by rfl)(hline:‹(apos.endLine == cpos.line)=AM›) (hs:‹so (e::es) X.env=(AN,eval e X.env)::so es X.env›) (hplain:‹(sQ cpos (so es X.env)).any (·.1)=AN›) :
  PE X (.Call (.Attribute o name apos) (e::es) [] cpos) (tBM X.K T r to t):=by intros Q I h;refine wpAny_Call_method_late hbase hfew hline rfl (thn (ho AO s σ H _ I h) λv s1=>el5 λx H1 I1 r1=>ua2 λty q1=>?_);let#[h1,h2]:=zbn I1 r1 ty;refine#[T,id,pa,slot,hty,h1,h2,?_];have hA:=ha cpos AO s1 σ H1 _ I1 q1;rw[hs]at hA ⊢;refine Calls.callWith_builtin (by show (AN || (sQ cpos (so es X.env)).any (·.1))=AN;rw[hplain] <;> rfl) (Calls.evalArgs_plain ?_);exact thn hA λus s2=>el5 λvs H2 I2 r2 q2=>hm AO s2 σ H2 x vs v us Q I2 r1 r2 q2
/- xs.append(e),list.index on a module's tuple .. are MtR facts of 06m -/
end
def MtM(X:Cx)(id:String)(r:V->List V->Hp->VK->Prop):Prop :=
 ∀(AO:List (su × tN)) (s:sw) (σ:St) (H:Hp) (x:V) (xs:List V) (v:sv) (us:List sv) (Q:VK),Inv X AO σ H s->RelV x v->Vals xs us->r x xs H Q ->
  sy (model X.prog X.w) X.A (call (.builtin id) (v::us)) (EP X AO σ Q) X.xe s
theorem Vals.one(h:Vals [x] us):∃u,us=[u]/\RelV x u:=by
 cases h with
 | cons r t =>
  cases t;exact#[_,rfl,r]
theorem Vals.two(h:Vals [x,y] us):∃u v,us=[u,v]/\RelV x u/\RelV y v:=by
 cases h with
 | cons r t =>
  let#[u,rfl,q]:=Vals.one t;exact#[_,_,rfl,r,q]
theorem Vals.zero:∀{us:List sv},Vals [] us->us=[]
 | _,.nil=>rfl
theorem Vals.dropLast(h:Vals xs us):Vals xs.dropLast us.dropLast:=by
 induction h with
 | nil=>exact .nil
 | cons r t ih =>
  cases t with
  | nil=>exact .nil
  | cons q t'=>exact .cons r ih
theorem Vals.eraseIdx:∀{xs:List V} {us:List sv} (i:Nat),Vals xs us->Vals (xs.eraseIdx i) (us.eraseIdx i)
 | _,_,_,.nil=>.nil
 | _,_,0,.cons _ t=>t
 | _,_,i+1,.cons r t=>.cons r (Vals.eraseIdx i t)
theorem Vals.reverse(h:Vals xs us):Vals xs.reverse us.reverse:=by
 induction h with
 | nil=>exact .nil
 | cons r t ih=>rw[dL,dL];exact Vals.append ih (.cons r .nil)
theorem V2{α:Type}(l:List α):l.eraseIdx (l.length - 1)=l.dropLast:=by
 induction l with
 | nil=>rfl
 | cons a r ih =>
  cases r with
  | nil=>rfl
  | cons b r =>
   have e:(a::b::r).length - 1=((b::r).length - 1)+1:=by
    have h1:(a::b::r).length=r.length+2:=rfl;have h2:(b::r).length=r.length+1:=rfl;lia
   rw[e,List.eraseIdx_cons_succ,ih]
   all_goals rfl
def Inv.lset{its its':List sv}(I:Inv X AO σ H s)(hH:H l=AK (.lst xs))(e:s.heap.get? l=AK { cls:=.type "list",data:=.seq its.toArray n })(hf:f its.toArray=its'.toArray)(hv:Vals ys its')(hz:ys.length<=sq) :
  Inv X AO σ (upd H l (.lst ys)) { s with heap:=s.heap.update l (Obj.mapSeq f),toks:=t' }:=by have q:=PySem.IsL.update e f;rw[hf]at q;refine I.write (x:=l) (e:=l) (by rw[hH];exact trivial) (.inl rfl) (λb' u hb hu=>(aB s.heap (Obj.mapSeq f) (Ne.symm hb)).trans hu) #[_,q] ?_;exact#[hz,its',_,hv,q]
def Inv.lnew(I:Inv X AO σ H s)(hv:Vals ys its)(hz:ys.length<=sq) :
  Inv X AO σ (upd H s⁻¹ (.lst ys)) { s with heap:=s.heap.push { cls:=.type "list",data:=.seq its.toArray },toks:=t' } :=
 I.laid (λZ Z q=>ag _ q) (ao _) #[hz,its,0,hv,aI _ rfl]
def Inv.fresh(I:Inv X AO σ H s):H s⁻¹=AL:=I.hok.fresh (ao _)
def Inv.lstM(I:Inv X AO σ H s)(hH:H l=AK (.lst xs)):xs.length<=sq/\∃(its:List sv) (n:Nat),Vals xs its/\xs.length=its.length/\s.heap.get? l=AK { cls:=.type "list",data:=.seq its.toArray n }:=by let#[z,its,n,r,e]:=I.hok l _ hH;exact#[z,its,n,r,r.length,e]
def zac(h:n<=sq):Builtin.List.listTooLong n=AN:=by unfold Builtin.List.listTooLong;exact v9 ⋯
def UK:V->List V->Hp->VK->Prop:=λx vs H Q=>onRef x λl=>match vs with | [y]=>∃xs,H l=AK (.lst xs)/\xs.length<sq/\Q .non (upd H l (.lst (xs ++ [y]))) | _=>False
def yP:MtM X "list.append" UK:=by
 intros x vs v us Q I rx rv h;let#[l,rfl,h2]:=onRef.of h
 obtain⟨y,rfl,xs,hH,hz,q⟩:∃y,vs=[y]/\∃xs,H l=AK (.lst xs)/\xs.length<sq/\Q .non (upd H l (.lst (xs ++ [y]))):=by
  split at h2
  ·exact#[_,rfl,h2]
  ·exact h2.elim
 cases rx;let#[u,rfl,ru]:=rv.one;let#[z,its,n,r,hl,e]:=I.lstM hH;refine call_meets F.slot_list_append #[_,e,rfl] F.entry_list_append (F.args_list_append_2 _ _) (PySem.list_append l its.toArray n u (by rw[aj];lia)) #[e,?_];refine#[.non,_,I.lset (its':=its ++ [u]) hH e (by simp) (r.append (.cons ru .nil)) ?_,rfl,q];rw[ak,fO];lia
def QD:V->List V->Hp->VK->Prop:=λx vs H Q=>∃l b xs zs,x=.ref l/\vs=[.ref b]/\H l=AK (.lst xs)/\H b=AK (.lst zs)/\xs.length+zs.length<=sq/\Q .non (upd H l (.lst (xs ++ zs)))
def Je:MtM X "list.extend" QD:=by
 intros x vs v us Q I rx rv h;let#[l,b,xs,zs,rfl,rfl,hH,hB,hz,q]:=h;cases rx;let#[u,rfl,ru]:=rv.one;cases ru;let#[z,its,n,r,hl,e]:=I.lstM hH;let#[z2,its2,n2,r2,hl2,e2]:=I.lstM hB;have hsz:its.toArray.size+its2.toArray.size<=sq:=by rw[aj,aj];lia
 have hlong:¬ (!its.toArray.isEmpty && Builtin.List.listTooLong (its.toArray.size+its2.toArray.size))=AM:=by
  rw[zac hsz,dD];exact aF
 refine call_meets F.slot_list_extend #[_,e,rfl] F.entry_list_extend (F.args_list_extend_2 _ _)
  (AutoSeq1.list_extend_list_list_0 l its.toArray n b its2.toArray n2 hlong (by rw[aj];lia) ⋯) #[e,e2,?_]
 refine#[.non,_,I.lset (its':=its ++ its2) hH e (by simp) (r.append r2) ?_,rfl,q];rw[ak];lia
def zg7:V->List V->Hp->VK->Prop:=λx vs H Q=>∃l xs y,x=.ref l/\vs=[]/\H l=AK (.lst xs)/\xs[xs.length - 1]? = AK y/\Q y (upd H l (.lst xs.dropLast))
def zgB:MtM X "list.pop" zg7:=by
 intros x vs v us Q I rx rv h;let#[l,xs,y,rfl,rfl,hH,hy,q]:=h;cases rx;have hus:=rv.zero;subst hus;let#[z,its,n,r,hl,e]:=I.lstM hH;let#[u,hu,ru]:=r.get hy
 have hy':its.toArray[its.toArray.size - 1]? = AK u:=by
  show its.toArray[its.length - 1]? = AK u;rw[<- Array.getElem?_toList,<- hl];exact hu
 refine call_meets F.slot_list_pop #[_,e,rfl] F.entry_list_pop (F.args_list_pop_1 _) (MeetsSeq.list_pop_last l its.toArray n u hy' (by rw[aj];lia)) #[e,?_];refine#[y,_,I.lset (its':=its.dropLast) hH e ?_ r.dropLast ?_,ru,q]
 ·show its.toArray.eraseIdxIfInBounds (its.toArray.size - 1)=its.dropLast.toArray;rw[aj,List.eraseIdxIfInBounds_toArray,V2]
 ·rw[List.length_dropLast];lia
def WG:V->List V->Hp->VK->Prop:=λx vs H Q=>∃l xs,x=.ref l/\vs=[]/\H l=AK (.lst xs)/\Q .non (upd H l (.lst xs.reverse))
def VV:MtM X "list.reverse" WG:=by intros x vs v us Q I rx rv h;let#[l,xs,rfl,rfl,hH,q]:=h;cases rx;have hus:=rv.zero;subst hus;let#[z,its,n,r,hl,e]:=I.lstM hH;refine call_meets F.slot_list_reverse #[_,e,rfl] F.entry_list_reverse (F.args_list_reverse_1 _) (AutoSeq1.list_reverse_list_0 l its.toArray n (by rw[aj];lia)) #[e,?_];refine#[.non,_,I.lset (its':=its.reverse) hH e (by simp) r.reverse ?_,rfl,q];rw[br];lia
def zdj:R2:=λx y H Q=>onRef x λl=>onRef y λb=>∃xs,H l=AK (.lst xs)/\∃zs,H b=AK (.lst zs)/\xs.length+zs.length<=sq/\∀p,H p=AL->Q (.ref p) (upd H p (.lst (xs ++ zs)))
def jl:OpR X (binaryOp .Add) zdj:=by
 intros x y v u Q I rx ry h;let#[l,rfl,h2]:=onRef.of h;let#[b,rfl,xs,hH,zs,hB,hz,q]:=onRef.of h2;cases rx;cases ry;let#[z,its,n,r,hl,e]:=I.lstM hH;let#[z2,its2,n2,r2,hl2,e2]:=I.lstM hB;refine PySem.P.add_list e e2 ?_ (by rw[aj,aj];lia);have ea:its.toArray ++ its2.toArray=(its ++ its2).toArray:=by simp
 rw[ea];exact#[.ref _,_,I.lnew (t':=s.toks) (r.append r2) (by rw[ak];lia),rfl,q _ I.fresh]
theorem len_rep{α:Type}(xs:List α)(k:Nat):(aM k xs).flatten.length=k * xs.length:=by
 induction k with
 | zero=>simp
 | succ k ih=>rw[cC,dM,ak,ih,d6,Nat.add_comm]
end L2
namespace Att
open PySem PySem.W PySem.Calls PyProof.Rows
theorem jY : ∀(ns:List Int) (vs:List sv),WellAll P h vs (ns.map WData.int)->As vs ns:=by
 intro ns
 induction ns with
 | nil =>
  intro vs w;rw[aA]at w;cases w;exact .nil
 | cons n ns ih =>
  intro vs w;rw[am]at w
  cases w with
  | cons a b =>
   cases a;exact .cons _ _ (ih _ b)
theorem script_of{l:AH}(hn:l.most=AK n)(hpre:l.row.toRowW.claim.pre args=AM)(hwl:WellAll P h vals args) :
  ∃a vs ns,vals=[r9 a]/\args=[WData.list (ns.map WData.int)]/\h.get? a=AK { cls:=.type "list",data:=.seq vs.toArray }/\As vs ns/\ns.length<=n:=by
 have hsh:WShape.hasAll [] args [.list .int]=AM:=(pre_splitW hpre).1;have hc:l.pre.holds [] { args:=args }=AM:=(pre_splitW hpre).2;let#[d,r,rfl,h1,h2]:=hasAllW_cons hsh;obtain rfl:=hasAllW_nil h2;let#[xs,rfl,h3]:=hasW_list h1;let#[ns,rfl]:=items_int h3
 have hlen:ns.length<=n:=by
  unfold OpenLaw.pre at hc
  have h4:(WTm.not (.lt (.lit (.int (n:Int))) (.len (.arg 0)))).holds [] { args:=[.list (ns.map .int)] }=AM:=by
   have h4:=(holds_andW hc).1;rw[hn]at h4;exact h4
  have h5:=condW_of h4 (w_not (w_lt w_lit (w_len_list (w_arg rfl))));rw[aa]at h5;refine df λq=>?_;have q':(n:Int)<((ns.length:Nat):Int):=⋯
  first
   | (rw[u9 q']at h5;exact w4 h5 ∅)
   | (simp at h5;lia)
 cases hwl with
 | cons w1 w2 =>
  cases w2
  cases w1 with
  | list ho hall=>exact#[_,_,ns,rfl,rfl,ho,jY ns _ hall,hlen]
def post_true(l:AH)(args:List WData):l.row.toRowW.claim.post args (.bool AM) args=AM :=
 postW_of (r:=l.row.toRowW) (X:=(AM == AM))
  (show WShape.has [] (.bool AM) .bool=AM by first | rfl | decide | simp [WShape.has,WShape.arms,WShape.armsAll])
  (show (WTm.eq .res (.lit (.bool AM))).value [] { args:=args,res:=AK (.bool AM),after:=args }=AK (.bool (AM == AM))from w_eq_bool (w_res rfl) w_lit) rfl
def attach{l:AH}(hn:l.most=AK n)(hdf:d.params.defaults=[])(hbind:∀pm cd doc v:sv,bindArgs (docDef d.name d.params d.body d.scope pm cd doc) #[[v],[]]=pure [(x,v)])(hx:d.scope.names.lookup x=AK .local\/d.scope.names.lookup x=AK .cell)(hk:d.scope.kind=.function)(hco:d.scope.isCoroutine=AN)(hgen:d.scope.isGenerator=AN)(body:∀(w:sP) (s₀ s₁ s:sw) (mg mb:sB->Option sv) (fa:su) (o:tN) (pm cd doc:sv) (a:su) (vs:List sv) (ns:List Int),
   Ground q loose [] XP w s₀ mg mb s₁.heap->YP w s₁.heap ->
   s₁.heap.get? fa=AK o->o.data=.func (docDef d.name d.params d.body d.scope pm cd doc)->s₁.heap.CodeRec cd d.name->mg d.name=AK (.ref fa) ->
   s₁.heap.get? a=AK { cls:=.type "list",data:=.seq vs.toArray }->As vs ns->ns.length<=n ->
   s.gens=#[]->s.os=s₁.os ->
   Fr s₁.heap s₁⁻¹ s.heap (bindL (tP d.name d.scope s₁⁻¹ fa cd).kindOf [(x,.ref a)] λZ=>AL) ->
   Cl s₁⁻¹ (cellsFrom (s₁⁻¹+1) d.scope.names []) s.heap (bindC (tP d.name d.scope s₁⁻¹ fa cd).kindOf [(x,.ref a)] λZ=>AL) ->
   sy (model l.prog w) (callerA.deeper (tP d.name d.scope s₁⁻¹ fa cd)) (execs d.body (tP d.name d.scope s₁⁻¹ fa cd))
    (λf s'=>f=.ret (.bool AM)/\OldK s₁.heap s'.heap/\s'.os=s₁.os/\tV s'.gens) (λZ Z=>False) s) :
  WalkO q loose XP YP l.row.toRowW d [] (λf vs=>gc f vs):=by
 intro w s₀ s₁ mg mb G Y fa o pm cd doc dV kV ho hd hcd hD hmg hg args vals as hpre hlay hrd hwl hlo;obtain rfl:dV=.none:=Dflts.none hD hdf;obtain rfl:kV=.none:=Dflts.noKw hD;let#[a,vs,ns,rfl,rfl,hobj,hints,hlen]:=script_of hn hpre hwl;refine enter_call ?_;refine call_cells_ret (o:=o) (by rw[depth_caller];decide) ho (fd_plain hd) G.T.nolimit hcd (hbind pm cd doc (.ref a)) (λy hy=>?_) (λh₁ tk F X=>?_) hco hgen hk
 ·obtain rfl:y=(x,r9 a):=AW.mp hy;rcases hx with e | e
  ·exact .inl e
  ·exact .inr #[e,cellsFrom_some _ _ _ (.inl e)]
 ·refine tD (body w s₀ s₁ { s₁ with heap:=h₁,toks:=tk } mg mb fa o pm cd doc a vs ns G Y ho (fd_plain hd) hcd hmg hobj hints hlen hg rfl F X) (λf s' hq=>?_) (λZ Z hq=>hq);let#[rfl,h2,h3,h4]:=hq;exact#[.inl #[.bool AM,.bool AM,[],rfl,λZ=>rfl,.bool AM,post_true l _,λZ=>#[List.Pairwise.nil,λZ hm=>(nomatch hm)]],h2,h3,h4]
end in def zgI(h:sU)(L d:su):List (su × tN):=(aJ h.objs.size).filterMap λa=>if a=L\/a=d then AL else (h.get? a).map λo=>(a,o)
end Att
namespace L2
theorem YE:∀{vs:List sv} {ns:List Int},As vs ns->Vals (ns.map V.int) vs
 | _,_,.nil=>.nil
 | _,_,.cons n t h=>.cons #[t,rfl] (YE h)
end in def yH(s:sI)(j:Nat):sI:=match s with
 | .ClassDef _ _ _ body _ _ _ _ _ _ _=>body.getD j (.Pass #[0,0,0,0])
 | _=>.Pass #[0,0,0,0]
end in def yQ(s:sI):Aw:=match s with
 | .FunctionDef _ a _ _ _ _ _ _ _ _=>a
 | _=>{ posonlyargs:=[],args:=[],vararg:=AL,kwonlyargs:=[],kw_defaults:=[],kwarg:=AL,defaults:=[] }
end in def yj(s:sI):List sI:=match s with
 | .FunctionDef _ _ b _ _ _ _ _ _ _=>b
 | _=>[]
end in def zi(s:sI):tY:=match s with
 | .FunctionDef _ _ _ _ _ _ sc _ _ _=>sc
 | _=>{ kind:=.function,names:=[],isGenerator:=AN,isCoroutine:=AN }
abbrev CX0:CXT:=λZ Z Z Z Z Z=>False
end in abbrev E0:XK:=λZ Z Z=>False
def V3 : qt CX0 X E0:=λZ Z Z Z Z Z Z h=>h.elim
structure Fun(K:sr)(x qual:sB)(st:sI)(f:su)(fd:tQ):Prop where
 ex:∃(oc:sv) (od:Option su) (kV doc pm:sv) (an:Option su) (cdv ct:sv) (osl:Array (Option sv)),
  fd=bB x qual (yQ st) (yj st) (zi st) .none kV doc pm an cdv ct/\K.lookup f=AK #[oc,od,.func fd,osl]/\bV K cdv qual=AM
 kp:aO K (.ref f)=AM
section
variable{P:sJ}{w:sP}{K:sr}{mg:sB->Option sv}{base:sU}
def Fun.ok{st:sI}(F:Fun K x qual st f fd)(S:zm N ps (zi st))(len:∀vs H Q E,sp vs H Q E->vs.length=ps.length)(hbody:∀(cdv:sv) (A:sY) (outer:List AE) (s:sw) (H:Hp) (vs:List V) (Q:VK) (E:XK),Room k (A.deeper (tP qual (zi st) s⁻¹ f cdv))->sp vs H Q E ->
   ∃t,PSs (qZ CX0 P w K mg base N qual (zi st) f cdv A outer s H E).nox (yj st) t/\t { nx:=λZ H'=>Q .non H',rt:=Q } (start N vs) H):FnOk P w K mg base CX0 (k+1) f fd ps sp:=by let#[oc,od,kV,doc,pm,an,cdv,ct,osl,rfl,lk,hcd]:=F.ex;refine Kr lk hcd S len λA outer s H vs Q E hr hsp=>?_;let#[t,h,q]:=hbody cdv A outer s H vs Q E hr hsp;exact#[t,h.nox,q]
def Fun.binds{x qual:sB}{st:sI}{f:su}{fd:tQ}{ps:List sB}(F:Fun K x qual st f fd)(h:∀(kV doc pm:sv) (an:Option su) (cdv ct:sv) (us:List sv),us.length=ps.length->bindArgs (bB x qual (yQ st) (yj st) (zi st) .none kV doc pm an cdv ct) #[us,[]]=pure (ps.zip us)):Binds K fd ps []:=by let#[oc,od,kV,doc,pm,an,cdv,ct,osl,rfl,lk,hcd]:=F.ex;exact .all (h kV doc pm an cdv ct)
def fun_mk{st:sI}{kV doc pm cdv ct:sv}(l:K.lookup f=AK #[oc,od,.func (bB x qual (yQ st) (yj st) (zi st) .none kV doc pm an cdv ct),osl])(c:bV K cdv qual=AM)(k:aO K (.ref f)=AM):Fun K x qual st f (bB x qual (yQ st) (yj st) (zi st) .none kV doc pm an cdv ct):=#[#[oc,od,kV,doc,pm,an,cdv,ct,osl,rfl,l,c],k]
end
def pv(i:Nat)(hN:‹X.N[i]? = AK x›)(hv:Vis X.env.scope x:=by first | exact Or.inl rfl | exact Or.inr (.inl rfl) | exact Or.inr (Or.inr rfl))(hd:‹(x ==("__debug__" : sB))=AN›)(hcd:‹(x ==("__classdict__" : sB))=AN›):PE X (.Name x pos) (zW i):=zeT hN hv hd hcd
def zfL{A B:Prop}(h:A):if AM=AM then A else B:=by rw[w6 rfl];exact h
def z8{c A B:Prop}[Decidable c](h1:c->A)(h2:¬ c->B):if c then A else B:=by
 by_cases h:c
 ·rw[w6 h];exact h1 h
 ·rw[w9 h];exact h2 h
def Same(H H':Hp):Prop:=∀b o,H b=AK o->H' b=AK o
def Same.refl(H:Hp):Same H H:=λZ Z h=>h
def Same.trans(a:Same H H1)(b:Same H1 H2):Same H H2:=λc o h=>b c o (a c o h)
theorem Same.free(e:Same H H')(h:H' l=Option.none):H l=Option.none:=by
 cases q:H l with
 | none=>rfl
 | some o =>
  rw[e l o q]at h;cases h
def Same.seq{K:sr}(e:Same H H')(h:SqL K H a xs):SqL K H' a xs:=by
 rcases h with (h | ⟨o,h⟩) | h
 ·exact .inl (.inl (e _ _ h))
 ·exact .inl (.inr #[o,e _ _ h])
 ·exact .inr h
end L2
open L2
namespace L3
end in abbrev St:=L2.St
end in abbrev cs(x:sB):():=x.cps.toList
end in abbrev tx(l:()):sB:=⟨l.toArray⟩
def zeu(x:sB):tx (cs x)=x:=by cases x;rfl
def Xw(l:()):cs (tx l)=l:=rfl
def WX(x:sB):x.length=(cs x).length:=by simp [Str.length,cs]
def zR(l:()):(tx l).length=l.length:=by simp [Str.length,tx]
def Xi(h:cs x=cs y):x=y:=by rw[<- zeu x,<- zeu y,h]
def vP(h:tx l=tx m):l=m:=by rw[<- Xw l,<- Xw m,h]
def zeI : tx l=tx m ↔ l=m:=#[vP,λh=>by rw[h]]
def xZ(l m:()):tx l ++ tx m=tx (l ++ m):=by apply Xi;show (tx l ++ tx m).cps.toList=l ++ m;rw[Str.cps_append];simp
end in def cut{α:Type}(l:List α)(lo hi:Option Int):List α:=(l.drop (HT.sIx l.length 0 lo)).take (HT.sIx l.length l.length hi - HT.sIx l.length 0 lo)
def wX(l:List α)(lo hi:Option Int):(cut l lo hi).length<=l.length:=by unfold cut;rw[aH,aZ];lia
def U2(a b:Nat):sliceRange (a:Int) (b:Int) 1=(aJ (b - a)).map (λk=>a+k):=by
 unfold sliceRange
 have e:(if (1:Int) > 0 then (if (a:Int)<b then ((b:Int) - a+1 - 1) / 1 else 0)else (if (a:Int) > b then ((a:Int) - b - 1 - 1) / (-1)else 0)).toNat=b - a:=by
  rw[w6 ∅];by_cases h:(a:Int)<b
  ·rw[w6 h,Int.ediv_one];lia
  ·rw[w9 h];lia
 show (aJ ((if (1:Int) > 0 then (if (a:Int)<b then ((b:Int) - a+1 - 1) / 1 else 0)else (if (a:Int) > b then ((a:Int) - b - 1 - 1) / (-1)else 0)).toNat)).map _=_;rw[e];refine aW λk Z=>?_;lia
theorem zcA(lo hi:Option Int)(n:Nat):p8 lo hi 1 n=(aJ (HT.sIx n n hi - HT.sIx n 0 lo)).map (λk=>HT.sIx n 0 lo+k):=by
 rw[<- U2]
 have clip:∀(v:Int) (d:Nat),max 0 (min (if v<0 then v+(n:Int)else v) (n:Int))=((HT.sIx n d (AK v):Nat):Int):=λv d=>by
  show _=(((if v<0 then (v+(n:Int)).toNat else min v.toNat n):Nat):Int);by_cases hv:v<0
  ·erw[w6 hv];lia
  ·erw[w9 hv];lia
 have h1:((1:Int) > 0)=True:=by simp
 unfold p8
 cases lo with
 | none =>
  cases hi with
  | none=>erw[h1,if_true];rfl
  | some j=>erw[h1,if_true,clip j n];rfl
 | some i =>
  cases hi with
  | none=>erw[h1,if_true,clip i 0];rfl
  | some j=>erw[h1,if_true,clip i 0,clip j n]
set_option tactic.hygienic true in
def Ut(x:sB)(lo hi:Option Int):Txt.slice x lo hi=tx (cut (cs x) lo hi):=by
 have hn:x.length=x.cps.toList.length:=WX x;have hj:HT.sIx x.length x.length hi<=x.length:=HT.sIx_le _ _ (ao _) hi;have hi0:HT.sIx x.length 0 lo<=x.length:=HT.sIx_le _ _ (aD _) lo;unfold Txt.slice;rw[zcA];split
 ·rename_i h;have h':HT.sIx x.length x.length hi - HT.sIx x.length 0 lo=x.length:=by simpa using h
  apply Xi;show x.cps.toList=cut x.cps.toList lo hi;unfold cut;rw[<- hn];by_cases z:x.length=0
  ·have:x.cps.toList=[]:=eh ⋯;rw[this];simp
  ·have e0:HT.sIx x.length 0 lo=0:=⋯;rw[e0]at h' ⊢;rw[h',dF,hn,aK]
 ·apply Xi;have h:=StrLaws.picks x.cps.toList (HT.sIx x.length x.length hi - HT.sIx x.length 0 lo) (HT.sIx x.length 0 lo) ⋯;show (List.filterMap (λk=>x.cps[k]?) _).toArray.toList=cut x.cps.toList lo hi;unfold cut;rw[<- hn];simpa using h
theorem Jd(p:IsPart v o):∃l:Option (Int × Az),v=partValue l/\l.map (·.1)=o:=by
 cases p with
 | none=>exact#[AL,rfl,rfl]
 | int i t=>exact#[AK (i,t),rfl,rfl]
def zd9:V->Option Int->Option Int->Hp->VK->Prop:=λx lo hi H Q=>onStr x λz=>z.length<=sq/\Q (.str (tx (cut (cs z) lo hi))) H
def xY:SlR X zd9:=by
 intros x v vl vu lo hi sl Q I rx hs pl pu h;let#[z,rfl,hz,q]:=onStr.of h;let#[t,rfl]:=rx;let#[l,rfl,el]:=Jd pl;let#[u,rfl,eu]:=Jd pu;refine#["str",_,slot_str_getitem.lookup,typeIs_str s z t,?_];refine Aa (l:=l) (u:=u) (st:=AL) hs rfl ?_;have e:Txt.slice z lo hi=tx (cut (cs z) lo hi):=Ut z lo hi;have hl:(tx (cut (cs z) lo hi)).length<=sq:=by rw[zR];have:=wX (cs z) lo hi;rw[<- WX]at this;lia
 unfold sliceMade slicePicked;rw[el,eu];unfold Txt.slice at e;by_cases hc:((1:Int) == 1 && (p8 lo hi 1 z.length).length == z.length)=AM
 ·rw[w6 hc]at e;have hc':(((AL:Option (Int × Az)).map (·.1)).getD 1 == 1 && (p8 lo hi (((AL:Option (Int × Az)).map (·.1)).getD 1) z.length).length == z.length)=AM:=hc;rw[w6 hc'];exact#[.str (tx (cut (cs z) lo hi)),H,I,#[t,by rw[<- e]],q]
 ·rw[w9 hc]at e;have hc':¬ (((AL:Option (Int × Az)).map (·.1)).getD 1 == 1 && (p8 lo hi (((AL:Option (Int × Az)).map (·.1)).getD 1) z.length).length == z.length)=AM:=hc;rw[w9 hc'];show (Str.mk ((p8 lo hi 1 z.length).filterMap (z.cps[·]?)).toArray).length<=sq/\_;rw[e];refine#[hl,?_]
  exact#[.str (tx (cut (cs z) lo hi)),H,I.tok _,#[_,by
   show Value.str (Str.mk ((p8 lo hi 1 z.length).filterMap (z.cps[·]?)).toArray) _=_
   rw[e]],q]
theorem WR(l:()):∀(k:Nat) (AR:Array Nat),((aM k l.toArray).foldl (· ++ ·) AR).toList=AR.toList ++ (aM k l).flatten
 | 0,AR=>by simp
 | k+1,AR=>by
  rw[cC,List.foldl_cons,WR l k,cC,dM];simp
def VP:OpR X (binaryOp .Mult) (λx y H Q=>∃z n,x=.str z/\y=.int n/\0<=n/\n<=1000/\z.length<=1000/\Q (.str (tx (aM n.toNat (cs z)).flatten)) H):=by
 intros x y v u Q I rx ry h;let#[z,n,rfl,rfl,h0,h1,hz,q]:=h;let#[t,rfl]:=rx;let#[t',rfl]:=ry;have hs:sq=16777216:=sK;have hmul:z.length * n.toNat<=1000 * 1000:=fP hz ⋯;have fl:((aM n.toNat (cs z)).flatten).length=n.toNat * z.length:=by rw[L2.len_rep,<- WX]
 refine PySem.P.mul_str ?_ (λZ Z=>?_) (λZ Z=>?_) ?_
 ·rw[v9 ⋯,v9 ⋯];rfl
 ·have:(1000:Int)<=(2 ^ 63 - 1) / n:=by
   apply Int.le_ediv_of_mul_le ⋯;lia
  lia
 ·unfold Builtin.Str.tooLong;exact v9 ⋯
 ·by_cases c1:n<1
  ·rw[w6 c1];have e:n.toNat=0:=⋯;rw[e]at q;exact#[∅,.str (tx []),H,I.tok _,#[_,rfl],q]
  ·rw[w9 c1];by_cases c2:(n == 1 || z.length == 0)=AM
   ·rw[w6 c2]
    have e:tx (aM n.toNat (cs z)).flatten=z:=by
     rw[Bool.or_eq_true]at c2;rcases c2 with c | c
     ·have:n.toNat=1:=by have:=eq_of_beq c;lia
      rw[this]
      erw[List.replicate_one,List.flatten_singleton]
     ·have c0:z.length=0:=eq_of_beq c;have:cs z=[]:=eh (by rw[<- WX];exact c0);apply Xi;rw[this];show (aM n.toNat ([]:())).flatten=[]
      erw[List.flatten_replicate_nil]
    rw[e]at q;exact#[.str z,H,I,#[_,rfl],q]
   ·rw[w9 c2]
    have e:(⟨(aM n.toNat z.cps).foldl (· ++ ·) #[]⟩:sB)=tx (aM n.toNat (cs z)).flatten:=by
     apply Xi;have:=WR (cs z) n.toNat #[];have e2:(cs z).toArray=z.cps:=by cases z;rfl
     rw[e2]at this;show (List.foldl (· ++ ·) #[] (aM n.toNat z.cps)).toList=(aM n.toNat (cs z)).flatten;rw[this];rfl
    rw[e];refine#[by rw[zR,fl,Nat.mul_comm];lia,.str _,H,I.tok _,#[_,rfl],q]
def Q7:OpR X (sH .LtE) (λx y H Q=>∃i j,x=.str i/\y=.str j/\Q (.bl (!(decide (cs j<cs i)))) H):=by intros x y v u Q I rx ry h;let#[i,j,rfl,rfl,q]:=h;let#[t,rfl]:=rx;let#[t',rfl]:=ry;exact PySem.P.le_str #[.bl _,H,I,rfl,q]
def op_lt_str':OpR X (sH .Lt) (λx y H Q=>∃i j,x=.str i/\y=.str j/\Q (.bl (decide (cs i<cs j))) H):=UZ
def KQ:MtR X "str.count" (λx xs H Q=>∃z y,x=.str z/\xs=[.str y]/\Q (.int (Txt.count z y)) H):=by intros x xs v us Q I rx rv h;let#[z,y,rfl,rfl,q]:=h;let#[t,rfl]:=rx;let#[u,rfl,t',rfl]:=wM rv;exact PySem.SC.count #[.int _,H,I.tok _,#[_,rfl],q]
def U6:MtR X "str.find" (λx xs H Q=>∃z y,x=.str z/\xs=[.str y]/\Q (.int (Txt.find z y)) H):=by intros x xs v us Q I rx rv h;let#[z,y,rfl,rfl,q]:=h;let#[t,rfl]:=rx;let#[u,rfl,t',rfl]:=wM rv;exact PySem.SC.find #[.int _,H,I.tok _,#[_,rfl],q]
def Inv.turns{X:Cx}{AO:List (su × tN)}{σ:St}{H:Hp}{s:sw}{fp:List su}{h':sU}{t':Nat}(I:Inv X AO σ H s)(k:∀b o,b ∉ fp->s.heap.get? b=AK o->h'.get? b=AK o)(hf:∀b ∈ fp,wj X AO H b):Inv X AO σ H { s with heap:=h',toks:=t' }:=by
 have nit:∀b u,H b=AK u->b ∉ fp:=λb u e z=>by rw[(hf b z).1]at e;cases e
 refine I.step (g':=s.gens) (d':=s.drawn) (ch:=fp) (λb hb=>?_) (λb o Z Z hc e Z=>k b o hc e) (λb o Z Z hc e Z=>#[o.slots,k b o hc e]) (λZ Z Z Z n=>n)
  (λb o hc e=>#[o,k b o hc e]) (λZ Z e=>e) (λZ Z Z e=>e) (λb ps e=>#[#[],by rw[e];simp]) (λm hm=>?_) (λb u e=>?_) I.bare
 ·let#[_,a1,_,a3,a4,a5]:=hf b hb;exact#[a3,a1,a4,a5]
 ·let#[o,es,ep,ho,r]:=hm;exact#[o,es,ep,k _ o (λz=>(hf _ z).2.1 rfl) ho,r]
 ·refine (I.hok b u e).stay (λc v hc q=>k c v ?_ q) (λZ q=>q) λZ Z q=>q;rcases hc with z | z
  ·rw[z];exact nit b u e
  ·exact nit c _ z
def Inv.track(I:Inv X AO σ H s)(fa:wj X AO H a)(new:ObjOk X.prog X.w (upd H a o) s.heap a o):Inv X AO σ (upd H a o) s:=by
 let#[a0,a1,a2,a3,a4,a5]:=fa;have e:s={ s with heap:=s.heap,gens:=s.gens,drawn:=s.drawn,toks:=s.toks }:=rfl;rw[e]
 refine I.step (g':=s.gens) (d':=s.drawn) (ch:=[a]) (λb hb=>?_) (λb o Z Z Z e Z=>e) (λb o Z Z Z e Z=>#[o.slots,e]) (λb o hc Z n=>?_)
  (λb o Z e=>#[o,e]) (λb xs e=>?_) (λb u xs e=>?_) (λb ps e=>?_) (λm hm=>hm) (λb u e=>?_) I.bare
 ·have eb:b=a:=by simpa using hb
  subst eb;exact#[a3,a1,a4,a5]
 ·rw[zq (by simpa using hc)];exact n
 ·rw[zq (zM e a0)];exact e
 ·rw[zq (zM e a0)];exact e
 ·exact#[#[],by rw[zq (zM e a0),e];simp]
 ·by_cases hb:b=a
  ·subst hb;rw[zb]at e;cases e;exact new
  ·rw[zq hb]at e;exact (I.hok b u e).stay (λc v Z q=>q) (λc q=>by rw[zq (zM q a0)];exact q) λc xs q=>by rw[zq (zM q a0)];exact q
end in def Its(x:sB):It:=#[λi Z=>i<(cs x).length,λi H v H'=>H'=H/\∃c,(cs x)[i]? = AK c/\v=.str (tx [c]),λi Z=>i=(cs x).length]
def KY{K:sr}(hty:["enumerate","zip","dict_itemiterator","dict_reverseitemiterator","odict_iterator","itertools.zip_longest","itertools.pairwise"].contains ty=AN)(it:su)(x:sB)(t:Az)(W:∀A:sY,A.handled=AL->Walks P w A it [it] [it] x.cps.size (SignAt x) λi h=>h.IsStrIter it ty x t i)(S:∀(A:sY) (i:Nat) (s:sw) (Q:sv->sw->Prop) (E:sv->sw->Prop),s.heap.IsStrIter it ty x t i->Q (.ref it) s->sy (model P w) A (pyIter (.ref it)) Q E s) :
  zaN P w K tg (Its x) [it] it (λi h=>h.IsStrIter it ty x t i) where
 mem:=by simp
 obj:=λi h st b hb=>by
  have e:b=it:=by simpa using hb
  subst e;let#[o,e,c,d]:=st;exact#[o,e,λv z=>by rw[d]at z;cases z]
 keep:=λi h h' st k=>let #[o,e,r]:=st; #[o,k it (by simp) o e,r]
 item:=by
  intro X hP hw hK hc i AO s σ H E I hf st hg;subst hP hw hK;let#[f0,f1,f2,f3,f4,f5]:=hf it (by simp);have hg':i<x.cps.size:=by have:i<x.cps.toList.length:=hg;simpa using this
  refine (W X.A (I.ok.hd hc)).item i s _ _ hg' st λv h' tk hv st' kk=>?_;let#[c,u,hcc,rfl]:=hv;have I1:Inv X AO σ H { s with heap:=h',toks:=tk }:=I.turned (λb o hb e=>kk b o (by simpa using hb) e) f0 f1 f3 f4 f5;let#[o,e,cl,d]:=id st';refine#[_,rfl,QA (s:={ s with heap:=h',toks:=tk }) e cl d hty #[.str (tx [c]),H,I1,#[u,rfl],#[rfl,c,?_,rfl],st',λb hb=>(hf b hb).1]];show x.cps.toList[i]? = AK c;simpa using hcc
 done:=by
  intro X hP hw hK hc i AO s σ H E I hf st hg;subst hP hw hK;let#[f0,f1,f2,f3,f4,f5]:=hf it (by simp);have hi:i=x.cps.size:=by have:i=x.cps.toList.length:=hg;simpa using this
  rw[hi]at st;exact (W X.A (I.ok.hd hc)).done s _ _ st λh' tk kk=>#[rfl,I.turned (λb o hb e=>kk b o (by simpa using hb) e) f0 f1 f3 f4 f5]
 self:=λA i s Q E st h=>S A i s Q E st h
def zfG(tl:TE):TI:=λσ H R=>tl σ H λv H1=>∃x,v=.str x/\R (Its x) H1
def YC(hl:PE X l tl):PI X tg l (zfG tl):=by
 intros R I h;refine thn (hl AO s σ H _ I h) λv s1=>el5 λy H1 I1 r1 q1=>?_;let#[x,e,q]:=q1;subst e;let#[t,rfl]:=r1
 have fin:∀(ty:String) (hty:["enumerate","zip","dict_itemiterator","dict_reverseitemiterator","odict_iterator","itertools.zip_longest","itertools.pairwise"].contains ty=AN)
   (W:∀A:sY,A.handled=AL->Walks X.prog X.w A s1⁻¹ [s1⁻¹] [s1⁻¹] x.cps.size (SignAt x) λi h=>h.IsStrIter s1⁻¹ ty x t i)
   (S:∀(A:sY) (i:Nat) (s:sw) (Q:sv->sw->Prop) (E:sv->sw->Prop),s.heap.IsStrIter s1⁻¹ ty x t i->Q (.ref s1⁻¹) s->sy (model X.prog X.w) A (pyIter (.ref s1⁻¹)) Q E s),
   PIE X AO σ tg R (.ref s1⁻¹) { s1 with heap:=s1.heap.push { cls:=.type ty,data:=.fields (t7 [.str x t,.int 0 0]) } }:=λty hty W S=>by
  refine#[s1⁻¹,[s1⁻¹],_,_,H1,rfl,I1.kept (t':=s1.toks) λb o e=>ag _ e,KY hty _ x t W S,#[_,aI _ rfl,rfl,rfl],λb hb=>?_,q];have e:b=s1⁻¹:=by simpa using hb
  subst e;exact I1.fpOk (ao _) (I1.hok.fresh (ao _))
 cases ha:x.cps.all (· < 128)
 ·exact wpAny_pyIter_wide ha (fin "str_iterator" ∅ (λA hA=>Walks.strWide hA _ x t) λA i s Q E st h=>wpAny_pyIter_striter_wide st h)
 ·exact wpAny_pyIter_ascii ha (fin "str_ascii_iterator" ∅ (λA hA=>Walks.strAscii hA _ x t) λA i s Q E st h=>wpAny_pyIter_striter_ascii st h)
def zde{g:TG}{tb:TS}{D:Yj}(Pv:Nat->St->Hp->Prop)(h0:Pv 0 σ H)(hs:∀i c σ H,(cs x)[i]? = AK c->Pv i σ H->g (.str (tx [c])) σ H λσ2 H2=>tb { D with nx:=Pv (i+1),ct:=Pv (i+1),bk:=D.nx } σ2 H2)(hd:∀σ H,Pv (cs x).length σ H->D.nx σ H) :
  ∃W:Nat->Nat->St->Hp->Prop,(∃m,W 0 m σ H)/\∀i m σ H,W i m σ H ->
   ((Its x).stop i H/\D.nx σ H)\/((Its x).go i H/\∃N:St->Hp->Prop,(∀σ' H',N σ' H'->∃m',m'<m/\W (i+1) m' σ' H')/\∀v H',(Its x).yld i H v H'->g v σ H' λσ2 H2=>tb { D with nx:=N,ct:=N,bk:=D.nx } σ2 H2):=by
 refine#[λi m σ H=>m=(cs x).length - i/\i<=(cs x).length/\Pv i σ H,#[(cs x).length,by simp,aD _,h0],?_];rintro i m σ H ⟨rfl,hi,p⟩;by_cases hlt:i<(cs x).length
 ·refine .inr #[hlt,Pv (i+1),λσ' H' p'=>#[(cs x).length - (i+1),⋯,rfl,hlt,p'],λv H' y=>?_];let#[e,c,hc,ev]:=y;subst e ev;exact hs i c σ _ hc p
 ·have e:i=(cs x).length:=⋯;subst e;exact .inl #[rfl,hd σ H p]
end in def Ite(x:sB):It:=#[λi Z=>i<(cs x).length,λi H v H'=>∃p c,H p=AL/\(cs x)[i]? = AK c/\v=.ref p/\H'=upd H p (.tup [.int (i:Nat),.str (tx [c])]),λi Z=>i=(cs x).length]
def zfD(ta:TA):TI:=λσ H R=>ta σ H λvs H1=>∃x,vs=[.str x]/\R (Ite x) H1
theorem uN : ∀(names:List (sB × tX)) (AR:List (sB × su)),
    (∀y,(y,NameKind.free) ∈ names->∃c,env.cells.lookup y=AK c)->(∀y c,AR.lookup y=AK c->env.cells.lookup y=AK c) ->
    ∃cl,(forIn names AR λ(x:sB × tX) (cs:List (sB × su))=>if (x.2 == NameKind.free)=AM then (do let a <- cellOf env x.1;pure (ForInStep.yield ((x.1,a)::cs)))else pure (ForInStep.yield cs):Sem (List (sB × su)))=pure cl /\
      (∀y c,cl.lookup y=AK c->env.cells.lookup y=AK c)/\(∀y,(y,NameKind.free) ∈ names\/(AR.lookup y).isSome=AM->∃c,cl.lookup y=AK c)
  | [],AR,_,ha=>#[AR,rfl,ha,λy h=>by
      rcases h with h | h
      . cases h
      . exact Bg.mp h]
  | (n,k)::r,AR,hn,ha=>by
    by_cases hk:k=NameKind.free
    . subst hk
      let#[c,hc]:=hn n (by simp)
      have ha':∀y d,((n,c)::AR).lookup y=AK d->env.cells.lookup y=AK d:=λy d e=>by
        rw[ba]at e;by_cases hy:(y == n)=AM
        . rw[hy]at e
          have:y=n:=eq_of_beq hy;subst this;cases e;exact hc
        . have hy':(y == n)=AN:=by simpa using hy
          rw[hy']at e;exact ha y d e
      let#[cl,e,h1,h2]:=uN r ((n,c)::AR) (λy hy=>hn y (ar _ hy)) ha';refine#[cl,?_,h1,λy hy=>h2 y ?_]
      . rw[fB]
        have ec:cellOf env n=pure c:=by unfold cellOf;rw[hc]
        erw[beq_self_eq_true,if_true,ec,pure_bind]
        exact e
      . rcases hy with hy | hy
        . rcases AU.mp hy with q | q
          . cases q
            exact .inr (by simp)
          . exact .inl q
        . refine .inr ?_
          rw[ba];by_cases hyn:(y == n)=AM
          . rw[hyn];rfl
          . have hy':(y == n)=AN:=by simpa using hyn
            rw[hy'];exact hy
    . let#[cl,e,h1,h2]:=uN r AR (λy hy=>hn y (ar _ hy)) ha
      refine#[cl,?_,h1,λy hy=>h2 y ?_]
      . rw[fB]
        have ek:(k == NameKind.free)=AN:=by simpa using hk
        erw[ek,bf,if_false,pure_bind]
        exact e
      . rcases hy with hy | hy
        . rcases AU.mp hy with q | q
          . cases q;exact w4 rfl hk
          . exact .inl q
        . exact .inr hy
def uo(hn:∀y,(y,NameKind.free) ∈ scope.names->∃c,env.cells.lookup y=AK c) :
  ∃cl,closureFor scope env=pure cl/\(∀y c,cl.lookup y=AK c->env.cells.lookup y=AK c)/\(∀y,(y,NameKind.free) ∈ scope.names->∃c,cl.lookup y=AK c):=by
 let#[cl,e,h1,h2]:=uN scope.names [] hn (λy c h=>by cases h);refine#[cl,?_,h1,λy hy=>h2 y (.inl hy)];unfold closureFor
 erw[bind_pure]
 exact e
end in abbrev UB(ifs:List tK)(env:AE):Sem Bool :=
 forIn ifs AM λc r=>if r=AM then (do let ok <- isTrue c env (eval c env);pure (ForInStep.yield ok))else pure (ForInStep.yield r)
theorem JY(I:Nat->sw->Prop)(hEE:EE=notedBy (model prog w) A env λe s'=>R (.error e) s')(turn:∀n s,I n s->sy (model prog w) A (pyNext it) (λr s1=>match r with
   | none=>R (.ok .next) s1
   | some v=>sy (model prog w) A (letOwnedTupleGo tg it v) (λZ s2=>sy (model prog w) A (assign tg env v) (λ_ s3 =>
     sy (model prog w) A (UB ifs env) (λok s4=>if ok=AM then
      sy (model prog w) A (eval elt env) (λx s5=>sy (model prog w) A (call (.builtin "list.append") [AR,x]) (λZ s6=>∃m,m<n/\I m s6) EE s5) EE s4
      else ∃m,m<n/\I m s4) EE s3) EE s2) EE s1) EE s) (n:Nat) (h:I n s) :
  tz (model prog w) A (.compLoop (.ListComp elt [#[tg,iter,ifs,0]] scope pos) 0 it AR env) R s:=by
 subst hEE;refine codeAny_loop rfl I (λn s hI=>?_) n h;show sy _ A ((compTurn (.ListComp elt [#[tg,iter,ifs,0]] scope pos) 0 it AR env).onRaise (λx=>do noteFrame x env;theTreesLotGoes x)) _ _ s;refine wpAny_noted ?_;rw[compTurn_list];refine si (tu (si (thn (turn n s hI) λr s1 h1=>?_)))
 cases r with
 | none=>exact sj h1
 | some v =>
  refine si (thn h1 λZ s2 h2=>si (thn h2 λZ s3 h3=>si (thn h3 λok s4 h4=>?_)))
  cases ok with
  | false=>exact sj #[rfl,h4]
  | true=>exact si (si (thn h4 λx s5 h5=>si (thn h5 λZ s6 h6=>sj (sj #[rfl,h6]))))
end in def yB(X:Cx)(scope:tY)(cl:List (sB × su))(C:su)(N:List sB)(AO:List (su × tN))(s3:sw)(H3:Hp)(fp:List su)(E:sv->sw->Prop):Cx :=
 { X with N:=N,s₀:=s3,H₀:=H3,env:=compEnvC scope cl C X.env,outer:=X.stack,ex:=fp,fn:=λZ=>AN,pn:=X.pn ++ AO,xe:=E }
end in def uf(σ:St)(own:Nat)(ix:()):St:=aM own AL ++ ix.map λi=>(σ[i]?).join
structure kR(X:Cx)(scope:tY)(own caps:List sB)(ix:()):Prop where
 kind:scope.kind=.function
 nocell:∀y ∈ scope.names,y.2≠.cell
 names:∀y ∈ scope.names,y.2=.local->scope.names.lookup y.1=AK .local
 free:∀y,(y,NameKind.free) ∈ scope.names->X.env.kindOf y=AK .cell\/X.env.kindOf y=AK .free
 hown:∀y ∈ own,scope.names.lookup y=AK .local
 hcaps:∀y ∈ caps,scope.names.lookup y=AK .free
 hix:ix.map (λi=>X.N[i]?)=caps.map AK
theorem xX{α β:Type}[BEq α][LawfulBEq α]{l:List (α × β)}{a:α}{b:β}(h:l.lookup a=AK b):(a,b) ∈ l:=by
 induction l with
 | nil=>cases h
 | cons p r ih =>
  let#[c,d]:=p;rw[ba]at h;by_cases e:(a == c)=AM
  ·rw[e]at h;cases h;rw[eq_of_beq e];exact ay
  ·have e':(a == c)=AN:=by simpa using e
   rw[e']at h;exact ar _ (ih h)
theorem vM{scope:tY}{env:AE}(hf:env.scope.kind=.function):∀{names:List (sB × tX)} {x:sB} {k:tX},names.lookup x=AK k ->
    (names.map λ(n,k)=>if (k == NameKind.free && env.scope.kind == .function && env.kindOf n == AK .cell)then (n,NameKind.cell)else (n,k)).lookup x=AK (if (k == NameKind.free && env.scope.kind == .function && env.kindOf x == AK .cell)=AM then .cell else k)
  | [],_,_,h=>by simp at h
  | (n,k')::r,x,k,h=>by
    have ih:=@vM scope env hf r x k;show bx x ((if (k' == NameKind.free && env.scope.kind == .function && env.kindOf n == AK .cell)=AM then (n,NameKind.cell)else (n,k'))::_)=_;by_cases hx:(x == n)=AM
    . have hxn:x=n:=eq_of_beq hx
      subst hxn;rw[ba,hx]at h;cases h;by_cases c:(k' == NameKind.free && env.scope.kind == .function && env.kindOf x == AK .cell)=AM
      . rw[w6 c,w6 c,ba,hx]
      . rw[w9 c,w9 c,ba,hx]
    . have hx':(x == n)=AN:=by simpa using hx
      rw[ba,hx']at h;by_cases c:(k' == NameKind.free && env.scope.kind == .function && env.kindOf n == AK .cell)=AM
      . rw[w6 c,ba,hx'];exact ih h
      . rw[w9 c,ba,hx'];exact ih h
theorem qv{scope:tY}{env:AE}:∀{names:List (sB × tX)} {x:sB},names.lookup x=AL ->
    (names.map λ(n,k)=>if (k == NameKind.free && env.scope.kind == .function && env.kindOf n == AK .cell)then (n,NameKind.cell)else (n,k)).lookup x=AL
  | [],_,_=>rfl
  | (n,k')::r,x,h=>by
    have ih:=@qv scope env r x;show bx x ((if (k' == NameKind.free && env.scope.kind == .function && env.kindOf n == AK .cell)=AM then (n,NameKind.cell)else (n,k'))::_)=_;by_cases hx:(x == n)=AM
    . rw[ba,hx]at h;cases h
    . have hx':(x == n)=AN:=by simpa using hx
      rw[ba,hx']at h;by_cases c:(k' == NameKind.free && env.scope.kind == .function && env.kindOf n == AK .cell)=AM
      . rw[w6 c,ba,hx'];exact ih h
      . rw[w9 c,ba,hx'];exact ih h
def VQ(S:kR X scope own caps ix)(hcl1:∀y c,cl.lookup y=AK c->X.env.cells.lookup y=AK c)(hcl2:∀y,(y,NameKind.free) ∈ scope.names->∃c,cl.lookup y=AK c)(I:Inv X AO σ H s)(hfp:∀b ∈ fp,wj X AO H b)(hlt:∀b ∈ fp,b<s⁻¹)(hn:h4.Ns s⁻¹ λZ=>AL)(hk:∀b o,s.heap.get? b=AK o->h4.get? b=AK o) :
  Inv (yB X scope cl s⁻¹ (own ++ caps) AO s H fp E) [] (uf σ own.length ix) H { s with heap:=h4,toks:=t4 }:=by
 have kf:X.env.scope.kind=.function:=I.ok.kind;have nofp:∀b ∈ fp,b≠s⁻¹:=λb hb=>az (hlt b hb)
 have cellLt:∀x c,X.env.cells.lookup x=AK c->c<s⁻¹:=λx c e=>by
  let#[v,o,ho,_]:=I.cell x c e;exact av ho
 have kinds:∀y k,scope.names.lookup y=AK k->(relabel scope X.env).names.lookup y=AK (if (k == NameKind.free && X.env.scope.kind == .function && X.env.kindOf y == AK .cell)=AM then .cell else k):=λy k e=>vM (scope:=scope) kf e
 have back:∀y k,(relabel scope X.env).names.lookup y=AK k->∃k',scope.names.lookup y=AK k'/\k=(if (k' == NameKind.free && X.env.scope.kind == .function && X.env.kindOf y == AK .cell)=AM then .cell else k'):=λy k e=>by
  cases q:scope.names.lookup y with
  | none =>
   have:=qv (scope:=scope) (env:=X.env) q;have e':(scope.names.map λ(n,k)=>if (k == NameKind.free && X.env.scope.kind == .function && X.env.kindOf n == AK .cell)then (n,NameKind.cell)else (n,k)).lookup y=AK k:=e;rw[this]at e';cases e'
  | some k' =>
   refine#[k',rfl,?_];have:=kinds y k' q;rw[e]at this;exact Option.some.inj this
 have isCell:∀y,scope.names.lookup y=AK .free->(relabel scope X.env).names.lookup y=AK .cell\/(relabel scope X.env).names.lookup y=AK .free:=λy e=>by
  have:=kinds y _ e;rcases S.free y (xX e)with q | q
  ·refine .inl ?_;rw[this,w6];rw[q,kf];rfl
  ·refine .inr ?_;rw[this,w9];rw[q];simp
 refine#[#[I.ok.mod,?_,I.ok.glob,I.ok.blt,ao _,?_,?_,?_,I.ok.hd,I.ok.frames,.inl rfl,?_,I.bs,aL I.ok.bsz I.sz,?_,?_,I.stack,I.stkFree],rfl,I.bare,Un.kept hk,#[_,hn,?_],?_,?_,?_,?_,I.hok.kept hk,?_]
 ·show (relabel scope X.env).kind=.function;exact S.kind
 ·intro x y c h1 h2;exact I.ok.inj x y c (hcl1 x c h1) (hcl1 y c h2)
 ·intro y hy;have hy':(relabel scope X.env).names.lookup y=AK .cell\/(relabel scope X.env).names.lookup y=AK .free:=hy
  have:scope.names.lookup y=AK .free:=by
   rcases hy' with q | q
   ·let#[k',e,ek]:=back y _ q;by_cases c:(k' == NameKind.free && X.env.scope.kind == .function && X.env.kindOf y == AK .cell)=AM
    ·rw[aQ,aQ]at c;rw[e,eq_of_beq c.1.1]
    ·rw[w9 c]at ek;exact w4 ek.symm (S.nocell _ (xX e))
   ·let#[k',e,ek]:=back y _ q;by_cases c:(k' == NameKind.free && X.env.scope.kind == .function && X.env.kindOf y == AK .cell)=AM
    ·rw[w6 c]at ek;cases ek
    ·rw[w9 c]at ek;rw[e,<- ek]
  exact hcl2 y (xX this)
 ·intro x c h _;exact w4 h (by simp [yB])
 ·intro b hb;refine#[nofp b hb,λx c e=>?_];exact (hfp b hb).2.2.2.2.1 x c (hcl1 x c e)
 ·intro b o e hb;let#[_,_,_,q,_]:=hfp b hb;rcases q with q | q
  ·exact I.ok.noex b o e q
  ·exact w4 (ax (av e) (aL I.ok.bsz q)) (cN _)
 ·intro b hb z;rcases AU.mp (I.stkSub b z)with e | e
  ·exact (hfp b hb).2.1 e
  ·exact (hfp b hb).2.2.1 e
 ·intro i y v h1 h2 h3
  have hi:own.length<=i:=by
   refine df λhlt'=>?_;unfold uf at h2;rw[bQ (by rw[bE];exact hlt'),fu,w6 hlt']at h2;cases h2
  have h1':caps[i - own.length]? = AK y:=by
   have:(own ++ caps)[i]? = AK y:=h1;rw[bG hi]at this;exact this
  have h2':(ix.map λi=>(σ[i]?).join)[i - own.length]? = AK (AK v):=by
   unfold uf at h2;rw[bG (by rw[bE];exact hi),bE]at h2;exact h2
  rw[au]at h2';have hx:=congrArg (λl=>l[i - own.length]?) S.hix
  erw[au,h1',fF]at hx
  cases q:ix[i - own.length]? with
  | none=>rw[q]at h2';cases h2'
  | some j =>
   rw[q]at h2' hx;have hj:X.N[j]? = AK y:=Option.some.inj hx;have hv:(σ[j]?).join=AK v:=Option.some.inj h2'
   have hσ:σ[j]? = AK (AK v):=by
    cases r:σ[j]? with
    | none=>rw[r]at hv;cases hv
    | some z=>rw[r]at hv;cases z with
     | none=>cases hv
     | some z=>cases hv;rfl
   have hfree:scope.names.lookup y=AK .free:=S.hcaps y (ac h1');have hkc:=S.free y (xX hfree);let#[m,hm,hl]:=I.loc;let#[u,ru,l]:=hl j y v hj hσ (.inr hkc);refine#[u,ru,.inr #[isCell y hfree,?_]];rcases l with ⟨k,_⟩ | ⟨_,c,e,z⟩
   ·have:X.env.kindOf y=AK .local:=k;rcases hkc with q' | q' <;> (rw[q']at this;cases this)
   ·let#[c',e']:=hcl2 y (xX hfree);have:=hcl1 y c' e';rw[e]at this;cases this;let#[o,ho,hd]:=z;exact#[c,e',o,hk c o ho,hd]
 ·intro x c e;let#[v,o,ho,hd]:=I.cell x c (hcl1 x c e);exact#[v,o,hk c o ho,hd]
 ·exact I.hok.fresh (ao _)
 ·intro x c e;exact I.freeC x c (hcl1 x c e)
 ·intro p hp
  have hp':p ∈ X.pn ++ AO:=by
   have:p ∈ (X.pn ++ AO) ++ []:=hp
   rwa [bc]at this
  let#[e,n,ne,nf,d]:=I.pin p hp';refine#[hk _ _ e,n,?_,λz=>?_,d]
  ·exact az (av e)
  ·rcases AU.mp (I.stkSub p.1 z)with q | q
   ·exact ne q
   ·exact nf q
 ·show (uf σ own.length ix).length=(own ++ caps).length;have:=congrArg dP S.hix;rw[aa,aa]at this;unfold uf;rw[ak,bE,aa,ak,this]
def xu(σ σ':St):Prop:=σ.length=σ'.length/\∀(i:Nat) v,σ[i]? = AK (AK v)->σ'[i]? = AK (AK v)
def PTs(X:Cx)(ifs:List tK)(t:TT):Prop :=
 ∀(AO:List (su × tN)) (s:sw) (σ:St) (H:Hp) (Q:Bool->Hp->Prop),Inv X AO σ H s->t σ H Q->sy (model X.prog X.w) X.A (UB ifs X.env) (TP X AO σ Q) X.xe s
def y4:TT:=λZ H Q=>Q AM H
def z7 : PTs X [] y4:=λZ Z Z H Z I h=>sj #[H,I,h]
def Jj(h:PT X c t):PTs X [c] t:=λAO s σ H Q I hq=>by
 show sy _ _ (forIn [c] AM _) _ _ s
 erw[fB,List.forIn_nil,if_true]
 exact si (si (thn (h AO s σ H Q I hq) λb s' hb=>sj (sj hb)))
def kG(wi:TI)(g:TG)(tt:TT)(te:TE)(own:Nat)(ix:()):TE:=λσ H Q=>wi σ H λJ H1=>∀D,H1 D=AL->∃W:Nat->Nat->List V->Hp->Prop,(∃m,W 0 m [] (upd H1 D (.lst []))) /\
 ∀i m AR H',W i m AR H'->(J.stop i H'/\Q (.ref D) H')\/(J.go i H'/\∀x H2,J.yld i H' x H2->g x (uf σ own ix) H2 λσ3 H3=>xu (uf σ own ix) σ3/\tt σ3 H3 λb H4=>if b=AM then
  te σ3 H4 λv H5=>H5 D=AK (.lst AR)/\AR.length<sq/\∃m',m'<m/\W (i+1) m' (AR ++ [v]) (upd H5 D (.lst (AR ++ [v])))
  else ∃m',m'<m/\W (i+1) m' AR H4)
def Un.but(u:Un fs ex H H' h h1)(sb:Heap.SameBut a h1 h2)(ha:h.get? a=AL):Un fs ex H H' h h2:=by
 have ne:∀b o,h.get? b=AK o->b≠a:=λb o e z=>by subst z;rw[ha]at e;cases e
 refine#[λb o e n hb hx=>(sb.2 b (ne b o e)).trans (u.keep b o e n hb hx),λb o e n hb hx=>?_,u.free,λb o e hx=>?_,u.tups,u.frzs,u.tbls]
 ·let#[sl,q]:=u.slot b o e n hb hx;exact#[sl,(sb.2 b (ne b o e)).trans q]
 ·let#[o',q]:=u.there b o e hx;exact#[o',(sb.2 b (ne b o e)).trans q]
def HOk.but(ok:HOk P w H h1)(sb:Heap.SameBut a h1 h2)(ha:H a=AL):HOk P w H h2:=λb ob e=>by
 refine (ok b ob e).stay (λc u hc q=>(sb.2 c ?_).trans q) (λZ q=>q) λZ Z q=>q;rintro rfl;rcases hc with rfl | hc
 ·rw[ha]at e;cases e
 ·rw[ha]at hc;cases hc
def ZT(i:Nat)(t:TE):TS:=λD σ H=>t σ H λx H1=>D.nx (σ.set i (AK x)) H1
def ZI:R2:=λx y H Q=>match x with | .int i=>onInt y λj=>Q (.int (i+j)) H | .str i=>onStr y λj=>i.length+j.length<=sq/\Q (.str (i ++ j)) H | .ref l=>zdj (.ref l) y H Q | _=>False
theorem qb:OpR X (binaryOp .Add) ZI:=by
 intros x y v u Q I rx ry h
 cases x with
 | int i=>exact yz AO s σ H (.int i) y v u Q I rx ry h
 | str i=>exact zL AO s σ H (.str i) y v u Q I rx ry (by let#[j,rfl,q]:=onStr.of h;exact#[i,j,rfl,rfl,q])
 | ref l=>exact jl AO s σ H (.ref l) y v u Q I rx ry h
 | _=>exact h.elim
def zcI:R2:=λx y H Q=>match x with | .int i=>onInt y λj=>CMul i j/\Q (.int (i * j)) H | .str z=>onInt y λn=>0<=n/\n<=1000/\z.length<=1000/\Q (.str (tx (aM n.toNat (cs z)).flatten)) H | _=>False
theorem X6:OpR X (binaryOp .Mult) zcI:=by
 intros x y v u Q I rx ry h
 cases x with
 | int i=>exact uH AO s σ H (.int i) y v u Q I rx ry h
 | str z=>exact VP AO s σ H (.str z) y v u Q I rx ry (by let#[n,rfl,q]:=onInt.of h;exact#[z,n,rfl,rfl,q])
 | _=>exact h.elim
def zfg:R2:=λx y H Q=>match x with | .int i=>onInt y λj=>Q (.bl (decide (i<j))) H | .str i=>onStr y λj=>Q (.bl (decide (cs i<cs j))) H | _=>False
theorem JU:OpR X (sH .Lt) zfg:=by
 intros x y v u Q I rx ry h
 cases x with
 | int i=>exact Xy AO s σ H (.int i) y v u Q I rx ry h
 | str i=>exact op_lt_str' AO s σ H (.str i) y v u Q I rx ry (by let#[j,rfl,q]:=onStr.of h;exact#[i,j,rfl,rfl,q])
 | _=>exact h.elim
def zfd:R2:=λx y H Q=>match x with | .int i=>onInt y λj=>Q (.bl (decide (i<=j))) H | .str i=>onStr y λj=>Q (.bl (!(decide (cs j<cs i)))) H | _=>False
theorem wF:OpR X (sH .LtE) zfd:=by
 intros x y v u Q I rx ry h
 cases x with
 | int i=>exact zft AO s σ H (.int i) y v u Q I rx ry h
 | str i=>exact Q7 AO s σ H (.str i) y v u Q I rx ry (by let#[j,rfl,q]:=onStr.of h;exact#[i,j,rfl,rfl,q])
 | _=>exact h.elim
def Qr:OpR X (sH .Gt) (λx y H Q=>∃i j,x=.str i/\y=.str j/\Q (.bl (decide (cs j<cs i))) H):=by intros x y v u Q I rx ry h;let#[i,j,rfl,rfl,q]:=h;let#[t,rfl]:=rx;let#[t',rfl]:=ry;exact PySem.P.gt_str #[.bl _,H,I,rfl,q]
def zel:R2:=λx y H Q=>match x with | .int i=>onInt y λj=>Q (.bl (decide (j<i))) H | .str i=>onStr y λj=>Q (.bl (decide (cs j<cs i))) H | _=>False
theorem VD:OpR X (sH .Gt) zel:=by
 intros x y v u Q I rx ry h
 cases x with
 | int i=>exact UG AO s σ H (.int i) y v u Q I rx ry h
 | str i=>exact Qr AO s σ H (.str i) y v u Q I rx ry (by let#[j,rfl,q]:=onStr.of h;exact#[i,j,rfl,rfl,q])
 | _=>exact h.elim
def zez(K:sr):V->Option Int->Option Int->Hp->VK->Prop:=λx lo hi H Q=>match x with | .ref a=>zdO K (.ref a) lo hi H Q | .str z=>zd9 (.str z) lo hi H Q | _=>False
theorem zaF:SlR X (zez X.K):=by
 intros x v vl vu lo hi sl Q I rx hs pl pu h
 cases x with
 | ref a=>exact uR AO s σ H (.ref a) v vl vu lo hi sl Q I rx hs pl pu h
 | str z=>exact xY AO s σ H (.str z) v vl vu lo hi sl Q I rx hs pl pu h
 | _=>exact h.elim
end in def cV:V->Option sv
 | .ty n=>AK (.type n)
 | .ref a=>AK (.ref a)
 | _=>AL
def zaq:vY X (.builtin "isinstance") (λxs H Q=>∃x c u t b,xs=[x,c]/\cV c=AK u/\WM X.K H x t/\aS X.K t u=AK b/\Q (.bl b) H):=by
 intros xs us Q I r h;let#[x,c,u,t,b,rfl,hc,ty,e,q]:=h;let#[v,w',rfl,rx,rc]:=QY r
 have:w'=u:=by
  cases c with
  | ty n=>cases hc;exact rc
  | ref a=>cases hc;exact rc
  | _=>cases hc
 subst this;exact JP I rx ty e λtk=>#[.bl b,H,I.tok tk,rfl,q]
end in def Iel(K:sr)(a:su):It:=#[λi H=>∃xs x,SqL K H a xs/\xs[i]? = AK x,λi H v H'=>∃p x,H p=AL/\(∀xs,SqL K H a xs->xs[i]? = AK x)/\v=.ref p/\H'=upd H p (.tup [.int (i:Nat),x]),λi H=>∃xs,SqL K H a xs/\i=xs.length]
def VT{K:sr}(e it a:su)(hei:e≠it) :
  zaN P w K (.Tuple elts x1 tpos) (Iel K a) [e,it] e (λi h=>(∃old,IsEnum h e it i old)/\h.IsListIter it a i) where
 mem:=by simp
 obj:=λi h st b hb=>by
  let#[#[old,he],o,e2,c,d]:=st;rcases AU.mp hb with q | q
  ·subst q;exact#[_,he,λv z=>by have z':Data.fields _=Data.cell v:=z;cases z']
  ·have q':b=it:=by simpa using q
   subst q';exact#[o,e2,λv z=>by rw[d]at z;cases z]
 keep:=λi h h' st k=>by
  let#[#[old,he],st]:=st;exact#[#[old,k e (by simp) _ he],st.at λo q=>k it (by simp) o q]
 item:=by
  intro X hP hw hK hc i AO s σ H E I hf st hg;subst hP hw hK;let#[#[old,he],st]:=st;let#[xs,x,hq,hx]:=hg;let#[its,rv,p,hz]:=I.list hq;let#[u,hu,ru]:=rv.get hx;have hA:X.A.in1.handled=AL:=I.ok.hd hc;have pl:=p.isList
  have hai:a≠it:=λz=>by
   subst z;let#[o1,q1,c1,_]:=st;let#[o2,q2,c2,_]:=pl;rw[q1]at q2;cases q2;rw[c1]at c2;exact w4 (Value.type.inj c2) ∅
  have hea:e≠a:=λz=>by
   subst z;let#[o2,q2,c2,_]:=pl;rw[he]at q2;cases q2;exact w4 (Value.type.inj c2) ∅
  refine wpAny_pyNext_enum_itemD (Draws.list (A:=X.A.in1) hA it a hai its.toArray) he #[st,pl] (by rw[aj];exact (AS.mp hu).1) hei (by simp [hei,hea]) λv h' tk hv ho st' hT hsz kk=>?_
  have ev:v=u:=by
   have hv':its.toArray[i]? = AK v:=hv;rw[List.getElem?_toArray,hu]at hv';exact (Option.some.inj hv').symm
  subst ev;refine#[_,rfl,wpAny_letOwnedTupleGo_enum ho λh2 he2 sb=>?_];have elt:e<s⁻¹:=av he;have ilt:it<s⁻¹:=by let#[o,q,_]:=st;exact av q
  have I1:Inv X AO σ H { s with heap:=h2,toks:=tk+1 }:=Inv.turns (fp:=[e,it]) I (λb o hb q=>by
   have hb':b≠e/\b≠it:=by simpa using hb
   exact (sb.2 b hb'.1).trans (kk b o hb'.1 hb'.2 q)) hf
  have hp:H s⁻¹=AL:=I.hok.fresh (ao _);have hT2:h2.get? s⁻¹=AK { cls:=.type "tuple",data:=.seq (t7 [.int (i:Nat) tk,v]) }:=(sb.2 _ (cr elt)).trans hT
  have I2:Inv X AO σ (upd H s⁻¹ (.tup [.int (i:Nat),x])) { s with heap:=h2,toks:=tk+1 } :=
   Inv.track I1 (I.fpOk (ao _) hp) #[by show 2<=sq;decide,[.int (i:Nat) tk,v],.cons #[_,rfl] (.cons ru .nil),#[_,hT2,rfl,_,rfl]]
  refine#[.ref s⁻¹,_,I2,rfl,#[s⁻¹,x,hp,λys hy=>by rw[I.list_inj hy hq];exact hx,rfl,rfl],#[#[_,by simpa using he2],?_],λb hb=>?_]
  ·exact st'.1.at λo q=>(sb.2 it (Ne.symm hei)).trans q
  ·rw[zq]
   ·exact (hf b hb).1
   ·rcases AU.mp hb with q | q
    ·rw[q];exact az elt
    ·have q':b=it:=by simpa using q
     rw[q'];exact az ilt
 done:=by
  intro X hP hw hK hc i AO s σ H E I hf st hg;subst hP hw hK;let#[#[old,he],st]:=st;let#[xs,hq,hi]:=hg;let#[its,rv,p,hz]:=I.list hq;have pl:=p.isList
  have hai:a≠it:=λz=>by
   subst z;let#[o1,q1,c1,_]:=st;let#[o2,q2,c2,_]:=pl;rw[q1]at q2;cases q2;rw[c1]at c2;exact w4 (Value.type.inj c2) ∅
  have hA:X.A.in1.handled=AL:=I.ok.hd hc;have hi':i=its.toArray.size:=by rw[aj,<- rv.length];exact hi
  subst hi';refine wpAny_pyNext_enum_endD (Draws.list (A:=X.A.in1) hA it a hai its.toArray) he #[st,pl] λh' hx=>#[rfl,?_];exact Inv.turns (fp:=[e,it]) (t':=s.toks) I (λb o hb q=>hx b o (λz=>hb (by simp [z])) q) hf
 self:=λA i s Q E st h=>by
  let#[#[old,he],_]:=st;exact Ao he h
def QK(K:sr)(ta:TA):TI:=λσ H R=>ta σ H λvs H1=>∃a,vs=[.ref a]/\(∃xs,SqL K H1 a xs)/\R (Iel K a) H1
def xH(hg:Gl X "enumerate")(hm:X.mg "enumerate" = AL)(ha:PA X [a] ta)(hs:‹so [a] X.env=[(AN,eval a X.env)]›) :
  PI X (.Tuple elts x1 tpos) (.Call (.Name "enumerate" p) [a] [] pos) (QK X.K ta):=by
 intros R I h;refine Call_ (vN I hg hm PyProof.Rows.boot_enumerate (bK (thn (ha pos AO s σ H _ I h) λus s1=>el5 λvs H1 I1 r1 q1=>?_) hs rfl));let#[l,e,#[xs,hq],q]:=q1;subst e;let#[u,rfl,ru]:=wM r1;cases ru;let#[its,rv,pl,hz]:=I1.list hq;refine call_enumerate_list pl.isList λh' he hit hsz kk=>?_;have I2:Inv X AO σ H1 { s1 with heap:=h' }:=I1.kept (t':=s1.toks) kk;refine Ao (s:={ s1 with heap:=h' }) (i:=0) he ?_;refine#[s1⁻¹+1,[s1⁻¹+1,s1⁻¹],_,_,H1,rfl,I2,VT _ _ l (Nat.succ_ne_self _),#[#[_,he],hit],λb hb=>?_,q]
 have hb':s1⁻¹<=b:=by
  rcases AU.mp hb with e | e
  ·rw[e];exact cJ _
  ·have:b=s1⁻¹:=by simpa using e
   rw[this];exact ao _
 exact I1.fpOk hb' (I1.hok.fresh hb')
def ForEL(K:sr)(a:su)(g:TG)(tb:TS)(D:Yj)(σ:St)(H:Hp):Prop:=∃W:Nat->Nat->St->Hp->Prop,(∃m,W 0 m σ H)/\∀i m σ H,W i m σ H ->
 ((Iel K a).stop i H/\D.nx σ H)\/((Iel K a).go i H/\∃N:St->Hp->Prop,(∀σ' H',N σ' H'->∃m',m'<m/\W (i+1) m' σ' H')/\∀x H',(Iel K a).yld i H x H'->g x σ H' λσ2 H2=>tb { D with nx:=N,ct:=N,bk:=D.nx } σ2 H2)
def zdA{K:sr}:zam (QK K ta) g tb D σ H=ta σ H λvs H1=>∃a,vs=[.ref a]/\(∃xs,SqL K H1 a xs)/\ForEL K a g tb D σ H1:=rfl
def ForEL.by{K:sr}(Pv:Nat->St->Hp->Prop)(h0:Pv 0 σ H)(hl:∀i σ H,i<=xs.length->Pv i σ H->SqL K H a xs)(hs:∀i x σ H p,xs[i]? = AK x->Pv i σ H->H p=AL->g (.ref p) σ (upd H p (.tup [.int (i:Nat),x])) λσ2 H2=>tb { D with nx:=Pv (i+1),ct:=Pv (i+1),bk:=D.nx } σ2 H2)(hd:∀σ H,Pv xs.length σ H->D.nx σ H):ForEL K a g tb D σ H:=by
 refine#[λi m σ H=>m=xs.length - i/\i<=xs.length/\Pv i σ H,#[xs.length,by simp,aD _,h0],?_];rintro i m σ H ⟨rfl,hi,p⟩;have q:=hl i σ H hi p;by_cases hlt:i<xs.length
 ·refine .inr #[#[xs,xs[i],q,by simp [hlt]],Pv (i+1),λσ' H' p'=>#[xs.length - (i+1),⋯,rfl,hlt,p'],λv H' y=>?_];let#[p',x,hp,hx,ev,eH]:=y;subst ev eH;exact hs i x σ H p' (hx xs q) p hp
 ·have e:i=xs.length:=⋯;subst e;exact .inl #[#[xs,q,rfl],hd σ H p]
def zha(K:sr)(a:su)(g:TG)(tb:TS)(D:Yj)(σ:St)(H:Hp):Prop:=∃W:Nat->Nat->St->Hp->Prop,(∃m,W 0 m σ H)/\∀i m σ H,W i m σ H ->
 ((Itt K a).stop i H/\D.nx σ H)\/((Itt K a).go i H/\∃N:St->Hp->Prop,(∀σ' H',N σ' H'->∃m',m'<m/\W (i+1) m' σ' H')/\∀x H',(Itt K a).yld i H x H'->g x σ H' λσ2 H2=>tb { D with nx:=N,ct:=N,bk:=D.nx } σ2 H2)
def zgD{K:sr}:zam (zg4 K tl) g tb D σ H=tl σ H λx H1=>∃a,x=.ref a/\(∃xs,SqT K H1 a xs)/\zha K a g tb D σ H1:=rfl
def zgc(K:sr)(x:V)(H:Hp)(p:Bool->Prop):Prop:=match x with | .bl b=>p b | x=>∃k,zer K x H k/\p k
def tTr(K:sr)(ta:TE):TT:=λσ H Q=>ta σ H λx H'=>zgc K x H' λk=>Q k H'
def zbN{K:sr}:tTr K ta σ H Q=ta σ H λx H'=>zgc K x H' λk=>Q k H':=rfl
def tBl(ta:TE):TT:=λσ H Q=>ta σ H λx H'=>onBl x λk=>Q k H'
def zce : tBl ta σ H Q=ta σ H λx H'=>onBl x λk=>Q k H':=rfl
def ym(ha:PE X a ta)(he:∀whole,isTrue a X.env whole=(do let v <- whole;standAt a.pos;holding [v] (truthy v))):PT X a (tBl ta):=by intros Q I h;refine isTrue_plain (thn (ha AO s σ H _ I h) λv s1=>el5 λx H1 I1 r1 q1=>?_) (he _);let#[k,rfl,q1]:=onBl.of q1;exact zbq AO s1 σ H1 (.bl k) v Q I1 r1 #[k,rfl,q1]
end in def Irv(K:sr)(a:su)(n:Nat):It:=#[λi H=>∃xs,SqL K H a xs/\xs.length=n/\i<n,λi H v H'=>H'=H/\∀xs,SqL K H a xs->xs.length=n->xs[n - 1 - i]? = AK v,λi H=>i=n]
def zat{K:sr}(a it:su)(n:Nat):zaN P w K tg (Irv K a n) [it] it (λi h=>i<=n/\h.IsRevIter it a ((n:Int) - 1 - (i:Int))) where
 mem:=by simp
 obj:=λi h st b hb=>by
  have e:b=it:=by simpa using hb
  subst e;let#[_,o,e,c,d]:=st;exact#[o,e,λv z=>by rw[d]at z;cases z]
 keep:=λi h h' st k=>#[st.1,st.2.at λo e=>k it (by simp) o e]
 item:=by
  intro X hP hw hK hc i AO s σ H E I hf st hg;subst hP hw hK;let#[xs,hq,hn,hi]:=hg;let#[its,rv,p,hz]:=I.list hq;let#[f0,f1,f2,f3,f4,f5]:=hf it (by simp);have hx:xs[n - 1 - i]? = AK (xs[n - 1 - i]'⋯):=af ⋯;generalize xs[n - 1 - i]'⋯=x at hx;let#[u,hu,ru]:=rv.get hx;have st2:=st.2;have e:(n:Int) - 1 - (i:Int)=((n - 1 - i:Nat):Int):=⋯;rw[e]at st2;refine wpAny_pyNext_rev_item st2 p.isList (x:=u) (by simpa using hu) λh' st' sb=>?_;have I1:Inv X AO σ H { s with heap:=h' }:=I.turned (t':=s.toks) (λb o hb e=>(sb.2 b hb).trans e) f0 f1 f3 f4 f5;have e2:((n - 1 - i:Nat):Int) - 1=(n:Int) - 1 - ((i+1:Nat):Int):=⋯;rw[e2]at st';let#[o,e,c,d]:=id st';exact#[u,rfl,QA (s:={ s with heap:=h' }) e c d ∅ #[x,H,I1,ru,#[rfl,λys hy Z=>by rw[I.list_inj hy hq];exact hx],#[hi,st'],λb hb=>(hf b hb).1]]
 done:=by
  intro X hP hw hK hc i AO s σ H E I hf st hg;subst hP hw hK;let#[f0,f1,f2,f3,f4,f5]:=hf it (by simp);have hi:i=n:=hg;have st2:=st.2;rw[hi,show (n:Int) - 1 - (n:Int)=-1 by lia]at st2;exact wpAny_pyNext_rev_end (I.ok.hd hc) st2 λh' eb=>#[rfl,I.turned (t':=s.toks) (λb o hb e=>eb b o hb e) f0 f1 f3 f4 f5]
 self:=λZ Z Z Z Z st h=>Ae st.2 h
def zao:sV "reversed" = AK (.type "reversed"):=PyProof.Rows.boot_reversed
def zgY(K:sr)(ta:TA):TI:=λσ H R=>ta σ H λvs H1=>∃a xs,vs=[.ref a]/\SqL K H1 a xs/\R (Irv K a xs.length) H1
def zeU(hg:Gl X "reversed")(hm:X.mg "reversed" = AL)(ha:PA X [a] ta)(hs:‹so [a] X.env=[(AN,eval a X.env)]›) :
  PI X tg (.Call (.Name "reversed" p) [a] [] pos) (zgY X.K ta):=by
 intros R I h;refine Call_ (vN I hg hm zao (bK (thn (ha pos AO s σ H _ I h) λus s1=>el5 λvs H1 I1 r1 q1=>?_) hs rfl));let#[l,xs,e,hq,q]:=q1;subst e;let#[u,rfl,ru]:=wM r1;cases ru;let#[its,rv,pl,hz]:=I1.list hq;have hn:its.toArray.size=xs.length:=by rw[aj,<- rv.length]
 refine call_reversed_list pl.isList ?_
 have hit:(s1.heap.push (revObj l ((its.toArray.size:Int) - 1))).IsRevIter s1⁻¹ l ((xs.length:Int) - 1 - ((0:Nat):Int)):=by
  refine#[_,aI _ rfl,rfl,?_];rw[hn,show (xs.length:Int) - 1 - ((0:Nat):Int)=(xs.length:Int) - 1 by lia];rfl
 refine Ae (s:={ s1 with heap:=s1.heap.push (revObj l ((its.toArray.size:Int) - 1)) }) hit ?_;refine#[s1⁻¹,[s1⁻¹],_,_,H1,rfl,I1.kept (t':=s1.toks) λb o e=>ag _ e,zat l _ xs.length,#[aD _,hit],λb hb=>?_,q];have e:b=s1⁻¹:=by simpa using hb
 subst e;exact I1.fpOk (ao _) (I1.hok.fresh (ao _))
def zgj(K:sr)(ta:TA):TE:=λσ H Q=>ta σ H λvs H1=>∃a xs,vs=[.ref a]/\SqL K H1 a xs/\∀l,H1 l=AL->Q (.ref l) (upd H1 l (.lst xs.reverse))
def Ji{K:sr}:zgj K ta σ H Q=ta σ H λvs H1=>∃a xs,vs=[.ref a]/\SqL K H1 a xs/\∀l,H1 l=AL->Q (.ref l) (upd H1 l (.lst xs.reverse)):=rfl
end in def Izp(K:sr)(a b:su):It:=#[λi H=>∃xs ys x y,SqL K H a xs/\SqL K H b ys/\xs[i]? = AK x/\ys[i]? = AK y,λi H v H'=>∃p x y,H p=AL/\(∀xs,SqL K H a xs->xs[i]? = AK x)/\(∀ys,SqL K H b ys->ys[i]? = AK y)/\v=.ref p/\H'=upd H p (.tup [x,y]),λi H=>∃xs ys,SqL K H a xs/\SqL K H b ys/\(xs.length=i\/ys.length=i)/\i<=xs.length/\i<=ys.length]
def vn{h:sU}(h1:h.get? a=AK o1)(c1:o1.cls=.type t)(h2:h.get? b=AK o2)(c2:o2.cls=.type u)(hne:t≠u):a≠b:=λz=>by
 rw[z,h2]at h1;cases h1;rw[c2]at c1;exact hne (Value.type.inj c1).symm
structure zem(z TI TO i1 i2:su):Prop where
 TIz:TI≠z
 TOz:TO≠z
 i1z:i1≠z
 i2z:i2≠z
 TITO:TI≠TO
 TIi1:TI≠i1
 TIi2:TI≠i2
 TOi1:TO≠i1
 TOi2:TO≠i2
 i12:i1≠i2
def ZipAt(z TI TO i1 i2 l1 l2:su)(i:Nat)(h:sU):Prop:=IsZip h z TI TO .none/\IsPair h TI (.ref i1) (.ref i2)/\(∃a b,IsPair h TO a b)/\h.IsListIter i1 l1 i/\h.IsListIter i2 l2 i
def ZipAt.apart{z TI TO i1 i2 l1 l2:su}(D:zem z TI TO i1 i2)(st:ZipAt z TI TO i1 i2 l1 l2 i h)(h1:h.IsList l1 xs)(h2:h.IsList l2 ys):ZipApart z TI TO i1 i2 l1 l2:=by let#[hz,hTI,#[a,b,hTO],#[o1,e1,c1,_],#[o2,e2,c2,_]]:=st;let#[p1,q1,k1,_]:=h1;let#[p2,q2,k2,_]:=h2;exact#[D.TIz,D.TOz,D.i1z,D.i2z,D.TITO,D.TIi1,D.TIi2,D.TOi1,D.TOi2,D.i12,vn q1 k1 hz rfl ∅,vn q1 k1 hTO rfl ∅,vn q1 k1 e1 c1 ∅,vn q1 k1 e2 c2 ∅,vn q2 k2 hz rfl ∅,vn q2 k2 hTO rfl ∅,vn q2 k2 e1 c1 ∅,vn q2 k2 e2 c2 ∅]
def zhi(K:sr)(ta:TA):TI:=λσ H R=>ta σ H λvs H1=>∃a b,vs=[.ref a,.ref b]/\(∃xs,SqL K H1 a xs)/\(∃ys,SqL K H1 b ys)/\R (Izp K a b) H1
def zhn(K:sr)(a b:su)(g:TG)(tb:TS)(D:Yj)(σ:L2.St)(H:Hp):Prop:=∃W:Nat->Nat->L2.St->Hp->Prop,(∃m,W 0 m σ H)/\∀i m σ H,W i m σ H ->
 ((Izp K a b).stop i H/\D.nx σ H)\/((Izp K a b).go i H/\∃N:L2.St->Hp->Prop,(∀σ' H',N σ' H'->∃m',m'<m/\W (i+1) m' σ' H')/\∀x H',(Izp K a b).yld i H x H'->g x σ H' λσ2 H2=>tb { D with nx:=N,ct:=N,bk:=D.nx } σ2 H2)
def zgR{K:sr}:zam (zhi K ta) g tb D σ H=ta σ H λvs H1=>∃a b,vs=[.ref a,.ref b]/\(∃xs,SqL K H1 a xs)/\(∃ys,SqL K H1 b ys)/\zhn K a b g tb D σ H1:=rfl
end in abbrev xob(C:su)(dx:Option su)(t:su)(tb:sv):tN:={ cls:=.ref C,dict:=dx,data:=.fields (t7 [.ref t,tb,.none,.none,.bool AN,.none]) }
end in abbrev xog(C:su)(dx:Option su)(t:su)(tb c:sv)(k:Bool):tN:={ cls:=.ref C,dict:=dx,data:=.fields (t7 [.ref t,tb,c,.none,.bool k,.none]) }
def zcy(h:sU)(x:su)(tb:sv):Prop:=tb=.none\/∃T oT ts,tb=.ref T/\T≠x/\h.get? T=AK oT/\oT.data=.fields ts/\3<ts.size
def YX(h:env.frame=env0.frame):eO env=eO env0:=by unfold eO;rw[h]
def Z7(hfr:A.frames=AK (env0::outer))(hl:s.heap.FunFrames base (env0::outer))(hf:env0.frame=AK L)(he:env.frame=AK L)(hx:s.heap.get? x=AK (xog C dx t tb cx kx))(h:∀h' oT ts,h'.get? x=AK (xog C dx t (.ref s⁻¹) cx kx)->s⁻¹≠x->h'.get? s⁻¹=AK oT->oT.data=.fields ts->3<ts.size ->
   (∀b o,b≠x->b ∉ frs (env0::outer)->s.heap.get? b=AK o->h'.get? b=AK o)->(∀b o,b≠x->s.heap.get? b=AK o->∃sl,h'.get? b=AK { o with slots:=sl })->Q Unit.unit { s with heap:=h' }) :
  sy M A (do let a <- eO env;let pl <- entryPlaceOf L hadNext;let b <- EntryCells.newEntry head a .none (rawInt L) .none pl;setField (.ref x) 1 b) Q E s:=by
 have hxf:x ∉ frs (env0::outer):=λhm=>by
  let#[_,o,ho,hnf]:=hl.mem hm;rw[hx]at ho;cases ho;exact hnf _ rfl
 rw[YX (he.trans hf.symm)];refine si (wpAny_frameOf_fun hfr hl hf λh1 hs1=>si (wpAny_entryPlaceOf λpl hpl=>?_));unfold EntryCells.newEntry newFields;refine si (tS ?_ (hpl.sizeOk5 _ _ _ _ _));have hz:h1.objs.size=s⁻¹:=hs1.1;have hx1:h1.get? x=AK (xog C dx t tb cx kx):=(hs1.2.1 x hxf).trans hx;generalize ho:({ cls:=.type "traceback",dict:=AL,data:=.fields ([head,.ref L,.none,rawInt L,.none] ++ (if pl.isEmpty then aM 6 r8 else pl)).toArray }:tN)=ob;have hx2:(h1.push ob).get? x=AK (xog C dx t tb cx kx):=ag _ hx1;refine tG hx2 rfl (by show 1<6;decide) ?_;have hne:h1.objs.size≠x:=cr (av hx1)
 have hx3:((h1.push ob).update x (Obj.mapFields (·.setIfInBounds 1 (r9 h1.objs.size)))).get? x=AK (xog C dx t (.ref h1.objs.size) cx kx) :=
  ce (Obj.mapFields (·.setIfInBounds 1 (r9 h1.objs.size))) hx2 rfl
 have hT:((h1.push ob).update x (Obj.mapFields (·.setIfInBounds 1 (r9 h1.objs.size)))).get? h1.objs.size=AK ob :=
  (aB _ _ (Ne.symm hne)).trans (aI h1 (by rw[<- ho];rfl))
 rw[hz]at hx3 hT hne
 have kp:∀b o,b≠x->h1.get? b=AK o->((h1.push ob).update x (Obj.mapFields (·.setIfInBounds 1 (r9 h1.objs.size)))).get? b=AK o:=λb o hb e =>
  (aB _ _ (Ne.symm hb)).trans (ag _ e)
 rw[hz]at kp ⊢;refine h _ ob _ hx3 hne hT (by rw[<- ho]) (by erw[aj,ak,aC,bg] <;> lia) (λb o hb hbf e=>kp b o hb ((hs1.2.1 b hbf).trans e)) λb o hb e=>?_;let#[sl,q]:=hs1.2.2 b o e;exact#[sl,kp b _ hb q]
def Zo(hfr:A.frames=AK (env0::outer))(hl:s.heap.FunFrames base (env0::outer))(hf:env0.frame=AK L)(he:env.frame=AK L)(hx:s.heap.get? x=AK (xog C dx t tb cx kx))(htb:zcy s.heap x tb)(h:∀h' T oT ts,h'.get? x=AK (xog C dx t (.ref T) cx kx)->T≠x->(tb=.ref T\/s⁻¹<=T)->h'.get? T=AK oT->oT.data=.fields ts->3<ts.size ->
   (∀b o,b≠x->tb≠.ref b->b ∉ frs (env0::outer)->s.heap.get? b=AK o->h'.get? b=AK o)->(∀b o,b≠x->tb≠.ref b->s.heap.get? b=AK o->∃sl,h'.get? b=AK { o with slots:=sl })->Q Unit.unit { s with heap:=h' }) :
  sy M A (noteFrame (.ref x) env) (λZ s1=>sy M A (setFlight (.ref x) AL) Q E s1) E s:=by
 have land:∀(h1:sU) (T:su) (oT:tN) (ts:Array sv),h1.get? x=AK (xog C dx t (.ref T) cx kx)->T≠x->(tb=.ref T\/s⁻¹<=T)->h1.get? T=AK oT->oT.data=.fields ts->3<ts.size ->
   (∀b o,b≠x->tb≠.ref b->b ∉ frs (env0::outer)->s.heap.get? b=AK o->h1.get? b=AK o)->(∀b o,b≠x->tb≠.ref b->s.heap.get? b=AK o->∃sl,h1.get? b=AK { o with slots:=sl }) ->
   sy M A (setFlight (.ref x) AL) Q E { s with heap:=h1 }:=λh1 T oT ts e1 nT oldT e2 d2 z2 k1 k2=>by
  unfold setFlight;refine si (tI (s:={ s with heap:=h1 }) e1 rfl (x:=.ref T) rfl ?_);rw[w6 (show (r9 T != r8)=AM from by simp)];refine tG (s:={ s with heap:=h1 }) e2 d2 z2 ?_;have d3:=Obj.data_mapFields d2 (·.setIfInBounds 3 ((AL:Option su).elim r8 λf=>rawInt f))
  have nb:∀b,b≠x->tb≠.ref b->(∃o,s.heap.get? b=AK o)->b≠T:=λb hb hbt ⟨o,eo⟩ z=>by
   subst z;rcases oldT with q | q
   ·exact hbt q
   ·exact w4 (av eo) (Nat.not_lt.mpr q)
  refine h _ T _ _ ((aB _ _ nT).trans e1) nT oldT (ce _ e2 (Obj.isFreed_of_fields d3)) d3 (by simpa using z2) (λb o hb hbt hbf e=>?_) λb o hb hbt e=>?_
  ·exact (aB _ _ (Ne.symm (nb b hb hbt #[o,e]))).trans (k1 b o hb hbt hbf e)
  ·let#[sl,q]:=k2 b o hb hbt e;exact#[sl,(aB _ _ (Ne.symm (nb b hb hbt #[o,e]))).trans q]
 unfold noteFrame
 erw[he]
 refine si (tI hx rfl (x:=tb) rfl ?_);rcases htb with rfl | ⟨T,oT,ts,rfl,nT,e2,d2,z2⟩
 ·rw[w9 ∅];refine Z7 hfr hl hf he hx λh' oT ts e1 ne e2 d2 z2 k1 k2=>land h' _ oT ts e1 ne (.inr (ao _)) e2 d2 z2 (λb o hb Z hbf e=>k1 b o hb hbf e) λb o hb Z e=>k2 b o hb e
 ·rw[w6 (show (r9 T != r8)=AM from by simp)];obtain⟨y,hy⟩:∃y,ts[3]? = AK y:=#[ts[3],by simp [z2]];refine si (tI e2 d2 (x:=y) hy ?_);by_cases c:(y == rawInt L)=AM
  ·rw[w6 c];exact sj (land s.heap T oT ts hx nT (.inl rfl) e2 d2 z2 (λb o Z Z Z e=>e) λb o Z Z e=>#[o.slots,e])
  ·rw[w9 c];refine si (tG e2 d2 z2 ?_);have oth:∀b,b≠T->(s.heap.update T (Obj.mapFields (·.setIfInBounds 3 r8))).get? b=s.heap.get? b:=λb hb=>aB _ _ (Ne.symm hb);have hl1:(s.heap.update T (Obj.mapFields (·.setIfInBounds 3 r8))).FunFrames base (env0::outer):=hl.of_keeps λb o hb hnf=>#[o,(oth b λq=>by rw[q,e2]at hb;cases hb;exact hnf ts d2).trans hb,rfl];have hsz:(s.heap.update T (Obj.mapFields (·.setIfInBounds 3 r8))).objs.size=s⁻¹:=dg ..;refine Z7 (s:={ s with heap:=s.heap.update T (Obj.mapFields (·.setIfInBounds 3 r8)) }) hfr hl1 hf he ((oth x (Ne.symm nT)).trans hx) λh' oT' ts' e1 ne e2' d2' z2' k1 k2=>?_;refine land h' _ oT' ts' e1 ne (.inr (by rw[hsz];exact ao _)) e2' d2' z2' (λb o hb hbt hbf e=>k1 b o hb hbf ((oth b λq=>hbt (by rw[q])).trans e)) λb o hb hbt e=>k2 b o hb ((oth b λq=>hbt (by rw[q])).trans e)
def zc3(hfr:A.frames=AK (env0::outer))(hl:s.heap.FunFrames base (env0::outer))(hf:env0.frame=AK L)(he:env.frame=AK L)(hx:s.heap.get? x=AK (xog C dx t tb cx kx))(htb:zcy s.heap x tb)(h:∀h' T oT ts,h'.get? x=AK (xog C dx t (.ref T) cx kx)->T≠x->(tb=.ref T\/s⁻¹<=T)->h'.get? T=AK oT->oT.data=.fields ts->3<ts.size ->
   (∀b o,b≠x->tb≠.ref b->b ∉ frs (env0::outer)->s.heap.get? b=AK o->h'.get? b=AK o)->(∀b o,b≠x->tb≠.ref b->s.heap.get? b=AK o->∃sl,h'.get? b=AK { o with slots:=sl })->Q Unit.unit { s with heap:=h' }) :
  sy M A (leaving env (.ref x)) Q E s:=si (Zo hfr hl hf he hx htb h)
def CXx(P:sJ)(w:sP):CXT:=λouter H s E e s'=>∃(x C t:su) (dx:Option su) (tb:sv) (H':Hp),e=.ref x/\s'.os=s.os/\tV s'.gens/\Un (frs outer) [] H H' s.heap s'.heap/\HOk P w H' s'.heap /\
 s'.heap.get? x=AK (xob C dx t tb)/\zcy s'.heap x tb/\H' x=AL/\s⁻¹<=x/\(∀T,tb=.ref T->H' T=AL/\s⁻¹<=T)/\E (.ref C) dx H'
def zd0(X:Cx)(E:XK)(e:sv)(s:sw):Prop:=∃(AO:List (su × tN)) (σ:St) (H:Hp) (x C t:su) (dx:Option su) (tb:sv),e=.ref x/\Inv X AO σ H s /\
 s.heap.get? x=AK (xob C dx t tb)/\zcy s.heap x tb/\wj X AO H x/\(∀T,tb=.ref T->wj X AO H T)/\E (.ref C) dx H
def XE(X:Cx)(E:XK):Prop:=∀e s,zd0 X E e s->X.xe e s
def Vq(hx:XE X E):qt (CXx X.prog X.w) X E:=by intro AO σ H s e s' I h;let#[x,C,t,dx,tb,H',rfl,os,bare,un,hok,ob,tr,hn,hsz,hT,q]:=h;have I':Inv X AO σ H' s':=I.call' os un hok bare λb z=>w4 z (by simp);exact hx _ _ #[AO,σ,H',x,C,t,dx,tb,rfl,I',ob,tr,I.fpOk hsz hn,λT e=>I.fpOk (hT T e).2 (hT T e).1,q]
def zdI{K:sr} :
  XE (qZ (CXx P w) P w K mg base N qual scope f cd A outer s H E) E:=by
 intro e s1 h;let#[AO,σ,H1,x,C,t,dx,tb,rfl,I,ob,tr,fx,fT,q]:=h;show sy _ _ (leaving _ (.ref x)) _ _ s1;have ff:=I.stack;refine zc3 (A:=(qZ (CXx P w) P w K mg base N qual scope f cd A outer s H E).A) (env0:=tP qual scope s⁻¹ f cd) (outer:=outer) I.ok.frames ff rfl rfl ob tr λh' T oT ts e1 nT oldT e2 d2 z2 k1 k2=>?_;have szs:s⁻¹<=s1⁻¹:=I.sz
 have hxs:s⁻¹<=x:=by
  rcases fx.2.2.2.1 with z | z
  ·exact w4 z (by simp [qZ])
  ·exact z
 have hTs:s⁻¹<=T/\H1 T=AL:=by
  rcases oldT with z | z
  ·let#[a0,_,_,a3,_]:=fT T z;rcases a3 with y | y
   ·exact w4 y (by simp [qZ])
   ·exact#[y,a0]
  ·exact#[aL szs z,I.hok.fresh z]
 have tbs:∀b,tb=.ref b->s⁻¹<=b/\H1 b=AL:=λb hb=>by
  let#[a0,_,_,a3,_]:=fT b hb;rcases a3 with y | y
  ·exact w4 y (by simp [qZ])
  ·exact#[y,a0]
 have old:∀b o,s.heap.get? b=AK o->b≠x/\tb≠.ref b:=λb o e=>by
  have hb:=av e;refine#[az (ax hb hxs),λz=>?_];exact w4 (ax hb (tbs b z).1) (cN _)
 have un:Un (frs outer) [] H H1 s.heap h':=by
  have B:=I.base;refine#[λb o e n hb Z=>?_,λb o e n hb Z=>?_,λb o e n Z=>B.free b o e n (by simp [qZ]),λb o e Z=>?_,B.tups,B.frzs,B.tbls]
  ·have e1:=B.keep b o e n hb (by simp [qZ]);refine k1 b o (old b o e).1 (old b o e).2 (λz=>?_) e1;have z':=I.stkSub b z;rcases AU.mp z' with q | q
   ·exact w4 q (az (ax (av e) I.ok.above))
   ·exact hb q
  ·let#[sl,e1]:=B.slot b o e n hb (by simp [qZ]);let#[sl',e2]:=k2 b _ (old b o e).1 (old b o e).2 e1;exact#[sl',e2]
  ·let#[o',e1]:=B.there b o e (by simp [qZ]);let#[sl',e2]:=k2 b _ (old b o e).1 (old b o e).2 e1;exact#[_,e2]
 have hok:HOk P w H1 h':=λb u e=>by
  refine (I.hok b u e).stay (λc v hc q=>k1 c v ?_ ?_ ?_ q) (λZ q=>q) λZ Z q=>q
  ·rintro rfl;rcases hc with rfl | hc
   ·rw[fx.1]at e;cases e
   ·rw[fx.1]at hc;cases hc
  ·intro z;have:=(tbs c z).2;rcases hc with rfl | hc
   ·rw[this]at e;cases e
   ·rw[this]at hc;cases hc
  ·intro z;have:=I.stkFree c z;rcases hc with rfl | hc
   ·rw[this]at e;cases e
   ·rw[this]at hc;cases hc
 exact#[x,C,t,dx,.ref T,H1,rfl,I.os,I.bare,un,hok,e1,.inr #[T,oT,ts,rfl,nT,e2,d2,z2],fx.1,hxs,λT' z=>by cases z;exact#[hTs.2,hTs.1],q]
def Fun.okX{K:sr}{st:sI}(F:Fun K x qual st f fd)(S:zm N ps (zi st))(len:∀vs H Q E,sp vs H Q E->vs.length=ps.length)(hbody:∀(cdv:sv) (A:sY) (outer:List AE) (s:sw) (H:Hp) (vs:List V) (Q:VK) (E:XK),Room k (A.deeper (tP qual (zi st) s⁻¹ f cdv))->XE (qZ (CXx P w) P w K mg base N qual (zi st) f cdv A outer s H E) E->sp vs H Q E ->
   ∃t,PSs (qZ (CXx P w) P w K mg base N qual (zi st) f cdv A outer s H E) (yj st) t/\t { nx:=λZ H'=>Q .non H',rt:=Q } (start N vs) H):FnOk P w K mg base (CXx P w) (k+1) f fd ps sp:=by let#[oc,od,kV,doc,pm,an,cdv,ct,osl,rfl,lk,hcd]:=F.ex;exact Kr lk hcd S len λA outer s H vs Q E hr hsp=>hbody cdv A outer s H vs Q E hr zdI hsp
def ze8(X:Cx)(E:XK)(e:sv)(s:sw):Prop:=∃(cx:sv) (kx:Bool) (AO:List (su × tN)) (σ:St) (H:Hp) (x C t:su) (dx:Option su) (tb:sv),e=.ref x/\Inv X AO σ H s /\
 s.heap.get? x=AK (xog C dx t tb cx kx)/\zcy s.heap x tb/\wj X AO H x/\(∀T,tb=.ref T->wj X AO H T)/\E (.ref C) dx H
def XEg(X:Cx)(E:XK):Prop:=∀e s,ze8 X E e s->X.xe e s
structure RoomH(k:Nat)(A:sY):Prop where
 dp:A.depth+3 * k+5<Ah
 un:A.units+16 * k+200<cLine
def RoomH.mark(r:RoomH k A)(e:Option sv):RoomH k (A.mark e):=#[r.dp,r.un]
end in def cxH(P:sJ)(w:sP)(K:sr)(mg:sB->Option sv)(base:sU)(N:List sB)(qual:sB)(scope:tY)(f:su)(cd:sv)(A:sY)(outer:List AE)(s:sw)(H:Hp):Cx :=
 { qZ CX0 P w K mg base N qual scope f cd A outer s H E0 with calm:=AN,xe:=λZ Z=>False }
end in abbrev bmV:List sv:=[.type "ValueError",.type "Exception",.type "BaseException",.type "object"]
end in def xcC(K:sr)(C:su)(o:tN)(cd:ClassData):Bool:=decide (cd.mro.head? = AK (.ref C)/\o.slots.size=6/\o.slots[4]? = AK (AK (.builtin "ValueError.__new__"))/\o.cls=.type "type"/\cd.hasDel=AN/\cd.hasDict=AM/\PySem.W.tailIn K bmV cd.mro.tail=AM)
end in def xcO(K:sr)(C:su)(o:tN):Data->Bool
 | .cls cd=>xcC K C o cd
 | _=>AN
end in def Xj(K:sr)(C:su):Bool:=(K.lookup C).any λo=>xcO K C o o.data
theorem zhg{α:Type}:∀{l:List α},l.length=6->∃a b c d e f,l=[a,b,c,d,e,f]
 | [a,b,c,d,e,f],_=>#[a,b,c,d,e,f,rfl]
theorem Zm{K:sr}{G:Prop}(q:Xj K C=AM)(f:∀bm N nm qn bs sn sub ab col dd k0 k1 k2 k3 k5,K.lookup C=AK (Ai nm qn C N bs bm AM sn sub ab col dd k0 k1 k2 k3 k5 "ValueError.__new__")->(∀h:sU,K.In h->OwnTail h bmV bm)->G):G:=by
 let#[#[c,dd,da,sl],ho,h]:=(Option.any_eq_true _ _).mp q
 cases da with
 | cls cd =>
  let#[h1,h2,h3,h4,h5,h6,ht]:=u6 h;let#[nm,bs,mro,ns,qn,hd,sn,sub,ab,col,del]:=cd;let#[l]:=sl;let#[k0,k1,k2,k3,k,k5,e]:=zhg h2
  cases mro with
  | nil=>cases h1
  | cons v bm =>
   cases Option.some.inj h1;subst e;cases Option.some.inj h3;cases h4;cases h5;cases h6;exact f bm ns nm qn bs sn sub ab col dd k0 k1 k2 k3 k5 ho λh X=>PySem.W.tail_of_in X ht
 | _=>cases h
structure XC(K:sr)(C:su):Prop where
 ok:Xj K C=AM
 sa:ah K (.ref C) "__setattr__" = AK (AK (.builtin "object.__setattr__"))
 ga:ah K (.ref C) "__getattribute__" = AK (AK (.builtin "BaseException.__getattribute__"))
 gt:ah K (.ref C) "__getattr__" = AK AL
 kp:aO K (.ref C)=AM
def Vh{prog:sJ}{w:sP}{A:sY}{R:Result->sw->Prop}{h:sU}{g:Array GenState}{d:Drawn}{t:Nat}{os:OsState}{K:sr}{C:su}{rest:List sv}(X:K.In h)(q:Xj K C=AM)(hi:ah K (.ref C) "__init__" = AK (AK init))(hb:∀self,PySem.W.Looks (model prog w) h (bindSpecial init self) (init,[self]))(hrest:rest.length<=sq)(hq:tz (model prog w) (A.under (.builtin "type.__call__" #[.ref C::rest,[]])) (.call init #[.ref (h.objs.size+1)::rest,[]]) (PySem.W.InitBack (h.objs.size+1) R) #[(h.push { cls:=.type "tuple",data:=.seq rest.toArray }).push (xob C AL h.objs.size .none),g,d,t,os]) :
  tz (model prog w) A (.call (.ref C) #[rest,[]]) R #[h,g,d,t,os]:=by
 refine Zm (q) λbm N nm qn bs sn sub ab col dd k0 k1 k2 k3 k5 lk tl=>?_;have hC:=X _ _ lk;have T:=tl h X;have F:=eP;have f1:=tc_lookup;have f2:=tc_bind (.ref C);have hT:(#[h,g,d,t,os]:sw).TypeIs (.ref C) "type":=#[_,hC,rfl];refine codeAny_of_tree ?_;show sy _ _ (callAny (.ref C) _) _ _ _
 repeat (any_goals (first | assumption | with_reducible refine sZ hC ?_ | wp_step))
 refine#[rfl,?_];refine codeAny_call_builtin_at (Code.quiet_builtin _ (!0)) entry_typeCall (wpAny_check_type_call_sub hC ?_)
 repeat (first | with_reducible refine sZ hC ?_ | with_reducible refine wpAny_madeBy_exc hC ?_ | wp_step)
 refine codeAny_call_builtin_code (Code.quiet_builtin _ F.quiet) (wpAny_check_new_subT F T hC ?_);refine codeAny_exc_new_subT F T hC ?_ hrest;show sy _ _ _ _ _ _;have k:∀b o,h.get? b=AK o->((h.push { cls:=.type "tuple",data:=.seq rest.toArray }).push (xob C AL h.objs.size .none)).get? b=AK o:=λb o e=>ag _ (ag _ e);have hC1:=k _ _ hC;have hget:((h.push { cls:=.type "tuple",data:=.seq rest.toArray }).push (xob C AL h.objs.size .none)).get? (h.objs.size+1)=AK (xob C AL h.objs.size .none):=by heap_get
 have hcC:(r9 C::bm).contains (.ref C)=AM:=by simp
 unfold isInstance
 repeat (first | with_reducible refine sZ hget ?_ | wp_step)
 refine tO (C:=C) hC1 ?_;rw[hcC]
 repeat wp_step
 show sy _ _ (typeLookup (.ref C) _) _ _ _;refine ((cH X hi).keeps k).at ?_;refine sM (si (((hb _).keeps k).at ?_));refine si (tJ (tM hq λr s' z=>?_));rcases r with e | (v | _ | _ | _) <;> first | exact z | exact z.elim | skip;let#[rfl,z]:=z;exact sj (sj z)
end in def XN(x C:su)(dx:Option su):HO:=.ext λh=>∃t,h.get? x=AK (xob C dx t .none)
end in def XT(x C:su)(dx:Option su):HO:=.ext λh=>∃t tb c k,h.get? x=AK (xog C dx t tb c k)
end in def XP(x C:su)(dx:Option su):HO:=.ext λh=>∃t tb,h.get? x=AK (xob C dx t tb)
def zev(e:h.get? x=AK (xob C dx t .none)):ObjOk P w H h x (XN x C dx) :=
 #[#[t,e],#[_,e],λh1 h2 ⟨t,q⟩ k=>#[t,k _ q]]
def ze4(e:h.get? x=AK (xog C dx t tb c k)):ObjOk P w H h x (XT x C dx) :=
 #[#[t,tb,c,k,e],#[_,e],λh1 h2 ⟨t,tb,c,k',q⟩ k=>#[t,tb,c,k',k _ q]]
def zes(o:ObjOk P w H h x (XN x C dx)):∃t,h.get? x=AK (xob C dx t .none):=o.1
def zge(o:ObjOk P w H h x (XT x C dx)):∃t tb c k,h.get? x=AK (xog C dx t tb c k):=o.1
def Yq{sub:List sv}(hC:h.get? C=AK (Ai nm q C N bs bm hdct sn sub ab col dd k0 k1 k2 k3 k5 newId))(base:sv):PySem.W.Looks M h (isSubtype (.ref C) base) ((r9 C::bm).contains base):=λA Q E s k z=>by
 let#[hp,g,d,t,os]:=s;exact tO (k _ _ hC) z
def Qj{sub:List sv}(hC:h.get? C=AK (Ai nm q C N bs bm hdct sn sub ab col dd k0 k1 k2 k3 k5 newId)):PySem.W.Looks M h (mroOf (.ref C)) (.ref C::bm):=λA Q E s k z=>by
 let#[hp,g,d,t,os]:=s;exact wpAny_mroOf_exc (k _ _ hC) z
def U3{sub:List sv}(hC:h.get? C=AK (Ai nm q C N bs bm hdct sn sub ab col dd k0 k1 k2 k3 k5 newId)):PySem.W.Looks M h (classData C) { name:=nm,bases:=bs,mro:=.ref C::bm,ns:=N,qualname:=q,hasDict:=hdct,slotNames:=sn,subclasses:=sub,abstract:=ab,collection:=col,hasDel:=AN }:=λA Q E s k z=>by
 unfold classData;exact si (wpAny_load (k _ _ hC) (sj z))
theorem XU(T:OwnTail h bmB bm)(self:sv)(hp:refuseLoop self "__setattr__" bmB=pure Unit.unit):refuseLoop self "__setattr__" bm=pure Unit.unit:=by
 induction T with
 | base=>exact hp
 | own _ _ _ _ ih=>rw[refuseLoop_ref];exact ih
def zb7(I:Inv X AO σ H s)(e:H x=AK (XN x C AL))(xc:XC X.K C)(n:NoAttr X.K C f)(ry:RelV y u)(h:∀s' dx,H dx=AL->Inv X AO σ (upd (upd H dx (.xd [(f,y)])) x (XN x C (AK dx))) s'->Q Unit.unit s'):sy (model X.prog X.w) A (setAttr (.ref x) f u) Q E s:=by
 let#[t,ob]:=zes (I.hok x _ e);refine Zm (xc.ok) λbm N nm qn bs sn sub ab col dd k0 k1 k2 k3 k5 lk tl=>?_;have hC:=I.kIn _ _ lk;have T:=tl _ I.kIn;have SF:=PySem.F.store_ValueError;have J:PySem.W.InstAt s.heap x (xob C AL t .none) C AL:=#[ob,rfl,rfl,trivial];have hob:(r9 C::bm).contains (.type "object")=AM:=by rw[cU,T.hasType (show bmV.contains (.type "object")=AM by symm),d7]
 have isO:PySem.W.Looks (model X.prog X.w) s.heap (isInstance (.ref x) (.type "object")) AM:=J.type.andThen (by have:=Yq (M:=model X.prog X.w) hC (.type "object");rw[hob]at this;exact this);refine gv I.kIn J xc.sa ?_;refine tW SF.slot.plain SF.entry (@PySem.W.check_slot (model X.prog X.w) _ _ { s with toks:=s.toks+1 } "object.__setattr__" "object" "__setattr__" (.ref x) [.str f s.toks,u] [] _ SF.kind SF.split isO (SF.args _ _ _) ?_);rw[PySem.W.osa_eq,refuse_eq];refine si (si (J.type.here (s:={ s with toks:=s.toks+1 }) (si ((Qj hC).here (s:={ s with toks:=s.toks+1 }) ?_))));rw[refuseLoop_ref,XU T _ (SF.passes _)];refine sj (si (J.type.here (s:={ s with toks:=s.toks+1 }) (si ((cH I.kIn n).here (s:={ s with toks:=s.toks+1 }) (si (sj ?_))))));show sy _ _ (Builtin.ObjectAttr.storeInOwnDict (.ref x) (.ref C) (.str f s.toks) f u AN) _ _ _;have hx1:(s.heap.push { cls:=.type "dict",data:=.dict #[] }).get? x=AK (xob C AL t .none):=ag _ ob;have hxs:x≠s⁻¹:=az (av ob);refine si (sj (si (si (Ag ob (si ((U3 hC).here (s:={ s with toks:=s.toks+1 }) ?_))))));rw[w9 (by simp)];show sy _ _ (if (!AM || !typeHasDict (.ref C))=AM then _ else _) _ _ _;rw[w9 (by simp [typeHasDict])]
 have hgd:((s.heap.push { cls:=.type "dict",data:=.dict #[] }).update x λo=>{ cls:=o.cls,dict:=AK s⁻¹,data:=o.data,slots:=o.slots }).get? s⁻¹=AK { cls:=.type "dict",data:=.dict #[] } :=
  (aB _ _ hxs).trans (Heap.get?_push_at rfl rfl)
 have hgx:((s.heap.push { cls:=.type "dict",data:=.dict #[] }).update x λo=>{ cls:=o.cls,dict:=AK s⁻¹,data:=o.data,slots:=o.slots }).get? x=AK (xob C (AK s⁻¹) t .none) :=
  ce _ hx1 rfl
 have hnd:((s.heap.push { cls:=.type "dict",data:=.dict #[] }).update x λo=>{ cls:=o.cls,dict:=AK s⁻¹,data:=o.data,slots:=o.slots }).Ns s⁻¹ (λZ=>AL) :=
  #[_,#[],_,hgd,rfl,λe he=>w4 he (by simp),λZ=>rfl]
 refine si (wpAny_alloc' (si (wpAny_update' hx1 (sj ?_))));show sy _ _ (Builtin.ObjectAttr.storeInDict s⁻¹ (.str f s.toks) f u) _ _ _;unfold Builtin.ObjectAttr.storeInDict Builtin.ObjectAttr.newKeyGuard;refine si (sj (si (wpAny_nsSet1 (Heap.Ns1.of_empty hnd) λh' hn' hs=>?_)));let#[oD,esD,epD,hoD,hdD,hcD]:=hn'.count (Within.cons f u Within.nil);refine si (Au hoD (by rw[hdD];exact pastItsLine_dict (aL hcD (by rw[aC,bg,sK];lia))) ?_);refine sj ?_;have hx2:h'.get? x=AK (xob C (AK s⁻¹) t .none):=(hs.2 x hxs).trans hgx;have hfr:H s⁻¹=AL:=I.hok.fresh (ao _);have hxe:x≠s⁻¹:=hxs;refine h _ s⁻¹ hfr ?_
 have k0:∀b o,b≠x->s.heap.get? b=AK o->h'.get? b=AK o:=λb o hb q =>
  (hs.2 b (az (av q))).trans ((aB _ _ (Ne.symm hb)).trans (ag _ q))
 have I1:Inv X AO σ (upd H x (XN x C (AK s⁻¹))) { s with heap:=h',toks:=s.toks+1+1 } :=
  I.write (x:=x) (e:=x) (by rw[e];exact True.intro) (.inl rfl) k0 ⟨_,hx2⟩ (zev hx2)
 have hd2:ObjOk X.prog X.w (upd (upd H x (XN x C (AK s⁻¹))) s⁻¹ (.xd [(f,y)])) h' s⁻¹ (.xd [(f,y)]):=by
  refine#[_,hn',λg=>?_];show RelO (bx g [(f,y)]) (if g=f then AK u else AL);by_cases q:g=f
  ·subst q;rw[w6 rfl];simp [bx,RelO,ry]
  ·rw[w9 q];have q':(g == f)=AN:=by simpa using q
   simp [bx,q',RelO]
 have fd:wj X AO (upd H x (XN x C (AK s⁻¹))) s⁻¹:=I.fpOk (ao _) (by rw[zq (Ne.symm hxe)];exact hfr);have I2:=Inv.track I1 fd hd2
 have eH:upd (upd H x (XN x C (AK s⁻¹))) s⁻¹ (.xd [(f,y)])=upd (upd H s⁻¹ (.xd [(f,y)])) x (XN x C (AK s⁻¹)):=by
  funext b;unfold upd;by_cases b1:b=s⁻¹
  ·subst b1;rw[w6 rfl,w9 (Ne.symm hxe),w6 rfl]
  ·by_cases b2:b=x
   ·subst b2;rw[w9 b1,w6 rfl,w6 rfl]
   ·rw[w9 b1,w9 b2,w9 b2,w9 b1]
 rw[eH]at I2;exact I2
def zcZ(K:sr)(ta tv:TE)(f:sB):TS:=λD σ H=>tv σ H λy H1=>ta σ H1 λo H2=>∃x C,o=.ref x/\H2 x=AK (XN x C AL)/\XC K C/\NoAttr K C f/\∀dx,H2 dx=AL->D.nx σ (upd (upd H2 dx (.xd [(f,y)])) x (XN x C (AK dx)))
def QX(ha:PE X o ta)(hv:PE X value tv)(hs:swapsWith value (AK (.Attribute o f pos')) pos.line X.env=pure AN):PS X (.Assign [.Attribute o f pos'] value pos) (zcZ X.K ta tv f):=by intros D I h;refine tT (thn (hv AO s σ H _ I h) λu s1=>el5 λy H1 I1 ry q=>thn (ha AO s1 σ H1 _ I1 q) λov s2=>el5 λx' H2 I2 rx q_z=>?_) hs;let#[x,C,ex,e,xc,n,q2]:=q_z;subst ex;obtain rfl:ov=r9 x:=rx;exact zb7 I2 e xc n ry λs3 dx hdx I3=>#[σ,_,I3,q2 dx hdx]
def Qd{K:sr}(hh:A.handled=AL)(h:sy M A x (λv s1=>∃e C t dx,v=.ref e/\K.In s1.heap/\Xj K C=AM/\s1.heap.get? e=AK (xob C dx t .none)/\E (.ref e) s1) E s):sy M A (raiseStmt env (AK x) AL) Q E s:=by
 unfold raiseStmt;refine si (thn h λv s1 h1=>?_);let#[e,C,t,dx,rfl,X,hC,he,hE]:=h1;refine Zm (hC) λbm N nm qn bs sn sub ab col dd k0 k1 k2 k3 k5 lk tl=>?_;have hCo:=X _ _ lk;have T:=tl _ X;have hcB:(r9 C::bm).contains (.type "BaseException")=AM:=by rw[cU,T.hasType (show bmV.contains (.type "BaseException")=AM by symm),d7]
 let#[hp,g,d,tk,os]:=s1
 repeat (first | with_reducible refine sZ he ?_ | with_reducible refine sZ hCo ?_ | (with_reducible refine tO hCo ?_;rw[hcB]) | wp_step)
 exact wpAny_raiseNew_none hh hE
def Q6{K:sr}(hh:A.handled=AL)(h:sy M A (eval e env) (λv s1=>∃a C t dx,v=.ref a/\K.In s1.heap/\Xj K C=AM/\s1.heap.get? a=AK (xob C dx t .none)/\E (.ref a) s1) E s):sy M A (exec (.Raise (AK e) AL pos) env) Q E s:=by
 rw[arm_exec_Raise]
 first
  | exact si (tu (Qd hh (si (thn h λv s1 h1=>si (tu (sj h1))))))
  | (erw[evalOpt,Option.map];exact si (tu (Qd hh (si (thn h λv s1 h1=>si (tu (sj h1)))))))
end in def del(H:Hp)(x:su):Hp:=λb=>if b=x then AL else H b
def Jr(h:b≠x):del H x b=H b:=w9 h
def Vl : del H x x=AL:=w6 rfl
def Inv.untrack(I:Inv X AO σ H s)(e:H x=AK (.ext φ))(hs:X.s₀.heap.objs.size<=x):Inv X AO σ (del H x) s:=by
 have nx:∀b u,H b=AK u->(∀ψ,u≠.ext ψ)->b≠x:=λb u q nu z=>by subst z;rw[e]at q;cases q;exact nu _ rfl
 have hn:∀b,b≠x->del H x b=H b:=λb hb=>Jr hb;have es:s={ s with heap:=s.heap,gens:=s.gens,drawn:=s.drawn,toks:=s.toks }:=rfl;rw[es]
 refine I.step (g':=s.gens) (d':=s.drawn) (ch:=[x]) (λb hb=>?_) (λb o Z Z Z q Z=>q) (λb o Z Z Z q Z=>#[o.slots,q]) (λb o hc Z n=>?_)
  (λb o Z q=>#[o,q]) (λb xs q=>?_) (λb u xs q=>?_) (λb ps q=>?_) (λm hm=>hm) (λb u q=>?_) I.bare
 ·have eb:b=x:=by simpa using hb
  subst eb;refine#[.inr hs,λz=>?_,λy c q z=>?_,λp hp z=>?_]
  ·rw[z,I.free]at e;cases e
  ·have:=I.freeC y c q;rw[z,e]at this;cases this
  ·have:=(I.pin p hp).2.1;rw[z,e]at this;cases this
 ·rw[hn b (by simpa using hc)];exact n
 ·rw[hn b (nx b _ q λZ z=>by cases z)];exact q
 ·rw[hn b (nx b _ q λZ z=>by cases z)];exact q
 ·exact#[#[],by rw[hn b (nx b _ q λZ z=>by cases z),q];simp]
 ·by_cases hb:b=x
  ·subst hb;rw[Vl]at q;cases q
  ·rw[hn b hb]at q;exact (I.hok b u q).stay (λc v Z z=>z) (λc z=>by rw[hn c (nx c _ z λZ y=>by cases y)];exact z) λc xs z=>by rw[hn c (nx c _ z λZ y=>by cases y)];exact z
def V7(I:Inv X AO σ H s)(xc:Xj X.K C=AM)(hi:ah X.K (.ref C) "__init__" = AK (AK (.builtin "ValueError.__init__")))(hl:us.length<=sq)(h:∀s' x t,s⁻¹<=x->Inv X AO σ H s'->s'.heap.get? x=AK (xob C AL t .none)->Q (.ref x) s'):sy (model X.prog X.w) X.A (call (.ref C) us) Q E s:=by
 have F:=eP;refine Zm (xc) λbm N nm qn bs sn sub ab col dd k0 k1 k2 k3 k5 lk tl=>?_;have hC:=I.kIn _ _ lk;have T:=tl _ I.kIn;let#[hp,g,d,t,os]:=s;have k:∀b o,hp.get? b=AK o->((hp.push { cls:=.type "tuple",data:=.seq us.toArray }).push (xob C AL hp.objs.size .none)).get? b=AK o:=λb o e=>ag _ (ag _ e);refine tJ (Vh I.kIn xc hi (λself=>PySem.W.Looks.of_pure (F.init.bind self)) hl ?_);have hget:((hp.push { cls:=.type "tuple",data:=.seq us.toArray }).push (xob C AL hp.objs.size .none)).get? (hp.objs.size+1)=AK (xob C AL hp.objs.size .none):=by heap_get
 refine tW F.init.plain F.initEntry (wpAny_check_init_subT F (T.keeps k) (k _ _ hC) hget rfl ?_)
 wp_walk
 refine#[rfl,h _ (hp.objs.size+1) ((hp.push { cls:=.type "tuple",data:=.seq us.toArray }).push (xob C AL hp.objs.size .none)).objs.size (cJ _) (I.kept (t':=t) λb o e=>?_) ?_]
 ·exact (aB _ _ (cr (cY (av e)))).trans (ag _ (k b o e))
 ·exact ce (Obj.mapFields λx=>x.setIfInBounds 0 (r9 ((hp.push { cls:=.type "tuple",data:=.seq us.toArray }).push (xob C AL hp.objs.size .none)).objs.size)) (ag _ hget) rfl
def Wt(E:XK)(C:su)(t:TA):TS:=λZ σ H=>t σ H λvs H1=>vs.length<=sq/\E (.ref C) AL H1
def yk(hx:XE X E)(hc:X.calm=AM)(xc:XC X.K C)(hi:ah X.K (.ref C) "__init__" = AK (AK (.builtin "ValueError.__init__")))(hg:Gl X cn)(hm:X.mg cn=AK (.ref C))(ha:PA X (e::es) t)(hdb:‹(cn ==("__debug__" : sB))=AN›)(he:‹so (e::es) X.env=(AN,eval e X.env)::so es X.env›)(hpl:‹(sQ cpos (so es X.env)).any (·.1)=AN›) :
  PS X (.Raise (AK (.Call (.Name cn np) (e::es) [] cpos)) AL pos) (Wt E C t):=by intros D I h;refine Q6 (K:=X.K) (I.ok.hd hc) (sS (uc I hg hm ?_ hdb));refine cb (h₀:=X.base) I.ok.mod.kin xc.kp (thn (ha cpos AO s σ H _ I h) λus s1=>el5 λvs H1 I1 r=>ua2 λz q=>#[I1.kIn,?_]) he hpl;refine V7 (us:=[] ++ us) I1 xc.ok hi (by show us.length<=sq;rw[<- r.length];exact z) λs2 x t hz I2 ob=>#[x,C,t,AL,rfl,I2.kIn,xc.ok,ob,?_];exact hx _ _ #[AO,σ,H1,x,C,t,AL,.none,rfl,I2,ob,.inl rfl,I1.fpOk hz (I1.hok.fresh hz),λT z=>(by cases z),q]
def JI(r:Room (k+1) A):Room k (A.under (.builtin "type.__call__" #[.ref C::us,[]])):=r.make C us []
def XY(E:XK)(C:su)(sp:Sp)(t:TA):TS:=λZ σ H=>t σ H λvs H1=>vs.length<=sq/\∀x,H1 x=AL->sp (.ref x::vs) (upd H1 x (XN x C AL)) (λv H2=>v=.non/\∃dx,H2 x=AK (XN x C dx)/\E (.ref C) dx (del H2 x)) E0
theorem Y5(hx:XE X E)(hc:X.calm=AM)(xc:XC X.K C)(hi:ah X.K (.ref C) "__init__" = AK (AK (.ref f)))(hfn:be X.K (.ref f)=AM)(F:FnOk X.prog X.w X.K X.mg X.base CX0 k f fd ps sp)(hr:Room (k+1) X.A)(hb:Binds X.K fd ps [])(hg:Gl X cn)(hm:X.mg cn=AK (.ref C))(ha:PA X (e::es) t)(hdb:‹(cn ==("__debug__" : sB))=AN›)(he:‹so (e::es) X.env=(AN,eval e X.env)::so es X.env›)(hpl:‹(sQ cpos (so es X.env)).any (·.1)=AN›) :
  PS X (.Raise (AK (.Call (.Name cn np) (e::es) [] cpos)) AL pos) (XY E C sp t):=by
 intros D I h;refine Q6 (K:=X.K) (I.ok.hd hc) (sS (uc I hg hm ?_ hdb));refine cb (h₀:=X.base) I.ok.mod.kin xc.kp (thn (ha cpos AO s σ H _ I h) λus s1=>el5 λvs H1 I1 r=>ua2 λz q=>#[I1.kIn,?_]) he hpl;have hl:us.length<=sq:=by rw[<- r.length];exact z
 have ob:((s1.heap.push { cls:=.type "tuple",data:=.seq us.toArray }).push (xob C AL s1⁻¹ .none)).get? (s1⁻¹+1)=AK (xob C AL s1⁻¹ .none):=by heap_get
 have hfr:H1 (s1⁻¹+1)=AL:=I1.hok.fresh (cJ _)
 have I2:Inv X AO σ (upd H1 (s1⁻¹+1) (XN (s1⁻¹+1) C AL)) { s1 with heap:=(s1.heap.push { cls:=.type "tuple",data:=.seq us.toArray }).push (xob C AL s1⁻¹ .none) } :=
  I1.laid (t':=s1.toks) (λb o e=>ag _ (ag _ e)) (cJ _) (zev ob)
 have q1:=q _ hfr;have r2:Vals (V.ref (s1⁻¹+1)::vs) (r9 (s1⁻¹+1)::us):=.cons rfl r
 have hlen:(r9 (s1⁻¹+1)::us ++ ([]:List sv)).length=ps.length:=by
  rw[bc,<- r2.length];exact F.len _ _ _ _ q1
 have hb2:=hb { s1 with heap:=(s1.heap.push { cls:=.type "tuple",data:=.seq us.toArray }).push (xob C AL s1⁻¹ .none) } (r9 (s1⁻¹+1)::us) I2.kIn hlen;rw[bc]at hb2;have run:=F.run _ X.stack _ _ #[r9 (s1⁻¹+1)::us,[]] (r9 (s1⁻¹+1)::us) _ _ E0 (JI (C:=C) (us:=us) hr) (I2.env0.make C us []) hb2 r2 q1;have sz0:X.s₀.heap.objs.size<=s1⁻¹+1:=aL I1.sz (cJ _);show sy (model X.prog X.w) X.A (call (.ref C) us) _ X.xe s1;refine tJ ?_;refine Vh (h:=s1.heap) (g:=s1.gens) (d:=s1.drawn) (t:=s1.toks) (os:=s1.os) (rest:=us) I1.kIn xc.ok hi (λself=>gB I1.kIn self (beq_iff_eq.mp hfn)) hl (tM run λr s' hq=>?_)
 cases r with
 | error e=>exact False.elim hq
 | ok fl =>
  cases fl with
  | ret u =>
   let#[v,H',I3,rv,ev,dx,hx3,q3]:=I2.after hq;subst ev;refine#[rv,?_];let#[t,ob3]:=zes (I3.hok _ _ hx3);have I4:=Inv.untrack I3 hx3 sz0;refine#[_,C,t,dx,rfl,I3.kIn,xc.ok,ob3,hx _ _ #[AO,σ,_,_,C,t,dx,.none,rfl,I4,ob3,.inl rfl,?_,λT z=>(by cases z),q3]];exact I1.fpOk (cJ _) Vl
  | next=>exact False.elim hq
  | brk=>exact False.elim hq
  | cont=>exact False.elim hq
def zcw(X:Cx)(AO:List (su × tN))(σ:St)(E:XK)(e:sv)(s:sw):Prop:=∃(cx:sv) (kx:Bool) (H:Hp) (x C t:su) (dx:Option su) (tb:sv),e=.ref x/\Inv X AO σ H s /\
 s.heap.get? x=AK (xog C dx t tb cx kx)/\zcy s.heap x tb/\wj X AO H x/\(∀T,tb=.ref T->wj X AO H T)/\E (.ref C) dx H
end in abbrev TX:=St->Hp->VK->XK->Prop
def PEX(X:Cx)(e:tK)(t:TX):Prop :=
 ∀(AO:List (su × tN)) (s:sw) (σ:St) (H:Hp) (Q:VK) (E:XK),Inv X AO σ H s->t σ H Q E->sy (model X.prog X.w) X.A (eval e X.env) (EP X AO σ Q) (zcw X AO σ E) s
theorem zae(F:FnOk X.prog X.w X.K X.mg X.base (CXx X.prog X.w) k f fd ps sp)(hr:Room k X.A)(hg:Gl X x)(hm:X.mg x=AK (.ref f))(hk:aO X.K (.ref f)=AM)(hb:Binds X.K fd ps ds)(hd:Vals dvs ds)(ha:PA X.nox (e::es) t) (hdb:‹(x ==("__debug__" : sB))=AN›) (he:‹so (e::es) X.env=(AN,eval e X.env)::so es X.env›) (hpl:‹(sQ pos (so es X.env)).any (·.1)=AN›) :
  PEX X (.Call (.Name x p) (e::es) [] pos) (λσ H Q E=>t σ H λvs H1=>sp (vs ++ dvs) H1 Q E):=by
 intros Q E I h;refine sS (uc I hg hm ?_ hdb);refine cb (h₀:=X.base) I.ok.mod.kin hk (tw (thn (ha pos AO s σ H _ (I.wish _) h) λus s1=>el5 λvs H1 I1 r q=>#[I1.kIn,?_])) he hpl;have I1':Inv X AO σ H1 s1:=I1.unwish;have r2:Vals (vs ++ dvs) (us ++ ds):=r.append hd;have hl:(us ++ ds).length=ps.length:=by rw[<- r2.length];exact F.len _ _ _ _ q
 refine tJ (tM (F.run X.A X.stack s1 H1 #[us,[]] (us ++ ds) (vs ++ dvs) Q E hr I1'.env0 (hb s1 us I1'.kIn hl) r2 q) λr s' hq=>?_)
 cases r with
 | error e =>
  let#[x,C,t,dx,tb,H',rfl,os,bare,un,hok,ob,tr,hn,hsz,hT,q]:=hq;exact#[.none,AN,H',x,C,t,dx,tb,rfl,I1'.call' os un hok bare (λb z=>w4 z (by simp)),ob,tr,I1'.fpOk hsz hn,λT e=>I1'.fpOk (hT T e).2 (hT T e).1,q]
 | ok fl =>
  cases fl with
  | ret u=>exact I1'.after hq
  | next=>exact False.elim hq
  | brk=>exact False.elim hq
  | cont=>exact False.elim hq
end in abbrev Cx.suite(X:Cx)(e:sv):Cx:={ X with A:=X.A.mark (AK e),calm:=AN,xe:=λZ Z=>False }
def Inv.suite(I:Inv X AO σ H s)(e:sv):Inv (Cx.suite X e) AO σ H s :=
 #[#[I.ok.mod,I.ok.kind,I.ok.glob,I.ok.blt,I.ok.above,I.ok.inj,I.ok.has,I.ok.cab,λz=>w4 z (by simp [Cx.suite]),I.ok.frames,I.ok.stk,I.ok.exf,I.ok.bs,I.ok.bsz,I.ok.noex,I.ok.exfs,I.ok.funs,I.ok.frf],
  I.os,I.bare,I.base,I.loc,I.cell,I.free,I.freeC,I.pin,I.hok,I.len]
def Inv.unsuite(J:Inv X AO σ' H' s')(I:Inv (Cx.suite X e) AO σ H s):Inv X AO σ H s :=
 #[J.ok,I.os,I.bare,I.base,I.loc,I.cell,I.free,I.freeC,I.pin,I.hok,I.len]
theorem zd2{K:sr}(X:K.In s.heap)(hD:Xj K D=AM)(he:s.heap.get? x=AK (xog C dx t tb cx kx))(hs:dk K (.ref C) (.ref D)=AK b)(h:Q b s):sy M A (excMatches (.ref x) (.ref D)) Q E s:=by
 refine Zm (hD) λbm N nm qn bs sn sub ab col dd k0 k1 k2 k3 k5 lk tl=>?_;have hDo:=X _ _ lk;have T:=tl _ X;have hcB:(r9 D::bm).contains (.type "BaseException")=AM:=by rw[cU,T.hasType (show bmV.contains (.type "BaseException")=AM by symm),d7]
 have L:=PySem.W.looks_subIn (M:=M) X hs;have f:=tc_notTuple;let#[hp,g,d,tk,os]:=s;unfold excMatches
 repeat (first | with_reducible refine sZ he ?_ | with_reducible refine sZ hDo ?_ | (with_reducible refine tO hDo ?_;rw[hcB]) | (with_reducible refine PySem.W.Looks.at L ?_) | wp_step)
 cases b with
 | false=>exact sj (sj (sj h))
 | true=>exact sj (sj (sj h))
end in def tbL:sv->List su
 | .ref b=>[b]
 | _=>[]
section
variable{prog:sJ}{w:sP}{A:sY}{E:sv->sw->Prop}{s:sw}{K:sr}{x C:su}{ox:tN}{od:Option tN}{name:sB}{tk:Az}
def zdJ{fill expr:Bool}(X:K.In s.heap)(xc:XC K C)(J:PySem.W.InstAt s.heap x ox C od)(h:sy (model prog w) A.in1 (Builtin.«object.__getattribute__» #[[.ref x,.str name tk],[]]) (λfin s'=>match fin with | .done (.ret v)=>sy (model prog w) A (handedOut v) Q E s' | _=>False) (λZ Z=>False) s) :
  sy (model prog w) A (getAttrBy (.ref x) (.str name tk) fill expr) Q E s:=by
 refine Zm (xc.ok) λbm N nm qn bs sn sub ab col dd k0 k1 k2 k3 k5 lk tl=>?_;have hC:=X _ _ lk;have T:=tl _ X;have FB:=PySem.F.attrBase_ValueError;have L0:=J.type (M:=model prog w);have L1:=cH (M:=model prog w) X xc.ga;have L2:=cH (M:=model prog w) X xc.gt;have hcB:(r9 C::bm).contains (.type "BaseException")=AM:=by rw[cU,T.hasType (show bmV.contains (.type "BaseException")=AM by symm),d7]
 have isB:PySem.W.Looks (model prog w) s.heap (isInstance (.ref x) (.type "BaseException")) AM:=L0.andThen (by have:=Yq (M:=model prog w) hC (.type "BaseException");rw[hcB]at this;exact this);have f3:=FB.ga.bind (.ref x);have hx0:(expr && onTheHeap (Value.builtin "BaseException.__getattribute__"))=AN:=by cases expr <;> rfl
 have hx2:(Value.builtin "BaseException.__getattribute__" == Value.builtin "object.__getattribute__")=AN:=by symm
 have hx1:(onTheHeap (r9 C) && Value.builtin "BaseException.__getattribute__" == Value.builtin "object.__getattribute__")=AN:=by rw[hx2];rfl
 unfold getAttrBy;refine sM (si (L0.here (si (L1.here ?_))));show sy _ _ (if (onTheHeap (r9 C) && Value.builtin "BaseException.__getattribute__" == Value.builtin "object.__getattribute__")=AM then _ else _) _ _ _;rw[hx1,w9 aF];unfold getAttrByItsOwn hookBefore;rw[w6 (by rfl)];refine si (L2.here (si (Al (sM ?_))));unfold callGetattribute;rw[hx0,w9 aF];unfold boundAndCalled;rw[f3];refine si (sj ?_);show sy (model prog w) A (call (.builtin "BaseException.__getattribute__") [.ref x,.str name tk]) _ _ s;refine tJ (tW FB.ga.plain PySem.F.entry_bexc_ga (@PySem.W.check_slot (model prog w) _ _ s "BaseException.__getattribute__" "BaseException" "__getattribute__" (.ref x) [.str name tk] [] _ (!0) (!0) isB (PySem.F.args_bexc_ga _ _) ?_));refine tD h (λfin s' z=>?_) λZ Z z=>z.elim;rcases fin with (_ | _ | _ | v) | _ <;> first | exact z | exact z.elim
def zaY(X:K.In s.heap)(xc:XC K C)(J:PySem.W.InstAt s.heap x ox C od)(ha:ah K (.ref C) "__class__" = AK (AK (.builtin "object.__class__")))(hn:dJ K (.builtin "object.__class__") "__get__" = AK (AK (.builtin "getset_descriptor.__get__")))(htk:d5 K (.builtin "object.__class__")=AK AM)(hm:bU K C (.type "object")=AK AM)(h:Q (AK (.ref C)) { s with toks:=s.toks+1 }):sy (model prog w) A (getAttr? (.ref x) "__class__") Q E s:=by
 have hf:gC K C od "__class__" = AK (.bind (.builtin "getset_descriptor.__get__") (.builtin "object.__class__")):=by
  refine Zm (xc.ok) λbm N nm qn bs sn sub ab col dd k0 k1 k2 k3 k5 lk tl=>?_;have hcl:(PySem.W.clsIn K C).isSome=AM:=by unfold PySem.W.clsIn;rw[lk];rfl
  let#[cd,hc]:=Bg.mp hcl;unfold gC;rw[hc,bZ,ha,bZ];simp [hn,htk]
 unfold getAttr? getAttrBy?;refine si (wpAny_mkText (si (Al (zdJ (s:={ s with toks:=s.toks+1 }) X xc J ?_))));have L0:=J.type (M:=model prog w);have L1:=PySem.W.looks_find (M:=model prog w) X J hf;unfold Builtin.«object.__getattribute__»;refine si (sj (si (sj (si (L0.here (s:={ s with toks:=s.toks+1 }) (si (L1.here (s:={ s with toks:=s.toks+1 }) ?_)))))));show sy _ _ (holding [.builtin "object.__class__"] (call (.builtin "getset_descriptor.__get__") [.builtin "object.__class__",.ref x,.ref C]) >>= ret) _ _ _;refine si (sM (tJ (PySem.W.class_get (s:={ s with toks:=s.toks+1 }) X J hm ?_)));refine sj ?_;show sy _ _ (handedOut (.ref C)) _ _ _;rw[PySem.W.handedOut_of rfl];exact sj (sj h)
end
structure XI(K:sr)(C:su):Prop extends XC K C where
 ca:ah K (.ref C) "__class__" = AK (AK (.builtin "object.__class__"))
 cg:dJ K (.builtin "object.__class__") "__get__" = AK (AK (.builtin "getset_descriptor.__get__"))
 ct:d5 K (.builtin "object.__class__")=AK AM
 mo:bU K C (.type "object")=AK AM
def zeo(ob:h.get? x=AK (xog C AL t tb c k)):PySem.W.InstAt h x (xog C AL t tb c k) C AL:=#[ob,rfl,rfl,trivial]
def zf9{K:sr}(xi:XI K C):PySem.W.KitX K (.ref x) (.ref C) (λh=>(∃t tb c k,h.get? x=AK (xog C dx t tb c k))/\∀d,dx=AK d->∃o,h.get? d=AK o) where
 ty:=λM h X ⟨⟨t,tb,c,k',ob⟩,_⟩=>(PySem.W.Looks.ld ob).andThen .now
 it:=λM h X Z=>by
  refine Zm (xi.ok) λbm N nm qn bs sn sub ab col dd k0 k1 k2 k3 k5 lk tl=>?_;intro A' Q' E' s' k q;unfold isType loadHead;exact si (Ag (k _ _ (X _ _ lk)) (sj q))
 ne:=λh tp dd its n sl X htp=>by
  refine Zm (xi.ok) λbm N nm qn bs sn sub ab col dd k0 k1 k2 k3 k5 lk tl=>?_;refine Bn.mpr λq=>?_;have e:C=tp:=Value.ref.inj (beq_iff_eq.mp q);subst e;have z:=congrArg (λo:Option tN=>o.map λo=>match o.data with | .cls _=>AM | _=>AN) ((X _ _ lk).symm.trans htp);exact w4 (show AM=AN from Option.some.inj z) ∅
 ca:=λ{prog w A E Q s} X ⟨⟨t,tb,c,k',ob⟩,hd⟩ k=>by
  cases dx with
  | none=>exact zaY X xi.toXC (zeo ob) xi.ca xi.cg xi.ct xi.mo k
  | some d =>
   let#[o,e]:=hd d rfl;exact zaY (od:=AK o) X xi.toXC #[ob,rfl,rfl,e] xi.ca xi.cg xi.ct xi.mo k
def XAt(H:Hp)(x C:su)(dx:Option su)(fs:List (sB × V)):Prop:=H x=AK (XT x C dx)/\((dx=AL/\fs=[])\/∃d,dx=AK d/\H d=AK (.xd fs))
def JJ:vY X (.builtin "isinstance") (λxs H Q=>∃x C dx fs c u b,xs=[.ref x,c]/\cV c=AK u/\XAt H x C dx fs/\XI X.K C/\aS X.K (.ref C) u=AK b/\Q (.bl b) H):=by
 intros xs us Q I r h;let#[x,C,dx,fs,c,u,b,rfl,hc,#[hx,hd],xi,e,q]:=h;let#[v,w',rfl,rx,rc]:=QY r;cases rx
 have:w'=u:=by
  cases c with
  | ty n=>cases hc;exact rc
  | ref a=>cases hc;exact rc
  | _=>cases hc
 subst this;refine bp (zf9 (dx:=dx) xi) I.kIn #[zge (I.hok _ _ hx),λd z=>?_] e (λz=>nomatch z) λtk=>#[.bl b,H,I.tok tk,rfl,q];rcases hd with ⟨z',_⟩ | ⟨d',z',hd'⟩
 ·rw[z']at z;cases z
 ·rw[z']at z;cases z;let#[mA,#[o,es,ep,ho,_],_]:=I.hok _ _ hd';exact#[o,ho]
structure Df(P:sJ)(w:sP)(K:sr)(mg:sB->Option sv)(base:sU)(CX:CXT)(k:Nat)(nm:sB)(ps:List sB)(ds:List sv)(sp:Sp):Prop where
 ex:∃f fd,FnOk P w K mg base CX k f fd ps sp/\mg nm=AK (.ref f)/\aO K (.ref f)=AM/\Binds K fd ps ds
structure Bt(mg:sB->Option sv):Prop where
 len:mg "len" = AL
 range:mg "range" = AL
 isi:mg "isinstance" = AL
 str:mg "str" = AL
 int:mg "int" = AL
 tuple:mg "tuple" = AL
 list:mg "list" = AL
 bool:mg "bool" = AL
 enum:mg "enumerate" = AL
 all:mg "all" = AL
 verr:mg "ValueError" = AL
 max:mg "max" = AL
 rev:mg "reversed" = AL
 zip:mg "zip" = AL
 sum:mg "sum" = AL
 sorted:mg "sorted" = AL
def cl0(D:Df X.prog X.w X.K X.mg X.base CX0 k x ps ds sp)(hr:Room j X.A)(hd:Vals dvs ds)(hg:Gl X x)(ha:PA X (e::es) t)(hdb:‹(x ==("__debug__" : sB))=AN›)(he:‹so (e::es) X.env=(AN,eval e X.env)::so es X.env›)(hpl:‹(sQ pos (so es X.env)).any (·.1)=AN›)(hj:‹k<=j›):PE X (.Call (.Name x p) (e::es) [] pos) (vE sp dvs E0 t):=by let#[f,fd,F,hm,hk,hb]:=D.ex;exact Jp F (hr.mono hj) hg hm hk hb hd V3 ha hdb he hpl
def clX(D:Df X.prog X.w X.K X.mg X.base (CXx X.prog X.w) k x ps ds sp)(hr:Room j X.A)(hd:Vals dvs ds)(hg:Gl X x)(ha:PA X.nox (e::es) t)(hdb:‹(x ==("__debug__" : sB))=AN›)(he:‹so (e::es) X.env=(AN,eval e X.env)::so es X.env›)(hpl:‹(sQ pos (so es X.env)).any (·.1)=AN›)(hj:‹k<=j›):PEX X (.Call (.Name x p) (e::es) [] pos) (λσ H Q E=>t σ H λvs H1=>sp (vs ++ dvs) H1 Q E):=by let#[f,fd,F,hm,hk,hb]:=D.ex;exact zae F (hr.mono hj) hg hm hk hb hd ha hdb he hpl
def clP(hx:XE X E)(D:Df X.prog X.w X.K X.mg X.base (CXx X.prog X.w) k x ps ds sp)(hr:Room j X.A)(hd:Vals dvs ds)(hg:Gl X x)(ha:PA X (e::es) t)(hdb:‹(x ==("__debug__" : sB))=AN›)(he:‹so (e::es) X.env=(AN,eval e X.env)::so es X.env›)(hpl:‹(sQ pos (so es X.env)).any (·.1)=AN›)(hj:‹k<=j›):PE X (.Call (.Name x p) (e::es) [] pos) (vE sp dvs E t):=by let#[f,fd,F,hm,hk,hb]:=D.ex;exact Jp F (hr.mono hj) hg hm hk hb hd (Vq hx) ha hdb he hpl
def TyX(K:sr)(H:Hp)(x:V)(t:sv):Prop:=WM K H x t\/(∃a C dx fs,x=.ref a/\t=.ref C/\XAt H a C dx fs/\XI K C)\/(∃a xs,x=.ref a/\t=.type "list"/\SqL K H a xs)\/∃a xs,x=.ref a/\t=.type "tuple"/\SqT K H a xs
def zfk(K:sr):List V->Hp->VK->Prop:=λxs H Q=>∃x c u t b,xs=[x,c]/\cV c=AK u/\TyX K H x t/\aS K t u=AK b/\Q (.bl b) H
def zfB : vY X (.builtin "isinstance") (zfk X.K):=by
 intros xs us Q I r h;let#[x,c,u,t,b,rfl,hc,ty,e,q]:=h;rcases ty with ty | ⟨a,C,dx,fs,rfl,rfl,ha,xi⟩ | ⟨a,ys,rfl,rfl,hq⟩ | ⟨a,ys,rfl,rfl,hq⟩
 ·exact zaq AO s σ H _ us Q I r #[x,c,u,t,b,rfl,hc,ty,e,q]
 ·exact JJ AO s σ H _ us Q I r #[a,C,dx,fs,c,u,b,rfl,hc,ha,xi,e,q]
 all_goals
  let#[v,w',rfl,rx,rc]:=QY r
  have:w'=u:=by
   cases c with
   | ty n=>cases hc;exact rc
   | ref a=>cases hc;exact rc
   | _=>cases hc
  subst this;cases rx
 ·let#[its,_,p,_]:=I.list hq;let#[o,h1,h2,_]:=p.isList;exact bp eS I.kIn #[o,h1,h2] e (λz=>nomatch z) λtk=>#[.bl b,H,I.tok tk,rfl,q]
 ·let#[its,_,p,_]:=I.tuple hq;let#[o,h1,h2,_]:=p;exact bp gp I.kIn #[o,h1,h2] e (λz=>nomatch z) λtk=>#[.bl b,H,I.tok tk,rfl,q]
def yI(h1:Gl X "isinstance")(h2:X.mg "isinstance" = AL)(he:PE X e te)(hg:Gl X c)(hm:X.mg c=AL)(hv:sV c=AK (.type n))(hn:‹c≠"__name__"›)(hd:‹(c ==("__debug__" : sB))=AN›)(hs1:‹so [e,.Name c q] X.env=(AN,eval e X.env)::so [.Name c q] X.env›)(hs3:‹so [.Name c q] X.env=(AN,eval (.Name c q) X.env)::so [] X.env›)(hs2:‹(sQ pos (so [.Name c q] X.env)).any (·.1)=AN›):PE X (.Call (.Name "isinstance" p) [e,.Name c q] [] pos) (tCB (zfk X.K) (zI te (zI (tC (.ty n)) xb))) :=
 yR zfB h1 h2 boot_isinstance (za he (za (zcC hg hm hv rfl hn hd) ze hs3) hs1) (he:=hs1) (hpl:=hs2)
def zaH : cV (.ref a)=AK (.ref a):=rfl
def zd5 : cV (.ty n)=AK (.type n):=rfl
def zfN{P w K mg base N q sc f cd A o s H}:(cxH P w K mg base N q sc f cd A o s H).K=K:=rfl
def JE:V->List V->Hp->VK->Prop:=λx xs H Q=>∃z y,x=.str z/\xs=[.str y]/\Q (.int (Txt.count z y)) H
def zcL : MtR X "str.count" JE:=KQ
def zas:V->List V->Hp->VK->Prop:=λx xs H Q=>∃z y,x=.str z/\xs=[.str y]/\Q (.int (Txt.find z y)) H
def zby : MtR X "str.find" zas:=U6
def Jb(l:())(c:Nat):Txt.count (tx l) (tx [c])=(l.count c:Int):=by
 have h:∀l:(),cnt c l=(l.count c:Int):=λl=>by
  induction l with
  | nil=>rfl
  | cons n r ih =>
   rw[cnt_cons,ih,cF];by_cases e:n=c
   ·subst e;simp;lia
   ·have:(n == c)=AN:=by simpa using e
    simp [e,this]
 exact (PyProof.Rows.count_is (tx l) c).trans (h l)
def lt1 :([a]:()) < [b] ↔ a<b:=by rw[List.cons_lt_cons_iff];exact#[λh=>h.elim id λ⟨_,q⟩=>w4 q (List.not_lt_nil _),.inl]
def UD{k v:Nat}(h:l[k]? = AK v):(v::(l.take k ++ l.drop (k+1))).Perm l:=by
 let#[hk,e]:=AS.mp h
 have e2:l.take k ++ (v::l.drop (k+1))=l:=by
  rw[<- e,<- aX hk,cf]
 exact (List.perm_middle.symm.trans (by rw[e2]))
def Xt(K:sr):List V->Hp->VK->Prop:=λxs H Q=>match xs with
 | [.str z]=>z.length<=sq/\Q (.int z.length) H
 | [.ref a]=>∃n:Nat,((∃xs,SqL K H a xs/\n=xs.length)\/∃xs,SqT K H a xs/\n=xs.length)/\Q (.int n) H
 | xs=>∃x n,xs=[x]/\zec K x H n/\Q (.int n) H
def rLen_is{K:sr}:Xt K xs H Q=∃x n,xs=[x]/\zec K x H n/\Q (.int n) H:=by
 unfold Xt;split
 ·exact propext #[λh=>#[_,_,rfl,#[h.1,rfl],h.2],λ⟨_,_,e,h,q⟩=>by cases e;let#[h,rfl]:=h;exact#[h,q]]
 ·exact propext #[λ⟨n,h,q⟩=>#[_,n,rfl,h,q],λ⟨_,n,e,h,q⟩=>by cases e;exact#[n,h,q]]
 ·rfl
def zf3 : vY X (.builtin "len") (Xt X.K):=λAO s σ H xs us Q I r h=>KO AO s σ H xs us Q I r (rLen_is.mp h)
def ForR(lo:Int)(n:Nat)(g:TG)(tb:TS)(D:Yj)(σ:St)(H:Hp):Prop:=∃W:Nat->Nat->St->Hp->Prop,(∃m,W 0 m σ H)/\∀i m σ H,W i m σ H ->
 ((Itr lo n).stop i H/\D.nx σ H)\/((Itr lo n).go i H/\∃N:St->Hp->Prop,(∀σ' H',N σ' H'->∃m',m'<m/\W (i+1) m' σ' H')/\∀x H',(Itr lo n).yld i H x H'->g x σ H' λσ2 H2=>tb { D with nx:=N,ct:=N,bk:=D.nx } σ2 H2)
def zdS : zam (zcr ta) g tb D σ H=ta σ H λvs H1=>∃j:Int,vs=[.int j]/\-(2 ^ 62)<=j/\j<2 ^ 62/\ForR 0 j.toNat g tb D σ H1:=rfl
def zdy : zam (zdB ta) g tb D σ H=ta σ H λvs H1=>∃i j:Int,vs=[.int i,.int j]/\(-(2 ^ 62)<=i/\i<2 ^ 62/\-(2 ^ 62)<=j/\j<2 ^ 62)/\ForR i (j - i).toNat g tb D σ H1:=rfl
def ForR.by{lo:Int}(Pv:Nat->St->Hp->Prop)(h0:Pv 0 σ H)(hs:∀i σ H,i<n->Pv i σ H->g (.int (lo+i)) σ H λσ2 H2=>tb { D with nx:=Pv (i+1),ct:=Pv (i+1),bk:=D.nx } σ2 H2)(hd:∀σ H,Pv n σ H->D.nx σ H):ForR lo n g tb D σ H:=UM Pv h0 hs hd
def ForL(K:sr)(a:su)(g:TG)(tb:TS)(D:Yj)(σ:St)(H:Hp):Prop:=∃W:Nat->Nat->St->Hp->Prop,(∃m,W 0 m σ H)/\∀i m σ H,W i m σ H ->
 ((Itl K a).stop i H/\D.nx σ H)\/((Itl K a).go i H/\∃N:St->Hp->Prop,(∀σ' H',N σ' H'->∃m',m'<m/\W (i+1) m' σ' H')/\∀x H',(Itl K a).yld i H x H'->g x σ H' λσ2 H2=>tb { D with nx:=N,ct:=N,bk:=D.nx } σ2 H2)
def zgV{K:sr}:zam (zcj K tl) g tb D σ H=tl σ H λx H1=>∃a,x=.ref a/\(∃xs,SqL K H1 a xs)/\ForL K a g tb D σ H1:=rfl
def ForS(x:sB)(g:TG)(tb:TS)(D:Yj)(σ:St)(H:Hp):Prop:=∃W:Nat->Nat->St->Hp->Prop,(∃m,W 0 m σ H)/\∀i m σ H,W i m σ H ->
 ((Its x).stop i H/\D.nx σ H)\/((Its x).go i H/\∃N:St->Hp->Prop,(∀σ' H',N σ' H'->∃m',m'<m/\W (i+1) m' σ' H')/\∀v H',(Its x).yld i H v H'->g v σ H' λσ2 H2=>tb { D with nx:=N,ct:=N,bk:=D.nx } σ2 H2)
def zgP : zam (zfG tl) g tb D σ H=tl σ H λv H1=>∃x,v=.str x/\ForS x g tb D σ H1:=rfl
def ForS.by(Pv:Nat->St->Hp->Prop)(h0:Pv 0 σ H)(hs:∀i c σ H,l[i]? = AK c->Pv i σ H->g (.str (tx [c])) σ H λσ2 H2=>tb { D with nx:=Pv (i+1),ct:=Pv (i+1),bk:=D.nx } σ2 H2)(hd:∀σ H,Pv l.length σ H->D.nx σ H):ForS (tx l) g tb D σ H:=zde Pv h0 hs hd
def zhl(x:sB)(g:TG)(tb:TS)(D:Yj)(σ:St)(H:Hp):Prop:=∃W:Nat->Nat->St->Hp->Prop,(∃m,W 0 m σ H)/\∀i m σ H,W i m σ H ->
 ((Ite x).stop i H/\D.nx σ H)\/((Ite x).go i H/\∃N:St->Hp->Prop,(∀σ' H',N σ' H'->∃m',m'<m/\W (i+1) m' σ' H')/\∀v H',(Ite x).yld i H v H'->g v σ H' λσ2 H2=>tb { D with nx:=N,ct:=N,bk:=D.nx } σ2 H2)
def zgC : zam (zfD ta) g tb D σ H=ta σ H λvs H1=>∃x,vs=[.str x]/\zhl x g tb D σ H1:=rfl
def qw(l:List α)(h:0<=k):cut l AL (AK k)=l.take k.toNat:=by
 let#[n,rfl]:=bM h;unfold cut;rw[HT.sIx_none,HT.sIx_nat,dF,Nat.sub_zero];by_cases q:n<=l.length
 ·rw[dz q];rfl
 ·rw[dZ ⋯,aK,bn (by simp;lia)]
def wA(l:List α)(h:0<=k):cut l (AK k) AL=l.drop k.toNat:=by
 let#[n,rfl]:=bM h;unfold cut;rw[HT.sIx_none,HT.sIx_nat];by_cases q:n<=l.length
 ·rw[dz q];rw[bn (by rw[aZ] <;> lia)];rfl
 ·rw[dZ ⋯,eY,bo (by simp;lia)];simp
def j2(h0:0<=i)(h1:i<xs.length):∃v,atI xs i=AK v/\xs[i.toNat]? = AK v:=by let#[n,rfl]:=bM h0;have hn:n<xs.length:=⋯;exact#[xs[n],wz (af hn),af hn]
end in def alpha:():=[97,98,99,100,101,102,103,104,105,106,107,108,109,110,111,112,113,114,115,116,117,118,119,120,121,122]
def UJ:(("abcdefghijklmnopqrstuvwxyz" : sB))=tx alpha:=by symm
def zS:(sq:Nat)=16777216:=sK
def cxK{CX P w K mg base N q sc f cd A o s H E}:(qZ CX P w K mg base N q sc f cd A o s H E).K=K:=rfl
def cxP{CX P w K mg base N q sc f cd A o s H E}:(qZ CX P w K mg base N q sc f cd A o s H E).prog=P:=rfl
def cxW{CX P w K mg base N q sc f cd A o s H E}:(qZ CX P w K mg base N q sc f cd A o s H E).w=w:=rfl
def zeX : J4 (.int a) (.int b)=AM:=rfl
def zeB : J4 (.str a) (.str b)=AM:=rfl
def zeV : J4 (.bl a) (.bl b)=AM:=rfl
def zdR : J4 .non (.str b)=AM:=rfl
def zdV : J4 (.str b) .non=AM:=rfl
def zd(h:H p=AL):Same H (upd H p o):=λb u e=>by
 rw[zq (zM e h)];exact e
def zO{α:Type}{l:List α}{c:α}(h:l[i]? = AK c):l.take (i+1)=l.take i ++ [c]:=by rw[List.take_add_one,h];rfl
structure FunD(K:sr)(x qual:sB)(st:sI)(dV:sv)(f:su)(fd:tQ):Prop where
 ex:∃(oc:sv) (od:Option su) (kV doc pm:sv) (an:Option su) (cdv ct:sv) (osl:Array (Option sv)),
  fd=bB x qual (yQ st) (yj st) (zi st) dV kV doc pm an cdv ct/\K.lookup f=AK #[oc,od,.func fd,osl]/\bV K cdv qual=AM
def FunD.okX{K:sr}{st:sI}(F:FunD K x qual st dV f fd)(S:zm N ps (zi st))(len:∀vs H Q E,sp vs H Q E->vs.length=ps.length)(hbody:∀(cdv:sv) (A:sY) (outer:List AE) (s:sw) (H:Hp) (vs:List V) (Q:VK) (E:XK),Room k (A.deeper (tP qual (zi st) s⁻¹ f cdv))->XE (qZ (CXx P w) P w K mg base N qual (zi st) f cdv A outer s H E) E->sp vs H Q E ->
   ∃t,PSs (qZ (CXx P w) P w K mg base N qual (zi st) f cdv A outer s H E) (yj st) t/\t { nx:=λZ H'=>Q .non H',rt:=Q } (start N vs) H):FnOk P w K mg base (CXx P w) (k+1) f fd ps sp:=by let#[oc,od,kV,doc,pm,an,cdv,ct,osl,rfl,lk,hcd]:=F.ex;exact Kr lk hcd S len λA outer s H vs Q E hr hsp=>hbody cdv A outer s H vs Q E hr zdI hsp
def ui(C:su)(f:sB):Sp:=λvs H Q Z=>∃x v,vs=[.ref x,v]/\H x=AK (XN x C AL)/\∀dx,H dx=AL->Q .non (upd (upd H dx (.xd [(f,v)])) x (XN x C (AK dx)))
def zfZ(H:Hp)(d:su)(f:sB)(v:V)(H':Hp):Prop:=H d=AL/\Same H H'/\H' d=AK (.xd [(f,v)])
def Qv{E:XK}(h:∀d H',zfZ H d f v H'->E (.ref C) (AK d) H'):∀x,H x=AL->ui C f [.ref x,v] (upd H x (XN x C AL)) (λu H2=>u=.non/\∃dx,H2 x=AK (XN x C dx)/\E (.ref C) dx (del H2 x)) E0:=by
 intro x hx;refine#[x,v,rfl,zb,λdx hd=>#[rfl,AK dx,zb,h dx _ #[?_,?_,?_]]]
 ·by_cases e:dx=x
  ·rw[e];exact hx
  ·rw[zq e]at hd;exact hd
 ·have hne:dx≠x:=λe=>by rw[e,zb]at hd;cases hd
  rw[zq hne]at hd;intro b o q;have b1:b≠x:=zM q hx;have b2:b≠dx:=zM q hd;rw[Jr b1,zq b1,zq b2,zq b1];exact q
 ·have hne:dx≠x:=λe=>by rw[e,zb]at hd;cases hd
  rw[Jr hne,zq hne,zb]
def zgJ:R2:=λx y H Q=>match y with | .non=>Q (.bl (decide (x=.non))) H | _=>False
theorem op_isN':OpR X (sH .Is) zgJ:=λAO s σ H x y v u Q I rx ry h=>by
 cases y with
 | non=>exact zd7 AO s σ H x .non v u Q I rx ry #[rfl,h]
 | _=>exact h.elim
def ze7:R2:=λx y H Q=>match y with | .non=>Q (.bl (!decide (x=.non))) H | _=>False
theorem op_notN':OpR X (sH .IsNot) ze7:=λAO s σ H x y v u Q I rx ry h=>by
 cases y with
 | non=>exact zb3 AO s σ H x .non v u Q I rx ry #[rfl,h]
 | _=>exact h.elim
def KT:List V->Hp->VK->Prop:=λxs H Q=>match xs with | [.int i,.int j]=>Q (.int (if j > i then j else i)) H | _=>False
def Vj(hc:X.calm=AM):vY X (.builtin "max") KT:=λAO s σ H xs us Q I r h=>by
 unfold KT at h;split at h
 ·exact UW hc AO s σ H _ us Q I r #[_,_,rfl,h]
 ·exact h.elim
def rGe:R2:=λx y H Q=>onInt x λi=>onInt y λj=>Q (.bl (decide (j<=i))) H
def op_ge':OpR X (sH .GtE) rGe:=zgn
def uF:sV "max" = AK (.builtin "max"):=by symm
def zcf(ls l:())(m:Int)(k:Nat):Prop:=∃c,l[k]? = AK c/\(m<=k\/c ∉ ls)
def FB(ls l:())(m:Int)(k:Nat):Prop:=zcf ls l m k/\∀j<k,¬ zcf ls l m j
def NB(ls l:())(m:Int):Prop:=∀j,¬ zcf ls l m j
def FB.nb(h:FB ls l m k)(n:NB ls l m):False:=n k h.1
inductive D where
 | non | bl (b:Bool) | int (i:Int) | str (x:sB) | lst (l:List D) | tup (l:List D)
mutual
def Is(K:sr)(H:Hp):D->V->Prop
 | .non,v=>v=.non
 | .bl b,v=>v=.bl b
 | .int i,v=>v=.int i
 | .str x,v=>v=.str x
 | .lst l,v=>∃a xs,v=.ref a/\SqL K H a xs/\Iss K H l xs
 | .tup l,v=>∃a xs,v=.ref a/\SqT K H a xs/\Iss K H l xs
def Iss(K:sr)(H:Hp):List D->List V->Prop
 | [],vs=>vs=[]
 | d::l,vs=>∃v r,vs=v::r/\Is K H d v/\Iss K H l r
end
mutual
noncomputable def eqD:D->D->Bool
 | .non,e=>match e with | .non=>AM | _=>AN
 | .bl a,e=>match e with | .bl b=>a == b | .int b=>(if a then 1 else 0) == b | _=>AN
 | .int a,e=>match e with | .bl b=>a ==(if b then 1 else 0) | .int b=>a == b | _=>AN
 | .str a,e=>match e with | .str b=>a == b | _=>AN
 | .lst l,e=>match e with | .lst m=>uk l m | _=>AN
 | .tup l,e=>match e with | .tup m=>uk l m | _=>AN
noncomputable def uk:List D->List D->Bool
 | [],m=>match m with | []=>AM | _::_=>AN
 | d::l,m=>match m with | e::m=>eqD d e && uk l m | []=>AN
end
mutual
noncomputable def dpD:D->Nat
 | .lst l=>vI l+1
 | .tup l=>vI l+1
 | _=>0
noncomputable def vI:List D->Nat
 | []=>0
 | d::l=>max (dpD d) (vI l)
end
theorem K2:∀{l:List D} {j:Nat} {d:D},l[j]? = AK d->dpD d<=vI l
 | d::l,0,_,h=>by
  cases h
  erw[vI]
  lia
 | d::l,j+1,e,h=>by
  have:=K2 (l:=l) (j:=j) (d:=e) h
  erw[vI]
  lia
mutual
theorem uK:∀d:D,eqD d d=AM
 | .non=>rfl
 | .bl b=>by simp [eqD]
 | .int i=>by simp [eqD]
 | .str x=>by simp [eqD]
 | .lst l=>by erw[eqD];exact y8 l
 | .tup l=>by erw[eqD];exact y8 l
theorem y8:∀l:List D,uk l l=AM
 | []=>rfl
 | d::l=>by erw[uk,uK d,y8 l,Bool.and_self]
end
theorem Iss.len{K:sr}:∀{l:List D} {vs:List V},Iss K H l vs->vs.length=l.length
 | [],vs,h=>by erw[Iss]at h;rw[h];rfl
 | d::l,vs,h=>by
  erw[Iss]at h
  let#[v,r,rfl,_,h2]:=h
  erw[aC,Iss.len h2]
theorem Iss.at{K:sr}:∀{l:List D} {vs:List V} {j:Nat} {d:D},Iss K H l vs->l[j]? = AK d->∃v,vs[j]? = AK v/\Is K H d v
 | d::l,vs,0,_,h,q=>by
  cases q
  erw[Iss]at h
  let#[v,r,rfl,h1,_]:=h;exact#[v,rfl,h1]
 | d::l,vs,j+1,e,h,q=>by
  erw[Iss]at h
  let#[v,r,rfl,_,h2]:=h;exact Iss.at (j:=j) h2 q
theorem Iss.append{K:sr}:∀{l m:List D} {vs us:List V},Iss K H l vs->Iss K H m us->Iss K H (l ++ m) (vs ++ us)
 | [],m,vs,us,h,g=>by erw[Iss]at h;rw[h];exact g
 | d::l,m,vs,us,h,g=>by
  erw[Iss]at h
  let#[v,r,rfl,h1,h2]:=h
  erw[bu,Iss]
  exact#[v,r ++ us,rfl,h1,Iss.append h2 g]
theorem Iss.ints{K:sr}:∀(l:List Int),Iss K H (l.map D.int) (l.map V.int)
 | []=>by erw[aA,Iss]
 | i::l=>by
  erw[am,Iss,Is]
  exact#[_,_,rfl,rfl,Iss.ints l]
def zo{K:sr}(e:Same H H')(h:SqT K H a xs):SqT K H' a xs:=by
 rcases h with (h | ⟨o,h⟩) | h
 ·exact .inl (.inl (e _ _ h))
 ·exact .inl (.inr #[o,e _ _ h])
 ·exact .inr h
mutual
theorem Is.same{K:sr}{H H':Hp}(e:Same H H'):∀(d:D) (v:V),Is K H d v->Is K H' d v
 | .non,v,h=>by erw[Is]at h ⊢;exact h
 | .bl b,v,h=>by erw[Is]at h ⊢;exact h
 | .int b,v,h=>by erw[Is]at h ⊢;exact h
 | .str b,v,h=>by erw[Is]at h ⊢;exact h
 | .lst l,v,h=>by
  erw[Is]at h ⊢
  let#[a,xs,e1,e2,e3]:=h;exact#[a,xs,e1,e.seq e2,Iss.same e l xs e3]
 | .tup l,v,h=>by
  erw[Is]at h ⊢
  let#[a,xs,e1,e2,e3]:=h;exact#[a,xs,e1,zo e e2,Iss.same e l xs e3]
theorem Iss.same{K:sr}{H H':Hp}(e:Same H H'):∀(l:List D) (vs:List V),Iss K H l vs->Iss K H' l vs
 | [],vs,h=>by erw[Iss]at h ⊢;exact h
 | d::l,vs,h=>by
  erw[Iss]at h ⊢
  let#[v,r,e1,e2,e3]:=h;exact#[v,r,e1,Is.same e d v e2,Iss.same e l r e3]
end
theorem xI:∀(l m:List D),uk l m=((aJ (min l.length m.length)).all (λj=>eqD (l.getD j .non) (m.getD j .non)) && l.length == m.length)
 | [],[]=>rfl
 | [],e::m=>by simp [uk]
 | d::l,[]=>by simp [uk]
 | d::l,e::m=>by
  erw[uk,xI l m,aC]
  have h1:min (l.length+1) (m.length+1)=min l.length m.length+1:=⋯;rw[h1,dQ,eQ,eZ]
  have h2:(l.length+1 == m.length+1)=(l.length == m.length):=by
   rw[cS,beq_iff_eq,beq_iff_eq];lia
  rw[h2]
  erw[List.getD_cons_zero,Bool.and_assoc]
  rfl
section
variable{X:Cx}{AO:List (su × tN)}{σ:St}{H:Hp}{s:sw}
def YM(I:Inv X AO σ H s)(h:SqL X.K H a xs)(g:SqT X.K H a ys):False:=by let#[its,r,#[o,n,e,c,_,d],_]:=I.list h;let#[its',r',#[o',e',c',n',d'],_]:=I.tuple g;rw[e]at e';cases e';rw[c]at c';exact w4 (Value.type.inj c') ∅
mutual
theorem VH(I:Inv X AO σ H s):∀(d e:D) (v:V),Is X.K H d v->Is X.K H e v->d=e
 | .lst l,.lst m,v,h,g=>by
  erw[Is]at h g
  let#[a,xs,rfl,h1,h2]:=h;let#[b,ys,e,g1,g2]:=g;cases e;have:=I.list_inj h1 g1;subst this;rw[Wr I l m xs h2 g2]
 | .tup l,.tup m,v,h,g=>by
  erw[Is]at h g
  let#[a,xs,rfl,h1,h2]:=h;let#[b,ys,e,g1,g2]:=g;cases e;have:=I.tuple_inj h1 g1;subst this;rw[Wr I l m xs h2 g2]
 | .lst l,.tup m,v,h,g=>by
  erw[Is]at h g
  let#[a,xs,rfl,h1,h2]:=h;let#[b,ys,e,g1,g2]:=g;cases e;exact (YM I h1 g1).elim
 | .tup l,.lst m,v,h,g=>by
  erw[Is]at h g
  let#[a,xs,rfl,h1,h2]:=h;let#[b,ys,e,g1,g2]:=g;cases e;exact (YM I g1 h1).elim
 | .lst l,.non,v,h,g=>by erw[Is]at h g;let#[a,xs,rfl,_]:=h;cases g
 | .lst l,.bl _,v,h,g=>by erw[Is]at h g;let#[a,xs,rfl,_]:=h;cases g
 | .lst l,.int _,v,h,g=>by erw[Is]at h g;let#[a,xs,rfl,_]:=h;cases g
 | .lst l,.str _,v,h,g=>by erw[Is]at h g;let#[a,xs,rfl,_]:=h;cases g
 | .tup l,.non,v,h,g=>by erw[Is]at h g;let#[a,xs,rfl,_]:=h;cases g
 | .tup l,.bl _,v,h,g=>by erw[Is]at h g;let#[a,xs,rfl,_]:=h;cases g
 | .tup l,.int _,v,h,g=>by erw[Is]at h g;let#[a,xs,rfl,_]:=h;cases g
 | .tup l,.str _,v,h,g=>by erw[Is]at h g;let#[a,xs,rfl,_]:=h;cases g
 | .non,e,v,h,g=>by
  erw[Is]at h
  subst h;cases e <;> erw[Is]at g
  all_goals first | rfl | (let#[a,xs,q,_]:=g;cases q) | cases g
 | .bl _,e,v,h,g=>by
  erw[Is]at h
  subst h;cases e <;> erw[Is]at g
  all_goals first | (cases g;rfl) | (let#[a,xs,q,_]:=g;cases q) | cases g
 | .int _,e,v,h,g=>by
  erw[Is]at h
  subst h;cases e <;> erw[Is]at g
  all_goals first | (cases g;rfl) | (let#[a,xs,q,_]:=g;cases q) | cases g
 | .str _,e,v,h,g=>by
  erw[Is]at h
  subst h;cases e <;> erw[Is]at g
  all_goals first | (cases g;rfl) | (let#[a,xs,q,_]:=g;cases q) | cases g
theorem Wr(I:Inv X AO σ H s):∀(l m:List D) (vs:List V),Iss X.K H l vs->Iss X.K H m vs->l=m
 | [],[],_,_,_=>rfl
 | [],e::m,vs,h,g=>by
  erw[Iss]at h g
  subst h;let#[_,_,q,_]:=g;cases q
 | d::l,[],vs,h,g=>by
  erw[Iss]at h g
  subst g;let#[_,_,q,_]:=h;cases q
 | d::l,e::m,vs,h,g=>by
  erw[Iss]at h g
  let#[v,r,rfl,h1,h2]:=h;let#[v',r',q,g1,g2]:=g;cases q;rw[VH I d e v h1 g1,Wr I l m r h2 g2]
end
theorem xN:∀{xs:List V} {us:List sv} {j:Nat} {x:V},Vals xs us->xs[j]? = AK x->∃u,us[j]? = AK u/\RelV x u
 | _,_,0,_,.cons r t,h=>by cases h;exact#[_,rfl,r]
 | _,_,j+1,_,.cons r t,h=>xN (j:=j) t h
theorem xC(hl:Iss X.K H l xs)(hm:Iss X.K H m ys)(r:Vals xs its)(r':Vals ys its')(hn:vI l<n)(ih:∀(d e:D) (x y:V) (u v:sv),dpD d<n->Is X.K H d x->Is X.K H e y->RelV x u->RelV y v->SeqAt.EqAt A s u v (eqD d e)) :
  ∀j (h1:j<its.toArray.size) (h2:j<its'.toArray.size),SeqAt.EqAt A s its.toArray[j] its'.toArray[j] (eqD (l.getD j .non) (m.getD j .non)):=by
 intro j h1 h2;rw[aj]at h1 h2;have e1:=hl.len;have e2:=hm.len;have e3:=r.length;have e4:=r'.length;have g1:l[j]? = AK l[j]:=af ⋯;have g2:m[j]? = AK m[j]:=af ⋯;generalize l[j]=d at g1;generalize m[j]=e at g2;let#[x,hx,ix]:=hl.at g1;let#[y,hy,iy]:=hm.at g2;let#[u,hu,ru]:=xN r hx;let#[v,hv,rv]:=xN r' hy
 have q1:its.toArray[j]=u:=by
  have:=(AS.mp hu).2;simpa using this
 have q2:its'.toArray[j]=v:=by
  have:=(AS.mp hv).2;simpa using this
 rw[q1,q2,ae,ae,g1,g2];exact ih d e x y u v (bT (K2 g1) hn) ix iy ru rv
theorem qm(I:Inv X AO σ H s):∀(n:Nat) (A:sY) (d e:D) (x y:V) (u v:sv),A.units+n<cLine->dpD d<n->Is X.K H d x->Is X.K H e y->RelV x u->RelV y v->SeqAt.EqAt A s u v (eqD d e):=by
 intro n
 induction n with
 | zero=>intro A d e x y u v _ h;exact w4 h (bI _)
 | succ n ih =>
  intro A d e x y u v hu hd hx hy rx ry;have hu1:A.units<cLine:=⋯;have huA:A.in1.units+n<cLine:=by show A.units+1+n<cLine;lia
  cases d with
  | lst l =>
   erw[Is]at hx
   let#[a,xs,rfl,h1,h2]:=hx;cases rx;let#[its,r,p,_]:=I.list h1
   cases e with
   | non=>erw[Is]at hy;subst hy;cases ry;exact SeqAt.EqAt.list_none p.isList hu1
   | bl b=>erw[Is]at hy;subst hy;cases ry;exact SeqAt.EqAt.list_bool b p.isList hu1
   | int b=>erw[Is]at hy;subst hy;let#[t,rfl]:=ry;exact SeqAt.EqAt.list_int b t p.isList hu1
   | str b=>erw[Is]at hy;subst hy;let#[t,rfl]:=ry;exact SeqAt.EqAt.list_str b t p.isList hu1
   | tup m =>
    erw[Is]at hy
    let#[b,ys,rfl,g1,g2]:=hy;cases ry;let#[its',r',p',_]:=I.tuple g1;exact SeqAt.EqAt.list_tuple p.isList p' hu1
   | lst m =>
    have hy':=hy
    erw[Is]at hy
    let#[b,ys,rfl,g1,g2]:=hy;cases ry;let#[its',r',p',_]:=I.list g1
    erw[dpD]at hd
    by_cases hab:a=b
    ·subst hab;have:=VH I (.lst l) (.lst m) (.ref a) (by erw[Is];exact#[a,xs,rfl,h1,h2]) hy';rw[this,uK];exact SeqAt.EqAt.same _
    ·refine .of_refs hab ?_
     erw[eqD]
     have L1:=h2.len;have L2:=g2.len;have L3:=r.length;have L4:=r'.length;by_cases hl:l.length=m.length
     ·have:=SeqAt.RcAt.lists (A:=A) p.isList p'.isList (by erw[aj];lia) hu1 (xC h2 g2 r r' (n:=n) ⋯ λd e x y u v q1 q2 q3 q4 q5=>ih A.in1 d e x y u v huA q1 q2 q3 q4 q5);rw[xI,hl,e7,beq_self_eq_true,ge];have e1:its.toArray.size=m.length:=by erw[aj];lia
      rw[e1]at this;exact this
     ·rw[xI,beq_eq_false_iff_ne.mpr hl,dD];exact SeqAt.RcAt.lists_lengths p.isList p'.isList (by rw[bne_iff_ne];erw[aj];lia) hu1
  | tup l =>
   erw[Is]at hx
   let#[a,xs,rfl,h1,h2]:=hx;cases rx;let#[its,r,p,_]:=I.tuple h1
   cases e with
   | non=>erw[Is]at hy;subst hy;cases ry;exact SeqAt.EqAt.tuple_none p hu1
   | bl b=>erw[Is]at hy;subst hy;cases ry;exact SeqAt.EqAt.tuple_bool b p hu1
   | int b=>erw[Is]at hy;subst hy;let#[t,rfl]:=ry;exact SeqAt.EqAt.tuple_int b t p hu1
   | str b=>erw[Is]at hy;subst hy;let#[t,rfl]:=ry;exact SeqAt.EqAt.tuple_str b t p hu1
   | lst m =>
    erw[Is]at hy
    let#[b,ys,rfl,g1,g2]:=hy;cases ry;let#[its',r',p',_]:=I.list g1;exact SeqAt.EqAt.tuple_list p p'.isList hu1
   | tup m =>
    have hy':=hy
    erw[Is]at hy
    let#[b,ys,rfl,g1,g2]:=hy;cases ry;let#[its',r',p',_]:=I.tuple g1
    erw[dpD]at hd
    by_cases hab:a=b
    ·subst hab;have:=VH I (.tup l) (.tup m) (.ref a) (by erw[Is];exact#[a,xs,rfl,h1,h2]) hy';rw[this,uK];exact SeqAt.EqAt.same _
    ·refine .of_refs hab ?_
     erw[eqD]
     have L1:=h2.len;have L2:=g2.len;have L3:=r.length;have L4:=r'.length;have:=SeqAt.RcAt.tuples (A:=A) p p' hu1 (xC h2 g2 r r' (n:=n) ⋯ λd e x y u v q1 q2 q3 q4 q5=>ih A.in1 d e x y u v huA q1 q2 q3 q4 q5);rw[xI]
     erw[aj]at this
     rw[<- L1,<- L2,L3,L4];exact this
  | non =>
   erw[Is]at hx
   subst hx
   cases e with
   | lst m =>
    erw[Is]at hy
    let#[b,ys,rfl,g1,g2]:=hy;cases rx;cases ry;let#[its',r',p',_]:=I.list g1;exact SeqAt.EqAt.none_list p'.isList hu1
   | tup m =>
    erw[Is]at hy
    let#[b,ys,rfl,g1,g2]:=hy;cases rx;cases ry;let#[its',r',p',_]:=I.tuple g1;exact SeqAt.EqAt.none_tuple p' hu1
   | _=>erw[Is]at hy;subst hy;exact WH rx ry rfl rfl
  | bl c =>
   erw[Is]at hx
   subst hx
   cases e with
   | lst m =>
    erw[Is]at hy
    let#[b,ys,rfl,g1,g2]:=hy;cases rx;cases ry;let#[its',r',p',_]:=I.list g1;exact SeqAt.EqAt.bool_list _ p'.isList hu1
   | tup m =>
    erw[Is]at hy
    let#[b,ys,rfl,g1,g2]:=hy;cases rx;cases ry;let#[its',r',p',_]:=I.tuple g1;exact SeqAt.EqAt.bool_tuple _ p' hu1
   | _=>erw[Is]at hy;subst hy;exact WH rx ry rfl rfl
  | int c =>
   erw[Is]at hx
   subst hx
   cases e with
   | lst m =>
    erw[Is]at hy
    let#[b,ys,rfl,g1,g2]:=hy;let#[t,rfl]:=rx;cases ry;let#[its',r',p',_]:=I.list g1;exact SeqAt.EqAt.int_list _ _ p'.isList hu1
   | tup m =>
    erw[Is]at hy
    let#[b,ys,rfl,g1,g2]:=hy;let#[t,rfl]:=rx;cases ry;let#[its',r',p',_]:=I.tuple g1;exact SeqAt.EqAt.int_tuple _ _ p' hu1
   | _=>erw[Is]at hy;subst hy;exact WH rx ry rfl rfl
  | str c =>
   erw[Is]at hx
   subst hx
   cases e with
   | lst m =>
    erw[Is]at hy
    let#[b,ys,rfl,g1,g2]:=hy;let#[t,rfl]:=rx;cases ry;let#[its',r',p',_]:=I.list g1;exact SeqAt.EqAt.str_list _ _ p'.isList hu1
   | tup m =>
    erw[Is]at hy
    let#[b,ys,rfl,g1,g2]:=hy;let#[t,rfl]:=rx;cases ry;let#[its',r',p',_]:=I.tuple g1;exact SeqAt.EqAt.str_tuple _ _ p' hu1
   | _=>erw[Is]at hy;subst hy;exact WH rx ry rfl rfl
def zg0(K:sr):R2:=λx y H Q=>∃l m,((Is K H (.lst l) x/\Is K H (.lst m) y)\/(Is K H (.tup l) x/\Is K H (.tup m) y))/\vI l<50/\Q (.bl (uk l m)) H
def zgL(K:sr):R2:=λx y H Q=>∃l m,((Is K H (.lst l) x/\Is K H (.lst m) y)\/(Is K H (.tup l) x/\Is K H (.tup m) y))/\vI l<50/\Q (.bl (!uk l m)) H
theorem Vr(hu:X.A.units+100<cLine):OpR X (sH .Eq) (zg0 X.K):=by
 intros x y v u Q I rx ry h;let#[l,m,hh,hd,q]:=h;have hu1:X.A.units<cLine:=⋯;have huA:X.A.in1.units+50<cLine:=by show X.A.units+1+50<cLine;lia
 rcases hh with ⟨hx,hy⟩ | ⟨hx,hy⟩
 ·erw[Is]at hx hy
  let#[a,xs,rfl,h1,h2]:=hx;let#[b,ys,rfl,g1,g2]:=hy;cases rx;cases ry;let#[its,r,p,_]:=I.list h1;let#[its',r',p',_]:=I.list g1;have L1:=h2.len;have L2:=g2.len;have L3:=r.length;have L4:=r'.length;by_cases hl:l.length=m.length
  ·have:=SeqAt.RcAt.lists (A:=X.A) p.isList p'.isList (by erw[aj];lia) hu1 (xC h2 g2 r r' (n:=50) hd λd e x y u v q1 q2 q3 q4 q5=>qm I 50 X.A.in1 d e x y u v huA q1 q2 q3 q4 q5);have e1:its.toArray.size=m.length:=by erw[aj];lia
   rw[e1]at this;rw[xI,hl,e7,beq_self_eq_true,ge]at q;exact this X.prog X.w X.xe _ #[.bl _,H,I,rfl,q]
  ·rw[xI,beq_eq_false_iff_ne.mpr hl,dD]at q;exact SeqAt.RcAt.lists_lengths p.isList p'.isList (by rw[bne_iff_ne];erw[aj];lia) hu1 X.prog X.w X.xe _ #[.bl _,H,I,rfl,q]
 ·erw[Is]at hx hy
  let#[a,xs,rfl,h1,h2]:=hx;let#[b,ys,rfl,g1,g2]:=hy;cases rx;cases ry;let#[its,r,p,_]:=I.tuple h1;let#[its',r',p',_]:=I.tuple g1;have L1:=h2.len;have L2:=g2.len;have L3:=r.length;have L4:=r'.length;have:=SeqAt.RcAt.tuples (A:=X.A) p p' hu1 (xC h2 g2 r r' (n:=50) hd λd e x y u v q1 q2 q3 q4 q5=>qm I 50 X.A.in1 d e x y u v huA q1 q2 q3 q4 q5)
  erw[aj]at this
  rw[xI,<- L1,<- L2,L3,L4]at q;exact this X.prog X.w X.xe _ #[.bl _,H,I,rfl,q]
theorem zaT(hu:X.A.units+100<cLine):OpR X (sH .NotEq) (zgL X.K):=by
 intros x y v u Q I rx ry h;let#[l,m,hh,hd,q]:=h;have hu1:X.A.units<cLine:=⋯;have huA:X.A.in1.units+50<cLine:=by show X.A.units+1+50<cLine;lia
 rcases hh with ⟨hx,hy⟩ | ⟨hx,hy⟩
 ·erw[Is]at hx hy
  let#[a,xs,rfl,h1,h2]:=hx;let#[b,ys,rfl,g1,g2]:=hy;cases rx;cases ry;let#[its,r,p,_]:=I.list h1;let#[its',r',p',_]:=I.list g1;have L1:=h2.len;have L2:=g2.len;have L3:=r.length;have L4:=r'.length;by_cases hl:l.length=m.length
  ·have:=SeqAt.RcNeAt.lists (A:=X.A) p.isList p'.isList (by erw[aj];lia) hu1 (xC h2 g2 r r' (n:=50) hd λd e x y u v q1 q2 q3 q4 q5=>qm I 50 X.A.in1 d e x y u v huA q1 q2 q3 q4 q5);have e1:its.toArray.size=m.length:=by erw[aj];lia
   rw[e1]at this;rw[xI,hl,e7,beq_self_eq_true,ge]at q;exact this X.prog X.w X.xe _ #[.bl _,H,I,rfl,q]
  ·rw[xI,beq_eq_false_iff_ne.mpr hl,dD]at q;exact SeqAt.RcNeAt.lists_lengths p.isList p'.isList (by rw[bne_iff_ne];erw[aj];lia) hu1 X.prog X.w X.xe _ #[.bl _,H,I,rfl,q]
 ·erw[Is]at hx hy
  let#[a,xs,rfl,h1,h2]:=hx;let#[b,ys,rfl,g1,g2]:=hy;cases rx;cases ry;let#[its,r,p,_]:=I.tuple h1;let#[its',r',p',_]:=I.tuple g1;have L1:=h2.len;have L2:=g2.len;have L3:=r.length;have L4:=r'.length;have:=SeqAt.RcNeAt.tuples (A:=X.A) p p' hu1 (xC h2 g2 r r' (n:=50) hd λd e x y u v q1 q2 q3 q4 q5=>qm I 50 X.A.in1 d e x y u v huA q1 q2 q3 q4 q5)
  erw[aj]at this
  rw[xI,<- L1,<- L2,L3,L4]at q;exact this X.prog X.w X.xe _ #[.bl _,H,I,rfl,q]
end
theorem j9(l m:List Int):uk (l.map D.int) (m.map D.int)=decide (l=m):=by
 induction l generalizing m with
 | nil=>cases m <;> simp [uk]
 | cons a l ih =>
  cases m with
  | nil=>simp [uk]
  | cons b m =>
   erw[am,uk,eqD,ih m]
   by_cases h1:a=b
   ·subst h1;by_cases h2:l=m
    ·simp [h2]
    ·simp [h2]
   ·simp [h1]
theorem ql(l:List Int):vI (l.map D.int)=0:=by
 induction l with
 | nil=>rfl
 | cons a l ih=>erw[am,vI,dpD,ih];rfl
abbrev CNx(n i:Nat)(Pv:Nat->List V->Hp->Prop)(AR:List V)(H:Hp):Prop:=∃m',m'<n - i/\(m'=n - (i+1)/\i+1<=n/\Pv (i+1) AR H)
def CNx.mk(hi:i<n)(h:Pv (i+1) AR H):CNx n i Pv AR H:=#[n - (i+1),⋯,rfl,hi,h]
def XF(J:It)(g:TG)(tt:TT)(te:TE)(own:Nat)(ix:())(σ:St)(H1:Hp)(Q:VK)(D:su):Prop:=∃W:Nat->Nat->List V->Hp->Prop,(∃m,W 0 m [] (upd H1 D (.lst []))) /\
 ∀i m AR H',W i m AR H'->(J.stop i H'/\Q (.ref D) H')\/(J.go i H'/\∀x H2,J.yld i H' x H2->g x (uf σ own ix) H2 λσ3 H3=>xu (uf σ own ix) σ3/\tt σ3 H3 λb H4=>if b=AM then
  te σ3 H4 λv H5=>H5 D=AK (.lst AR)/\AR.length<sq/\∃m',m'<m/\W (i+1) m' (AR ++ [v]) (upd H5 D (.lst (AR ++ [v])))
  else ∃m',m'<m/\W (i+1) m' AR H4)
def CompR(lo:Int)(n:Nat)(g:TG)(tt:TT)(te:TE)(own:Nat)(ix:())(σ:St)(H1:Hp)(Q:VK)(D:su):Prop:=XF (Itr lo n) g tt te own ix σ H1 Q D
def CompL(K:sr)(a:su)(g:TG)(tt:TT)(te:TE)(own:Nat)(ix:())(σ:St)(H1:Hp)(Q:VK)(D:su):Prop:=XF (Itl K a) g tt te own ix σ H1 Q D
def CompS(x:sB)(g:TG)(tt:TT)(te:TE)(own:Nat)(ix:())(σ:St)(H1:Hp)(Q:VK)(D:su):Prop:=XF (Its x) g tt te own ix σ H1 Q D
def zbx : kG (zcr ta) g tt te own ix σ H Q=ta σ H λvs H1=>∃j:Int,vs=[.int j]/\-(2 ^ 62)<=j/\j<2 ^ 62/\∀D,H1 D=AL->CompR 0 j.toNat g tt te own ix σ H1 Q D:=rfl
def zeM{K:sr}:kG (zcj K tl) g tt te own ix σ H Q=tl σ H λx H1=>∃a,x=.ref a/\(∃xs,SqL K H1 a xs)/\∀D,H1 D=AL->CompL K a g tt te own ix σ H1 Q D:=rfl
def zdL : kG (zfG tl) g tt te own ix σ H Q=tl σ H λv H1=>∃x,v=.str x/\∀D,H1 D=AL->CompS x g tt te own ix σ H1 Q D:=rfl
section
variable{g:TG}{tt:TT}{te:TE}{own:Nat}{ix:()}{σ:St}{H1:Hp}{Q:VK}{D:su}
theorem CompR.by{lo:Int}(Pv:Nat->List V->Hp->Prop)(h0:Pv 0 [] (upd H1 D (.lst [])))(hs:∀i AR H',i<n->Pv i AR H'->g (.int (lo+i)) (uf σ own ix) H' λσ3 H3=>xu (uf σ own ix) σ3/\tt σ3 H3 λb H4=>if b=AM then
   te σ3 H4 λv H5=>H5 D=AK (.lst AR)/\AR.length<sq/\CNx n i Pv (AR ++ [v]) (upd H5 D (.lst (AR ++ [v])))else CNx n i Pv AR H4) (hd:∀AR H',Pv n AR H'->Q (.ref D) H'):CompR lo n g tt te own ix σ H1 Q D:=by
 refine#[λi m AR H=>m=n - i/\i<=n/\Pv i AR H,#[n,by simp,aD _,h0],?_];rintro i m AR H' ⟨rfl,hi,p⟩;by_cases hlt:i<n
 ·refine .inr #[hlt,λx H2 y=>?_];let#[e,y]:=y;subst e y;exact hs i AR _ hlt p
 ·have e:i=n:=⋯;subst e;exact .inl #[ao _,hd AR H' p]
theorem CompL.by{K:sr}(Pv:Nat->List V->Hp->Prop)(h0:Pv 0 [] (upd H1 D (.lst [])))(hl:∀i AR H',i<=xs.length->Pv i AR H'->SqL K H' a xs)(hs:∀i x AR H',xs[i]? = AK x->Pv i AR H'->g x (uf σ own ix) H' λσ3 H3=>xu (uf σ own ix) σ3/\tt σ3 H3 λb H4=>if b=AM then
   te σ3 H4 λv H5=>H5 D=AK (.lst AR)/\AR.length<sq/\CNx xs.length i Pv (AR ++ [v]) (upd H5 D (.lst (AR ++ [v])))else CNx xs.length i Pv AR H4) (hd:∀AR H',Pv xs.length AR H'->Q (.ref D) H'):CompL K a g tt te own ix σ H1 Q D:=by
 refine#[λi m AR H=>m=xs.length - i/\i<=xs.length/\Pv i AR H,#[xs.length,by simp,aD _,h0],?_];rintro i m AR H' ⟨rfl,hi,p⟩;have q:=hl i AR H' hi p;by_cases hlt:i<xs.length
 ·refine .inr #[#[xs,xs[i],q,by simp [hlt]],λx H2 y=>?_];let#[e,y]:=y;subst e;exact hs i x AR _ (y xs q) p
 ·have e:i=xs.length:=⋯;subst e;exact .inl #[#[xs,q,ao _],hd AR H' p]
theorem CompS.by(Pv:Nat->List V->Hp->Prop)(h0:Pv 0 [] (upd H1 D (.lst [])))(hs:∀i c AR H',l[i]? = AK c->Pv i AR H'->g (.str (tx [c])) (uf σ own ix) H' λσ3 H3=>xu (uf σ own ix) σ3/\tt σ3 H3 λb H4=>if b=AM then
   te σ3 H4 λv H5=>H5 D=AK (.lst AR)/\AR.length<sq/\CNx l.length i Pv (AR ++ [v]) (upd H5 D (.lst (AR ++ [v])))else CNx l.length i Pv AR H4) (hd:∀AR H',Pv l.length AR H'->Q (.ref D) H'):CompS (tx l) g tt te own ix σ H1 Q D:=by
 refine#[λi m AR H=>m=l.length - i/\i<=l.length/\Pv i AR H,#[l.length,by simp,aD _,h0],?_];rintro i m AR H' ⟨rfl,hi,p⟩;by_cases hlt:i<l.length
 ·refine .inr #[hlt,λv H2 y=>?_];let#[e,c,hc,ev]:=y;subst e ev;exact hs i c AR _ hc p
 ·have e:i=l.length:=⋯;subst e;exact .inl #[rfl,hd AR H' p]
end
theorem yq : xu (AL::r) (AK x::r):=#[rfl,λi v h=>by
 cases i with
 | zero=>cases h
 | succ i=>exact h]
def zH(h1:scope.kind=.function)(h2:scope.names.all (λy=>y.2 != .cell)=AM)(h3:scope.names.all (λy=>y.2 != .local || scope.names.lookup y.1 == AK .local)=AM)(h4:scope.names.all (λy=>y.2 != .free || sc.names.lookup y.1 == AK .cell)=AM)(hsc:X.env.scope=sc)(h5:own.all (λy=>scope.names.lookup y == AK .local)=AM)(h6:caps.all (λy=>scope.names.lookup y == AK .free)=AM)(h7:ix.map (λi=>X.N[i]?)=caps.map AK):kR X scope own caps ix:=by
 refine#[h1,λy hy=>?_,λy hy e=>?_,λy hy=>?_,λy hy=>?_,λy hy=>?_,h7]
 ·have:=AX.mp h2 y hy;simpa using this
 ·have:=AX.mp h3 y hy;rw[e]at this;simpa using this
 ·have:=AX.mp h4 _ hy;have:=by simpa using this
  refine .inl ?_;show X.env.scope.names.lookup y=AK .cell;rw[hsc];exact this
 ·have:=AX.mp h5 y hy;simpa using this
 ·have:=AX.mp h6 y hy;simpa using this
def XS(l:List α){a b:Int}(h0:0<=a)(h1:a<=b)(h2:b<=l.length):cut l (AK a) (AK b)=(l.drop a.toNat).take (b - a).toNat:=by let#[m,rfl]:=bM h0;let#[n,rfl]:=bM (by lia:0<=b);unfold cut;rw[HT.sIx_nat,HT.sIx_nat,dz ⋯,dz ⋯];have:((n:Int) - (m:Int)).toNat=n - m:=⋯;rw[this];rfl
def wm(r:Room k A):A.units+100<cLine:=by have:=r.un;lia
def Z4{K:sr}(h:(Is K H (.lst l) x/\Is K H (.lst m) y)\/(Is K H (.tup l) x/\Is K H (.tup m) y))(hd:vI l<50)(q:Q (.bl (uk l m)) H):zg0 K x y H Q:=#[l,m,h,hd,q]
def U0{K:sr}(h:(Is K H (.lst l) x/\Is K H (.lst m) y)\/(Is K H (.tup l) x/\Is K H (.tup m) y))(hd:vI l<50)(q:Q (.bl (!uk l m)) H):zgL K x y H Q:=#[l,m,h,hd,q]
def zfm(t u:TS):TS:=λD σ H=>∃R:St->Hp->Prop,t { D with nx:=R } σ H/\∀σ' H',R σ' H'->u D σ' H'
theorem zh{st:sI}{rest:List sI}(h1:PS X st t)(h2:PSs X rest u):PSs X (st::rest) (zfm t u):=by
 intros D I h;let#[R,h,hr]:=h;refine tL (thn (h1 AO s σ H { D with nx:=R } I h) λf s1 q=>?_)
 cases f with
 | next =>
  let#[σ',H',I',q]:=q;exact h2 AO s1 σ' H' D I' (hr _ _ q)
 | ret v=>exact q
 | brk=>exact q
 | cont=>exact q
def jz{D:Yj}(R:St->Hp->Prop)(h:t { D with nx:=R } σ H)(hr:∀σ' H',R σ' H'->u D σ' H'):zfm t u D σ H:=#[R,h,hr]
def zj{D:Yj}(R:St->Hp->Prop)(h:t { D with nx:=R } σ H)(hr:∀G:St->Hp->Prop,G=u D->∀σ' H',R σ' H'->G σ' H'):zfm t u D σ H:=#[R,h,hr _ rfl]
def nm4{α β γ δ:Type}{P R:α->β->γ->δ->Prop}{B:α->β->γ->δ->Prop}(h:∀G:α->β->γ->δ->Prop,G=B->∀a b c d,P a b c d->R a b c d->G a b c d):∀a b c d,P a b c d->R a b c d->B a b c d:=h _ rfl
def nm3{α β γ:Type}{P R:α->β->γ->Prop}{B:α->β->γ->Prop}(h:∀G:α->β->γ->Prop,G=B->∀a b c,P a b c->R a b c->G a b c):∀a b c,P a b c->R a b c->B a b c:=h _ rfl
def zu(h:Same H H')(e:H a=AL):Same H (upd H' a o):=λb u q=>by
 rw[zq (zM q e)];exact h b u q
def ForL.by{K:sr}{D:Yj}(Pv:Nat->St->Hp->Prop)(h0:Pv 0 σ H)(hl:∀i σ H,i<=xs.length->Pv i σ H->SqL K H a xs)(hs:∀i x σ H,xs[i]? = AK x->Pv i σ H->g x σ H λσ2 H2=>tb { D with nx:=Pv (i+1),ct:=Pv (i+1),bk:=D.nx } σ2 H2)(hd:∀σ H,Pv xs.length σ H->D.nx σ H):ForL K a g tb D σ H:=Ku Pv h0 hl hs hd
def Yi{A B:Prop}(h:B):if AM=AN then A else B:=by rw[w9 ∅];exact h
def CompV(K:sr)(a:su)(n:Nat)(g:TG)(tt:TT)(te:TE)(own:Nat)(ix:())(σ:L2.St)(H1:Hp)(Q:VK)(D:su):Prop:=XF (Irv K a n) g tt te own ix σ H1 Q D
def zew{K:sr}:kG (zgY K ta) g tt te own ix σ H Q=ta σ H λvs H1=>∃a xs,vs=[.ref a]/\SqL K H1 a xs/\∀D,H1 D=AL->CompV K a xs.length g tt te own ix σ H1 Q D:=rfl
def CompV.by{K:sr}{D:su}(Pv:Nat->List V->Hp->Prop)(h0:Pv 0 [] (upd H1 D (.lst [])))(hl:∀i AR H',i<=xs.length->Pv i AR H'->SqL K H' a xs)(hs:∀i x AR H',xs.reverse[i]? = AK x->Pv i AR H'->g x (uf σ own ix) H' λσ3 H3=>xu (uf σ own ix) σ3/\tt σ3 H3 λb H4=>if b=AM then
   te σ3 H4 λv H5=>H5 D=AK (.lst AR)/\AR.length<sq/\CNx xs.length i Pv (AR ++ [v]) (upd H5 D (.lst (AR ++ [v])))else CNx xs.length i Pv AR H4) (hd:∀AR H',Pv xs.length AR H'->Q (.ref D) H'):CompV K a xs.length g tt te own ix σ H1 Q D:=by
 refine#[λi m AR H=>m=xs.length - i/\i<=xs.length/\Pv i AR H,#[xs.length,by simp,aD _,h0],?_];rintro i m AR H' ⟨rfl,hi,p⟩;have q:=hl i AR H' hi p;by_cases hlt:i<xs.length
 ·refine .inr #[#[xs,q,rfl,hlt],λx H2 y=>?_];let#[e,y]:=y;subst e;refine hs i x AR _ ?_ p;rw[bq hlt];exact y xs q rfl
 ·have e:i=xs.length:=⋯;subst e;exact .inl #[rfl,hd AR H' p]
def zfA : zW 0 (AK v::σ) H Q=Q v H:=rfl
def zfK : zW 1 (a0::AK v::σ) H Q=Q v H:=rfl
def zfx : zW 2 (a0::a1::AK v::σ) H Q=Q v H:=rfl
def zfv : zW 3 (a0::a1::a2::AK v::σ) H Q=Q v H:=rfl
def zfJ : zW 4 (a0::a1::a2::a3::AK v::σ) H Q=Q v H:=rfl
def zgl : zW 5 (a0::a1::a2::a3::a4::AK v::σ) H Q=Q v H:=rfl
def zfM : zW 6 (a0::a1::a2::a3::a4::a5::AK v::σ) H Q=Q v H:=rfl
def zf8 : zW 7 (a0::a1::a2::a3::a4::a5::a6::AK v::σ) H Q=Q v H:=rfl
def zf5 : zW 8 (a0::a1::a2::a3::a4::a5::a6::a7::AK v::σ) H Q=Q v H:=rfl
def zfq : zW 9 (a0::a1::a2::a3::a4::a5::a6::a7::a8::AK v::σ) H Q=Q v H:=rfl
def zcT : zW 10 (a0::a1::a2::a3::a4::a5::a6::a7::a8::a9::AK v::σ) H Q=Q v H:=rfl
def zcD : zW 11 (a0::a1::a2::a3::a4::a5::a6::a7::a8::a9::a10::AK v::σ) H Q=Q v H:=rfl
def zbV : zW 12 (a0::a1::a2::a3::a4::a5::a6::a7::a8::a9::a10::a11::AK v::σ) H Q=Q v H:=rfl
def zc7 : zW 13 (a0::a1::a2::a3::a4::a5::a6::a7::a8::a9::a10::a11::a12::AK v::σ) H Q=Q v H:=rfl
def zdU{p:Bool->Prop}:(∃k,V.bl b=V.bl k/\p k)=p b:=propext #[λ⟨_,h,q⟩=>by cases h;exact q,λq=>#[_,rfl,q]]
def za0{p:Int->Prop}:(∃k,V.int b=V.int k/\p k)=p b:=propext #[λ⟨_,h,q⟩=>by cases h;exact q,λq=>#[_,rfl,q]]
def za4{p:sB->Prop}:(∃k,V.str b=V.str k/\p k)=p b:=propext #[λ⟨_,h,q⟩=>by cases h;exact q,λq=>#[_,rfl,q]]
def zaS{p:su->Prop}:(∃k,V.ref b=V.ref k/\p k)=p b:=propext #[λ⟨_,h,q⟩=>by cases h;exact q,λq=>#[_,rfl,q]]
def zfE : onInt (.int i) p=p i:=rfl
def zfF : onStr (.str i) p=p i:=rfl
def zfU : onBl (.bl i) p=p i:=rfl
def zfp : onRef (.ref i) p=p i:=rfl
def zf7{K:sr}:zgc K (.bl b) H p=p b:=rfl
def zbj : onInt x p=∃k,x=.int k/\p k:=propext #[onInt.of,onInt.to]
def zba : onStr x p=∃k,x=.str k/\p k:=propext #[onStr.of,onStr.to]
def za7 : onBl x p=∃k,x=.bl k/\p k:=propext #[onBl.of,onBl.to]
def zbi : onRef x p=∃k,x=.ref k/\p k:=propext #[onRef.of,onRef.to]
def QJ : zW i σ H Q=∃v,σ[i]? = AK (AK v)/\Q v H:=propext #[onSl.of,λ⟨v,h,q⟩=>by erw[zW,onSl,h];exact q]
def zcg : rEq (.int a) (.int b) H Q=Q (.bl (decide (a=b))) H:=rfl
def zcx : rEq (.str a) (.str b) H Q=Q (.bl (decide (a=b))) H:=rfl
def zb5 : rNe (.int a) (.int b) H Q=Q (.bl (!decide (a=b))) H:=rfl
def zcB : rNe (.str a) (.str b) H Q=Q (.bl (!decide (a=b))) H:=rfl
def zbP : ZI (.int a) y H Q=onInt y λj=>Q (.int (a+j)) H:=rfl
def zcp : ZI (.str a) y H Q=onStr y λj=>a.length+j.length<=sq/\Q (.str (a ++ j)) H:=rfl
def zdb : ZI (.ref a) y H Q=zdj (.ref a) y H Q:=rfl
def zdh : zcI (.int a) y H Q=onInt y λj=>CMul a j/\Q (.int (a * j)) H:=rfl
def zbF : zcI (.str z) y H Q=onInt y λn=>0<=n/\n<=1000/\z.length<=1000/\Q (.str (tx (aM n.toNat (cs z)).flatten)) H:=rfl
def zfO : zfg (.int a) y H Q=onInt y λj=>Q (.bl (decide (a<j))) H:=rfl
def zgq : zfg (.str a) y H Q=onStr y λj=>Q (.bl (decide (cs a<cs j))) H:=rfl
def zgi : zfd (.int a) y H Q=onInt y λj=>Q (.bl (decide (a<=j))) H:=rfl
def zfI : zfd (.str a) y H Q=onStr y λj=>Q (.bl (!(decide (cs j<cs a)))) H:=rfl
def zf0 : zel (.int a) y H Q=onInt y λj=>Q (.bl (decide (j<a))) H:=rfl
def zf1 : zel (.str a) y H Q=onStr y λj=>Q (.bl (decide (cs j<cs a))) H:=rfl
def zf6{K:sr}:rIx K (.ref a) y H Q=onInt y λi=>(∃xs,SqL K H a xs/\∃v,atI xs i=AK v/\Q v H)\/∃xs,SqT K H a xs/\∃v,atI xs i=AK v/\Q v H:=rfl
def zgd{K:sr}:rIx K (.str z) y H Q=za5 (.str z) y H Q:=rfl
def zb4{K:sr}{lo hi:Option Int}:zez K (.str z) lo hi H Q=(z.length<=sq/\Q (.str (tx (cut (cs z) lo hi))) H):=rfl
def zda{K:sr}{lo hi:Option Int}:zez K (.ref a) lo hi H Q=(∃xs,SqL K H a xs/\∀p,H p=AL->Q (.ref p) (upd H p (.lst (Vv xs lo hi)))):=rfl
def zbK{K:sr}:Xt K [.str z] H Q=(z.length<=sq/\Q (.int z.length) H):=rfl
def zct{K:sr}:Xt K [.ref a] H Q=(∃n:Nat,((∃xs,SqL K H a xs/\n=xs.length)\/∃xs,SqT K H a xs/\n=xs.length)/\Q (.int n) H):=rfl
def zbS : zgJ x .non H Q=Q (.bl (decide (x=.non))) H:=rfl
def zcd : ze7 x .non H Q=Q (.bl (!decide (x=.non))) H:=rfl
def zdg : KT [.int i,.int j] H Q=Q (.int (if j > i then j else i)) H:=rfl
def zcJ : UK (.ref a) [y] H Q=(∃xs,H a=AK (.lst xs)/\xs.length<sq/\Q .non (upd H a (.lst (xs ++ [y])))):=rfl
def zgy{K:sr}:(tyV K "str" (.str z) H/\p)=p:=propext #[λh=>h.2,λh=>#[rfl,h]]
def zB(i:Nat)(hN:X.N.Nodup)(he:PE X e te)(hi:‹X.N[i]? = AK x›)(hx:Loc X.env.scope x:=by exact .inl rfl)(hs:‹swapsWith e (AK (.Name x pos')) pos.line X.env=pure AN›)(hf:X.fn x=AM\/X.env.scope.names.lookup x=AK .local:=by first | exact .inl rfl | exact .inr rfl | assumption) :
  PS X (.Assign [.Name x pos'] e pos) (zdq te (yx i)):=yT hN hi hx he hs hf
def zk(hr:IxR X r)(ha:PE X a ta)(hb:PE X b tb)(hs:JN b:=by exact λZ Z=>rfl):PE X (.Subscript a b pos) (tOp r ta tb):=zgw hr ha hb hs
def zE(hm:X.mg "len" = AL)(he:PE X e te)(hg:‹Gl X "len"›)(h1:‹so [e] X.env=(AN,eval e X.env)::so [] X.env›)(h2:‹(sQ pos (so [] X.env)).any (·.1)=AN›):PE X (.Call (.Name "len" p) [e] [] pos) (tCB (Xt X.K) (zI te xb)) :=
 yR zf3 hg hm PySem.boot_len (za he ze h1) (he:=h1) (hpl:=h2)
theorem QT:∀{ys:List sB} {its:List sv},Vals (ys.map V.str) its->∃l:List (sB × Az),its=strValues l/\l.map (·.1)=ys
 | [],_,.nil=>#[[],rfl,rfl]
 | y::ys,_,.cons r t=>by
  let#[tk,rfl]:=r;let#[l,e1,e2]:=QT t;exact#[(y,tk)::l,by rw[e1];rfl,by rw[am,e2]]
def zfS(K:sr):V->List V->Hp->VK->Prop:=λx xs H Q=>∃z p ys,x=.str z/\xs=[.ref p]/\SqL K H p (ys.map V.str)/\JoinOk z ys=AM/\Q (.str (Txt.join z ys)) H
def zaB:MtR X "str.join" (zfS X.K):=by intros x xs v us Q I rx rv h;let#[z,p,ys,rfl,rfl,hS,hok,q]:=h;let#[t,rfl]:=rx;let#[u,rfl,ru]:=wM rv;cases ru;let#[its,r,pl,_]:=I.list hS;let#[l,rfl,e]:=QT r;exact PySem.SC.join pl.isList e hok λt' k=>#[.str _,H,I.tok _,#[_,rfl],q]
theorem ZU:∀{bs:List Bool} {its:List sv} {i:Nat} {v:sv},Vals (bs.map V.bl) its->its[i]? = AK v->v=.bool (bs.getD i AN)
 | [],_,_,_,.nil,h=>by cases h
 | b::bs,_,0,v,.cons r t,h=>by
  cases r;cases h;rfl
 | b::bs,_,i+1,v,.cons r t,h=>ZU (bs:=bs) (i:=i) t h
theorem QW(bs:List Bool):(aJ bs.length).all (λi=>bs.getD i AN)=bs.all id:=by
 induction bs with
 | nil=>rfl
 | cons b bs ih =>
  rw[aC,dQ,eQ,eZ,eQ,<- ih];rfl
def zhf(K:sr):List V->Hp->VK->Prop:=λxs H Q=>∃(p:su) (bs:List Bool),xs=[.ref p]/\SqL K H p (bs.map V.bl)/\Q (.bl (bs.all id)) H
def zey(hc:X.calm=AM):vY X (.builtin "all") (zhf X.K):=by
 intros xs us Q I r h;let#[p,bs,rfl,hS,q]:=h;let#[u,rfl,ru]:=wM r;cases ru;let#[its,rv,pl,hz]:=I.list hS
 have hlen:its.length=bs.length:=by
  have:=rv.length;rw[aa]at this;exact this.symm
 have hh:X.A.in1.handled=AL:=I.ok.hd hc
 have hne:p≠s⁻¹:=by
  let#[o,n,e,_]:=pl;exact az (av e)
 let#[f0,f1,f2,f3,f4,f5]:=I.fpOk (H':=H) (ao _) (I.hok.fresh (ao _));have I1:=I.kept (t':=s.toks) (h':=s.heap.push { cls:=.type "list_iterator",data:=.fields (t7 [.ref p,.int 0 0]) }) λb o e=>ag _ e;refine call_all_walk (tR pl.isList ?_);refine#[s⁻¹,_,_,_,_,_,λi=>bs.getD i AN,rfl,Walks.list hh s⁻¹ p hne its.toArray,#[#[_,aI _ rfl,rfl,rfl],?_],?_,?_]
 ·let#[o,n,e,c,d,dt]:=pl;exact#[o,ag _ e,c,n,dt]
 ·intro i v s' Q' E' hv hq;have:=ZU rv (i:=i) (v:=v) (by simpa using hv);rw[this];exact sL hq
 ·intro h' tk hk
  have e:(aJ its.toArray.size).all (λi=>bs.getD i AN)=bs.all id:=by
   rw[aj,hlen,QW]
  rw[e];refine#[.bl _,H,?_,rfl,q];exact I1.turned (t':=tk) (it:=s⁻¹) (λb o hb q=>hk b o (by simpa using hb) q) f0 f1 f3 f4 f5
def zei(hfr:A.frames=AK (env0::outer))(hl:s.heap.FunFrames base (env0::outer))(hf:env0.frame=AK L)(he:env.frame=AK L)(hx:s.heap.get? x=AK (xob C dx t tb))(htb:zcy s.heap x tb)(h:∀h' T oT ts,h'.get? x=AK (xob C dx t (.ref T))->T≠x->(tb=.ref T\/s⁻¹<=T)->h'.get? T=AK oT->oT.data=.fields ts->3<ts.size ->
   (∀b o,b≠x->tb≠.ref b->b ∉ frs (env0::outer)->s.heap.get? b=AK o->h'.get? b=AK o)->(∀b o,b≠x->tb≠.ref b->s.heap.get? b=AK o->∃sl,h'.get? b=AK { o with slots:=sl })->Q Unit.unit { s with heap:=h' }) :
  sy M A (noteFrame (.ref x) env) Q E s:=by
 have land:∀(h1:sU) (T:su) (oT:tN) (ts:Array sv),h1.get? x=AK (xob C dx t (.ref T))->T≠x->(tb=.ref T\/s⁻¹<=T)->h1.get? T=AK oT->oT.data=.fields ts->3<ts.size ->
   (∀b o,b≠x->tb≠.ref b->b ∉ frs (env0::outer)->s.heap.get? b=AK o->h1.get? b=AK o)->(∀b o,b≠x->tb≠.ref b->s.heap.get? b=AK o->∃sl,h1.get? b=AK { o with slots:=sl }) ->
   Q Unit.unit { s with heap:=h1 }:=λh1 T oT ts e1 nT oldT e2 d2 z2 k1 k2=>h h1 T oT ts e1 nT oldT e2 d2 z2 k1 k2
 unfold noteFrame
 erw[he]
 refine si (tI hx rfl (x:=tb) rfl ?_);rcases htb with rfl | ⟨T,oT,ts,rfl,nT,e2,d2,z2⟩
 ·rw[w9 ∅];refine Z7 hfr hl hf he hx λh' oT ts e1 ne e2 d2 z2 k1 k2=>land h' _ oT ts e1 ne (.inr (ao _)) e2 d2 z2 (λb o hb Z hbf e=>k1 b o hb hbf e) λb o hb Z e=>k2 b o hb e
 ·rw[w6 (show (r9 T != r8)=AM from by simp)];obtain⟨y,hy⟩:∃y,ts[3]? = AK y:=#[ts[3],by simp [z2]];refine si (tI e2 d2 (x:=y) hy ?_);by_cases c:(y == rawInt L)=AM
  ·rw[w6 c];exact sj (land s.heap T oT ts hx nT (.inl rfl) e2 d2 z2 (λb o Z Z Z e=>e) λb o Z Z e=>#[o.slots,e])
  ·rw[w9 c];refine si (tG e2 d2 z2 ?_);have oth:∀b,b≠T->(s.heap.update T (Obj.mapFields (·.setIfInBounds 3 r8))).get? b=s.heap.get? b:=λb hb=>aB _ _ (Ne.symm hb);have hl1:(s.heap.update T (Obj.mapFields (·.setIfInBounds 3 r8))).FunFrames base (env0::outer):=hl.of_keeps λb o hb hnf=>#[o,(oth b λq=>by rw[q,e2]at hb;cases hb;exact hnf ts d2).trans hb,rfl];have hsz:(s.heap.update T (Obj.mapFields (·.setIfInBounds 3 r8))).objs.size=s⁻¹:=dg ..;refine Z7 (s:={ s with heap:=s.heap.update T (Obj.mapFields (·.setIfInBounds 3 r8)) }) hfr hl1 hf he ((oth x (Ne.symm nT)).trans hx) λh' oT' ts' e1 ne e2' d2' z2' k1 k2=>?_;refine land h' _ oT' ts' e1 ne (.inr (by rw[hsz];exact ao _)) e2' d2' z2' (λb o hb hbt hbf e=>k1 b o hb hbf ((oth b λq=>hbt (by rw[q])).trans e)) λb o hb hbt e=>k2 b o hb ((oth b λq=>hbt (by rw[q])).trans e)
def Inv.noted{tb:sv}(I1:Inv X AO σ H1 s1)(hst:X.stack=X.env::X.outer)(fx:wj X AO H1 x)(fT:∀T,tb=.ref T->wj X AO H1 T)(fT':wj X AO H1 T)(k1:∀b o,b≠x->tb≠.ref b->b ∉ frs (X.env::X.outer)->s1.heap.get? b=AK o->h'.get? b=AK o)(k2:∀b o,b≠x->tb≠.ref b->s1.heap.get? b=AK o->∃sl,h'.get? b=AK { o with slots:=sl }):Inv X AO σ H1 { s1 with heap:=h' }:=by
 have tbs:∀b,tb=.ref b->H1 b=AL:=λb hb=>(fT b hb).1
 have nch:∀b o,s1.heap.get? b=AK o->b ∉ (x::T::tbL tb)->b≠x/\tb≠.ref b:=λb o Z hb=>by
  refine#[λz=>hb (by simp [z]),λz=>hb ?_];rw[z];simp [tbL]
 have un:Un (frs X.stack) (x::T::tbL tb) H1 H1 s1.heap h':=by
  rw[hst];refine#[λb o e n hb hc=>?_,λb o e n hb hc=>?_,λb o e n Z=>n,λb o e hc=>?_,λb xs e=>e,λb o u e=>e,λb ps e=>#[#[],by rw[e];simp]]
  ·let#[a1,a2]:=nch b o e hc;exact k1 b o a1 a2 hb e
  ·let#[a1,a2]:=nch b o e hc;exact k2 b o a1 a2 e
  ·let#[a1,a2]:=nch b o e hc;let#[sl,q]:=k2 b o a1 a2 e;exact#[_,q]
 have hok:HOk X.prog X.w H1 h':=λb u e=>by
  refine (I1.hok b u e).stay (λc v hc q=>k1 c v ?_ ?_ ?_ q) (λZ q=>q) λZ Z q=>q
  ·rintro rfl;rcases hc with rfl | hc
   ·rw[fx.1]at e;cases e
   ·rw[fx.1]at hc;cases hc
  ·intro z;have:=tbs c z;rcases hc with rfl | hc
   ·rw[this]at e;cases e
   ·rw[this]at hc;cases hc
  ·intro z;rw[<- hst]at z;have:=I1.stkFree c z;rcases hc with rfl | hc
   ·rw[this]at e;cases e
   ·rw[this]at hc;cases hc
 exact I1.call' (s':={ s1 with heap:=h' }) rfl un hok I1.bare λb hb=>by
  have fb:wj X AO H1 b:=by
   rcases AU.mp hb with z | z
   ·rw[z];exact fx
   ·rcases AU.mp z with z | z
    ·rw[z];exact fT'
    ·cases tb with
     | ref b' =>
      have:b=b':=by simpa [tbL] using z
      rw[this];exact fT b' rfl
     | _=>simp [tbL]at z
  let#[_,a1,_,a3,a4,a5]:=fb;exact#[a3,a1,a4,a5]
def Ju(hst:X.stack=X.env::X.outer/\X.env.frame=AK X.env.locals)(hxe:XE X EX)(hc1:∀y c,cl.lookup y=AK c->X.env.cells.lookup y=AK c)(I3:Inv X AO σ H3 s3)(f3:∀b ∈ fp,wj X AO H3 b)(fl:zd0 (yB X scope cl s3⁻¹ N AO s3 H3 fp xe) EX e s1)(hRE:∀m s' x,s'.heap.Ns s3⁻¹ m->(∀h',Heap.SameBut s3⁻¹ s'.heap h'->∀cenv:AE,cenv.locals=s3⁻¹->sy (model X.prog X.w) X.A (gq "comprehension.variables-let-go" x cenv:Sem sv) (λZ Z=>False) X.xe { s' with heap:=h' })->RE x s') :
  notedBy (model X.prog X.w) X.A (compEnvC scope cl s3⁻¹ X.env) RE e s1:=by
 let#[pins',σ',H1,x,C,t,dx,tb,rfl,I1,ob,tr,fx,fT,q]:=fl
 have IX:Inv X AO σ H1 s1:=I3.call' (s':=s1) I1.os I1.base I1.hok I1.bare λb hb=>by
  let#[_,a1,a2,a3,a4,a5]:=f3 b hb;exact#[a3,a1,a4,a5]
 have up:∀b,wj (yB X scope cl s3⁻¹ N AO s3 H3 fp xe) pins' H1 b->wj X AO H1 b:=λb hb=>by
  let#[a0,a1,a2,a3,a4,a5]:=hb;rcases a3 with a3 | a3
  ·exact#[a0,(f3 b a3).2]
  ·exact I3.fpOk a3 a0
 have fx':=up x fx;have fT':∀T,tb=.ref T->wj X AO H1 T:=λT h=>up T (fT T h);have fr:X.A.frames=AK (X.env::X.outer):=by rw[<- hst.1];exact IX.ok.frames
 have ff:s1.heap.FunFrames X.base (X.env::X.outer):=by rw[<- hst.1];exact IX.stack
 let#[m,hm,_]:=I1.loc;have fC:wj X AO H1 s3⁻¹:=I3.fpOk (ao _) I1.free;refine zei fr ff hst.2 hst.2 ob tr λh' T oT ts e1 nT oldT e2 d2 z2 k1 k2=>?_
 have fT2:wj X AO H1 T:=by
  rcases oldT with z | z
  ·exact fT' T z
  ·exact IX.fpOk z (IX.hok.fresh z)
 have I2:Inv X AO σ H1 { s1 with heap:=h' }:=Inv.noted IX hst.1 fx' fT' fT2 k1 k2;have hCx:s3⁻¹≠x:=λz=>fx.2.1 z.symm;have hCtb:tb≠.ref s3⁻¹:=λz=>(fT _ z).2.1 rfl;let#[oC,es,ep,hoC,rC]:=hm
 have hCT:T≠s3⁻¹:=by
  rcases oldT with z | z
  ·exact (fT T z).2.1
  ·exact cr (ax (av hoC) z)
 have hCf:s3⁻¹ ∉ frs (X.env::X.outer):=λz=>by
  rw[<- hst.1]at z;rcases AU.mp (IX.stkSub _ z)with y | y
  ·exact fC.2.1 y
  ·exact fC.2.2.1 y
 refine hRE m _ _ #[oC,es,ep,k1 _ _ hCx hCtb hCf hoC,rC] λh2 sb cenv hcenv=>?_;have I3':Inv X AO σ H1 { s1 with heap:=h2 }:=I2.turned (t':=s1.toks) (λb o hb e=>(sb.2 b hb).trans e) fC.1 fC.2.1 fC.2.2.2.1 fC.2.2.2.2.1 fC.2.2.2.2.2;have ob2:h2.get? x=AK (xob C dx t (.ref T)):=(sb.2 x (Ne.symm hCx)).trans e1;have oT2:h2.get? T=AK oT:=(sb.2 T hCT).trans e2;unfold gq;refine si (tI (s:={ s1 with heap:=h2 }) ob2 rfl (x:=.ref T) rfl ?_);rw[w9 (show ¬ (r9 T == r8)=AM from by simp)];unfold setFlight;refine si (si (tI (s:={ s1 with heap:=h2 }) ob2 rfl (x:=.ref T) rfl ?_));rw[w6 (show (r9 T != r8)=AM from by simp)];refine tG (s:={ s1 with heap:=h2 }) oT2 d2 z2 (wpAny_throw (hxe _ _ ?_));have d3:=Obj.data_mapFields d2 (·.setIfInBounds 3 (cenv.frame.elim r8 λf=>rawInt f))
 have I4:Inv X AO σ H1 { s1 with heap:=h2.update T (Obj.mapFields (·.setIfInBounds 3 (cenv.frame.elim r8 λf=>rawInt f))) } :=
  I3'.turned (t':=s1.toks) (λb o hb e=>(aB _ _ (Ne.symm hb)).trans e) fT2.1 fT2.2.1 fT2.2.2.2.1 fT2.2.2.2.2.1 fT2.2.2.2.2.2
 exact#[AO,σ,H1,x,C,t,dx,.ref T,rfl,I4,(aB _ _ nT).trans ob2,.inr #[T,_,_,rfl,nT,ce _ oT2 (Obj.isFreed_of_fields d3),d3,by simpa using z2],fx',λT' z=>by cases z;exact fT2,q]
open PySem.AutoSeq1 (wpAny_loadPart')
open MeetsSeq MeetsSeq2 MeetsSeq3 SeqRoads2 SeqAt
def jw(op:Ay)(A:sY)(s:sw)(y x:sv)(b:Bool):Prop :=
 ∀(prog:sJ) (w:sP) (E:sv->sw->Prop) (Q:sv->sw->Prop),Q (.bool b) s->sy (model prog w) A (richCompare op y x) Q E s
end in abbrev LtAt:=jw .Lt
end in def zen:Ay->Nat->Nat->Bool
 | .Gt,m,n=>decide (n<m)
 | _,m,n=>decide (m<n)
end in def zgS:Ay->Int
 | .Gt=>4
 | _=>0
def LG(op:Ay):Prop:=op=.Lt\/op=.Gt
def uu(op:Ay)(e t r:Nat->Bool)(m n:Nat):Prop:=∀i,i<=m->i<=n->r i=if i<m/\i<n then (if e i=AM then r (i+1)else t i)else zen op m n
end in abbrev zga:=uu .Lt
variable{op:Ay}
theorem JL(ho:LG op)(l b:su)(items AQ:Array sv)(n n2:Nat)(dd dd2:Option su)(sl sl2:Array (Option sv))(e t r:Nat->Bool)(hr:uu op e t r items.size AQ.size)(k:Nat) :
  ∀i:Nat,i<=items.size->i<=AQ.size->items.size - i=k->Meets (Builtin.«list.__eq__.loop» #[[.ref l,.ref b,rawInt i,rawInt (zgS op)],[]]) (λA R s=>s.heap.get? l=AK { cls:=.type "list",dict:=dd,data:=.seq items n,slots:=sl }/\s.heap.get? b=AK { cls:=.type "list",dict:=dd2,data:=.seq AQ n2,slots:=sl2 } /\
    (∀j (h1:j<items.size) (h2:j<AQ.size),EqAt A.in1 s items[j] AQ[j] (e j))/\(∀j (h1:j<items.size) (h2:j<AQ.size),e j=AN->jw op A.in1 s items[j] AQ[j] (t j)) /\
    R (.ok (.ret (.bool (r i)))) s):=by
 rcases ho with rfl | rfl <;> erw[zgS] <;> erw[uu,zen]at hr
 all_goals
  induction k with
  | zero =>
   intro i b1 b2 hk prog w A R s h;let#[hp,g,d,tk,os]:=s;let#[hl,hb,he,ht,h]:=h;have hri:=hr i b1 b2;rw[w9 ⋯]at hri;rw[hri]at h
   wp_walk using wpAny_loadPart' hl,wpAny_loadPart' hb
   have hi1:items[((i:Nat):Int).toNat]? = AL:=by simp;lia
   rw[hi1]
   wp_walk using wpAny_loadPart' hl,wpAny_loadPart' hb
   exact h
  | succ k ih =>
   intro i b1 b2 hk prog w A R s h;let#[hp,g,d,tk,os]:=s;let#[hl,hb,he,ht,h]:=h;have hlt:i<items.size:=⋯;have hi1:items[((i:Nat):Int).toNat]? = AK items[i]:=by simp [hlt]
   have hc:((i:Int)+1)=((i+1:Nat):Int):=by push_cast;rfl
   have hri:=hr i b1 b2;by_cases hlt2:i<AQ.size
   ·rw[w6 #[hlt,hlt2]]at hri;rw[hri]at h;have hi2:AQ[((i:Nat):Int).toNat]? = AK AQ[i]:=by simp [hlt2]
    wp_walk using wpAny_loadPart' hl,wpAny_loadPart' hb
    rw[hi1,hi2];refine si (he i hlt hlt2 prog w _ _ ?_)
    cases hb':e i with
    | true =>
     rw[hb',w6 rfl]at h
     wp_walk
     rw[hc]
     exact#[plainId_quiet plain_eq_loop _,tj entry_eq_loop (by
      rw[Around.under_plainId plain_eq_loop _]
      exact ih (i+1) ⋯ ⋯ ⋯ prog w A R _ #[hl,hb,he,ht,h])]
    | false =>
     rw[hb',w9 aF]at h
     wp_walk using wpAny_loadPart' hl,wpAny_loadPart' hb
     rw[hi1,hi2];refine si (ht i hlt hlt2 hb' prog w _ _ ?_)
     wp_walk
     exact h
   ·rw[w9 ⋯]at hri;rw[hri]at h;have hi2:AQ[((i:Nat):Int).toNat]? = AL:=by simp;lia
    wp_walk using wpAny_loadPart' hl,wpAny_loadPart' hb
    rw[hi1,hi2]
    wp_walk using wpAny_loadPart' hl,wpAny_loadPart' hb
    exact h
def Yz(ho:LG op)(l b:su)(items AQ:Array sv)(n n2:Nat)(dd dd2:Option su)(sl sl2:Array (Option sv))(e t r:Nat->Bool)(hr:uu op e t r items.size AQ.size) :
  Meets ((match op with | .Gt=>Builtin.«list.__gt__» | _=>Builtin.«list.__lt__») ⟨[.ref l,.ref b],[]⟩) (λA R s=>s.heap.get? l=AK { cls:=.type "list",dict:=dd,data:=.seq items n,slots:=sl }/\s.heap.get? b=AK { cls:=.type "list",dict:=dd2,data:=.seq AQ n2,slots:=sl2 } /\
    (∀j (h1:j<items.size) (h2:j<AQ.size),EqAt A.in1 s items[j] AQ[j] (e j))/\(∀j (h1:j<items.size) (h2:j<AQ.size),e j=AN->jw op A.in1 s items[j] AQ[j] (t j)) /\
    R (.ok (.ret (.bool (r 0)))) s):=by
 rcases id ho with rfl | rfl
 all_goals
  intro prog w A R s h;let#[hp,g,d,tk,os]:=s;let#[hl,hb,he,ht,h]:=h;have f3:=AutoSeq1.sub_list_list
  wp_walk using wpAny_loadPart' hl,wpAny_loadPart' hb
  exact#[plainId_quiet plain_eq_loop _,tj entry_eq_loop (by
   rw[Around.under_plainId plain_eq_loop _]
   exact JL ho l b items AQ n n2 dd dd2 sl sl2 e t r hr _ 0 (aD _) (aD _) rfl prog w A R _ #[hl,hb,he,ht,h])]
theorem kY(ho:LG op)(l b:su)(items AQ:Array sv)(n n2:Nat)(dd dd2:Option su)(sl sl2:Array (Option sv))(e t r:Nat->Bool)(hr:uu op e t r items.size AQ.size) :
  Meets ((match op with | .Gt=>Builtin.«tuple.__gt__» | _=>Builtin.«tuple.__lt__») ⟨[.ref l,.ref b],[]⟩) (λA R s=>s.heap.get? l=AK { cls:=.type "tuple",dict:=dd,data:=.seq items n,slots:=sl }/\s.heap.get? b=AK { cls:=.type "tuple",dict:=dd2,data:=.seq AQ n2,slots:=sl2 } /\
    (∀j (h1:j<items.size) (h2:j<AQ.size),EqAt A.in1 s items[j] AQ[j] (e j))/\(∀j (h1:j<items.size) (h2:j<AQ.size),e j=AN->jw op A.in1 s items[j] AQ[j] (t j)) /\
    R (.ok (.ret (.bool (r 0)))) s):=by
 rcases ho with rfl | rfl <;> erw[uu,zen]at hr
 all_goals
  refine .of_wp λprog w A R s h=>?_;let#[hp,g,d,tk,os]:=s;let#[hl,hb,he,ht,h]:=h;have f2:=AutoSeq1.sub_tuple_tuple;have hZ:(items.toList.zip AQ.toList).length=min items.size AQ.size:=by simp
  wp_walk using wpAny_loadPart' hl,wpAny_loadPart' hb,wpAny_forIn_list _ (λrest b s'=>b.1=AL/\s'=#[hp,g,d,tk,os]/\∃i,i<=min items.size AQ.size/\rest=(items.toList.zip AQ.toList).drop i /\
   R (.ok (.ret (.bool (r i)))) #[hp,g,d,tk,os]) _
  case turn =>
   rintro⟨y,x⟩ rest b s' ⟨hb',rfl,i,hi,hz,hR⟩
   have hlt:i<(items.toList.zip AQ.toList).length:=by
    rcases d8 i (items.toList.zip AQ.toList).length with h' | h'
    ·exact h'
    ·rw[bo h']at hz;cases hz
   have hm:i<min items.size AQ.size:=hZ ▸ hlt;have h1:i<items.size:=ax hm (Nat.min_le_left _ _);have h2:i<AQ.size:=ax hm (Nat.min_le_right _ _);rw[aX hlt]at hz;injection hz with hyx hrest;have hy:y=items[i]:=by have:=congrArg Prod.fst hyx;simpa using this
   have hx:x=AQ[i]:=by have:=congrArg Prod.snd hyx;simpa using this
   subst hy hx;have hri:=hr i ⋯ ⋯;rw[w6 #[h1,h2]]at hri;rw[hri]at hR;refine si (he i h1 h2 prog w _ _ ?_)
   cases hy:e i with
   | true =>
    rw[hy,w6 rfl]at hR
    wp_walk
    exact#[rfl,rfl,i+1,⋯,hrest,hR]
   | false =>
    rw[hy,w9 aF]at hR
    erw[fQ,if_true]
    refine si (AB ?_);refine si (ht i h1 h2 hy prog w _ _ ?_)
    wp_walk
    exact#[_,rfl,hR]
  case fin =>
   rintro⟨b1,b2⟩ s' ⟨hb',rfl,i,hi,hz,hR⟩;simp only at hb';subst hb'
   have hge:min items.size AQ.size<=i:=by
    rcases d8 i (items.toList.zip AQ.toList).length with h' | h'
    ·rw[aX h']at hz;cases hz
    ·exact hZ ▸ h'
   have hri:=hr i ⋯ ⋯;rw[w9 ⋯]at hri;rw[hri]at hR
   wp_walk
   exact#[_,rfl,hR]
  case h =>
   exact#[rfl,rfl,0,aD _,rfl,h]
def LtAt.lists(ho:LG op)(hl:s.heap.IsList l items)(hb:s.heap.IsList b AQ)(hr:uu op e t r items.size AQ.size)(hu:A.units<cLine)(he:∀j (h1:j<items.size) (h2:j<AQ.size),EqAt A.in1 s items[j] AQ[j] (e j))(ht:∀j (h1:j<items.size) (h2:j<AQ.size),e j=AN->jw op A.in1 s items[j] AQ[j] (t j)):jw op A s (.ref l) (.ref b) (r 0):=λprog w E Q h=>by
 let#[#[cls,dd,data,sl],h1,hc,n,hd]:=id hl;let#[#[cls2,dd2,data2,sl2],h2,hc2,n2,hd2]:=id hb;simp only at hc hd hc2 hd2;subst hc hd hc2 hd2;have z:Value.bool (r 0)≠Value.notImplemented/\Q (.bool (r 0)) s:=#[(λx=>nomatch x),h];rcases id ho with rfl | rfl
 ·exact richCompare_meets_room #[_,h1,rfl] #[_,h2,rfl] F.slot_list_lt F.entry_list_lt (F.args_list_lt_2 _ _) (Yz ho l b items AQ n n2 dd dd2 sl sl2 e t r hr) #[h1,h2,he,ht,z] hu
 ·exact richCompare_meets_room #[_,h1,rfl] #[_,h2,rfl] F.slot_list_gt F.entry_list_gt (F.args_list_gt_2 _ _) (Yz ho l b items AQ n n2 dd dd2 sl sl2 e t r hr) #[h1,h2,he,ht,z] hu
def LtAt.tuples(ho:LG op)(hl:s.heap.IsTuple l items)(hb:s.heap.IsTuple b AQ)(hr:uu op e t r items.size AQ.size)(hu:A.units<cLine)(he:∀j (h1:j<items.size) (h2:j<AQ.size),EqAt A.in1 s items[j] AQ[j] (e j))(ht:∀j (h1:j<items.size) (h2:j<AQ.size),e j=AN->jw op A.in1 s items[j] AQ[j] (t j)):jw op A s (.ref l) (.ref b) (r 0):=λprog w E Q h=>by
 let#[#[cls,dd,data,sl],h1,hc,n,hd]:=id hl;let#[#[cls2,dd2,data2,sl2],h2,hc2,n2,hd2]:=id hb;simp only at hc hd hc2 hd2;subst hc hd hc2 hd2;have z:Value.bool (r 0)≠Value.notImplemented/\Q (.bool (r 0)) s:=#[(λx=>nomatch x),h];rcases id ho with rfl | rfl
 ·exact richCompare_meets_room #[_,h1,rfl] #[_,h2,rfl] F.slot_tuple_lt F.entry_tuple_lt (F.args_tuple_lt_2 _ _) (kY ho l b items AQ n n2 dd dd2 sl sl2 e t r hr) #[h1,h2,he,ht,z] hu
 ·exact richCompare_meets_room #[_,h1,rfl] #[_,h2,rfl] F.slot_tuple_gt F.entry_tuple_gt (F.args_tuple_gt_2 _ _) (kY ho l b items AQ n n2 dd dd2 sl sl2 e t r hr) #[h1,h2,he,ht,z] hu
mutual
def okD:D->D->Prop
 | .int _,e=>match e with | .int _=>True | _=>False
 | .lst l,e=>match e with | .lst m=>ZN l m | _=>False
 | .tup l,e=>match e with | .tup m=>ZN l m | _=>False
 | _,_=>False
def ZN:List D->List D->Prop
 | d::l,m=>match m with | e::m=>okD d e/\ZN l m | []=>True
 | [],_=>True
end
mutual
noncomputable def ltD:D->D->Bool
 | .int a,e=>match e with | .int b=>decide (a<b) | _=>AN
 | .lst l,e=>match e with | .lst m=>wN l m | _=>AN
 | .tup l,e=>match e with | .tup m=>wN l m | _=>AN
 | _,_=>AN
noncomputable def wN:List D->List D->Bool
 | d::l,m=>match m with | e::m=>if eqD d e=AM then wN l m else ltD d e | []=>AN
 | [],m=>match m with | []=>AN | _::_=>AM
end
theorem QH(l m:List D):zga (λj=>eqD (l.getD j .non) (m.getD j .non)) (λj=>ltD (l.getD j .non) (m.getD j .non)) (λi=>wN (l.drop i) (m.drop i)) l.length m.length:=by
 intro i b1 b2
 erw[zen]
 by_cases h:i<l.length/\i<m.length
 ·rw[w6 h,aX h.1,aX h.2,wN];rw[ae,ae,af h.1,af h.2];rfl
 ·rw[w9 h];by_cases h1:i<l.length
  ·have h2:¬ i<m.length:=λz=>h #[h1,z];rw[aX h1,bo (df h2),wN]
   ·simp;lia
   all_goals simp
  ·rw[bo (df h1)];by_cases h2:i<m.length
   ·rw[aX h2,wN];simp;lia
   ·rw[bo (df h2),wN]
    ·simp;lia
    all_goals simp
mutual
theorem WF:∀d e:D,eqD d e=eqD e d
 | .lst l,e=>by cases e <;> erw[eqD];exact jp l _
 | .tup l,e=>by cases e <;> erw[eqD];exact jp l _
 | .int _,e=>by cases e <;> erw[eqD] <;> exact gf
 | .str _,e=>by cases e <;> erw[eqD] <;> exact gf
 | .bl _,e=>by cases e <;> erw[eqD] <;> exact gf
 | .non,e=>by cases e <;> erw[eqD]
theorem jp:∀l m:List D,uk l m=uk m l
 | [],[]=>rfl
 | [],_::_=>by erw[uk]
 | _::_,[]=>by erw[uk]
 | d::l,e::m=>by erw[uk,WF d e,jp l m]
end
end in def cm:Ay->D->D->Bool
 | .Gt,d,e=>ltD e d
 | _,d,e=>ltD d e
end in def cms:Ay->List D->List D->Bool
 | .Gt,d,e=>wN e d
 | _,d,e=>wN d e
def QS(ho:LG op)(l m:List D):uu op (λj=>eqD (l.getD j .non) (m.getD j .non)) (λj=>cm op (l.getD j .non) (m.getD j .non)) (λi=>cms op (l.drop i) (m.drop i)) l.length m.length:=by
 rcases ho with rfl | rfl
 ·exact QH l m
 ·intro i b1 b2;have h:=QH m l i b2 b1
  erw[zen,cm,cms]at h ⊢
  rw[h,WF (m.getD i .non)];by_cases q:i<l.length/\i<m.length
  ·rw[w6 q,w6 q.symm]
  ·rw[w9 q,w9 λz=>q z.symm]
theorem zeW:∀{l m:List D} {j:Nat} {d e:D},ZN l m->l[j]? = AK d->m[j]? = AK e->okD d e
 | d::l,e::m,0,_,_,h,q1,q2=>by
  cases q1;cases q2
  erw[ZN]at h
  exact h.1
 | d::l,e::m,j+1,_,_,h,q1,q2=>by
  erw[ZN]at h
  exact zeW (j:=j) h.2 q1 q2
theorem W8{X:Cx}{H:Hp}{s:sw}(hl:Iss X.K H l xs)(hm:Iss X.K H m ys)(r:Vals xs its)(r':Vals ys its')(hn:vI l<n)(ok:ZN l m)(ih:∀(d e:D) (x y:V) (u v:sv),dpD d<n->okD d e->Is X.K H d x->Is X.K H e y->RelV x u->RelV y v->jw op A s u v (cm op d e)) :
  ∀j (h1:j<its.toArray.size) (h2:j<its'.toArray.size),jw op A s its.toArray[j] its'.toArray[j] (cm op (l.getD j .non) (m.getD j .non)):=by
 intro j h1 h2;rw[aj]at h1 h2;have e1:=hl.len;have e2:=hm.len;have e3:=r.length;have e4:=r'.length;have g1:l[j]? = AK l[j]:=af ⋯;have g2:m[j]? = AK m[j]:=af ⋯;generalize l[j]=d at g1;generalize m[j]=e at g2;let#[x,hx,ix]:=hl.at g1;let#[y,hy,iy]:=hm.at g2;let#[u,hu,ru]:=xN r hx;let#[v,hv,rv]:=xN r' hy
 have q1:its.toArray[j]=u:=by
  have:=(AS.mp hu).2;simpa using this
 have q2:its'.toArray[j]=v:=by
  have:=(AS.mp hv).2;simpa using this
 rw[q1,q2,ae,ae,g1,g2];exact ih d e x y u v (bT (K2 g1) hn) (zeW ok g1 g2) ix iy ru rv
theorem zbZ(ho:LG op)(I:Inv X AO σ H s):∀(n:Nat) (A:sY) (d e:D) (x y:V) (u v:sv),A.units+n<cLine->dpD d<n->okD d e->Is X.K H d x->Is X.K H e y->RelV x u->RelV y v->jw op A s u v (cm op d e):=by
 intro n
 induction n with
 | zero=>intro A d e x y u v _ h;exact w4 h (bI _)
 | succ n ih =>
  intro A d e x y u v hu hd ok hx hy rx ry;have hu1:A.units<cLine:=⋯;have huA:A.in1.units+n<cLine:=by show A.units+1+n<cLine;lia
  cases d with
  | int a =>
   cases e with
   | int b =>
    erw[Is]at hx hy
    subst hx hy;let#[t,rfl]:=rx;let#[t',rfl]:=ry;rcases ho with rfl | rfl
    ·exact λprog w E Q h=>lt_int h
    ·exact λprog w E Q h=>gt_int h
   | _=>erw[okD]at ok
  | lst l =>
   cases e with
   | lst m =>
    erw[Is]at hx hy
    let#[a,xs,rfl,h1,h2]:=hx;let#[b,ys,rfl,g1,g2]:=hy;cases rx;cases ry;let#[its,r,p,_]:=I.list h1;let#[its',r',p',_]:=I.list g1
    erw[dpD]at hd
    erw[okD]at ok
    have L1:=h2.len;have L2:=g2.len;have L3:=r.length;have L4:=r'.length;have st:=QS ho l m;rw[show l.length=its.toArray.size by erw[aj];lia,show m.length=its'.toArray.size by erw[aj];lia]at st
    have r0:=LtAt.lists ho (A:=A) p.isList p'.isList st hu1 (xC h2 g2 r r' (n:=n) ⋯ λd e x y u v q1 q2 q3 q4 q5=>qm I n A.in1 d e x y u v huA q1 q2 q3 q4 q5)
     (λj h1 h2 Z=>W8 (n:=n) (A:=A.in1) (by assumption) g2 r r' ⋯ ok (λd e x y u v q1 q2 q3 q4 q5 q6=>ih A.in1 d e x y u v huA q1 q2 q3 q4 q5 q6) j h1 h2)
    rcases id ho with rfl | rfl <;> exact r0
   | _=>erw[okD]at ok
  | tup l =>
   cases e with
   | tup m =>
    erw[Is]at hx hy
    let#[a,xs,rfl,h1,h2]:=hx;let#[b,ys,rfl,g1,g2]:=hy;cases rx;cases ry;let#[its,r,p,_]:=I.tuple h1;let#[its',r',p',_]:=I.tuple g1
    erw[dpD]at hd
    erw[okD]at ok
    have L1:=h2.len;have L2:=g2.len;have L3:=r.length;have L4:=r'.length;have st:=QS ho l m;rw[show l.length=its.toArray.size by erw[aj];lia,show m.length=its'.toArray.size by erw[aj];lia]at st
    have r0:=LtAt.tuples ho (A:=A) p p' st hu1 (xC h2 g2 r r' (n:=n) ⋯ λd e x y u v q1 q2 q3 q4 q5=>qm I n A.in1 d e x y u v huA q1 q2 q3 q4 q5)
     (λj h1 h2 Z=>W8 (n:=n) (A:=A.in1) (by assumption) g2 r r' ⋯ ok (λd e x y u v q1 q2 q3 q4 q5 q6=>ih A.in1 d e x y u v huA q1 q2 q3 q4 q5 q6) j h1 h2)
    rcases id ho with rfl | rfl <;> exact r0
   | _=>erw[okD]at ok
  | non=>cases e <;> erw[okD]at ok
  | bl _=>cases e <;> erw[okD]at ok
  | str _=>cases e <;> erw[okD]at ok
def JS(I:Inv X AO σ H s):∀(n:Nat) (A:sY) (d e:D) (x y:V) (u v:sv),A.units+n<cLine->dpD d<n->okD d e->Is X.K H d x->Is X.K H e y->RelV x u->RelV y v->LtAt A s u v (ltD d e):=zbZ (.inl rfl) I
def zgT(K:sr):R2:=λx y H Q=>∃d e,Is K H d x/\Is K H e y/\dpD d<50/\okD d e/\Q (.bl (ltD d e)) H
theorem zeE(hu:X.A.units+100<cLine):OpR X (sH .Lt) (zgT X.K):=by intros x y v u Q I rx ry h;let#[d,e,hx,hy,hd,ok,q]:=h;exact JS I 50 X.A d e x y v u ⋯ hd ok hx hy rx ry X.prog X.w X.xe _ #[.bl _,H,I,rfl,q]
def zc5{K:sr}(h1:Is K H d x)(h2:Is K H e y)(h3:dpD d<50)(h4:okD d e)(q:Q (.bl (ltD d e)) H):zgT K x y H Q:=#[d,e,h1,h2,h3,h4,q]
end in def ltI:List Int->List Int->Bool
 | a::l,m=>match m with | b::m=>if a=b then ltI l m else decide (a<b) | []=>AN
 | [],m=>match m with | []=>AN | _::_=>AM
theorem uG:∀(l m:List Int),ZN (l.map D.int) (m.map D.int)
 | [],_=>by erw[aA,ZN]
 | _::_,[]=>by erw[aA,am,ZN]
 | a::l,b::m=>by erw[am,ZN,okD,true_and];exact uG l m
theorem YS:∀(l m:List Int),wN (l.map D.int) (m.map D.int)=ltI l m
 | [],[]=>by erw[aA,wN,ltI]
 | [],_::_=>by erw[aA,am,wN,ltI]
 | _::_,[]=>by erw[aA,am,wN,ltI]
 | a::l,b::m=>by
  erw[am,wN,ltI,eqD,ltD,YS l m,beq_iff_eq]
mutual
def xx:D->Prop
 | .lst _=>False
 | .tup l=>ya l
 | _=>True
def ya:List D->Prop
 | []=>True
 | d::l=>xx d/\ya l
end
def W9{K:sr}(hp:H p=AK (.lst ys))(h:SqT K H a xs):SqT K (upd H p (.lst zs)) a xs:=by
 rcases h with (h | ⟨o,h⟩) | h
 ·refine .inl (.inl ?_);rw[zq (λe=>by rw[e,hp]at h;cases h)];exact h
 ·refine .inl (.inr #[o,?_]);rw[zq (λe=>by rw[e,hp]at h;cases h)];exact h
 ·exact .inr h
mutual
theorem Is.updL{K:sr}(hp:H p=AK (.lst ys)):∀(d:D) (v:V),xx d->Is K H d v->Is K (upd H p (.lst zs)) d v
 | .non,v,_,h=>by erw[Is]at h ⊢;exact h
 | .bl b,v,_,h=>by erw[Is]at h ⊢;exact h
 | .int b,v,_,h=>by erw[Is]at h ⊢;exact h
 | .str b,v,_,h=>by erw[Is]at h ⊢;exact h
 | .lst l,v,f,h=>by erw[xx]at f
 | .tup l,v,f,h=>by
  erw[Is]at h ⊢
  erw[xx]at f
  let#[a,xs,e1,e2,e3]:=h;exact#[a,xs,e1,W9 hp e2,Iss.updL hp l xs f e3]
theorem Iss.updL{K:sr}(hp:H p=AK (.lst ys)):∀(l:List D) (vs:List V),ya l->Iss K H l vs->Iss K (upd H p (.lst zs)) l vs
 | [],vs,_,h=>by erw[Iss]at h ⊢;exact h
 | d::l,vs,f,h=>by
  erw[Iss]at h ⊢
  erw[ya]at f
  let#[v,r,e1,e2,e3]:=h;exact#[v,r,e1,Is.updL hp d v f.1 e2,Iss.updL hp l r f.2 e3]
end
theorem wZ:∀{l:List D},(∀d ∈ l,xx d)->ya l
 | [],_=>by erw[ya]
 | d::l,h=>by erw[ya];exact#[h d (by simp),wZ λe he=>h e (by simp [he])]
theorem Wu : ∀{l:List D},(∀d ∈ l,dpD d<=n)->vI l<=n
 | [],_=>by erw[vI];lia
 | d::l,h=>by
  have h1:=h d (by simp);have h2:=Wu (n:=n) (l:=l) λe he=>h e (by simp [he])
  erw[vI]
  lia
def LsA(K:sr)(H:Hp)(a:su)(ds:List D):Prop:=∃xs,H a=AK (.lst xs)/\Iss K H ds xs
def LsA.same{K:sr}{H H':Hp}{a:su}{ds:List D}(h:LsA K H a ds)(e:Same H H'):LsA K H' a ds:=let #[xs,h1,h2]:=h; #[xs,e _ _ h1,Iss.same e _ _ h2]
def LsA.is{K:sr}(h:LsA K H a ds):Is K H (.lst ds) (.ref a):=by
 let#[xs,h1,h2]:=h
 erw[Is]
 exact#[a,xs,rfl,SqL.of h1,h2]
def LsA.nil{K:sr}:LsA K (upd H a (.lst [])) a []:=#[[],zb,by erw[Iss]]
def LsA.snoc{K:sr}(h1:H a=AK (.lst xs))(h2:Iss K H ds xs)(f:ya ds)(fd:xx d)(hv:Is K H d v):LsA K (upd H a (.lst (xs ++ [v]))) a (ds ++ [d]) :=
 #[_,zb,Iss.append (Iss.updL h1 _ _ f h2) (by erw[Iss];exact#[v,[],rfl,Is.updL h1 _ _ fd hv,rfl])]
def Is.tup{K:sr}{H:Hp}{p:su}{vs:List V}{ds:List D}(hp:H p=AL)(h:Iss K H ds vs):Is K (upd H p (.tup vs)) (.tup ds) (.ref p):=by
 erw[Is]
 exact#[p,vs,rfl,SqT.of zb,Iss.same (zd hp) _ _ h]
end in abbrev dS(l:()):D:=.str (tx l)
end in abbrev zC:=() × ()
end in def dR(r:zC):D:=.tup [dS r.1,dS r.2]
def zef{K:sr}(h:Is K H (dR r) v):∃p,v=.ref p/\SqT K H p [.str (tx r.1),.str (tx r.2)]:=by
 erw[dR,Is,Iss]at h
 let#[a,xs,e,hs,v1,r1,rfl,rfl,v2,r2,rfl,rfl,rfl]:=h;exact#[a,e,hs]
def vZ{K:sr}(h:SqT K H p [.str (tx l),.str (tx m)]):Is K H (dR (l,m)) (.ref p):=by
 erw[dR,Is,Iss]
 exact#[p,_,rfl,h,_,_,rfl,rfl,_,_,rfl,rfl,rfl]
def qe(r:zC):xx (dR r):=by erw[dR,xx,ya,and_self]
theorem zgr(r:zC):dpD (dR r)<=1:=by erw[dR,dpD,vI];lia
def wu(rs:List zC):ya (rs.map dR):=wZ λd h=>by let#[r,_,rfl]:=AT.mp h;exact qe r
def zbl(rs:List zC):vI (rs.map dR)<=1:=Wu λd h=>by let#[r,_,rfl]:=AT.mp h;exact zgr r
end in abbrev N3:=Nat × Nat × Nat
end in def d3(t:N3):D:=.tup [.int (t.1:Nat),.int (t.2.1:Nat),.int (t.2.2:Nat)]
def zgo{K:sr}(h:Is K H (d3 t) v):∃p,v=.ref p/\SqT K H p [.int (t.1:Nat),.int (t.2.1:Nat),.int (t.2.2:Nat)]:=by
 erw[d3,Is,Iss]at h
 let#[a,xs,e,hs,v1,r1,rfl,rfl,v2,r2,rfl,rfl,v3,r3,rfl,rfl,rfl]:=h;exact#[a,e,hs]
def zep{K:sr}:Iss K H [.int (i:Nat),.int (j:Nat),.int (k:Nat)] [.int (i:Nat),.int (j:Nat),.int (k:Nat)]:=by
 erw[Iss,Is]
 exact#[_,_,rfl,rfl,_,_,rfl,rfl,_,_,rfl,rfl,rfl]
def zb6(t:N3):xx (d3 t):=by erw[d3,xx,ya,and_self]
def WB(rs:List N3):ya (rs.map d3):=wZ λd h=>by let#[r,_,rfl]:=AT.mp h;exact zb6 r
theorem Iss.get{K:sr}{j:Nat}(h:Iss K H l vs)(q:vs[j]? = AK v):∃d,l[j]? = AK d/\Is K H d v:=by have hj:=(AS.mp q).1;have hl:=h.len;have g1:l[j]? = AK l[j]:=af ⋯;let#[x,hx,ix]:=h.at g1;rw[q]at hx;cases hx;exact#[_,g1,ix]
def Iss.getR{K:sr}{rs:List zC}{j:Nat}(h:Iss K H (rs.map dR) vs)(q:vs[j]? = AK v):∃r p,rs[j]? = AK r/\v=.ref p/\SqT K H p [.str (tx r.1),.str (tx r.2)]:=by let#[d,e,i]:=h.get q;rw[au]at e;let#[r,hr,rfl]:=AZ.mp e;let#[p,e1,e2]:=zef i;exact#[r,p,hr,e1,e2]
def Iss.get3{K:sr}{rs:List N3}{j:Nat}(h:Iss K H (rs.map d3) vs)(q:vs[j]? = AK v):∃r p,rs[j]? = AK r/\v=.ref p/\SqT K H p [.int (r.1:Nat),.int (r.2.1:Nat),.int (r.2.2:Nat)]:=by let#[d,e,i]:=h.get q;rw[au]at e;let#[r,hr,rfl]:=AZ.mp e;let#[p,e1,e2]:=zgo i;exact#[r,p,hr,e1,e2]
theorem za9(l:List α)(h0:0<=a)(h1:a<=b):cut l (AK a) (AK b)=(l.drop a.toNat).take (b - a).toNat:=by
 by_cases h2:b<=l.length
 ·exact XS l h0 h1 h2
 ·let#[m,rfl]:=bM h0;let#[n,rfl]:=bM (by lia:0<=b);unfold cut;rw[HT.sIx_nat,HT.sIx_nat,dZ (by lia:l.length<=n)];have e:(((n:Nat):Int) - ((m:Nat):Int)).toNat=n - m:=⋯;have e2:((m:Nat):Int).toNat=m:=rfl;rw[e,e2,bn (l:=l.drop m) (by rw[aZ];lia)];by_cases hm:m<=l.length
  ·rw[dz hm,bn (by rw[aZ];lia)]
  ·rw[dZ ⋯,bo (ao _),bo ⋯,List.take_nil]
def UR(ns:List Int)(h0:0<=a)(h1:a<=b):Vv (ns.map V.int) (AK a) (AK b)=((ns.drop a.toNat).take (b - a).toNat).map V.int:=by have e:Vv (ns.map V.int) (AK a) (AK b)=cut (ns.map V.int) (AK a) (AK b):=rfl;rw[e,za9 _ h0 h1,cP,cQ]
open Classical in
end in def eqAtV (K:sr) (H:Hp) (d:D) (u:sv):Bool:=decide (∃x e,zg1 u=AK x/\Is K H e x/\eqD e d=AM)
section
variable{X:Cx}{AO:List (su × tN)}{σ:L2.St}{H:Hp}{s:sw}
open Classical in
theorem VE(I:Inv X AO σ H s)(r:RelV x u)(h:Is X.K H e x):eqAtV X.K H d u=eqD e d:=by
 unfold eqAtV
 cases hb:eqD e d with
 | true=>exact u9 #[x,e,r.abs,h,hb]
 | false =>
  refine v9 ?_;rintro⟨y,e',hy,hi,hq⟩;rw[r.abs]at hy;cases hy;rw[VH I e' e x hi h,hb]at hq;cases hq
theorem Y0(I:Inv X AO σ H s):∀{l:List D} {xs:List V} {us:List sv},Iss X.K H l xs->Vals xs us->us.any (eqAtV X.K H d)=l.any λe=>eqD e d
 | [],xs,us,h,r=>by
  erw[Iss]at h
  subst h;cases r;rfl
 | e::l,xs,us,h,r=>by
  erw[Iss]at h
  let#[v,vs,rfl,h1,h2]:=h
  cases r with
  | cons r1 r2=>rw[dX,dX,VE I r1 h1,Y0 I h2 r2]
theorem Vi:∀{xs:List V} {us:List sv} {l:List D} {u:sv},Vals xs us->Iss X.K H l xs->u ∈ us->∃x e,RelV x u/\Is X.K H e x/\e ∈ l
 | _,_,_,_,.nil,_,h=>nomatch h
 | _,_,[],u,.cons r t,hi,h=>by
  erw[Iss]at hi
  cases hi
 | _,_,e::l,u,.cons r t,hi,h=>by
  erw[Iss]at hi
  let#[v,vs,q,h1,h2]:=hi;cases q;rcases AU.mp h with rfl | h
  ·exact#[_,e,r,h1,ay ..]
  ·let#[x,e',a,b,c]:=Vi t h2 h;exact#[x,e',a,b,ar _ c]
def zeb(h:e ∈ l):dpD e<=vI l:=by let#[j,hj]:=List.getElem?_of_mem h;exact K2 hj
def zg3(K:sr)(neg:Bool):R2:=λx y H Q=>∃p l d,y=.ref p/\Is K H (.lst l) y/\Is K H d x/\vI l<50/\Q (.bl (if neg then !(l.any λe=>eqD e d)else l.any λe=>eqD e d)) H
theorem zdz(hu:X.A.units+100<cLine):OpR X (sH .In) (zg3 X.K AN):=by
 intros x y v u Q I rx ry h;let#[p,l,d,rfl,hl,hd,hp,q]:=h;cases ry
 erw[Is]at hl
 let#[_,xs,e,hq,hi]:=hl;cases e;let#[its,r,pl,hz]:=I.list hq;have huA:X.A.in1.units+50<cLine:=by show X.A.units+1+50<cLine;lia
 refine SeqAt.in_listAt (eqAtV X.K H d) pl.isList (λw hw=>?_) #[.bl _,H,I,rfl,?_]
 ·let#[z,e,rz,iz,me]:=Vi r hi (by simpa using hw);rw[VE I rz iz];exact qm I 50 X.A.in1 e d z x w v huA (bT (zeb me) hp) iz hd rz rx
 ·rw[show its.toArray.any (eqAtV X.K H d)=its.any (eqAtV X.K H d) by simp,Y0 I hi r];exact q
end
structure DM(P:sJ)(w:sP)(K:sr)(mg:sB->Option sv)(base:sU)(CX:CXT)(k:Nat)(C:su)(m:sB)(ps:List sB)(sp:Sp):Prop where
 ex:∃f fd,zdw K C m f/\FnOk P w K mg base CX k f fd ps sp/\Binds K fd ps []
structure DMk(P:sJ)(w:sP)(K:sr)(mg:sB->Option sv)(base:sU)(CX:CXT)(k:Nat)(C:su)(ps:List sB)(sp:Sp):Prop where
 ex:∃f fd,Mk K C f/\FnOk P w K mg base CX k f fd ps sp/\Binds K fd ps []
def me0(D:DM X.prog X.w X.K X.mg X.base CX0 k C m ps sp)(c:Cls X.K C)(hr:Room j X.A)(he:PE X o ta)(ht:eval (.Call (.Attribute o m apos) [] [] pos) X.env=(do
      let ov <- eval o X.env
      standAt apos.atName
      let (f,first) <- holding [ov] (getMethod ov m pl)
      callWith pos f first (sQ pos (so [] X.env)) (sX pos (sN [] X.env))):=by rfl) (hj:‹k<=j›):PE X (.Call (.Attribute o m apos) [] [] pos) (Zp C m sp [] E0 ta xb):=by let#[f,fd,hm,F,hb]:=D.ex;exact KM he c hm F (hr.mono hj) hb .nil V3 ht
def me1(D:DM X.prog X.w X.K X.mg X.base CX0 k C m ps sp)(c:Cls X.K C)(hr:Room j X.A)(he:PE X o ta)(ha:PA X (e::es) t)(hst:‹so (e::es) X.env=(AN,eval e X.env)::so es X.env›)(hpl:‹(sQ pos (so es X.env)).any (·.1)=AN›)(ht:eval (.Call (.Attribute o m apos) (e::es) [] pos) X.env=(do
      let ov <- eval o X.env
      standAt apos.atName
      let (f,first) <- holding [ov] (getMethod ov m pl)
      callWith pos f first (sQ pos (so (e::es) X.env)) (sX pos (sN [] X.env))):=by rfl) (hj:‹k<=j›):PE X (.Call (.Attribute o m apos) (e::es) [] pos) (Zp C m sp [] E0 ta t):=by let#[f,fd,hm,F,hb]:=D.ex;exact zcs he c hm F (hr.mono hj) hb .nil V3 ha hst hpl ht
def mkC(D:DMk X.prog X.w X.K X.mg X.base CX0 k C ps sp)(hr:Room j X.A)(hg:Gl X x)(hm:X.mg x=AK (.ref C))(ha:PA X (e::es) t)(hdb:‹(x ==("__debug__" : sB))=AN›)(he:‹so (e::es) X.env=(AN,eval e X.env)::so es X.env›)(hpl:‹(sQ pos (so es X.env)).any (·.1)=AN›) (hj:‹k+1<=j›):PE X (.Call (.Name x p) (e::es) [] pos) (JK C sp [] E0 t):=by let#[f,fd,M,F,hb]:=D.ex;exact Qq M F (hr.mono hj) hg hm hb .nil V3 ha hdb he hpl
def zy(Fam:su->Prop)(m:sB)(sp:su->Sp)(dvs:List V)(E:XK)(ta:TE)(t:TA):TE:=λσ H Q=>ta σ H λx H1=>∃C a dx fs,Fam C/\x=.ref a/\H1 a=AK (.ins C dx fs)/\fs.lookup m=AL /\
 t σ H1 λvs H2=>sp C (x::(vs ++ dvs)) H2 Q E
structure DMF(P:sJ)(w:sP)(K:sr)(mg:sB->Option sv)(base:sU)(CX:CXT)(k:Nat)(Fam:su->Prop)(m:sB)(ps:List sB)(sp:su->Sp):Prop where
 ex:∀C,Fam C->Cls K C/\DM P w K mg base CX k C m ps (sp C)
def zho(D:DMF X.prog X.w X.K X.mg X.base CX0 k Fam m ps sp)(hr:Room j X.A)(he:PE X o ta)(ht:eval (.Call (.Attribute o m apos) [] [] pos) X.env=(do
      let ov <- eval o X.env
      standAt apos.atName
      let (f,first) <- holding [ov] (getMethod ov m pl)
      callWith pos f first (sQ pos (so [] X.env)) (sX pos (sN [] X.env))):=by rfl) (hj:‹k<=j›):PE X (.Call (.Attribute o m apos) [] [] pos) (zy Fam m sp [] E0 ta xb):=by intros Q I h;refine cE (pl:=pl) (thn (he AO s σ H _ I h) λu s1=>el5 λx H1 I1 rx q_z=>?_) ht;let#[C,a,dx,fs,fam,ex,ea,l,q]:=q_z;subst ex;obtain rfl:u=r9 a:=rx;let#[c,#[f,fd,hm,F,hb]]:=D.ex C fam;refine wb I1 ea c hm l ?_;exact gk (first:=[.ref a]) I1.kIn hm.kp (YJ (us:=[.ref a]) (vs:=[.ref a]) F (hr.mono hj) hb .nil V3 I1 (.cons rfl .nil) q)
def zdo(D:DMF X.prog X.w X.K X.mg X.base CX0 k Fam m ps sp)(hr:Room j X.A)(he:PE X o ta)(ha:PA X (e::es) t)(hst:‹so (e::es) X.env=(AN,eval e X.env)::so es X.env›)(hpl:‹(sQ pos (so es X.env)).any (·.1)=AN›)(ht:eval (.Call (.Attribute o m apos) (e::es) [] pos) X.env=(do
      let ov <- eval o X.env
      standAt apos.atName
      let (f,first) <- holding [ov] (getMethod ov m pl)
      callWith pos f first (sQ pos (so (e::es) X.env)) (sX pos (sN [] X.env))):=by rfl) (hj:‹k<=j›):PE X (.Call (.Attribute o m apos) (e::es) [] pos) (zy Fam m sp [] E0 ta t):=by intros Q I h;refine cE (pl:=pl) (thn (he AO s σ H _ I h) λu s1=>el5 λx H1 I1 rx q_z=>?_) ht;let#[C,a,dx,fs,fam,ex,ea,l,q]:=q_z;subst ex;obtain rfl:u=r9 a:=rx;let#[c,#[f,fd,hm,F,hb]]:=D.ex C fam;refine wb I1 ea c hm l ?_;refine cb (first:=[.ref a]) (h₀:=X.base) I.ok.mod.kin hm.kp (thn (ha pos AO s1 σ H1 _ I1 q) λus s2=>el5 λvs H2 I2 r q2=>#[I2.kIn,?_]) hst hpl;exact YJ (us:=.ref a::us) (vs:=.ref a::vs) F (hr.mono hj) hb .nil V3 I2 (.cons rfl r) q2
def yw(K:sr):List V->Hp->VK->Prop:=λxs H Q=>∃(p:su) (ns:List Int),xs=[.ref p]/\SqL K H p (ns.map V.int)/\Q (.int ns.sum) H
theorem Uj(l:()):((p8 AL AL (-1) (tx l).length).filterMap ((tx l).cps[·]?))=l.reverse:=by
 rw[zR,picked_rev];have e:(tx l).cps=l.toArray:=rfl;rw[e];apply List.ext_getElem?;intro i
 have h:((aJ l.length).map λk=>l.length - 1 - k).filterMap (l.toArray[·]?)=(aJ l.length).map λk=>l.getD (l.length - 1 - k) 0:=by
  rw[filterMap_get,aY]
  ·refine aW λk Z=>?_;show l.toArray.getD (l.length - 1 - k) 0=_;simp [gd,List.getD];split <;> simp_all
  ·intro i hi;let#[k,hk,rfl]:=AT.mp hi;have:=AY.mp hk;show _<l.toArray.size;rw[aj];lia
 rw[h];by_cases hi:i<l.length
 ·rw[bq hi,au,eF hi];show AK (l.getD (l.length - 1 - i) 0)=_;rw[ae,af ⋯];rfl
 ·rw[ci (by simp;lia),ci (by simp;lia)]
def yt(te ts:TE):TE:=λσ H Q=>te σ H λx H1=>ts σ H1 λy H2=>y=.int (-1)/\∃l:(),x=.str (tx l)/\l.length<=sq/\Q (.str (tx l.reverse)) H2
section
variable{X:Cx}{e st:tK}{te ts:TE}{pos p2:AI}
def zbQ(he:PE X e te)(hs:PE X st ts):PE X (.Subscript e (.Slice AL AL (AK st) p2) pos) (yt te ts):=by
 intros Q I h;refine AD (thn (he AO s σ H _ I h) λv s1=>el5 λx H1 I1 r1 q1=>?_);refine wpAny_Slice ?_;rw[evalPart_none];refine sj (sj ?_);rw[evalPart_some];refine thn (hs AO s1 σ H1 _ I1 q1) λu s2=>el5 λy H2 I2 r2 q_z=>?_;let#[ey,l,ex,hl,q2]:=q_z;subst ey ex;let#[t,rfl]:=r1;let#[tk,rfl]:=r2;have I4:Inv X AO σ H2 { s2 with heap:=s2.heap.push { cls:=.type "slice",data:=.fields (t7 [.none,.none,.int (-1) tk]) } }:=I2.kept (t':=s2.toks) λb ob q=>ag _ q;show sy (model X.prog X.w) X.A (Am e (.Slice AL AL (AK st) p2) (.str (tx l) t) (.ref s2⁻¹)) (EP X AO σ Q) X.xe { s2 with heap:=s2.heap.push { cls:=.type "slice",data:=.fields (t7 [.none,.none,.int (-1) tk]) } };refine tail_any (ops:=[.ref s2⁻¹,.str (tx l) t]) (typeIs_str _ (tx l) t) slot_str_getitem.lookup ?_ (by with_unfolding_all rfl);refine Aa (l:=AL) (u:=AL) (st:=AK (-1,tk)) (Heap.IsSliceOf.new ..) rfl ?_;unfold sliceMade slicePicked
 have hc':¬ (((AK ((-1:Int),tk)).map (·.1)).getD 1 == 1 && (p8 ((AL:Option (Int × Az)).map (·.1)) ((AL:Option (Int × Az)).map (·.1)) (((AK ((-1:Int),tk)).map (·.1)).getD 1) (tx l).length).length ==(tx l).length)=AM:=by
  have:(((AK ((-1:Int),tk)).map (·.1)).getD 1 == 1)=AN:=rfl;rw[this];simp
 rw[w9 hc']
 have e:Str.mk ((p8 AL AL (-1) (tx l).length).filterMap ((tx l).cps[·]?)).toArray=tx l.reverse:=by
  rw[Uj]
 show (Str.mk ((p8 AL AL (-1) (tx l).length).filterMap ((tx l).cps[·]?)).toArray).length<=sq/\_;rw[e];refine#[by rw[zR,br];exact hl,?_]
 exact#[.str (tx l.reverse),H2,I4.tok _,#[_,by
  show Value.str (Str.mk ((p8 AL AL (-1) (tx l).length).filterMap ((tx l).cps[·]?)).toArray) _=_
  rw[e]],q2]
end
def zA:V->List V->Hp->VK->Prop:=λx xs H Q=>∃(z y:sB) (i:Nat),x=.str z/\xs=[.str y]/\PySem.Txt.find z y=(i:Int)/\Q (.int (i:Nat)) H
theorem JV:MtR X "str.index" zA:=by
 intros x xs v us Q I rx rv h;let#[z,y,i,rfl,rfl,hf,q]:=h;let#[t,rfl]:=rx;let#[u,rfl,t',rfl]:=wM rv;unfold PySem.Txt.find at hf
 cases ho:Builtin.Str.occurrences z y 0 z.length 1 with
 | nil=>rw[ho]at hf;dsimp only at hf;lia
 | cons a r =>
  rw[ho]at hf;have:a=i:=by dsimp only at hf;lia
  subst this;exact PySem.SC.index ho #[.int _,H,I.tok _,#[_,rfl],q]
end in def Izs(K:sr)(l:())(b:su):It:=#[λi H=>∃ys y,SqT K H b ys/\i<l.length/\ys[i]? = AK y,λi H v H'=>∃p c y,H p=AL/\l[i]? = AK c/\(∀ys,SqT K H b ys->ys[i]? = AK y)/\v=.ref p/\H'=upd H p (.tup [.str (tx [c]),y]),λi H=>i=l.length]
def iZs(K:sr)(ta:TA):TI:=λσ H R=>ta σ H λvs H1=>∃l b,vs=[.str (tx l),.ref b]/\(∃ys,SqT K H1 b ys)/\R (Izs K l b) H1
def zgu(K:sr)(l:())(b:su)(g:TG)(tt:TT)(te:TE)(own:Nat)(ix:())(σ:L2.St)(H1:Hp)(Q:VK)(D:su):Prop:=XF (Izs K l b) g tt te own ix σ H1 Q D
def zK{K:sr}:kG (iZs K ta) g tt te own ix σ H Q=ta σ H λvs H1=>∃l b,vs=[.str (tx l),.ref b]/\(∃ys,SqT K H1 b ys)/\∀D,H1 D=AL->zgu K l b g tt te own ix σ H1 Q D:=rfl
def yn(t1 t2:TE):TE:=λσ H Q=>t1 σ H Q\/t2 σ H Q
def zaX(h1:PE X e t1)(h2:PE X e t2):PE X e (yn t1 t2):=by
 intros Q I h;rcases h with h | h
 ·exact h1 AO s σ H Q I h
 ·exact h2 AO s σ H Q I h
def zdE(D1:DM X.prog X.w X.K X.mg X.base CX0 k1 C1 m ps s1)(D2:DM X.prog X.w X.K X.mg X.base CX0 k2 C2 m ps s2)(D3:DM X.prog X.w X.K X.mg X.base CX0 k3 C3 m ps s3)(c1:Cls X.K C1)(c2:Cls X.K C2)(c3:Cls X.K C3)(hr:Room j X.A)(he:PE X o ta)(ha:PA X (e::es) t)(hst:‹so (e::es) X.env=(AN,eval e X.env)::so es X.env›)(hpl:‹(sQ pos (so es X.env)).any (·.1)=AN›)(ht:eval (.Call (.Attribute o m apos) (e::es) [] pos) X.env=(do
      let ov <- eval o X.env
      standAt apos.atName
      let (f,first) <- holding [ov] (getMethod ov m pl)
      callWith pos f first (sQ pos (so (e::es) X.env)) (sX pos (sN [] X.env))):=by rfl) (h1:‹k1<=j›) (h2:‹k2<=j›) (h3:‹k3<=j›) :
    PE X (.Call (.Attribute o m apos) (e::es) [] pos) (yn (Zp C1 m s1 [] E0 ta t) (yn (Zp C2 m s2 [] E0 ta t) (Zp C3 m s3 [] E0 ta t))) :=
  zaX (me1 (pl:=pl) D1 c1 hr he ha hst hpl ht h1) (zaX (me1 (pl:=pl) D2 c2 hr he ha hst hpl ht h2) (me1 (pl:=pl) D3 c3 hr he ha hst hpl ht h3))
open PySem PySem.Spec PyProof.Rows L2 PySem.W PySem.Calls
def kh(n:Int):Prop:=Builtin.Int.intBits n<=1048576
theorem zaR:∀(ns:List Int),WData.weightAll (ns.map WData.int)<=1048576->∀n ∈ ns,kh n
 | [],_,n,h=>nomatch h
 | m::ns,hw,n,h=>by
  rw[am,WData.weightAll]at hw;rcases AU.mp h with rfl | h
  ·have e:WData.weight (.int n)=Builtin.Int.intBits n:=by
    rw[WData.weight];rfl
   unfold kh;lia
  ·exact zaR ns ⋯ n h
theorem KS(hi:kh i)(hj:kh j):IntMulOk i j:=by unfold IntMulOk Builtin.Int.intTooBig;unfold kh at hi hj;have:(bitsLine:Nat)=134217728:=rfl;simp;intro _ _;lia
def KJ:OpR X (binaryOp .Mult) (rI (λi j=>kh i/\kh j) λi j=>.int (i * j)):=opI λZ Z Z Z Z Z Z hc q=>mul_int q (KS hc.1 hc.2)
def YL{l:AH}{XP:(sB->Option sv)->sU->Prop}(hn:l.most=AK n)(hdf:d.params.defaults=[])(call:∀(w:sP) (s₀ s₁:sw) (mg mb:sB->Option sv) (fa:su) (o:tN) (pm cd doc:sv) (a:su) (vs:List sv) (ns:List Int),
   Ground q loose [] XP w s₀ mg mb s₁.heap->YP w s₁.heap ->
   s₁.heap.get? fa=AK o->o.data=.func (docDef d.name d.params d.body d.scope pm cd doc)->s₁.heap.CodeRec cd d.name->mg d.name=AK (.ref fa) ->
   s₁.heap.get? a=AK { cls:=.type "list",data:=.seq vs.toArray }->As vs ns->ns.length<=n->(∀z ∈ ns,kh z)->s₁.gens=#[] ->
   tz (model l.prog w) callerA (.call (.ref fa) #[[.ref a],[]]) (λr s'=>r=.ok (.ret (.bool AM))/\OldK s₁.heap s'.heap/\s'.os=s₁.os/\tV s'.gens) s₁) :
  WalkO q loose XP YP l.row.toRowW d [] (λf vs=>gc f vs):=by
 intro w s₀ s₁ mg mb G Y fa o pm cd doc dV kV ho hd hcd hD hmg hg args vals as hpre hlay hrd hwl hlo;obtain rfl:dV=.none:=Dflts.none hD hdf;obtain rfl:kV=.none:=Dflts.noKw hD;let#[a,vs,ns,rfl,rfl,hobj,hints,hlen]:=Att.script_of hn hpre hwl
 have hb:∀z ∈ ns,kh z:=by
  refine zaR ns ?_
  have h1:WData.layable (WData.list (ns.map WData.int))=AM:=by
   have:=hlay;unfold WData.layableAll at this;simpa using this
  unfold WData.layable at h1
  erw[aQ,decide_eq_true_eq]at h1
  have h2:=h1.2;rw[WData.weight]at h2;exact h2
 refine enter_call (tM (call w s₀ s₁ mg mb fa o pm cd doc a vs ns G Y ho (fd_plain hd) hcd hmg hobj hints hlen hb hg) λr s' hq=>?_);let#[rfl,h2,h3,h4]:=hq;exact#[.inl #[.bool AM,.bool AM,[],rfl,λZ=>rfl,.bool AM,Att.post_true l _,λZ=>#[List.Pairwise.nil,λZ hm=>(nomatch hm)]],h2,h3,h4]
def XEg.xe(h:XEg X E):XE X E:=λe s hz=>by
 let#[AO,σ,H,x,C,t,dx,tb,q]:=hz;exact h e s #[.none,AN,AO,σ,H,x,C,t,dx,tb,q]
theorem Wh(x y:sB)(i j:Int)(t u v v':Az):Gives (Builtin.«str.find» #[[.str x t,.str y u,.int i v,.int j v'],[]]) (.int (match Builtin.Str.occurrences x y (fromIndex x.length i) (min (fromIndex x.length j) x.length) 1 with | k::_=>(k:Int) | []=>-1)):=by
 show Gives (match Builtin.Str.occurrences x y (fromIndex x.length i) (min (fromIndex x.length j) x.length) 1 with | k::_=>retInt k | []=>(do rule "str.find.not-found";retInt (-1))) _
 cases Builtin.Str.occurrences x y (fromIndex x.length i) (min (fromIndex x.length j) x.length) 1 with
 | nil=>exact .rule (.of_eq rfl)
 | cons k _=>exact .of_eq rfl
theorem Xz(x y:sB)(lo hi:Nat) :
  (Builtin.Str.occurrences x y lo hi 1=[]/\∀i,lo<=i->¬ StrLaws.At x y hi i) \/
  ∃i r,Builtin.Str.occurrences x y lo hi 1=i::r/\lo<=i/\StrLaws.At x y hi i/\∀k,lo<=k->k<i->¬ StrLaws.At x y hi k:=by
 rw[StrLaws.occ_eq];rcases StrLaws.occ_first x y hi 1 (ao 1) (List.range' lo (hi+1 - lo)) lo (λi hm=>(List.mem_range'_1.mp hm).1)with ⟨e,no⟩ | ⟨pre,a,post,e,e0,at_a,no⟩
 ·exact .inl #[by rw[e],λi h1 h2=>no i (by have:=h2.1;rw[List.mem_range'_1];lia) h2]
 ·have sp:=StrLaws.range'_split_from e;generalize (forIn (List.range' lo (hi+1 - lo)) ((#[]:Array Nat),lo) (StrLaws.occBody x y hi 1)).run.fst=z at e0 ⊢;let#[zs]:=z
  cases zs with
  | nil=>simp at e0
  | cons b r =>
   have:b=a:=by simpa using e0
   subst this;exact .inr #[b,r,rfl,sp.1,at_a,λk h1 h2=>no k (sp.2 k h1 h2)]
def zdm(l p:())(hi i:Nat):StrLaws.At (tx l) (tx p) hi i ↔ i+p.length<=hi/\(l.drop i).take p.length=p:=by
 unfold StrLaws.At Builtin.Str.subAt;rw[zR,beq_iff_eq]
 have e1:((tx l).cps.extract i (i+p.length)).toList=(l.drop i).take p.length:=by
  show (l.toArray.extract i (i+p.length)).toList=_;simp [eW]
 have e2:((tx l).cps.extract i (i+p.length)=(tx p).cps) ↔ (l.drop i).take p.length=p:=by
  constructor
  ·intro h;rw[<- e1,h]
  ·intro h;apply Array.toList_inj.mp;rw[e1,h]
 rw[e2]
def zbg:V->List V->Hp->VK->Prop:=λx xs H Q=>∃(l p:()) (lo hi:Int),x=.str (tx l)/\xs=[.str (tx p),.int lo,.int hi]/\0<=lo/\0<=hi/\∀r:Int,((r=-1/\∀q:Nat,lo<=q->(q:Int)+p.length<=hi->q+p.length<=l.length->(l.drop q).take p.length≠p)\/∃k:Nat,r=k/\lo<=k/\(k:Int)+p.length<=hi/\k+p.length<=l.length/\(l.drop k).take p.length=p/\∀q:Nat,lo<=q->q<k->(l.drop q).take p.length≠p)->Q (.int r) H
theorem zbG : MtR X "str.find" zbg:=by
 intros x xs v us Q I rx rv h;let#[l,p,lo,hi,rfl,rfl,h0,h1,q]:=h;let#[t,rfl]:=rx
 cases rv with
 | cons r1 r2 =>
  cases r2 with
  | cons r2 r3 =>
   let#[w3,rfl,t3,rfl]:=wM r3;let#[t1,rfl]:=r1;let#[t2,rfl]:=r2;have f0:fromIndex (tx l).length lo=lo.toNat:=by unfold fromIndex;rw[w9 ⋯];lia
   have f1:fromIndex (tx l).length hi=hi.toNat:=by unfold fromIndex;rw[w9 ⋯];lia
   refine call_gives F.slot_str_find (typeIs_str _ _ _) F.entry_str_find (F.args_str_find_4 _ _ _ _) (Wh _ _ lo hi t t1 t2 t3) ?_;refine#[.int _,H,I.tok _,#[_,rfl],q _ ?_];rw[f0,f1];have hm:∀k:Nat,k+p.length<=min hi.toNat (tx l).length ↔ (k:Int)+p.length<=hi/\k+p.length<=l.length:=λk=>by rw[zR];lia
   rcases Xz (tx l) (tx p) lo.toNat (min hi.toNat (tx l).length)with ⟨e,no⟩ | ⟨i,r,e,hl,ha,no⟩
   ·rw[e];exact .inl #[rfl,λk k1 k2 k3 k4=>no k ⋯ ((zdm l p _ k).mpr #[(hm k).mpr #[k2,k3],k4])]
   ·rw[e];let#[a1,a2]:=(zdm l p _ i).mp ha;let#[b1,b2]:=(hm i).mp a1;exact .inr #[i,rfl,⋯,b1,b2,a2,λk k1 k2 k4=>no k ⋯ k2 ((zdm l p _ k).mpr #[(hm k).mpr #[⋯,⋯],k4])]
end L3
set_option linter.unusedVariables false
namespace L3
def zfC(l p:())(r:Int):Prop:=(r=-1/\∀q:Nat,¬ (q+p.length<=l.length/\(l.drop q).take p.length=p))\/∃q:Nat,r=(q:Int)/\(q+p.length<=l.length/\(l.drop q).take p.length=p)/\∀q':Nat,q'<q->¬ (q'+p.length<=l.length/\(l.drop q').take p.length=p)
def zfT:V->List V->Hp->VK->Prop:=λx xs H Q=>∃l p:(),x=.str (tx l)/\xs=[.str (tx p)]/\∀r:Int,zfC l p r->Q (.int r) H
def zcF:MtR X "str.find" zfT:=by
 intros x xs v us Q I rx rv h;let#[l,p,rfl,rfl,q]:=h;refine U6 AO s σ H _ _ v us Q I rx rv #[_,_,rfl,rfl,q _ ?_];rcases find_whole (tx l) (tx p)with ⟨h1,h2⟩ | ⟨e,h1,h2,h3⟩
 ·exact .inl #[h1,λq hq=>h2 q ((zdm l p _ q).mpr (by rw[zR];exact hq))]
 ·refine .inr #[e,h1,?_,λk hk hq=>h3 k hk ((zdm l p _ k).mpr (by rw[zR];exact hq))];have:=(zdm l p _ e).mp h2;rw[zR]at this;exact this
theorem Q5(hh:A.handled=AL)(hlI:l≠I)(hSI:S≠I)(hSl:S≠l)(xs:Array sv)(val:Nat->Int)(hv:∀i v,xs[i]? = AK v->∃t,v=Value.int (val i) t)(d:sv) :
  ∀(k j:Nat) (z:Int) (t:Az) (s:sw) (c:Nat),xs.size - j=k->j<=xs.size->(∀i,i<j->val i<=z)->s.heap.IsListIter I l j->s.heap.IsList l xs->s.heap.get? S=AK (sC "list" (t7 [.int z t,.int z t]) c) ->
   (∀z' t' h' tk,(∀i,i<xs.size->val i<=z')->(∀b o,b≠I->b≠S->s.heap.get? b=AK o->h'.get? b=AK o)->R (.ok (.ret (.int z' t'))) { s with heap:=h',toks:=tk }) ->
   tz (model prog w) A (.builtin "max.loop" #[[.ref I,.none,.ref S],[(cu "default",d)]]) R s:=by
 have nm:(toString "max" ++ toString ".loop" : String)="max.loop":=∅;have W:=Walks.list (prog:=prog) (w:=w) (A:=A.in1) hh I l hlI xs;intro k
 induction k with
 | zero =>
  intro j z t s c hk hj hz hit hl hS hR;have e:j=xs.size:=⋯;refine tj (b:=Builtin.«max.loop») dU ?_;rw[Around.under_plainId (id:="max.loop") bN _];show sy _ A.in1 (seqItems? (r9 S) >>= _) _ _ s;refine si (tH (items:=(t7 [.int z t,.int z t])) hS rfl ?_);show sy _ A.in1 (tryCatch (pyNext (r9 I)) _ >>= _) _ _ s;refine si (sW (W.done s _ _ #[e ▸ hit,hl] λh' tk kp=>?_));have hS':=kp S _ (by simpa using hSI) hS;show sy _ A.in1 (updateSeq S (λZ=>(#[]:Array sv)) >>= _) _ _ _;refine si (tE hS' rfl (si (tB (sj ?_))));exact hR z t _ tk (λi hi=>hz i ⋯) λb o hb hb' q=>(aB _ _ (Ne.symm hb')).trans (kp b o (by simpa using hb) q)
 | succ k ih =>
  intro j z t s c hk hj hz hit hl hS hR;refine tj (b:=Builtin.«max.loop») dU ?_;rw[Around.under_plainId (id:="max.loop") bN _];show sy _ A.in1 (seqItems? (r9 S) >>= _) _ _ s;refine si (tH (items:=(t7 [.int z t,.int z t])) hS rfl ?_);show sy _ A.in1 (tryCatch (pyNext (r9 I)) _ >>= _) _ _ s;refine si (sW (W.item j s _ _ ⋯ #[hit,hl] λv h' tk hP st kp=>?_));let#[t2,rfl]:=hv j v hP;have hS':=kp S _ (by simpa using hSI) hS;show sy _ A.in1 (tryCatch (holding [Value.int (val j) t2,Value.int (val j) t2] (richCompare .Gt (.int (val j) t2) (.int z t) >>= _)) _ >>= _) _ _ _;refine si (sW (sM (si (CmpOf.ints_gt (prog:=prog) (w:=w) (A:=A.in1) (P:=λi v=>∃t,v=Value.int (if i=0 then val j else z) t) (λi=>if i=0 then val j else z) (λi v h=>h) 0 1 _ _ _ _ _ #[t2,rfl] #[t,rfl] ?_))));refine si (sM (sL (si (tB (sj ?_)))));by_cases g:val j > z
  ·erw[if_true,Nat.one_ne_zero,if_false,g,decide_true]
   refine si (tE hS' rfl (si (tB ?_)));rw[nm];refine sj #[plainId_quiet bN _,ih (j+1) (val j) t2 _ _ ⋯ ⋯ (λi hi=>?_) (W.frame _ _ _ st λb hb o q=>?_).1 (W.frame _ _ _ st λb hb o q=>?_).2 (get?_update_seq hS' _) λz' t' h'' tk'' a1 a2=>hR z' t' h'' tk'' a1 λb o hb hb' q=>a2 b o hb hb' ((aB _ _ (Ne.symm hb')).trans (kp b o (by simpa using hb) q))]
   ·by_cases e:i=j
    ·rw[e];exact Int.le_refl _
    ·have:=hz i ⋯;lia
   all_goals
    refine (aB _ _ (λe:S=b=>?_)).trans q;subst e;rcases AU.mp hb with e | e
    ·exact hSI e
    ·exact hSl (AW.mp e)
  ·erw[if_true,Nat.one_ne_zero,if_false,g,decide_false,bf]
   refine si (tB ?_);rw[nm];refine sj #[plainId_quiet bN _,ih (j+1) z t _ _ ⋯ ⋯ (λi hi=>?_) st.1 st.2 hS' λz' t' h'' tk'' a1 a2=>hR z' t' h'' tk'' a1 λb o hb hb' q=>a2 b o hb hb' (kp b o (by simpa using hb) q)];by_cases e:i=j
   ·rw[e];lia
   ·exact hz i ⋯
def Q2(a v:sv):argsOk "max" #[[a],[(cu "default",v)]]:=by unfold argsOk;kernel_rfl
def U9(hh:A.handled=AL)(xs:Array sv)(val:Nat->Int)(hv:∀i v,xs[i]? = AK v->∃t,v=Value.int (val i) t)(hl:s.heap.IsList l xs)(d:sv)(h:∀v h' tk,(xs.size=0->v=d)->(0<xs.size->∃z t,v=Value.int z t/\∀i,i<xs.size->val i<=z)->(∀b o,s.heap.get? b=AK o->h'.get? b=AK o)->Q v { s with heap:=h',toks:=tk }) :
  sy (model prog w) A (call (.builtin "max") [.ref l] [(cu "default",d)]) Q E s:=by
 have nm:(toString "max" ++ toString ".loop" : String)="max.loop":=∅;have hlt:l<s⁻¹:=by let#[_,e,_]:=hl;exact av e
 refine kmb_tree PySem.F.kind_max PySem.F.plain_max PySem.F.entry_max (Q2 _ _) ?_;show sy _ A.in1 (Builtin.Builtins.bindParams "max" ["key","default"] 0 #[[],[(cu "default",d)]] >>= _) _ _ s;refine si (wpAny_of_eq (show Builtin.Builtins.bindParams "max" ["key","default"] 0 #[[],[(cu "default",d)]]=pure [AL,AK d]from rfl) (si (sj ?_)));refine si (tR hl (si (tU ?_ (aD _))));rw[nm];refine sj #[plainId_quiet bN _,?_];have gI:(s.heap.push { cls:=.type "list_iterator",data:=.fields (t7 [.ref l,.int 0 0]) }).IsListIter s⁻¹ l 0:=#[_,aI _ rfl,rfl,rfl];have gl:=hl.push { cls:=.type "list_iterator",data:=.fields (t7 [.ref l,.int 0 0]) };have kp0:∀b o,s.heap.get? b=AK o->(s.heap.push { cls:=.type "list_iterator",data:=.fields (t7 [.ref l,.int 0 0]) }).get? b=AK o:=λb o q=>ag _ q;have hsz:(s.heap.push { cls:=.type "list_iterator",data:=.fields (t7 [.ref l,.int 0 0]) }).objs.size=s⁻¹+1:=cZ _ _;have hold:∀b o,s.heap.get? b=AK o->b<s⁻¹:=λb o q=>av q;have hlI:l≠s⁻¹:=az hlt;generalize s.heap.push { cls:=.type "list_iterator",data:=.fields (t7 [.ref l,.int 0 0]) }=h1 at *;generalize hIe:s⁻¹=I at *;have W:=Walks.list (prog:=prog) (w:=w) (A:=A.in1) hh I l hlI xs;have gS:(h1.push { cls:=.type "list",data:=.seq ([]:List sv).toArray }).get? h1.objs.size=AK (sC "list" #[] 0):=aI _ rfl;have st0:=W.frame 0 _ (h1.push { cls:=.type "list",data:=.seq ([]:List sv).toArray }) #[gI,gl] λb Z o q=>ag _ q;have kp1:∀b o,s.heap.get? b=AK o->(h1.push { cls:=.type "list",data:=.seq ([]:List sv).toArray }).get? b=AK o:=λb o q=>ag _ (kp0 b o q);have hSI:h1.objs.size≠I:=by rw[hsz];exact Nat.succ_ne_self I
 have hSl:h1.objs.size≠l:=by rw[hsz];exact cr (cY hlt)
 have hSb:∀b o,s.heap.get? b=AK o->b≠I/\b≠h1.objs.size:=λb o q=>#[az (hold b o q),by rw[hsz];exact az (cY (hold b o q))];generalize h1.push { cls:=.type "list",data:=.seq ([]:List sv).toArray }=h2 at *;generalize h1.objs.size=S at *;refine tj (b:=Builtin.«max.loop») dU ?_;rw[Around.under_plainId (id:="max.loop") bN _];show sy _ A.in1 (seqItems? (r9 S) >>= _) _ _ _;refine si (tH (items:=#[]) gS rfl ?_);show sy _ A.in1 (tryCatch (pyNext (r9 I)) _ >>= _) _ _ _;by_cases hz:xs.size=0
 ·refine si (sW (W.done _ _ _ (by rw[hz];exact st0) λh' tk kp=>?_));show sy _ A.in1 (rule _ >>= λZ=>_) _ _ _;refine si (AB (sj ?_));exact h d h' tk (λZ=>rfl) (λq=>w4 q ⋯) λb o q=>kp b o (by simpa using (hSb b o q).1) (kp1 b o q)
 ·refine si (sW (W.item 0 _ _ _ ⋯ st0 λv h' tk hP st kp=>?_));let#[t,rfl]:=hv 0 v hP;have hS':=kp S _ (by simpa using hSI) gS;show sy _ A.in1 (updateSeq S (λZ=>(t7 [Value.int (val 0) t,Value.int (val 0) t])) >>= _) _ _ _;refine si (tE hS' rfl ?_);rw[nm]
  have st':=W.frame _ _ (h'.update S (Obj.mapSeq λZ=>(t7 [Value.int (val 0) t,Value.int (val 0) t]))) st λb hb o q=>by
   refine (aB _ _ (λe:S=b=>?_)).trans q;subst e;rcases AU.mp hb with e | e
   ·exact hSI e
   ·exact hSl (AW.mp e)
  refine sj #[plainId_quiet bN _,Q5 hh hlI hSI hSl xs val hv d _ 1 (val 0) t _ _ rfl ⋯ (λi hi=>?_) st'.1 st'.2 (get?_update_seq hS' _) λz' t' h'' tk'' a1 a2=>?_]
  ·have:i=0:=⋯;rw[this];exact Int.le_refl _
  ·exact h _ h'' tk'' (λq=>w4 q hz) (λZ=>#[z',t',rfl,a1]) λb o q=>a2 b o (hSb b o q).1 (hSb b o q).2 ((aB _ _ (Ne.symm (hSb b o q).2)).trans (kp b o (by simpa using (hSb b o q).1) (kp1 b o q)))
def zbp(X:Cx)(id:String)(ks:List sB)(r:List V->List V->Hp->VK->Prop):Prop :=
 ∀(AO:List (su × tN)) (s:sw) (σ:L2.St) (H:Hp) (vs zs:List V) (us ws:List sv) (Q:VK),Inv X AO σ H s->Vals vs us->Vals zs ws->r vs zs H Q->sy (model X.prog X.w) X.A (call (.builtin id) us (ks.zip ws)) (EP X AO σ Q) X.xe s
def zgX(r:List V->List V->Hp->VK->Prop)(t tk:TA):TE:=λσ H Q=>t σ H λvs H1=>tk σ H1 λzs H2=>r vs zs H2 Q
def QC{X:Cx}{id:String}{x:sB}{e:tK}{es:List tK}{kws:List AA}{ks:List sB}{p:AI}{pos:AI}{t:TA}{tk:TA}(hc:zbp X id ks r)(hg:Gl X x)(hm:X.mg x=AL)(hv:sV x=AK (.builtin id))(ha:PA X (e::es) t)(hk:PK X kws tk)(hks:‹(sX pos (sN kws X.env)).filterMap (·.1)=ks›)(hn:‹x≠"__name__"›)(hdb:‹(x ==("__debug__" : sB))=AN›)(he:‹sQ pos (so (e::es) X.env)=(AN,eval e X.env)::sQ pos (so es X.env)›)(hpl:‹(sQ pos (so (e::es) X.env)).any (·.1)=AN›)(hall:‹(sX pos (sN kws X.env)).all (·.1.isSome)=AM›)(hkw:‹(sX pos (sN kws X.env)).any (·.1.isNone)=AN›):PE X (.Call (.Name x p) (e::es) kws pos) (zgX r t tk):=by intros Q I h;refine sS (vN I hg hm hv ?_ hn hdb);refine callWith_kw (thn (ha pos AO s σ H _ I h) λus s1=>el5 λvs H1 I1 r1 q1=>thn (hk pos AO s1 σ H1 _ I1 q1) λws s2=>el5 λzs H2 I2 r2 q2=>?_) he hpl hall hkw;rw[hks];exact hc AO s2 σ H2 vs zs us ws Q I2 r1 r2 q2
def zf2(K:sr):List V->List V->Hp->VK->Prop:=λvs zs H Q=>∃(a:su) (ns:List Int) (d:Int),vs=[.ref a]/\zs=[.int d]/\SqL K H a (ns.map V.int)/\∀z:Int,(ns=[]->z=d)->(∀n ∈ ns,n<=z)->Q (.int z) H
def zeD(hc:X.calm=AM):zbp X "max" [cu "default"] (zf2 X.K):=by
 intros vs zs us ws Q I r1 r2 h;let#[a,ns,d,rfl,rfl,hS,q]:=h;let#[u,rfl,ru]:=wM r1;cases ru;let#[w',rfl,td,rfl]:=wM r2;let#[its,rv,pl,hz]:=I.list hS;have hlen:=rv.length;rw[aa]at hlen
 have hat:∀(i:Nat) (v:sv),its.toArray[i]? = AK v->∃t,v=Value.int (ns.getD i 0) t:=λi v hi=>by
  have hi':its[i]? = AK v:=by simpa using hi
  have hil:=(AS.mp hi').1;let#[u,hu,t,rfl]:=xN rv (j:=i) (x:=.int (ns.getD i 0)) (by rw[au,ae,af ⋯];rfl);rw[hi']at hu;cases hu;exact#[t,rfl]
 refine U9 (I.ok.hd hc) its.toArray (λi=>ns.getD i 0) hat pl.isList (.int d td) λv h' tk h0 h1 kp=>?_;by_cases hn:ns=[]
 ·have:=h0 (by rw[aj,<- hlen,hn];rfl);subst this;exact#[.int d,H,I.kept kp,#[_,rfl],q d (λZ=>rfl) (λn hm=>by rw[hn]at hm;cases hm)]
 ·let#[z,t,rfl,hzz]:=h1 (by rw[aj,<- hlen];exact Be.mpr hn);refine#[.int z,H,I.kept kp,#[_,rfl],q z (λe=>w4 e hn) λn hm=>?_];let#[i,hi,rfl]:=List.getElem_of_mem hm;have:=hzz i (by rw[aj,<- hlen];exact hi);rw[ae,af hi]at this;exact this
section
variable{prog:sJ}{w:sP}{A:sY}{R:Result->sw->Prop}{I S:su}{fp wr:List su}{P:Nat->sv->Prop}{St:Nat->sU->Prop}
def WQ:(toString "min" ++ toString ".loop" : String)="min.loop":=∅
def WL(W:Walks prog w A.in1 I fp wr 2 P St)(hw:S ∉ wr)(st:St 2 s.heap)(hS:s.heap.get? S=AK (sC "list" (t7 [v,v]) c))(hR:∀h' tk,(∀b o,b ∉ wr->b≠S->s.heap.get? b=AK o->h'.get? b=AK o)->R (.ok (.ret v)) { s with heap:=h',toks:=tk }):tz (model prog w) A (.builtin "min.loop" #[[.ref I,.none,.ref S],[]]) R s:=by refine tj (b:=Builtin.«min.loop») dW ?_;rw[Around.under_plainId (id:="min.loop") bO _];show sy _ A.in1 (seqItems? (r9 S) >>= _) _ _ s;refine si (tH (items:=(t7 [v,v])) hS rfl ?_);show sy _ A.in1 (tryCatch (pyNext (r9 I)) _ >>= _) _ _ s;refine si (sW (W.done s _ _ st λh' tk kp=>?_));have hS':=kp S _ hw hS;show sy _ A.in1 (updateSeq S (λZ=>(#[]:Array sv)) >>= _) _ _ _;refine si (tE hS' rfl (si (tB (sj ?_))));exact hR _ tk λb o hb hb' q=>(aB _ _ (Ne.symm hb')).trans (kp b o hb q)
theorem VI(W:Walks prog w A.in1 I fp wr 2 P St)(hf:S ∉ fp)(hb:∀v,P 1 v->v=b)(st:St 1 s.heap)(hS:s.heap.get? S=AK (sC "list" (t7 [a,a]) c))(hc:∀h' tk,(∀b o,b ∉ wr->b≠S->s.heap.get? b=AK o->h'.get? b=AK o)->LtAt A.in1 { s with heap:=h',toks:=tk } b a bt)(hR:∀h' tk,(∀b o,b ∉ wr->b≠S->s.heap.get? b=AK o->h'.get? b=AK o)->R (.ok (.ret (if bt=AM then b else a))) { s with heap:=h',toks:=tk }):tz (model prog w) A (.builtin "min.loop" #[[.ref I,.none,.ref S],[]]) R s:=by
 have hw:S ∉ wr:=λh=>hf (W.sub _ h);refine tj (b:=Builtin.«min.loop») dW ?_;rw[Around.under_plainId (id:="min.loop") bO _];show sy _ A.in1 (seqItems? (r9 S) >>= _) _ _ s;refine si (tH (items:=(t7 [a,a])) hS rfl ?_);show sy _ A.in1 (tryCatch (pyNext (r9 I)) _ >>= _) _ _ s;refine si (sW (W.item 1 s _ _ ∅ st λv h' tk hP st' kp=>?_));obtain rfl:=hb v hP;have hS':=kp S _ hw hS;show sy _ A.in1 (tryCatch (holding [v,v] (richCompare .Lt v a >>= _)) _ >>= _) _ _ _;refine si (sW (sM (si (hc h' tk (λb o q Z e=>kp b o q e) prog w _ _ ?_))));refine si (sM (sL (si (tB (sj ?_)))))
 cases bt with
 | true =>
  erw[if_true]
  refine si (tE hS' rfl (si (tB ?_)));rw[WQ];refine sj #[plainId_quiet bO _,WL W hw (W.frame _ _ _ st' λb hbf o e=>?_) (get?_update_seq hS' _) λh'' tk'' k2=>?_]
  ·exact (aB _ _ (λz:S=b=>hf (by rw[z];exact hbf))).trans e
  ·exact hR h'' tk'' λb o q1 q2 e=>k2 b o q1 q2 ((aB _ _ (Ne.symm q2)).trans (kp b o q1 e))
 | false =>
  erw[bf,if_false]
  refine si (tB ?_);rw[WQ];refine sj #[plainId_quiet bO _,WL W hw st' hS' λh'' tk'' k2=>?_];exact hR h'' tk'' λb o q1 q2 e=>k2 b o q1 q2 (kp b o q1 e)
def Q1(W:Walks prog w A.in1 I fp wr 2 P St)(hf:S ∉ fp)(ha:∀v,P 0 v->v=a)(hb:∀v,P 1 v->v=b)(st:St 0 s.heap)(hS:s.heap.get? S=AK (sC "list" #[] c))(hc:∀h' tk,(∀b o,b ∉ wr->b≠S->s.heap.get? b=AK o->h'.get? b=AK o)->LtAt A.in1 { s with heap:=h',toks:=tk } b a bt)(hR:∀h' tk,(∀b o,b ∉ wr->b≠S->s.heap.get? b=AK o->h'.get? b=AK o)->R (.ok (.ret (if bt=AM then b else a))) { s with heap:=h',toks:=tk }):tz (model prog w) A (.builtin "min.loop" #[[.ref I,.none,.ref S],[]]) R s:=by
  have hw:S ∉ wr:=λh=>hf (W.sub _ h);refine tj (b:=Builtin.«min.loop») dW ?_;rw[Around.under_plainId (id:="min.loop") bO _];show sy _ A.in1 (seqItems? (r9 S) >>= _) _ _ s;refine si (tH (items:=#[]) hS rfl ?_);show sy _ A.in1 (tryCatch (pyNext (r9 I)) _ >>= _) _ _ s;refine si (sW (W.item 0 s _ _ ∅ st λv h' tk hP st' kp=>?_));obtain rfl:=ha v hP;have hS':=kp S _ hw hS;show sy _ A.in1 (updateSeq S (λZ=>(t7 [v,v])) >>= _) _ _ _;refine si (tE hS' rfl ?_);rw[WQ];have k1:∀b o,b ∉ wr->b≠S->s.heap.get? b=AK o->(h'.update S (Obj.mapSeq λZ=>(t7 [v,v]))).get? b=AK o:=λb o q1 q2 e=>(aB _ _ (Ne.symm q2)).trans (kp b o q1 e);refine sj #[plainId_quiet bO _,VI (a:=v) (bt:=bt) W hf hb (W.frame _ _ _ st' λb hbf o e=>?_) (get?_update_seq hS' _) (λh'' tk'' k2=>?_) λh'' tk'' k2=>?_]
  . exact (aB _ _ (λz:S=b=>hf (by rw[z];exact hbf))).trans e
  . exact hc h'' tk'' λb o q1 q2 e=>k2 b o q1 q2 (k1 b o q1 q2 e)
  . exact hR h'' tk'' λb o q1 q2 e=>k2 b o q1 q2 (k1 b o q1 q2 e)
def J7(hh:A.handled=AL)(hc:∀h' tk,(∀b o,s.heap.get? b=AK o->h'.get? b=AK o)->LtAt A.in1 { s with heap:=h',toks:=tk } b a bt)(h:∀h' tk,(∀b o,s.heap.get? b=AK o->h'.get? b=AK o)->Q (if bt=AM then b else a) { s with heap:=h',toks:=tk }):sy (model prog w) A (call (.builtin "min") [a,b]) Q E s:=by
  refine kmb_tree PySem.F.kind_min PySem.F.plain_min PySem.F.entry_min (PySem.F.args_min2 _ _) ?_;show sy _ A.in1 (Builtin.Builtins.bindParams "min" ["key","default"] 0 #[[],[]] >>= _) _ _ s;refine si (wpAny_of_eq (show Builtin.Builtins.bindParams "min" ["key","default"] 0 #[[],[]]=pure [AL,AL]from rfl) ?_);show sy _ A.in1 (newTuple [a,b] >>= _) _ _ s;refine si (tS ?_);have hT:(s.heap.push { cls:=.type "tuple",data:=.seq (t7 [a,b]) }).IsTuple s⁻¹ (t7 [a,b]):=#[_,aI _ rfl,rfl,0,rfl];have hz:(s.heap.push { cls:=.type "tuple",data:=.seq (t7 [a,b]) }).objs.size=s⁻¹+1:=cZ ..;have k0:∀b' o,s.heap.get? b'=AK o->(s.heap.push { cls:=.type "tuple",data:=.seq (t7 [a,b]) }).get? b'=AK o:=λb' o q=>ag _ q;have hold:∀b o,s.heap.get? b=AK o->b<s⁻¹:=λb o q=>av q;refine si (wpAny_pyIter_tuple hT (si (tS ?_)));rw[WQ];refine sj #[plainId_quiet bO _,?_];generalize s.heap.push { cls:=.type "tuple",data:=.seq (t7 [a,b]) }=h1 at *;generalize hTe:s⁻¹=T at *;have gI:(h1.push { cls:=.type "tuple_iterator",data:=.fields (t7 [.ref T,.int 0 0]) }).IsTupleIter h1.objs.size T 0:=#[_,aI _ rfl,rfl,rfl];have gT:=hT.push { cls:=.type "tuple_iterator",data:=.fields (t7 [.ref T,.int 0 0]) };have k1:∀b' o,s.heap.get? b'=AK o->(h1.push { cls:=.type "tuple_iterator",data:=.fields (t7 [.ref T,.int 0 0]) }).get? b'=AK o:=λb' o q=>ag _ (k0 b' o q);have hz1:(h1.push { cls:=.type "tuple_iterator",data:=.fields (t7 [.ref T,.int 0 0]) }).objs.size=h1.objs.size+1:=cZ ..;generalize h1.push { cls:=.type "tuple_iterator",data:=.fields (t7 [.ref T,.int 0 0]) }=h2 at *;generalize h1.objs.size=I at *;have a1:Nat.lt T I:=by rw[hz];exact dY _
  have a2:Nat.lt I h2.objs.size:=by rw[hz1];exact dY _
  have W:=Walks.tuple (prog:=prog) (w:=w) (A:=A.in1) hh I T (az a1) (t7 [a,b]);refine Q1 (S:=h2.objs.size) (a:=a) (b:=b) (bt:=bt) W (λq=>?_) (λv q=>?_) (λv q=>?_) (W.frame 0 _ _ #[gI,gT] λb Z o q=>ag _ q) (aI _ rfl) (λh' tk kp=>hc h' tk λb o q=>?_) λh' tk kp=>h h' tk λb o q=>?_
  . rcases AU.mp q with e | q
    . exact cr a2 e
    . exact cr (gr a1 a2) (AW.mp q)
  . cases q;rfl
  . cases q;rfl
  all_goals
    have b1:=gr (hold b o q) a1;exact kp b o (λz=>az b1 (AW.mp z)) (az (gr b1 a2)) (ag _ (k1 b o q))
end
def zgv(K:sr):List V->Hp->VK->Prop:=λxs H Q=>∃(p r:su) (i j k m:Int),xs=[.ref p,.ref r]/\SqT K H p [.int i,.int j]/\SqT K H r [.int k,.int m]/\Q (if k<i\/(k=i/\m<j)then .ref r else .ref p) H
def zcE(i j k m:Int):ltD (.tup [.int k,.int m]) (.tup [.int i,.int j])=decide (k<i\/(k=i/\m<j)):=by
 erw[ltD,wN,eqD]
 by_cases h1:k=i
 ·subst h1;by_cases h2:m=j
  ·subst h2;simp
  ·simp [h2]
 ·simp [h1]
def zdX(hc:X.calm=AM)(hu:X.A.units+100<cLine):vY X (.builtin "min") (zgv X.K):=by
 intros xs us Q I r h;let#[p,q,i,j,k,m,rfl,hp,hq,hQ]:=h;let#[u,v,rfl,r1,r2]:=QY r;have d1:Is X.K H (.tup [.int i,.int j]) (.ref p):=by erw[Is,Iss];exact#[p,_,rfl,hp,_,_,rfl,rfl,_,_,rfl,rfl,rfl]
 have d2:Is X.K H (.tup [.int k,.int m]) (.ref q):=by erw[Is,Iss];exact#[q,_,rfl,hq,_,_,rfl,rfl,_,_,rfl,rfl,rfl]
 refine J7 (bt:=decide (k<i\/(k=i/\m<j))) (I.ok.hd hc) (λh' tk kp=>?_) λh' tk kp=>#[_,H,I.kept kp,?_,hQ]
 ·rw[<- zcE];exact JS (I.kept kp) 50 X.A.in1 _ _ _ _ _ _ (by show X.A.units+1+50<cLine;lia) (by erw[dpD,vI];decide) (by erw[okD,ZN,and_self]) d2 d1 r2 r1
 ·by_cases g:k<i\/(k=i/\m<j)
  ·rw[w6 g,w6 (u9 g)];exact r2
  ·rw[w9 g,w9 (by simpa using g)];exact r1
def zfR(y l:())(e:Nat):Prop:=e+y.length<=l.length/\(l.drop e).take y.length=y
end in instance (y l:()) (e:Nat):Decidable (zfR y l e):=by unfold zfR;infer_instance
end in def zhb(y l:()):Option (() × ()):=((aJ (l.length+1)).find? λe=>decide (zfR y l e)).map λe=>(l.take e,l.drop (e+y.length))
theorem kQ{D:su}(hg:Gl X cn)(hm:X.mg cn=AK (.ref D))(hdb:(cn ==("__debug__" : sB))=AN)(xc:Xj X.K D=AM)(hsu:∀e,PSs (Cx.suite X e) (b0::suite) th)(I:Inv X AO σ H s)(hob:∃t cx kx,s.heap.get? x=AK (xog C dx t (.ref T) cx kx))(hoT:∃oT ts,s.heap.get? T=AK oT/\oT.data=.fields ts/\3<ts.size)(fT:wj X AO H T)(hb:dk X.K (.ref C) (.ref D)=AK AM)(q:th Dd σ H):sy (model X.prog X.w) X.A (handleBy (.ref x) X.env (.ExceptHandler (AK (.Name cn np)) AL (b0::suite) hpos::hs)) (SP X AO Dd) X.xe s:=by
 let#[t,cx,kx,ob]:=hob;let#[oT,ts,eT,dT,zT]:=hoT;have I':=Inv.suite I (.ref x);refine wpAny_handleBy_cons (codeAny_handlers_test (uc (X:=Cx.suite X (.ref x)) I' hg hm (zd2 I.kIn xc ob hb ?_) hdb)) (by intro q;cases q);refine codeAny_handlers_suite ?_;unfold setFlight;refine si (tI ob rfl (x:=.ref T) rfl ?_);rw[w6 (show (r9 T != r8)=AM from by simp)];refine tG eT dT zT ?_;let#[f0,f1,f2,f3,f4,f5]:=fT
 have I2:Inv X AO σ H { s with heap:=s.heap.update T (Obj.mapFields (·.setIfInBounds 3 ((AL:Option su).elim r8 λf=>rawInt f))) } :=
  I.turned (t':=s.toks) (λb o hb e=>(aB _ _ (Ne.symm hb)).trans e) f0 f1 f3 f4 f5
 refine tw (thn (hsu _ AO _ σ H _ (Inv.suite I2 (.ref x)) q) λfl s4 q4=>?_)
 cases fl with
 | next =>
  let#[σ4,H4,I4,n4]:=q4;exact#[_,_,Inv.unsuite I I4,n4]
 | brk =>
  let#[σ4,H4,I4,n4]:=q4;exact#[_,_,Inv.unsuite I I4,n4]
 | cont =>
  let#[σ4,H4,I4,n4]:=q4;exact#[_,_,Inv.unsuite I I4,n4]
 | ret v =>
  let#[y,σ4,H4,I4,r4,n4]:=q4;exact#[y,_,_,Inv.unsuite I I4,r4,n4]
def zaI(K:sr)(i:Nat)(D:su)(te:TX)(th:TS):TS:=λDd σ H=>te σ H (λv H1=>Dd.nx (σ.set i (AK v)) H1) λcls dx H1=>∃C,cls=.ref C/\dk K (.ref C) (.ref D)=AK AM/\∀x,H1 x=AL->th Dd σ (upd H1 x (XT x C dx))
def zad{D:su}(hN:X.N.Nodup)(hy:X.N[i]? = AK y)(hly:Loc X.env.scope y)(hf:X.fn y=AM\/X.env.scope.names.lookup y=AK .local)(hst:X.stack=X.env::X.outer/\X.env.frame=AK X.env.locals)(he:PEX X e te)(hg:Gl X cn)(hm:X.mg cn=AK (.ref D))(xc:Xj X.K D=AM)(hsu:∀e,PSs (Cx.suite X e) (b0::suite) th)(hdb:‹(cn ==("__debug__" : sB))=AN›)(hsw:‹swapsWith e (AK (.Name y yp)) apos.line X.env=pure AN›) :
  PS X (.Try [.Assign [.Name y yp] e apos] (.ExceptHandler (AK (.Name cn np)) AL (b0::suite) hpos::hs) [] [] pos) (zaI X.K i D te th):=by
 intros D I hq;refine Av (tL (Ar (tD (he AO s σ H _ _ I hq) (λv s1=>el5 λz H1 I1 r1 q1=>?_) λe s1 fl=>?_) hsw))
 ·exact Yc I1 hN hy hly r1 (λs2 I2=>tF (tF #[_,H1,I2,q1])) hf
 ·let#[cx,kx,H1,x,C,t,dx,tb,rfl,I1,ob,tr,fx,fT,C',ec,hsb,q1]:=fl;cases ec;have fr:X.A.frames=AK (X.env::X.outer):=by rw[<- hst.1];exact I1.ok.frames
  have ff:s1.heap.FunFrames X.base (X.env::X.outer):=by rw[<- hst.1];exact I1.stack
  refine Zo fr ff hst.2 hst.2 ob tr λh' T oT ts e1 nT oldT e2 d2 z2 k1 k2=>?_
  have fT':wj X AO H1 T:=by
   rcases oldT with z | z
   ·exact fT T z
   ·exact I1.fpOk z (I1.hok.fresh z)
  have tbs:∀b,tb=.ref b->H1 b=AL:=λb hb=>(fT b hb).1
  have nch:∀b o,s1.heap.get? b=AK o->b ∉ (x::T::tbL tb)->b≠x/\tb≠.ref b:=λb o Z hb=>by
   refine#[λz=>hb (by simp [z]),λz=>hb ?_];rw[z];simp [tbL]
  have un:Un (frs X.stack) (x::T::tbL tb) H1 H1 s1.heap h':=by
   rw[hst.1];refine#[λb o e n hb hc=>?_,λb o e n hb hc=>?_,λb o e n Z=>n,λb o e hc=>?_,λb xs e=>e,λb o u e=>e,λb ps e=>#[#[],by rw[e];simp]]
   ·let#[a1,a2]:=nch b o e hc;exact k1 b o a1 a2 hb e
   ·let#[a1,a2]:=nch b o e hc;exact k2 b o a1 a2 e
   ·let#[a1,a2]:=nch b o e hc;let#[sl,q]:=k2 b o a1 a2 e;exact#[_,q]
  have hok:HOk X.prog X.w H1 h':=λb u e=>by
   refine (I1.hok b u e).stay (λc v hc q=>k1 c v ?_ ?_ ?_ q) (λZ q=>q) λZ Z q=>q
   ·rintro rfl;rcases hc with rfl | hc
    ·rw[fx.1]at e;cases e
    ·rw[fx.1]at hc;cases hc
   ·intro z;have:=tbs c z;rcases hc with rfl | hc
    ·rw[this]at e;cases e
    ·rw[this]at hc;cases hc
   ·intro z;rw[<- hst.1]at z;have:=I1.stkFree c z;rcases hc with rfl | hc
    ·rw[this]at e;cases e
    ·rw[this]at hc;cases hc
  have I2:Inv X AO σ H1 { s1 with heap:=h' }:=I1.call' (s':={ s1 with heap:=h' }) rfl un hok I1.bare λb hb=>by
   have fb:wj X AO H1 b:=by
    rcases AU.mp hb with z | z
    ·rw[z];exact fx
    ·rcases AU.mp z with z | z
     ·rw[z];exact fT'
     ·cases tb with
      | ref b' =>
       have:b=b':=by simpa [tbL] using z
       rw[this];exact fT b' rfl
      | _=>simp [tbL]at z
   let#[_,a1,_,a3,a4,a5]:=fb;exact#[a3,a1,a4,a5]
  have I3:Inv X AO σ (upd H1 x (XT x C dx)) { s1 with heap:=h' }:=Inv.track I2 fx (ze4 e1);exact kQ hg hm hdb xc hsu I3 #[t,_,_,e1] #[oT,ts,e2,d2,z2] #[by rw[zq nT];exact fT'.1,fT'.2] hsb (q1 x fx.1)
def Jw(K:sr)(D:su)(te:TX)(th:TS):TS:=λDd σ H=>te σ H (λz H1=>Dd.rt z H1) λcls dx H1=>∃C,cls=.ref C/\dk K (.ref C) (.ref D)=AK AM/\∀x,H1 x=AL->th Dd σ (upd H1 x (XT x C dx))
def WK{D:su}(hst:X.stack=X.env::X.outer/\X.env.frame=AK X.env.locals)(he:PEX X e te)(hg:Gl X cn)(hm:X.mg cn=AK (.ref D))(xc:Xj X.K D=AM)(hsu:∀e,PSs (Cx.suite X e) (b0::suite) th)(hdb:‹(cn ==("__debug__" : sB))=AN›) :
  PS X (.Try [.Return (AK e) apos] (.ExceptHandler (AK (.Name cn np)) AL (b0::suite) hpos::hs) [] [] pos) (Jw X.K D te th):=by
 intros D I hq;refine Av (tL (Aq (tD (he AO s σ H _ _ I hq) (λv s1=>el5 λz H1 I1 r1 q1=>?_) λe s1 fl=>?_)))
 ·exact#[z,σ,H1,I1,r1,q1]
 ·let#[cx,kx,H1,x,C,t,dx,tb,rfl,I1,ob,tr,fx,fT,C',ec,hsb,q1]:=fl;cases ec;have fr:X.A.frames=AK (X.env::X.outer):=by rw[<- hst.1];exact I1.ok.frames
  have ff:s1.heap.FunFrames X.base (X.env::X.outer):=by rw[<- hst.1];exact I1.stack
  refine Zo fr ff hst.2 hst.2 ob tr λh' T oT ts e1 nT oldT e2 d2 z2 k1 k2=>?_
  have fT':wj X AO H1 T:=by
   rcases oldT with z | z
   ·exact fT T z
   ·exact I1.fpOk z (I1.hok.fresh z)
  have tbs:∀b,tb=.ref b->H1 b=AL:=λb hb=>(fT b hb).1
  have nch:∀b o,s1.heap.get? b=AK o->b ∉ (x::T::tbL tb)->b≠x/\tb≠.ref b:=λb o Z hb=>by
   refine#[λz=>hb (by simp [z]),λz=>hb ?_];rw[z];simp [tbL]
  have un:Un (frs X.stack) (x::T::tbL tb) H1 H1 s1.heap h':=by
   rw[hst.1];refine#[λb o e n hb hc=>?_,λb o e n hb hc=>?_,λb o e n Z=>n,λb o e hc=>?_,λb xs e=>e,λb o u e=>e,λb ps e=>#[#[],by rw[e];simp]]
   ·let#[a1,a2]:=nch b o e hc;exact k1 b o a1 a2 hb e
   ·let#[a1,a2]:=nch b o e hc;exact k2 b o a1 a2 e
   ·let#[a1,a2]:=nch b o e hc;let#[sl,q]:=k2 b o a1 a2 e;exact#[_,q]
  have hok:HOk X.prog X.w H1 h':=λb u e=>by
   refine (I1.hok b u e).stay (λc v hc q=>k1 c v ?_ ?_ ?_ q) (λZ q=>q) λZ Z q=>q
   ·rintro rfl;rcases hc with rfl | hc
    ·rw[fx.1]at e;cases e
    ·rw[fx.1]at hc;cases hc
   ·intro z;have:=tbs c z;rcases hc with rfl | hc
    ·rw[this]at e;cases e
    ·rw[this]at hc;cases hc
   ·intro z;rw[<- hst.1]at z;have:=I1.stkFree c z;rcases hc with rfl | hc
    ·rw[this]at e;cases e
    ·rw[this]at hc;cases hc
  have I2:Inv X AO σ H1 { s1 with heap:=h' }:=I1.call' (s':={ s1 with heap:=h' }) rfl un hok I1.bare λb hb=>by
   have fb:wj X AO H1 b:=by
    rcases AU.mp hb with z | z
    ·rw[z];exact fx
    ·rcases AU.mp z with z | z
     ·rw[z];exact fT'
     ·cases tb with
      | ref b' =>
       have:b=b':=by simpa [tbL] using z
       rw[this];exact fT b' rfl
      | _=>simp [tbL]at z
   let#[_,a1,_,a3,a4,a5]:=fb;exact#[a3,a1,a4,a5]
  have I3:Inv X AO σ (upd H1 x (XT x C dx)) { s1 with heap:=h' }:=Inv.track I2 fx (ze4 e1);exact kQ hg hm hdb xc hsu I3 #[t,_,_,e1] #[oT,ts,e2,d2,z2] #[by rw[zq nT];exact fT'.1,fT'.2] hsb (q1 x fx.1)
theorem Jc(bs:List Bool):(aJ bs.length).any (λi=>bs.getD i AN)=bs.any id:=by
 induction bs with
 | nil=>rfl
 | cons b bs ih =>
  rw[aC,dQ,dX,e8,dX,<- ih];rfl
def zhk(K:sr):List V->Hp->VK->Prop:=λxs H Q=>∃(p:su) (bs:List Bool),xs=[.ref p]/\SqL K H p (bs.map V.bl)/\Q (.bl (bs.any id)) H
def zfy(hc:X.calm=AM):vY X (.builtin "any") (zhk X.K):=by
 intros xs us Q I r h;let#[p,bs,rfl,hS,q]:=h;let#[u,rfl,ru]:=wM r;cases ru;let#[its,rv,pl,hz]:=I.list hS
 have hlen:its.length=bs.length:=by
  have:=rv.length;rw[aa]at this;exact this.symm
 have hh:X.A.in1.handled=AL:=I.ok.hd hc
 have hne:p≠s⁻¹:=by
  let#[o,n,e,_]:=pl;exact az (av e)
 let#[f0,f1,f2,f3,f4,f5]:=I.fpOk (H':=H) (ao _) (I.hok.fresh (ao _));have I1:=I.kept (t':=s.toks) (h':=s.heap.push { cls:=.type "list_iterator",data:=.fields (t7 [.ref p,.int 0 0]) }) λb o e=>ag _ e;refine call_any_walk (tR pl.isList ?_);refine#[s⁻¹,_,_,_,_,_,λi=>bs.getD i AN,rfl,Walks.list hh s⁻¹ p hne its.toArray,#[#[_,aI _ rfl,rfl,rfl],?_],?_,?_]
 ·let#[o,n,e,c,d,dt]:=pl;exact#[o,ag _ e,c,n,dt]
 ·intro i v s' Q' E' hv hq;have:=ZU rv (i:=i) (v:=v) (by simpa using hv);rw[this];exact sL hq
 ·intro h' tk hk
  have e:(aJ its.toArray.size).any (λi=>bs.getD i AN)=bs.any id:=by
   rw[aj,hlen,Jc]
  rw[e];refine#[.bl _,H,?_,rfl,q];exact I1.turned (t':=tk) (it:=s⁻¹) (λb o hb q=>hk b o (by simpa using hb) q) f0 f1 f3 f4 f5
def CompEL(K:sr)(a:su)(g:TG)(tt:TT)(te:TE)(own:Nat)(ix:())(σ:L2.St)(H1:Hp)(Q:VK)(D:su):Prop:=XF (Iel K a) g tt te own ix σ H1 Q D
def zax{K:sr}:kG (QK K ta) g tt te own ix σ H Q=ta σ H λvs H1=>∃a,vs=[.ref a]/\(∃xs,SqL K H1 a xs)/\∀D,H1 D=AL->CompEL K a g tt te own ix σ H1 Q D:=rfl
def CompEL.by{g:TG}{tt:TT}{te:TE}{own:Nat}{ix:()}{σ:L2.St}{H1:Hp}{Q:VK}{D:su}{K:sr}(Pv:Nat->List V->Hp->Prop)(h0:Pv 0 [] (upd H1 D (.lst [])))(hl:∀i AR H',i<=xs.length->Pv i AR H'->SqL K H' a xs)(hs:∀i x AR H' p,xs[i]? = AK x->Pv i AR H'->H' p=AL->g (.ref p) (uf σ own ix) (upd H' p (.tup [.int (i:Nat),x])) λσ3 H3=>xu (uf σ own ix) σ3/\tt σ3 H3 λb H4=>if b=AM then
   te σ3 H4 λv H5=>H5 D=AK (.lst AR)/\AR.length<sq/\CNx xs.length i Pv (AR ++ [v]) (upd H5 D (.lst (AR ++ [v])))else CNx xs.length i Pv AR H4) (hd:∀AR H',Pv xs.length AR H'->Q (.ref D) H'):CompEL K a g tt te own ix σ H1 Q D:=by
 refine#[λi m AR H=>m=xs.length - i/\i<=xs.length/\Pv i AR H,#[xs.length,by simp,aD _,h0],?_];rintro i m AR H' ⟨rfl,hi,p⟩;have q:=hl i AR H' hi p;by_cases hlt:i<xs.length
 ·refine .inr #[#[xs,xs[i],q,by simp [hlt]],λv H2 y=>?_];let#[p',x,hp,hx,ev,eH]:=y;subst ev eH;exact hs i x AR H' p' (hx xs q) p hp
 ·have e:i=xs.length:=⋯;subst e;exact .inl #[#[xs,q,rfl],hd AR H' p]
open PySem PySem.W PyProof.Rows
end in def J6(lt:Nat->Nat->Bool){α:Type}:AJ α->α
 | .ret a=>a
 | .ask i j k=>J6 lt (k (lt i j))
def Kok(lt:Nat->Nat->Bool)(n:Nat){α:Type}:AJ α->(α->Prop)->Prop
 | .ret a,Q=>Q a
 | .ask i j k,Q=>i<n/\j<n/\Kok lt n (k (lt i j)) Q
section
variable{lt:Nat->Nat->Bool}{n:Nat}{α β:Type}
theorem Kok.mono(hq:∀a,Q a->Q' a):∀(t:AJ α),Kok lt n t Q->Kok lt n t Q'
 | .ret a,h=>hq a h
 | .ask _ _ k,h=>#[h.1,h.2.1,Kok.mono hq (k _) h.2.2]
theorem Kok.bind : ∀(t:AJ α),Kok lt n t (λa=>Kok lt n (f a) Q)->Kok lt n (t.bind f) Q
 | .ret _,h=>h
 | .ask _ _ k,h=>#[h.1,h.2.1,Kok.bind (k _) h.2.2]
theorem Kok.run : ∀(t:AJ α),Kok lt n t Q->Q (J6 lt t)
 | .ret _,h=>h
 | .ask _ _ k,h=>Kok.run (k _) h.2.2
theorem Kok.same{Q:α->Prop}:∀(t:AJ α),Kok lt n t Q->Kok lt n t (λa=>a=J6 lt t)
 | .ret _,h=>rfl
 | .ask _ _ k,h=>#[h.1,h.2.1,Kok.same (k _) h.2.2]
theorem Kok.wp{I:sw->Prop}(hc:∀i j C s,i<n->j<n->I s->(∀s',I s'->C (lt i j) s')->cmp i j C s)(hR:∀a s,Q a->I s->R a s):∀(t:AJ α) (s:sw),I s->Kok lt n t Q->t.kasWp cmp R s
 | .ret a,s,hI,h=>hR a s h hI
 | .ask i j k,s,hI,h=>hc i j _ s h.1 h.2.1 hI λs' hI'=>Kok.wp hc hR (k _) s' hI' h.2.2
end
structure Wk(lt:Nat->Nat->Bool):Prop where
 asym:∀a b,lt a b=AM->lt b a=AN
 ntr:∀a b c,lt b a=AN->lt c b=AN->lt c a=AN
section
variable{lt:Nat->Nat->Bool}{n:Nat}
abbrev Lq(lt:Nat->Nat->Bool)(a b:Nat):Prop:=lt b a=AN
theorem Wk.refl(W:Wk lt)(a:Nat):Lq lt a a:=by
 cases h:lt a a with
 | false=>exact h
 | true=>exact w4 h (by rw[W.asym a a h];decide)
end in abbrev pg(p:Array Nat)(i:Nat):Nat:=p.getD i 0
def VZ(p:Array Nat)(i:Nat):pg p i=(p[i]?).getD 0:=by simp [pg,Array.getD_eq_getD_getElem?]
def Up(lt:Nat->Nat->Bool)(p:Array Nat)(m:Nat):Prop:=∀i j,i<j->j<m->Lq lt (pg p i) (pg p j)
def Dn(lt:Nat->Nat->Bool)(p:Array Nat)(m:Nat):Prop:=∀i j,i<j->j<m->Lq lt (pg p j) (pg p i)
def Rg(n:Nat)(p:Array Nat):Prop:=p.toList.Perm (aJ n)
def Rg.size(h:Rg n p):p.size=n:=by have:=h.length_eq;simpa using this
theorem Rg.bd(h:Rg n p)(hi:i<n):pg p i<n:=by
 have hs:=h.size;have hi':i<p.size:=⋯;have e:pg p i=p[i]:=by simp [pg,gd,hi']
 rw[e];have hm:p[i] ∈ p.toList:=Array.mem_toList_iff.mpr (Array.getElem_mem hi');exact AY.mp (h.mem_iff.mp hm)
def vL(hj:j<=p.size)(k:Nat):pg (kas_rev p i j) k=if i<=k/\k<j then pg p (i+j - 1 - k)else pg p k:=by rw[VZ,kas_rev,getElem?_mirror_all hj];split <;> rw[VZ]
def Rg.rev(h:Rg n p)(i j:Nat):Rg n (kas_rev p i j):=(Array.perm_iff_toList_perm.mp (mirror_perm p i j _)).trans h
def Rg.bub(h:Rg n p)(i j:Nat):Rg n (bubble p i j):=(Array.perm_iff_toList_perm.mp (bubble_perm p i j)).trans h
theorem Qb(W:Wk lt)(hp:Rg n p):∀(f k:Nat),1<=k->k+f<=n->Up lt p k->Kok lt n (kas_asc p f k) (λm=>k<=m/\m<=k+f/\Up lt p m/\(m=k+f\/lt (pg p m) (pg p (m - 1))=AM))
 | 0,k,h1,h2,hu=>#[⋯,⋯,hu,Or.inl ⋯]
 | f+1,k,h1,h2,hu=>by
  refine#[hp.bd ⋯,hp.bd ⋯,?_];rcases cw (lt (pg p k) (pg p (k - 1)))with hc | hc
  ·show Kok lt n (if lt (pg p k) (pg p (k - 1))=AM then .ret k else _) _;rw[w6 hc];exact#[⋯,⋯,hu,Or.inr hc]
  ·show Kok lt n (if lt (pg p k) (pg p (k - 1))=AM then .ret k else _) _;rw[w9 (by rw[hc];decide)];refine (Qb W hp f (k+1) ⋯ ⋯ λi j hij hj=>?_).mono (λm hm=>#[⋯,⋯,hm.2.2.1,?_]) _
   ·by_cases e:j=k
    ·subst e;by_cases e2:i=j - 1
     ·subst e2;exact hc
     ·exact W.ntr _ _ _ (hu i (j - 1) ⋯ ⋯) hc
    ·exact hu i j hij ⋯
   ·rcases hm.2.2.2 with h | h
    ·exact Or.inl ⋯
    ·exact Or.inr h
def Ev(lt:Nat->Nat->Bool)(p:Array Nat)(a b:Nat):Prop:=∀i j,a<=i->i<b->a<=j->j<b->Lq lt (pg p i) (pg p j)
theorem zaQ(hm:m<=p.size)(hq:q+1<=m)(hd:Dn lt p m)(he:Ev lt p (m - (q+1)) m):Dn lt (kas_rev p (m - (q+1)) m) m:=by
 intro i j hij hj;rw[vL hm,vL hm];by_cases h1:m - (q+1)<=i
 ·rw[w6 (show m - (q+1)<=i/\i<m by lia),w6 (show m - (q+1)<=j/\j<m by lia)];exact he _ _ ⋯ ⋯ ⋯ ⋯
 ·rw[w9 (show ¬ (m - (q+1)<=i/\i<m) by lia)];split
  ·exact hd _ _ ⋯ ⋯
  ·exact hd _ _ ⋯ ⋯
set_option tactic.hygienic true in
theorem Yh(W:Wk lt):∀(f:Nat) (p:Array Nat) (k q:Nat),Rg n p->1<=k->k+f<=n->q+1<=k->Dn lt p k->Ev lt p (k - (q+1)) k ->
  Kok lt n (kas_desc f p k q) (λr=>Rg n r.1/\k<=r.2.1/\r.2.1<=k+f/\r.2.2+1<=r.2.1/\Dn lt r.1 r.2.1/\Ev lt r.1 (r.2.1 - (r.2.2+1)) r.2.1)
 | 0,p,k,q,hp,h1,h2,hq,hd,he=>#[hp,ao _,e9 _ _,hq,hd,he]
 | f+1,p,k,q,hp,h1,h2,hq,hd,he=>by
  have hps:=hp.size;refine#[hp.bd ⋯,hp.bd ⋯,?_]
  have one:∀(p:Array Nat),Ev lt p (k+1 - (0+1)) (k+1):=λp i j a b c d=>by
   have:i=j:=⋯;subst this;exact W.refl _
  rcases cw (lt (pg p k) (pg p (k - 1)))with hc | hc
  ·show Kok lt n (if lt (pg p k) (pg p (k - 1))=AM then _ else _) _;rw[w6 hc];have hle:Lq lt (pg p k) (pg p (k - 1)):=W.asym _ _ hc;split
   ·rename_i hq0;refine (Yh W f _ (k+1) 0 (hp.rev _ _) ⋯ ⋯ ⋯ (λi j hij hj=>?_) (one _)).mono (λr hr=>#[hr.1,⋯,⋯,hr.2.2.2]) _;by_cases e:j=k
    ·subst e;rw[vL ⋯,vL ⋯,w9 ⋯];split
     ·exact W.ntr _ _ _ hle (he _ _ ⋯ ⋯ ⋯ ⋯)
     ·exact W.ntr _ _ _ hle (hd _ _ ⋯ ⋯)
    ·exact zaQ ⋯ hq hd he i j hij ⋯
   ·refine (Yh W f _ (k+1) 0 hp ⋯ ⋯ ⋯ (λi j hij hj=>?_) (one _)).mono (λr hr=>#[hr.1,⋯,⋯,hr.2.2.2]) _;by_cases e:j=k
    ·subst e;by_cases e2:i=j - 1
     ·subst e2;exact hle
     ·exact W.ntr _ _ _ hle (hd i (j - 1) ⋯ ⋯)
    ·exact hd i j hij ⋯
  ·show Kok lt n (if lt (pg p k) (pg p (k - 1))=AM then _ else _) _;rw[w9 (by rw[hc];decide)];refine#[hp.bd ⋯,hp.bd ⋯,?_];rcases cw (lt (pg p (k - 1)) (pg p k))with hd2 | hd2
   ·show Kok lt n (if lt (pg p (k - 1)) (pg p k)=AM then _ else _) _;rw[w6 hd2];exact#[hp,ao _,e9 _ _,hq,hd,he]
   ·show Kok lt n (if lt (pg p (k - 1)) (pg p k)=AM then _ else _) _;rw[w9 (by rw[hd2];decide)];refine (Yh W f _ (k+1) (q+1) hp ⋯ ⋯ ⋯ (λi j hij hj=>?_) (λi j a b c d=>?_)).mono (λr hr=>#[hr.1,⋯,⋯,hr.2.2.2]) _
    ·by_cases e:j=k
     ·subst e;by_cases e2:i=j - 1
      ·subst e2;exact hd2
      ·exact W.ntr _ _ _ hd2 (hd i (j - 1) ⋯ ⋯)
     ·exact hd i j hij ⋯
    ·have b1:∀i,k+1 - (q+1+1)<=i->i<k->Lq lt (pg p i) (pg p (k - 1))/\Lq lt (pg p (k - 1)) (pg p i):=λi a b=>#[he _ _ ⋯ ⋯ ⋯ ⋯,he _ _ ⋯ ⋯ ⋯ ⋯];by_cases e:j=k
     ·subst e;by_cases e3:i=j
      ·subst e3;exact W.refl _
      ·exact W.ntr _ _ _ (b1 i ⋯ ⋯).1 hc
     ·by_cases e3:i=k
      ·subst e3;exact W.ntr _ _ _ hd2 (b1 j ⋯ ⋯).2
      ·exact he _ _ ⋯ ⋯ ⋯ ⋯
theorem Vs(W:Wk lt)(hp:Rg n p)(h1:1<=m)(hm:m<=n)(hd:Dn lt p m):Kok lt n (kas_tail3 m n p) (λr=>Rg n r.2/\1<=r.1/\r.1<=n/\Up lt r.2 r.1):=by have hps:=hp.size;unfold kas_tail3;refine Kok.bind _ ((Qb W (hp.rev 0 m) (n - m) m h1 ⋯ λi j hij hj=>?_).mono (λk hk=>#[hp.rev 0 m,by show 1<=k;lia,by show k<=n;lia,hk.2.2.1]) _);rw[vL ⋯,vL ⋯,w6 ⋯,w6 ⋯];exact hd _ _ ⋯ ⋯
theorem jU(W:Wk lt)(hp:Rg n p)(h1:1<=m)(hm:m+1<=n)(hd:Dn lt p (m+1)):Kok lt n (kas_descPart m n p) (λr=>Rg n r.2/\1<=r.1/\r.1<=n/\Up lt r.2 r.1):=by
 unfold kas_descPart;refine Kok.bind _ ((Yh W (n - (m+1)) p (m+1) 0 hp ⋯ ⋯ ⋯ hd λi j a b c d=>?_).mono (λr hr=>?_) _)
 ·have:i=j:=⋯;subst this;exact W.refl _
 ·let#[r1,r2,r3,r4,r5,r6]:=hr;have hs:=r1.size
  (try dsimp only)
  split
  ·exact Vs W (r1.rev _ _) ⋯ ⋯ (zaQ ⋯ r4 r5 r6)
  ·exact Vs W r1 ⋯ ⋯ r5
theorem Kf(W:Wk lt)(hp:Rg n p)(hn:1<=n):Kok lt n (kas_count n p) (λr=>Rg n r.2/\1<=r.1/\r.1<=n/\Up lt r.2 r.1):=by
 have hps:=hp.size;unfold kas_count;refine Kok.bind _ ((Qb W hp (n - 1) 1 (ao _) ⋯ λi j hij hj=>by lia).mono (λm hm=>?_) _);let#[m1,m2,mu,ms]:=hm;by_cases e:(m == n)=AM
 ·rw[w6 e];exact#[hp,by show 1<=m;lia,by show m<=n;lia,mu]
 ·rw[w9 e];have hne:m≠n:=λh=>e (by rw[h];exact beq_self_eq_true _)
  have hlt:lt (pg p m) (pg p (m - 1))=AM:=by
   rcases ms with h | h
   ·lia
   ·exact h
  have hle:Lq lt (pg p m) (pg p (m - 1)):=W.asym _ _ hlt;by_cases h1:m > 1
  ·rw[w6 h1];refine#[hp.bd ⋯,hp.bd ⋯,?_];rcases cw (lt (pg p 0) (pg p (m - 1)))with hc | hc
   ·show Kok lt n (if lt (pg p 0) (pg p (m - 1))=AM then _ else _) _;rw[w6 hc];exact#[hp,by show 1<=m;lia,by show m<=n;lia,mu]
   ·show Kok lt n (if lt (pg p 0) (pg p (m - 1))=AM then _ else _) _;rw[w9 (by rw[hc];decide)]
    have u0:∀i,i<m->Lq lt (pg p 0) (pg p i):=λi hi=>by
     by_cases h:i=0
     ·subst h;exact W.refl _
     ·exact mu 0 i ⋯ hi
    have ul:∀i,i<m->Lq lt (pg p i) (pg p (m - 1)):=λi hi=>by
     by_cases h:i=m - 1
     ·subst h;exact W.refl _
     ·exact mu i (m - 1) ⋯ ⋯
    have ev:∀i j,i<m->j<m->Lq lt (pg p i) (pg p j):=λi j hi hj=>W.ntr _ _ _ (ul i hi) (W.ntr _ _ _ hc (u0 j hj));refine jU W (hp.rev 0 m) ⋯ ⋯ λi j hij hj=>?_;by_cases h:j=m
    ·subst h;rw[vL ⋯,vL ⋯,w9 ⋯,w6 ⋯];exact W.ntr _ _ _ hle (ev _ _ ⋯ ⋯)
    ·rw[vL ⋯,vL ⋯,w6 ⋯,w6 ⋯];exact ev _ _ ⋯ ⋯
  ·rw[w9 h1];refine jU W hp ⋯ ⋯ λi j hij hj=>?_;have h0:i=m - 1:=⋯;have h1:j=m:=⋯;subst h0 h1;exact hle
theorem ZP(W:Wk lt)(hp:Rg n p)(hk:k<n)(hu:Up lt p k):∀(f l r:Nat),l<=r->r<=k->r - l<=f->(∀i,i<l->Lq lt (pg p i) (pg p k))->(∀i,r<=i->i<k->Lq lt (pg p k) (pg p i)) ->
  Kok lt n (kas_place p k f l r) (λm=>m<=k/\(∀i,i<m->Lq lt (pg p i) (pg p k))/\(∀i,m<=i->i<k->Lq lt (pg p k) (pg p i)))
 | 0,l,r,hl,hr,hf,h1,h2=>by
  have:l=r:=⋯;subst this;exact#[hr,h1,h2]
 | f+1,l,r,hl,hr,hf,h1,h2=>by
  unfold kas_place;by_cases e:l ≥ r
  ·rw[w6 e];have:l=r:=⋯;subst this;exact#[hr,h1,h2]
  ·rw[w9 e];refine#[hp.bd hk,hp.bd ⋯,?_];rcases cw (lt (pg p k) (pg p ((l+r) / 2)))with hc | hc
   ·show Kok lt n (if lt (pg p k) (pg p ((l+r) / 2))=AM then _ else _) _;rw[w6 hc];refine ZP W hp hk hu f l ((l+r) / 2) ⋯ ⋯ ⋯ h1 λi hi hik=>?_;by_cases e2:i=(l+r) / 2
    ·subst e2;exact W.asym _ _ hc
    ·exact W.ntr _ _ _ (W.asym _ _ hc) (hu _ _ ⋯ hik)
   ·show Kok lt n (if lt (pg p k) (pg p ((l+r) / 2))=AM then _ else _) _;rw[w9 (by rw[hc];decide)];refine ZP W hp hk hu f ((l+r) / 2+1) r ⋯ hr ⋯ (λi hi=>?_) h2;by_cases e2:i=(l+r) / 2
    ·subst e2;exact hc
    ·exact W.ntr _ _ _ (hu i ((l+r) / 2) ⋯ ⋯) hc
theorem zbf(hk:k<p.size)(hl:l<=k)(i:Nat):pg (bubble p k (k - l)) i=if i=l then pg p k else if l<i/\i<=k then pg p (i - 1)else pg p i:=by
 have e:k - (k - l)=l:=⋯;rw[VZ,getElem?_bubble hk (k - l) ⋯,e];by_cases h:i=l
 ·rw[w6 h,w6 h];exact (VZ p k).symm
 ·rw[w9 h,w9 h];by_cases h':l<i/\i<=k
  ·rw[w6 h',w6 h'];exact (VZ p (i - 1)).symm
  ·rw[w9 h',w9 h'];exact (VZ p i).symm
theorem zbe(W:Wk lt):∀(f:Nat) (p:Array Nat) (k:Nat),Rg n p->k+f=n->Up lt p k->Kok lt n (kas_bin f p k) (λp'=>Rg n p'/\Up lt p' n)
 | 0,p,k,hp,hk,hu=>by
  have:k=n:=⋯;subst this;exact#[hp,hu]
 | f+1,p,k,hp,hk,hu=>by
  have hps:=hp.size;refine Kok.bind _ ((ZP W hp ⋯ hu k 0 k ⋯ ⋯ ⋯ (λi hi=>by lia) (λi h1 h2=>by lia)).mono (λl hl=>?_) _);let#[l1,l2,l3]:=hl;refine zbe W f _ (k+1) (hp.bub _ _) ⋯ λi j hij hj=>?_;rw[zbf ⋯ l1,zbf ⋯ l1];by_cases h1:i=l
  ·rw[w6 h1,w9 ⋯,w6 ⋯];exact l3 _ ⋯ ⋯
  ·rw[w9 h1];by_cases h2:j=l
   ·rw[w6 h2,w9 ⋯];exact l2 _ ⋯
   ·rw[w9 h2];by_cases h3:l<i/\i<=k
    ·rw[w6 h3,w6 ⋯];exact hu _ _ ⋯ ⋯
    ·rw[w9 h3];by_cases h4:l<j/\j<=k
     ·rw[w6 h4];by_cases h5:i=j - 1
      ·lia
      ·exact hu _ _ ⋯ ⋯
     ·rw[w9 h4];exact hu _ _ ⋯ ⋯
theorem Wd(W:Wk lt)(hn:1<=n):Kok lt n (kas_sort n) (λp=>Rg n p/\Up lt p n):=by
 unfold kas_sort;refine Kok.bind _ ((Kf W (p:=aR (aJ n)) (by unfold Rg;exact List.Perm.refl _) hn).mono (λr hr=>?_) _);let#[r1,r2,r3,r4]:=hr
 (try dsimp only)
 split
 ·have:max r.1 1=r.1:=⋯;rw[this];exact zbe W _ _ _ r1 ⋯ r4
 ·have:r.1=n:=⋯;rw[this]at r4;exact#[r1,r4]
end
end in def srt{α:Type}(lt:α->α->Bool)(d:α)(xs:List α):List α :=
 if xs.length<2 then xs else (J6 (λi j=>lt (xs.getD i d) (xs.getD j d)) (kas_sort xs.length)).toList.map λi=>xs.getD i d
structure WkO{α:Type}(lt:α->α->Bool):Prop where
 asym:∀a b,lt a b=AM->lt b a=AN
 ntr:∀a b c,lt b a=AN->lt c b=AN->lt c a=AN
set_option tactic.hygienic true in
def WZ{lt:α->α->Bool}(W:WkO lt)(d:α)(xs:List α):(srt lt d xs).Perm xs/\(srt lt d xs).Pairwise λa b=>lt b a=AN:=by
 unfold srt;split
 ·rename_i h;refine#[List.Perm.refl _,?_]
  match xs,h with
  | [],_=>exact List.Pairwise.nil
  | [a],_=>exact dH _ _
  | _::_::_,h=>exact w4 h (by simp)
 ·rename_i h;have W':Wk (λi j=>lt (xs.getD i d) (xs.getD j d)):=#[λa b=>W.asym _ _,λa b c=>W.ntr _ _ _];let#[h1,h2]:=Kok.run _ (Wd (n:=xs.length) W' ⋯);generalize J6 (λi j=>lt (xs.getD i d) (xs.getD j d)) (kas_sort xs.length)=p at h1 h2
  have e:(aJ xs.length).map (λi=>xs.getD i d)=xs:=by
   refine List.ext_getElem (by simp) λi a b=>?_;have hb:i<xs.length:=by simpa using b
   simp [hb]
  refine#[(h1.map (λi=>xs.getD i d)).trans (by rw[e]),?_];rw[List.pairwise_map,List.pairwise_iff_getElem];intro i j hi hj hij;have hs:=h1.size;have hi':i<p.size:=by simpa using hi
  have hj':j<p.size:=by simpa using hj
  have q:=h2 i j hij ⋯;have ei:pg p i=p.toList[i]:=by simp [pg,gd,hi']
  have ej:pg p j=p.toList[j]:=by simp [pg,gd,hj']
  rw[ei,ej]at q;exact q
theorem QU{lt lt':Nat->Nat->Bool}{Q:α->Prop}(h:∀i j,i<n->j<n->lt i j=lt' i j):∀t:AJ α,Kok lt n t Q->J6 lt t=J6 lt' t
 | .ret _,_=>rfl
 | .ask i j k,q=>by
  show J6 lt (k (lt i j))=J6 lt' (k (lt' i j));rw[<- h i j q.1 q.2.1];exact QU h _ q.2.2
set_option tactic.hygienic true in
def zav{lt lt':α->α->Bool}(W:WkO lt){d d':α}{xs:List α}(h:∀a ∈ xs,∀b ∈ xs,lt a b=lt' a b):srt lt d xs=srt lt' d' xs:=by
 have g:∀i,i<xs.length->∃a ∈ xs,xs.getD i d=a/\xs.getD i d'=a:=λi hi=>#[xs[i],List.getElem_mem hi,by rw[ae,af hi];rfl,by rw[ae,af hi];rfl];unfold srt;split
 ·rfl
 ·rename_i hl;have W':Wk (λi j=>lt (xs.getD i d) (xs.getD j d)):=#[λa b=>W.asym _ _,λa b c=>W.ntr _ _ _];have ok:=Wd (n:=xs.length) W' ⋯
  have e:=QU (lt':=λi j=>lt' (xs.getD i d') (xs.getD j d')) (λi j hi hj=>by
   let#[a,ha,a1,a2]:=g i hi;let#[b,hb,b1,b2]:=g j hj;show lt (xs.getD i d) (xs.getD j d)=lt' (xs.getD i d') (xs.getD j d');rw[a1,a2,b1,b2]
   exact h a ha b hb) _ ok
  rw[<- e];let#[h1,_]:=Kok.run _ ok;refine aW λi hi=>?_;let#[a,_,a1,a2]:=g i (AY.mp (h1.mem_iff.mp hi));rw[a1,a2]
def Qh{lt:β->β->Bool}(f:α->β)(d:α)(xs:List α):srt lt (f d) (xs.map f)=(srt (λa b=>lt (f a) (f b)) d xs).map f:=by
 have e:∀i,(xs.map f).getD i (f d)=f (xs.getD i d):=λi=>by
  rw[ae,ae,au];cases xs[i]? <;> rfl
 unfold srt;rw[aa];split
 ·rfl
 ·erw[e,aY]
  rfl
end L3
namespace L3
open PySem PySem.W PyProof.Rows
structure Idp(n:Nat)(p:Array Nat)(m:Nat):Prop where
 r:Rg n p
 lo:∀i,i<m->pg p i<m
 hi:∀i,m<=i->i<n->pg p i=i
def Idp.up(h:Idp n p m)(hk:m<=k)(hn:k<=n):Idp n p k:=#[h.r,λi hi=>by
 by_cases e:i<m
 ·have:=h.lo i e;lia
 ·rw[h.hi i ⋯ ⋯];exact hi,λi a b=>h.hi i ⋯ b]
end L3
namespace L3
structure KeyFam(α:Type) where
 dec:α->List D
 lt:α->α->Bool
 fst:Bool
 d0:α
structure KeyFam.Ok{α:Type}(F:KeyFam α):Prop where
 w:WkO F.lt
 eq:∀a b,wN (F.dec a) (F.dec b)=F.lt a b
 ok:∀a b,ZN (F.dec a) (F.dec b)
 dp:∀a,vI (F.dec a)<40
 sh:∀a,∃d r,F.dec a=d::r/\((F.fst=AM/\∃n,d=.int n)\/(F.fst=AN/\∃l,d=.tup l))
def okF:List D->List D->Prop
 | d::l,e::m=>if eqD d e=AM then okF l m else okD d e
 | _,_=>True
structure KeyFam.OkF{α:Type}(F:KeyFam α):Prop where
 w:WkO F.lt
 eq:∀a b,wN (F.dec a) (F.dec b)=F.lt a b
 ok:∀a b,okF (F.dec a) (F.dec b)
 dp:∀a,vI (F.dec a)<40
 sh:∀a,∃d r,F.dec a=d::r/\((F.fst=AM/\∃n,d=.int n)\/(F.fst=AN/\∃l,d=.tup l))
theorem zaP:∀{l m:List D},ZN l m->okF l m
 | [],m,_=>by erw[okF]
 | d::l,[],_=>by erw[okF]
 | d::l,e::m,h=>by
  erw[ZN]at h
  erw[okF]
  split
  ·exact zaP h.2
  ·exact h.1
def KeyFam.Ok.f{F:KeyFam α}(h:F.Ok):F.OkF:=#[h.w,h.eq,λa b=>zaP (h.ok a b),h.dp,h.sh]
def Inv.repin(I:Inv X (AO ++ [(b,o)]) σ H s)(hs:X.s₀.heap.objs.size<=b)(hn:∀p ∈ X.pn ++ AO,p.1≠b)(sb:Heap.SameBut b s.heap h')(ho:h'.get? b=AK o')(hd:∀v,o'.data≠.cell v) :
  Inv X (AO ++ [(b,o')]) σ H { s with heap:=h' }:=by
 have I1:Inv X AO σ H s:=I.unpinned;let#[p1,p2,p3,p4,p5]:=I.pin (b,o) (aG _ (aG _ (AW.mpr rfl)))
 have I2:Inv X AO σ H { s with heap:=h' }:=Inv.turns I1 (fp:=[b]) (t':=s.toks) (λb' u hb e=>(sb.2 b' (by simpa using hb)).trans e) λb' hb=>by
  have e:b'=b:=by simpa using hb
  subst e;refine#[p2,p3,p4,.inr hs,λx c e z=>?_,hn];let#[v,o1,ho1,hd1]:=I.cell x c e;subst z;rw[p1]at ho1;cases ho1;exact p5 v hd1
 exact I2.pins_of λp hp=>by
  rcases AV.mp hp with z | z
  ·exact I2.pin p (aG _ z)
  ·have e:p=(b,o'):=by simpa using z
   subst e;exact#[ho,p2,p3,p4,hd]
def Inv.newpin(I:Inv X AO σ H s)(hf:wj X AO H b)(ho:s.heap.get? b=AK o)(hd:∀v,o.data≠.cell v):Inv X (AO ++ [(b,o)]) σ H s :=
 I.pins_of λp hp=>by
  rcases AV.mp hp with z | z
  ·exact I.pin p (aG _ z)
  ·have e:p=(b,o):=by simpa using z
   subst e;exact#[ho,hf.1,hf.2.1,hf.2.2.1,hd]
set_option tactic.hygienic true in
theorem zd3(I:Inv X AO σ H s)(hu:A.units+50<cLine):∀(l m:List D) (xs ys:List V) (its its':List sv) (i:Nat),Iss X.K H l xs->Iss X.K H m ys->Vals xs its->Vals ys its'->okF l m->vI l<40 ->
  (b=AM->i=0->(∃n r,l=.int n::r)/\∃n r,m=.int n::r)->Q (wN l m) s->PySem.W.KatLex X.prog X.w A b (decide (its.length<its'.length)) Q (its.zip its') i s
 | [],m,xs,ys,its,its',i,h1,h2,r1,r2,ok,hd,hb,q=>by
  erw[Iss]at h1
  subst h1;cases r1
  have e:wN [] m=decide (([]:List sv).length<its'.length):=by
   have e1:=h2.len;have e2:=r2.length;have e3:m.length=its'.length:=⋯;rw[<- e3]
   cases m with
   | nil=>simp [wN]
   | cons _ _=>simp [wN]
  rw[e]at q;rw[List.zip_nil_left];exact gD q
 | d::l,[],xs,ys,its,its',i,h1,h2,r1,r2,ok,hd,hb,q=>by
  erw[Iss]at h2
  subst h2;cases r2
  erw[wN]at q
  rw[List.zip_nil_right];exact gD (by simpa using q)
 | d::l,e::m,xs,ys,its,its',i,h1,h2,r1,r2,ok,hd,hb,q=>by
  erw[Iss]at h1 h2
  let#[x,xr,rfl,hx,hxr]:=h1;let#[y,yr,rfl,hy,hyr]:=h2
  cases r1 with | cons rx rxr =>
  cases r2 with | cons ry ryr =>
  erw[okF]at ok
  erw[vI]at hd
  rename_i u us v vs;rw[dC];refine PySem.W.kat_cons (qm I 45 A d e x y u v ⋯ ⋯ hx hy rx ry X.prog X.w _ _ ?_)
  cases he:eqD d e with
  | true =>
   refine PySem.W.kat_yes ?_;have:=zd3 I (b:=b) hu l m xr yr us vs (i+1) hxr hyr rxr ryr (by rw[w6 he]at ok;exact ok) ⋯ (λZ z=>w4 z ⋯) (by simpa only[wN,he,if_true] using q);simpa using this
  | false =>
   refine PySem.W.kat_no ?_;have q':Q (ltD d e) s:=by simpa only[wN,he,bf,if_false] using q
   by_cases hbi:(b && i == 0)=AM
   ·rw[hbi]
    erw[aQ,beq_iff_eq]at hbi
    let#[#[n,r,e1],n',r',e2]:=hb hbi.1 hbi.2;cases e1;cases e2
    erw[Is]at hx hy
    subst hx hy;let#[t,rfl]:=rx;let#[t',rfl]:=ry
    erw[ltD]at q'
    exact oneLt_int q'
   ·rw[show (b && i == 0)=AN by simpa using hbi];exact PySem.W.kat_one _ _ (JS I 45 A d e x y u v ⋯ ⋯ (by rw[w9 (by rw[he];decide)]at ok;exact ok) hx hy rx ry X.prog X.w _ _ q')
def zb9(I:Inv X AO σ H s)(hu:A.units+50<cLine)(hx:Is X.K H (.tup l) x)(hy:Is X.K H (.tup m) y)(rx:RelV x u)(ry:RelV y v)(ok:okF l m)(hd:vI l<40)(hb:b=AM->(∃n r,l=.int n::r)/\∃n r,m=.int n::r)(q:Q (wN l m) s):sy (model X.prog X.w) A (keyLt' (tuples' b) u v) Q E s:=by
 erw[Is]at hx hy
 let#[a,xs,rfl,h1,h2]:=hx;let#[c,ys,rfl,g1,g2]:=hy;cases rx;cases ry;let#[its,r,#[o,ho,hoc,n,hod],_]:=I.tuple h1;let#[its',r',#[o',ho',hoc',n',hod'],_]:=I.tuple g1;refine PySem.W.kat_lt ho hod ho' hod' ?_;have:=zd3 I (A:=A) (b:=b) (Q:=Q) hu l m xs ys its its' 0 h2 g2 r r' ok hd (λz Z=>hb z) q;simpa using this
set_option tactic.hygienic true in
theorem zbd{F:KeyFam α}(FO:F.OkF)(I:Inv X AO σ H s):∀(rs:List α) (AR:List V) (ks:List sv),Iss X.K H (rs.map λa=>.tup (F.dec a)) AR->Vals AR ks ->
  ∃fs,PySem.W.KatTups s.heap ks fs/\fs.length=rs.length/\∀v ∈ fs,PySem.W.Looks M s.heap (typeOf v) (.type (if F.fst=AM then "int" else "tuple"))
 | [],AR,ks,h,r=>by
  erw[aA,Iss]at h
  subst h;cases r;exact#[[],PySem.W.KatTups.nil,rfl,λv hv=>by cases hv]
 | a::rs,AR,ks,h,r=>by
  erw[am,Iss]at h
  let#[x,xr,rfl,hx,hxr]:=h
  cases r with | cons rx rxr =>
  rename_i u us;let#[fs,t1,t2,t3]:=zbd FO I (M:=M) rs xr us hxr rxr
  erw[Is]at hx
  let#[c,xs,rfl,h1,h2]:=hx;cases rx;let#[its,ri,#[o,ho,hoc,n,hod],_]:=I.tuple h1;let#[d,dr,ed,hsh]:=FO.sh a;rw[ed]at h2
  erw[Iss]at h2
  let#[y,yr,rfl,hy,_]:=h2
  cases ri with | cons ry rir =>
  rename_i v vs;refine#[v::fs,PySem.W.KatTups.cons ho hoc hod (by simp) t1,by simp [t2],λz hz=>?_];rcases AU.mp hz with e | hz
  ·subst e;rcases hsh with ⟨hf,n',rfl⟩ | ⟨hf,l,rfl⟩
   ·rw[w6 hf]
    erw[Is]at hy
    subst hy;let#[t,rfl]:=ry;exact PySem.W.Looks.of_pure rfl
   ·rw[w9 (by rw[hf];decide)]
    erw[Is]at hy
    let#[c',xs',rfl,g1,_]:=hy;cases ry;let#[its',ri',#[o',ho',hoc',n',hod'],_]:=I.tuple g1;rw[<- hoc'];exact (PySem.W.Looks.ld ho').andThen .now
  ·exact t3 z hz
def VJ{α:Type}(K:sr)(F:KeyFam α)(xs:List V)(Q:VK):List V->Hp->Prop:=λAR H'=>∃rs:List α,Iss K H' (rs.map λa=>.tup (F.dec a)) AR /\
 ∀ys:List (α × V),ys=srt (λp q=>F.lt p.1 q.1) (F.d0,.non) (rs.zip xs)->∀D,H' D=AL->Q (.ref D) (upd H' D (.lst (ys.map (·.2))))
def Inv.fp_of_pin(I:Inv X (AO ++ [(b,o)]) σ H s)(hs:X.s₀.heap.objs.size<=b)(hn:∀p ∈ X.pn ++ AO,p.1≠b):wj X AO H b:=by let#[p1,p2,p3,p4,p5]:=I.pin (b,o) (aG _ (aG _ (AW.mpr rfl)));refine#[p2,p3,p4,.inr hs,λx c e z=>?_,hn];let#[v,o1,ho1,hd1]:=I.cell x c e;subst z;rw[p1]at ho1;cases ho1;exact p5 v hd1
def Inv.at_pin(I:Inv X (AO ++ [(b,o)]) σ H s):s.heap.get? b=AK o:=(I.pin (b,o) (aG _ (aG _ (AW.mpr rfl)))).1
def yV : ∀v,(sC c xs n).data≠.cell v:=λv z=>by cases z
def zeJ{D kS:su}{st:SortSt}(I:Inv X ((AO ++ [(D,sC "list" #[] e1)]) ++ [(kS,sC "list" (aR ks) e)]) σ H s)(hD:X.s₀.heap.objs.size<=D)(hK:X.s₀.heap.objs.size<=kS)(nD:∀p ∈ X.pn ++ AO,p.1≠D)(nK:∀p ∈ X.pn ++ (AO ++ [(D,sC "list" #[] e1)]),p.1≠kS)(hkz:ks.length<64)(hout:(arrOf st).map (·.2)=aR out)(hoz:out.length<64)(hf:failedOf st=AL)(h:∀s' c,Inv X (AO ++ [(D,sC "list" (aR out) c)]) σ H s'->P (.done (.ret .none)) s') :
  sy (model X.prog X.w) A (ksk_tail D AN e1 (.ref kS) st) P E s:=by
 have pk:=Inv.at_pin I;have s1:=Heap.SameBut.update s.heap kS (Obj.mapSeq λZ=>(#[]:Array sv));obtain⟨ck,hck⟩:∃ck,(s.heap.update kS (Obj.mapSeq λZ=>(#[]:Array sv))).get? kS=AK (sC "list" #[] ck):=#[_,get?_update_seq pk λZ=>#[]];have I2:=(Inv.repin I hK nK s1 hck yV).unpinned;have pd:=Inv.at_pin I2;have s2:=Heap.SameBut.update (s.heap.update kS (Obj.mapSeq λZ=>(#[]:Array sv))) D (Obj.mapSeq λZ=>aR out);obtain⟨c2,hc2⟩:∃c2,((s.heap.update kS (Obj.mapSeq λZ=>(#[]:Array sv))).update D (Obj.mapSeq λZ=>aR out)).get? D=AK (sC "list" (aR out) c2):=#[_,get?_update_seq pd λZ=>aR out];have I3:=Inv.repin I2 hD nD s2 hc2 yV;unfold ksk_tail
 (try dsimp only)
 rw[hout];refine si (listUpdate_at pk rfl ?_ (by rw[aj,sK];lia) (aD _));refine si (tB ?_);refine si (seqEpoch_at pd rfl ?_);refine si (listUpdate_at pd rfl ?_ (aD _) (by erw[bf,if_false];rw[aj,sK];lia));rw[hf]
 erw[bne_self_eq_false,bf,if_false]
 exact sj (h _ c2 I3)
def zdG{F:KeyFam α}(FO:F.OkF){rs:List α}{T:SortSt->Sem PySem.Fin}(hu:A.units+50<cLine)(I:Inv X pz σ H s)(rk:Vals AR ks)(rv:Vals xs its)(hl:ks.length=its.length)(hz:its.length<64)(hR:Iss X.K H (rs.map λa=>.tup (F.dec a)) AR)(h:∀st s' (out:List sv),Vals ((srt (λp q=>F.lt p.1 q.1) (F.d0,V.non) (rs.zip xs)).map (·.2)) out->out.length<64->(arrOf st).map (·.2)=aR out->failedOf st=AL->Inv X pz σ H s'->sy (model X.prog X.w) A (T st) P E s') :
  sy (model X.prog X.w) A (do
   let kind <- if its.toArray.size<2 then pure general' else keyKind' (aR ks)
   let (Unit.unit,st) <- (if its.toArray.size<2 then pure Unit.unit else sortRuns').run (SortSt.mk' kind ((aR ks).zip its.toArray) #[] 7 AL)
   T st) P E s:=by
 have L1:=hR.len;have L2:=rk.length;have L3:=rv.length;rw[aa]at L1;have lz:(rs.zip xs).length=its.length:=by rw[List.length_zip];lia
 by_cases h2:its.toArray.size<2
 ·rw[w6 h2,w6 h2];refine si (sj ?_);dsimp only;rw[StateT.run_pure];refine si (sj ?_)
  (try dsimp only)
  refine h _ _ its ?_ hz ?_ rfl I
  ·rw[aj]at h2;unfold srt;rw[w6 ⋯,List.map_snd_zip ⋯];exact rv
  ·show ((aR ks).zip its.toArray).map (·.2)=_;apply Array.toList_inj.mp;rw[Array.toList_map,ksk_zip];exact List.map_snd_zip (by simp;lia)
 ·rw[w9 h2,w9 h2];rw[aj]at h2;let#[fs,t1,t2,t3]:=zbd FO I (M:=model X.prog X.w) rs AR ks hR rk;refine si (PySem.W.kat_kind t1 ⋯ t3 (by simp) ?_)
  have hfst:((Value.type (if F.fst=AM then "int" else "tuple"):sv) != Value.type "tuple")=F.fst:=by
   cases hF:F.fst with
   | true=>rfl
   | false=>rfl
  rw[hfst];have W:Wk (λi j=>F.lt (rs.getD i F.d0) (rs.getD j F.d0)):=#[λa b=>FO.w.asym _ _,λa b c=>FO.w.ntr _ _ _];have ok:=Wd (n:=its.length) W ⋯
  have lt_eq:(λi j=>F.lt (rs.getD i F.d0) (rs.getD j F.d0))=(λi j=>(λ(p q:α × V)=>F.lt p.1 q.1) ((rs.zip xs).getD i (F.d0,.non)) ((rs.zip xs).getD j (F.d0,.non))):=by
   have one:∀i,((rs.zip xs).getD i (F.d0,V.non)).1=rs.getD i F.d0:=λi=>by
    by_cases hi:i<its.length
    ·have a1:i<rs.length:=⋯;have a2:i<xs.length:=⋯;rw[ae,ae,af ⋯,af a1];simp
    ·rw[ae,ae,ci ⋯,ci ⋯];rfl
   funext i j
   erw[one]
  have wp:=Kok.wp (n:=its.length) (cmp:=gF X.prog X.w A (tuples' F.fst) ks) (I:=λs'=>Inv X pz σ H s')
   (R:=λp s'=>p=J6 (λi j=>F.lt (rs.getD i F.d0) (rs.getD j F.d0)) (PySem.W.kas_sort its.length)/\Inv X pz σ H s')
   (λi j C s' hi hj I' hC=>?_) (λp s' hp I'=>#[hp,I']) _ s I (Kok.same _ ok)
  ·have run:=PySem.W.kat_run (E:=E) (vs:=its) (ks:=ks) (Q:=λst' s'=>∃p:Array Nat,p.size=its.length/\arrOf st'=p.map (PySem.W.kas_item (ks.toArray.zip its.toArray))/\failedOf st'=AL/\_) hl ⋯ hz (λp' st' s' a1 a2 a3 a4=>#[p',a1,a2,a3,a4]) wp;refine si (tD run ?_ λZ Z e=>e);rintro⟨⟨⟩,st'⟩ s' ⟨p,hp,har,hf,hpk,I'⟩
   (try dsimp only)
   have hout:=PySem.W.kat_snds (ks:=ks) (vs:=its) hl har;have hR1:Rg its.length p:=by rw[hpk];exact (Kok.run _ ok).1
   have g1:(p.toList.map λi=>(rs.zip xs).getD i (F.d0,.non))=srt (λp q=>F.lt p.1 q.1) (F.d0,.non) (rs.zip xs):=by
    unfold srt;rw[w9 ⋯,lz,<- lt_eq,<- hpk]
   have olen:(p.toList.map λi=>its.getD i r8).length=its.length:=by rw[aa,eD,hp]
   refine h _ _ (p.toList.map λi=>its.getD i r8) ?_ ⋯ hout hf I';rw[<- g1,aY]
   have all:∀(js:()),(∀j ∈ js,j<its.length)->Vals (js.map ((λx:α × V=>x.2) ∘ λi=>(rs.zip xs).getD i (F.d0,.non))) (js.map λi=>its.getD i r8):=by
    intro js
    induction js with
    | nil=>intro _;exact .nil
    | cons j js ih =>
     intro hj;refine .cons ?_ (ih λi hi=>hj i (ar _ hi));have hjl:=hj j ay;have a1:j<xs.length:=⋯;let#[u,hu1,ru]:=xN rv (j:=j) (x:=xs[j]) (af a1)
     have e1:((rs.zip xs).getD j (F.d0,V.non)).2=xs[j]:=by
      rw[ae,af ⋯];simp
     have e2:its.getD j r8=u:=by rw[ae,hu1];rfl
     show RelV ((rs.zip xs).getD j (F.d0,V.non)).2 (its.getD j r8);rw[e1,e2];exact ru
   exact all p.toList λj hj=>AY.mp (hR1.mem_iff.mp hj)
  ·have a1:i<rs.length:=⋯;have a2:j<rs.length:=⋯;have gi:(rs.map λa=>_root_.L3.D.tup (F.dec a))[i]? = AK (.tup (F.dec rs[i])):=by rw[au,af a1];rfl
   have gj:(rs.map λa=>_root_.L3.D.tup (F.dec a))[j]? = AK (.tup (F.dec rs[j])):=by rw[au,af a2];rfl
   let#[x,hx,ix]:=hR.at gi;let#[y,hy,iy]:=hR.at gj;let#[u,hu1,ru]:=xN rk hx;let#[v,hv1,rv1]:=xN rk hy;have e1:ks.getD i r8=u:=by rw[ae,hu1];rfl
   have e2:ks.getD j r8=v:=by rw[ae,hv1];rfl
   have e3:rs.getD i F.d0=rs[i]:=by rw[ae,af a1];rfl
   have e4:rs.getD j F.d0=rs[j]:=by rw[ae,af a2];rfl
   unfold gF;rw[e1,e2];refine zb9 I' hu ix iy ru rv1 (FO.ok _ _) (FO.dp _) (λhb=>?_) ?_
   ·let#[d,r,ed,hd]:=FO.sh rs[i];let#[d',r',ed',hd']:=FO.sh rs[j];rcases hd with ⟨_,n,rfl⟩ | ⟨z,_⟩
    ·rcases hd' with ⟨_,n',rfl⟩ | ⟨z,_⟩
     ·exact#[#[n,r,ed],n',r',ed']
     ·rw[hb]at z;cases z
    ·rw[hb]at z;cases z
   ·rw[FO.eq,<- e3,<- e4];exact hC s' I'
def zf4{F:KeyFam α}(FO:F.OkF){D kS:su}{rs:List α}(hu:A.units+50<cLine)(I:Inv X ((AO ++ [(D,sC "list" #[] e1)]) ++ [(kS,sC "list" (aR ks) e)]) σ H s)(hD:X.s₀.heap.objs.size<=D)(hK:X.s₀.heap.objs.size<=kS)(nD:∀p ∈ X.pn ++ AO,p.1≠D)(nK:∀p ∈ X.pn ++ (AO ++ [(D,sC "list" #[] e1)]),p.1≠kS)(rk:Vals AR ks)(rv:Vals xs its)(hl:ks.length=its.length)(hz:its.length<64)(hR:Iss X.K H (rs.map λa=>.tup (F.dec a)) AR)(h:∀s' (ys:List (α × V)) (out:List sv) c,ys=srt (λp q=>F.lt p.1 q.1) (F.d0,.non) (rs.zip xs)->Vals (ys.map (·.2)) out->out.length<64->Inv X (AO ++ [(D,sC "list" (aR out) c)]) σ H s'->P (.done (.ret .none)) s') :
  sy (model X.prog X.w) A (ksk_end D AN its.toArray e1 (.ref kS) (aR ks)) P E s:=by
 unfold ksk_end
 erw[bf,if_false]
 exact zdG FO hu I rk rv hl hz hR λst s' out hv ho har hf I'=>zeJ I' hD hK nD nK ⋯ har ho hf λs2 c I2=>h s2 _ out c rfl hv ho I2
def qo(kc:V->Hp->VK->Prop):List V->List V->Hp->(List V->Hp->Prop)->Prop
 | [],AR,H,Q=>Q AR H
 | x::xs,AR,H,Q=>kc x H (λk H'=>qo kc xs (AR ++ [k]) H' Q)
def zbR(FO:F.Ok)(hr:Room (k+2) X.A)(hkc:∀(pins':List (su × tN)) (s:sw) (H:Hp) (x:V) (u:sv) (Q:VK),Inv X pins' σ H s->RelV x u->kc x H Q->sy (model X.prog X.w) X.A.in1.in1 (call (.ref q) [u]) (EP X pins' σ Q) (λZ Z=>False) s){D kS:su}(I:Inv X ((AO ++ [(D,sC "list" #[] e1)]) ++ [(kS,sC "list" #[] 0)]) σ H s)(hD:X.s₀.heap.objs.size<=D)(hK:X.s₀.heap.objs.size<=kS)(nD:∀p ∈ X.pn ++ AO,p.1≠D)(nK:∀p ∈ X.pn ++ (AO ++ [(D,sC "list" #[] e1)]),p.1≠kS)(rv:Vals xs its)(hz:its.length<64)(ht:qo kc xs [] H (VJ X.K F xs Q))(hP:∀s',EP X AO σ Q (.ref D) s'->P (.done (.ret .none)) s') :
  sy (model X.prog X.w) X.A.in1.in1 (ksk_rest D (.ref q) AN its.toArray e1 (.ref kS)) P E s:=by
 unfold ksk_rest;refine si (AB ?_);rw[List.forIn_toArray]
 refine si (ksk_fold (λj s'=>∃AR ks e H',Inv X ((AO ++ [(D,sC "list" #[] e1)]) ++ [(kS,sC "list" (aR ks) e)]) σ H' s'/\Vals AR ks/\ks.length=j/\qo kc (xs.drop j) AR H' (VJ X.K F xs Q))
  its 0 s #[[],[],0,H,I,.nil,rfl,ht] (λj x s1 hx hJ=>?_) λs1 hJ=>?_)
 ·let#[AR,ks,e,H1,I1,rk,hkl,tk]:=hJ;rw[d9]at hkl tk;have hjl:j<its.length:=(AS.mp hx).1;have L3:=rv.length;let#[u,hu,ru]:=xN rv (j:=j) (x:=xs[j]) (af ⋯);rw[hx]at hu;cases hu;rw[aX ⋯]at tk;refine si (Al (tD (hkc _ _ _ _ _ _ I1 ru tk) (λkv s2 hk=>?_) λZ Z z=>z.elim));let#[v,H2,I2,rv2,tk2]:=hk;have pk:=Inv.at_pin I2;have sb:=Heap.SameBut.update s2.heap kS (Obj.mapSeq (·.push kv));have ea:(aR ks).push kv=aR (ks ++ [kv]):=by simp
  obtain⟨c2,hc2⟩:∃c2,(s2.heap.update kS (Obj.mapSeq (·.push kv))).get? kS=AK (sC "list" (aR (ks ++ [kv])) c2):=#[_,by rw[<- ea];exact get?_update_seq pk (·.push kv)];have I3:=Inv.repin I2 hK nK sb hc2 yV
  (try dsimp only)
  refine si (listUpdate_at pk rfl ?_ (by rw[aj,sK];lia) (by rw[Array.size_push,aj,sK];lia));refine sj #[rfl,AR ++ [v],ks ++ [kv],c2,H2,I3,rk.append (.cons rv2 .nil),by rw[ak,fO,hkl];lia,?_];rw[d9];exact tk2
 ·let#[AR,ks,e,H1,I1,rk,hkl,tk]:=hJ;rw[d9]at hkl tk;have L3:=rv.length;rw[<- L3,eY]at tk;let#[rs,hR,hq]:=tk
  (try dsimp only)
  refine si (listItems_at (Inv.at_pin I1) rfl ?_);refine zf4 FO.f (by have:=hr.in1.in1.un;lia) I1 hD hK nD nK rk rv hkl hz hR λs' ys out c p1 p3 p4 I'=>hP s' ?_;have fp:=Inv.fp_of_pin I' hD nD;refine#[.ref D,_,Inv.track I'.unpinned (a:=D) (o:=.lst (ys.map (·.2))) fp #[?_,out,c,p3,Inv.at_pin I'],rfl,hq ys p1 D fp.1];rw[p3.length,sK];lia
def U7(FO:F.Ok)(hr:Room (k+2) X.A)(hkc:∀(pins':List (su × tN)) (s:sw) (H:Hp) (x:V) (u:sv) (Q:VK),Inv X pins' σ H s->RelV x u->kc x H Q->sy (model X.prog X.w) X.A.in1.in1 (call (.ref q) [u]) (EP X pins' σ Q) (λZ Z=>False) s)(I:Inv X AO σ H s)(hS:SqL X.K H l xs)(hz:xs.length<64)(ht:qo kc xs [] H (VJ X.K F xs Q)) :
  sy (model X.prog X.w) X.A (call (.builtin "sorted") [.ref l] [(cu "key",.ref q)]) (EP X AO σ Q) X.xe s:=by
 let#[its,rv,pl,_]:=I.list hS;have hlen:=rv.length;refine call_function_entry_kw kind_sorted plain_sorted entry_sorted (ksk_s1 _ _) ?_;unfold Builtin.«sorted»;refine si (m:=checkCount "sorted" 1 1 _) (sj ?_);refine si (collect_list pl.isList ?_ (by rw[sK];lia));refine si (tU ?_ (by rw[sK];lia));generalize hh1:((s.heap.push (sC "list" #[] 0)).update s⁻¹ (Obj.mapSeq (· ++ its.toArray)))=h1;have sz1:h1.objs.size=s⁻¹+1:=by rw[<- hh1,dg,size_push']
 have kp1:∀b o,s.heap.get? b=AK o->h1.get? b=AK o:=λb o e=>by
  have hlt:b<s⁻¹:=av e;rw[<- hh1,gm _ _ _ _ (az hlt),Heap.get?_push_ne _ _ _ (az hlt)];exact e
 have hoL:(h1.push (sC "list" its.toArray 0)).get? h1.objs.size=AK (sC "list" its.toArray 0):=aI _ rfl;show sy _ _ _ _ _ { s with heap:=h1.push (sC "list" its.toArray 0) };refine si (sM (wpAny_call_entry_kw slot_list_sort #[_,hoL,rfl] entry_list_sort ?body (ksk_l1 _ _)));show sy _ _ (Builtin.«list.sort» #[[.ref h1.objs.size],[(cu "key",.ref q)]]) _ _ _;rw[ksk_t1];generalize hh2:h1.push (sC "list" its.toArray 0)=h2 at hoL;have sz2:h2.objs.size=h1.objs.size+1:=by rw[<- hh2,size_push']
 have kp2:∀b o,s.heap.get? b=AK o->h2.get? b=AK o:=λb o e=>by rw[<- hh2];exact ag _ (kp1 b o e)
 generalize hDD:h1.objs.size=D at hoL;obtain⟨e1,ho1⟩:∃e1,(h2.update D (Obj.mapSeq λZ=>(#[]:Array sv))).get? D=AK (sC "list" #[] e1):=#[_,get?_update_seq hoL λZ=>#[]];have hDs:s⁻¹<=D:=by rw[<- hDD,sz1];exact cJ _
 have sb:=Heap.SameBut.update h2 D (Obj.mapSeq λZ=>(#[]:Array sv));unfold ksk_tree;refine si (listItems_at hoL rfl ?_);refine si (listUpdate_at hoL rfl ?_ (by rw[aj,sK];lia) (aD _));refine si (seqEpoch_at ho1 rfl ?_);refine si (wpAny_newTuple ?_ (by show its.length<=_;rw[sK];lia));refine si (tU ?_ (aD _));refine sM ?_;generalize hh3:(h2.update D (Obj.mapSeq λZ=>(#[]:Array sv))).push (sC "tuple" its.toArray 0)=h3;have sz3:h3.objs.size=s⁻¹+3:=by rw[<- hh3,size_push',dg,sz2,sz1]
 have hoK:(h3.push (sC "list" #[] 0)).get? h3.objs.size=AK (sC "list" #[] 0):=aI _ rfl;have hoD:(h3.push (sC "list" #[] 0)).get? D=AK (sC "list" #[] e1):=ag _ (by rw[<- hh3];exact ag _ ho1)
 have kp3:∀b o,s.heap.get? b=AK o->(h3.push (sC "list" #[] 0)).get? b=AK o:=λb o e=>by
  have hlt:b<s⁻¹:=av e;refine ag _ ?_;rw[<- hh3];exact ag _ ((sb.2 b (az (ax hlt hDs))).trans (kp2 b o e))
 have I1:Inv X AO σ H { s with heap:=h3.push (sC "list" #[] 0) }:=I.kept (t':=s.toks) kp3;have fD:wj X AO H D:=I.fpOk ⋯ (I.hok.fresh ⋯);have fK:wj X AO H h3.objs.size:=I.fpOk ⋯ (I.hok.fresh ⋯);have I2:=Inv.newpin I1 fD hoD yV
 have nK:∀p ∈ X.pn ++ (AO ++ [(D,sC "list" #[] e1)]),p.1≠h3.objs.size:=λp hp=>by
  rcases AV.mp hp with z | z
  ·exact fK.2.2.2.2.2 p (bH _ z)
  ·rcases AV.mp z with z | z
   ·exact fK.2.2.2.2.2 p (aG _ z)
   ·have e:p=(D,sC "list" #[] e1):=by simpa using z
    subst e;show D≠_;lia
 have I3:=Inv.newpin I2 (b:=h3.objs.size) #[fK.1,fK.2.1,fK.2.2.1,fK.2.2.2.1,fK.2.2.2.2.1,nK] hoK yV;have hsz:=I.sz;have hK0:X.s₀.heap.objs.size<=h3.objs.size:=⋯;exact zbR FO hr hkc I3 ⋯ hK0 fD.2.2.2.2.2 nK rv ⋯ ht λs' hE=>#[_,rfl,sj #[_,rfl,hE]]
end in def jA(D:su)(before:Nat)(st:SortSt):Sem PySem.Fin:=do
 let sorted:=(arrOf st).map (·.2)
 let touched:=(<- seqEpoch D) != before
 Builtin.List.listUpdate (.ref D) λZ=>sorted
 if let AK e:=failedOf st then rule "list.sort.comparison-raised";throw e
 if touched then rule "list.sort.modified";raiseError "ValueError" "list modified during sort"
 ret .none
def zd6(K:sr):List V->Hp->VK->Prop:=λvs H Q=>∃(l:su) (xs:List V) (α:Type) (F:KeyFam α) (rs:List α),vs=[.ref l]/\SqL K H l xs/\xs.length<64/\F.OkF/\Iss K H (rs.map λa=>.tup (F.dec a)) xs /\
 ∀D,H D=AL->Q (.ref D) (upd H D (.lst ((srt (λp q=>F.lt p.1 q.1) (F.d0,V.non) (rs.zip xs)).map (·.2))))
def zc9{D:su}{st:SortSt}(I:Inv X (AO ++ [(D,sC "list" #[] e1)]) σ H s)(hD:X.s₀.heap.objs.size<=D)(nD:∀p ∈ X.pn ++ AO,p.1≠D)(hout:(arrOf st).map (·.2)=aR out)(hoz:out.length<64)(hf:failedOf st=AL)(h:∀s' c,Inv X (AO ++ [(D,sC "list" (aR out) c)]) σ H s'->P (.done (.ret .none)) s') :
  sy (model X.prog X.w) A (jA D e1 st) P E s:=by
 have pd:=Inv.at_pin I;have s2:=Heap.SameBut.update s.heap D (Obj.mapSeq λZ=>aR out);obtain⟨c2,hc2⟩:∃c2,(s.heap.update D (Obj.mapSeq λZ=>aR out)).get? D=AK (sC "list" (aR out) c2):=#[_,get?_update_seq pd λZ=>aR out];have I3:=Inv.repin I hD nD s2 hc2 yV;unfold jA
 (try dsimp only)
 rw[hout];refine si (seqEpoch_at pd rfl ?_);refine si (listUpdate_at pd rfl ?_ (aD _) (by rw[aj,sK];lia));rw[hf]
 erw[bne_self_eq_false,bf,if_false]
 exact sj (h _ c2 I3)
def zdN{F:KeyFam α}(FO:F.OkF){D:su}{rs:List α}(hu:A.units+50<cLine)(I:Inv X (AO ++ [(D,sC "list" #[] e1)]) σ H s)(hD:X.s₀.heap.objs.size<=D)(nD:∀p ∈ X.pn ++ AO,p.1≠D)(rv:Vals xs its)(hz:its.length<64)(hR:Iss X.K H (rs.map λa=>.tup (F.dec a)) xs)(h:∀s' (out:List sv) c,Vals ((srt (λp q=>F.lt p.1 q.1) (F.d0,V.non) (rs.zip xs)).map (·.2)) out->out.length<64->Inv X (AO ++ [(D,sC "list" (aR out) c)]) σ H s'->P (.done (.ret .none)) s') :
  sy (model X.prog X.w) A (do
   let kind <- if its.toArray.size<2 then pure general' else keyKind' its.toArray
   let (Unit.unit,st) <- (if its.toArray.size<2 then pure Unit.unit else sortRuns').run (SortSt.mk' kind (its.toArray.zip its.toArray) #[] 7 AL)
   jA D e1 st) P E s:=by exact zdG FO hu I rv rv rfl hz hR λst s' out hv ho har hf I'=>zc9 I' hD nD har ho hf λs2 c I2=>h s2 out c hv ho I2
def zdi(hr:Room (k+2) X.A):vY X (.builtin "sorted") (zd6 X.K):=by
 intros vs us Q I r1 h;let#[l,xs,α,F,rs,rfl,hS,hz,FO,hR,q]:=h;let#[u,rfl,ru]:=wM r1;cases ru;let#[its,rv,pl,_]:=I.list hS;have hlen:=rv.length;refine Calls.call_function_entry kind_sorted plain_sorted entry_sorted (args_sorted1 _) ?_;unfold Builtin.«sorted»;refine si (m:=checkCount "sorted" 1 1 _) (sj ?_);refine si (collect_list pl.isList ?_ (by rw[sK];lia));refine si (tU ?_ (by rw[sK];lia));generalize hh1:((s.heap.push (sC "list" #[] 0)).update s⁻¹ (Obj.mapSeq (· ++ its.toArray)))=h1;have sz1:h1.objs.size=s⁻¹+1:=by rw[<- hh1,dg,size_push']
 have kp1:∀b o,s.heap.get? b=AK o->h1.get? b=AK o:=λb o e=>by
  have hlt:b<s⁻¹:=av e;rw[<- hh1,gm _ _ _ _ (az hlt),Heap.get?_push_ne _ _ _ (az hlt)];exact e
 have hoL:(h1.push (sC "list" its.toArray 0)).get? h1.objs.size=AK (sC "list" its.toArray 0):=aI _ rfl;show sy _ _ _ _ _ { s with heap:=h1.push (sC "list" its.toArray 0) };refine si (sM (wpAny_call_entry slot_list_sort #[_,hoL,rfl] entry_list_sort ?body (args_list_sort _)));show sy _ _ (Builtin.«list.sort» #[[.ref h1.objs.size],[]]) _ _ _;rw[list_sort_plain];generalize hh2:h1.push (sC "list" its.toArray 0)=h2 at hoL;have sz2:h2.objs.size=h1.objs.size+1:=by rw[<- hh2,size_push']
 have kp2:∀b o,s.heap.get? b=AK o->h2.get? b=AK o:=λb o e=>by rw[<- hh2];exact ag _ (kp1 b o e)
 generalize hDD:h1.objs.size=D at hoL;obtain⟨e1,ho1⟩:∃e1,(h2.update D (Obj.mapSeq λZ=>(#[]:Array sv))).get? D=AK (sC "list" #[] e1):=#[_,get?_update_seq hoL λZ=>#[]];have hDs:s⁻¹<=D:=by rw[<- hDD,sz1];exact cJ _
 have sb:=Heap.SameBut.update h2 D (Obj.mapSeq λZ=>(#[]:Array sv));refine si (listItems_at hoL rfl ?_);refine si (listUpdate_at hoL rfl ?_ (by rw[aj,sK];lia) (aD _));refine si (seqEpoch_at ho1 rfl ?_);refine si (wpAny_newTuple ?_ (by show its.length<=_;rw[sK];lia));refine si (tU ?_ (aD _));refine sM ?_;generalize hh3:(h2.update D (Obj.mapSeq λZ=>(#[]:Array sv))).push (sC "tuple" its.toArray 0)=h3;have hoD:(h3.push (sC "list" #[] 0)).get? D=AK (sC "list" #[] e1):=ag _ (by rw[<- hh3];exact ag _ ho1)
 have kp3:∀b o,s.heap.get? b=AK o->(h3.push (sC "list" #[] 0)).get? b=AK o:=λb o e=>by
  have hlt:b<s⁻¹:=av e;refine ag _ ?_;rw[<- hh3];exact ag _ ((sb.2 b (az (ax hlt hDs))).trans (kp2 b o e))
 have I1:Inv X AO σ H { s with heap:=h3.push (sC "list" #[] 0) }:=I.kept (t':=s.toks) kp3;have fD:wj X AO H D:=I.fpOk ⋯ (I.hok.fresh ⋯);have I2:=Inv.newpin I1 fD hoD yV;have hsz:=I.sz;refine zdN FO (by have:=hr.in1.in1.un;lia) I2 ⋯ fD.2.2.2.2.2 rv ⋯ hR λs' out c p3 p4 I'=>#[_,rfl,sj #[_,rfl,?_]];have fp:=Inv.fp_of_pin I' ⋯ fD.2.2.2.2.2;refine#[.ref D,_,Inv.track I'.unpinned (a:=D) (o:=.lst _) fp #[?_,out,c,p3,Inv.at_pin I'],rfl,q D fp.1];rw[p3.length,sK];lia
end in def Jk(X:Cx)(N:List sB)(s:sw)(H:Hp)(qual:sB)(scope:tY)(f:su)(cd:sv)(cl:List (sB × su)):Cx where
 prog:=X.prog
 w:=X.w
 K:=X.K
 mg:=X.mg
 base:=X.base
 A:=X.A.in1.in1.deeper (fg qual scope s⁻¹ f cd cl)
 N:=N
 s₀:=s
 H₀:=H
 env:=fg qual scope s⁻¹ f cd cl
 outer:=X.stack
 stack:=fg qual scope s⁻¹ f cd cl::X.stack
 ex:=[]
 calm:=AM
 fn:=λZ=>AN
 pn:=[]
 xe:=λZ Z=>False
structure zc6(p y:sB)(scope:tY):Prop where
 kind:scope.kind=.function
 co:scope.isCoroutine=AN
 gen:scope.isGenerator=AN
 nocell:∀z ∈ scope.names,z.2≠.cell
 par:scope.names.lookup p=AK .local
 fre:scope.names.lookup y=AK .free
 one:∀q ∈ scope.names,q.2=.free->q.1=y
 ne:p≠y
section
variable{X:Cx}{AO:List (su × tN)}{σ:L2.St}{H:Hp}{s:sw}{p y name qual:sB}{scope:tY}{params:Aw}{body:tK}{f c' c:su}{pm ctv cv:sv}{k iy:Nat}{vy x:V}{u:sv}{Q:VK}{t:TE}
def zcU(S:zc6 p y scope)(hd:X.A.in1.in1.handled=AL)(I:Inv X AO σ H s)(hy:X.N[iy]? = AK y)(hσ:σ[iy]? = AK (AK vy))(hvis:X.env.scope.names.lookup y=AK .cell)(hc:X.env.cells.lookup y=AK c)(rx:RelV x u)(hns:h₁.Ns s⁻¹ (λz=>[(p,u)].reverse.lookup z))(hk₁:∀b o,s.heap.get? b=AK o->h₁.get? b=AK o) :
  Inv (Jk X [p,y] s H qual scope f cv [(y,c)]) [] [AK x,AK vy] H { s with heap:=h₁,toks:=tk }:=by
 let#[m,hn,hl]:=I.loc;let#[uy,ry,lk]:=hl iy y vy hy hσ (.inr (.inl hvis))
 have hcell:s.heap.IsCell c (AK uy):=by
  rcases lk with ⟨z,_⟩ | ⟨_,c2,e2,z⟩
  ·have z':X.env.scope.names.lookup y=AK .local:=z;rw[hvis]at z';cases z'
  ·rw[hc]at e2;cases e2;exact z
 have hcell':h₁.IsCell c (AK uy):=by
  let#[o,e,d]:=hcell;exact#[o,hk₁ _ _ e,d]
 have e0:=I.env0;have noA:∀b:su,b ∉ (Jk X [p,y] s H qual scope f cv [(y,c)]).ex:=λb z=>w4 (show b ∈ ([]:List su)from z) (by simp)
 have lkc:∀z d,bx z [(y,c)]=AK d->z=y/\d=c:=λz d h=>by
  rw[ba]at h;by_cases hz:(z == y)=AM
  ·rw[hz]at h;cases h;exact#[by simpa using hz,rfl]
  ·rw[show (z == y)=AN by simpa using hz]at h;cases h
 have lky:bx y [(y,c)]=AK c:=by rw[ba];simp
 refine#[#[e0.mod,S.kind,rfl,rfl,ao _,λz z' d h1 h2=>?_,λz hz=>?_,λz d h Z=>?_,λZ=>hd,Around.frames_deeper e0.frames,.inr #[rfl,rfl],λb z=>w4 z (noA b),e0.bs,e0.bsz,λb Z Z=>noA b,λb z=>w4 z (noA b),e0.funs,e0.frf],
  rfl,e0.bare,Un.kept hk₁,#[_,hns,λi z v h1 h2 h3=>?_],λz d h=>?_,e0.hok.fresh (ao _),λz d h=>?_,λq hq=>w4 (show q ∈ ([]:List (su × tN))from hq) (by simp),e0.hok.kept hk₁,rfl]
 ·rw[(lkc _ _ h1).1,(lkc _ _ h2).1]
 ·have hz':scope.names.lookup z=AK .cell\/scope.names.lookup z=AK .free:=hz;rcases hz' with hz' | hz'
  ·exact w4 rfl (S.nocell _ (bW hz'))
  ·rw[show z=y from S.one _ (bW hz') rfl];exact#[c,lky]
 ·exact w4 (show (AN:Bool)=AM from h) ∅
 ·match i,h1,h2 with
  | 0,h1,h2 =>
   cases h1;cases h2;refine#[u,rx,.inl #[S.par,?_]];show bx p [(p,u)].reverse=AK u;simp [bx]
  | 1,h1,h2 =>
   cases h1;cases h2;exact#[uy,ry,.inr #[.inr S.fre,c,lky,hcell']]
  | i+2,h1,h2=>simp at h2
 ·let#[_,rfl]:=lkc z d h;exact#[_,hcell']
 ·let#[_,rfl]:=lkc z d h;exact I.freeC y _ hc
def K1(S:zc6 p y scope)(hr:Room (k+3) X.A)(hbind:bindArgs (cj name qual params body scope [(y,c)] pm cv ctv) #[[u],[]]=pure [(p,u)])(I:Inv X AO σ H s)(ho:s.heap.get? f=AK { cls:=.type "function",data:=.func (cj name qual params body scope [(y,c)] pm cv ctv) }) (hcd:s.heap.CodeRec cv qual) (hy:X.N[iy]? = AK y) (hσ:σ[iy]? = AK (AK vy)) (hvis:X.env.scope.names.lookup y=AK .cell) (hc:X.env.cells.lookup y=AK c)(rx:RelV x u) (hb:PE (Jk X [p,y] s H qual scope f cv [(y,c)]) body t) (h:t [AK x,AK vy] H Q) :
  sy (model X.prog X.w) X.A.in1.in1 (call (.ref f) [u]) (EP X AO σ Q) (λZ Z=>False) s:=by
 have hr2:Room (k+1) X.A.in1.in1:=hr.in1.in1;refine tJ (PySem.W.kla_callFunE hr2.depth ho rfl S.co S.gen rfl hcd ?_);rw[hbind];refine sj (Af S.nocell (λz hz=>?_) (λh₁ hns hsb=>?_) S.kind)
 ·have e:z=(p,u):=by simpa using hz
  subst e;exact S.par
 have hk₁:∀b o,s.heap.get? b=AK o->h₁.get? b=AK o:=λb o e=>hsb.extBut b o (az (av e)) (ag _ e);refine#[I.nolimit.keeps hk₁,?_];have I1:=zcU (qual:=qual) (f:=f) (cv:=cv) (tk:=s.toks+1) S hr2.hd I hy hσ hvis hc rx hns hk₁;show tz _ _ (.expr body (fg qual scope s⁻¹ f cv [(y,c)])) _ _;refine PySem.W.kla_codeExpr (tD (hb [] _ _ H Q I1 h) (λv s' hv=>?_) λZ Z z=>False.elim z);let#[w',H',J,rw',q]:=hv;exact I.after #[w',H',J.os,J.bare,J.base,J.hok,rw',q]
end
end in def cdE(c':su)(q:sB):HO:=.ext λh=>h.CodeRec (.ref c') q
end in def fnE(f:su)(o:tN):HO:=.ext λh=>h.get? f=AK o
def TabOk(H:Hp)(P:su)(pos:AI)(q:sB):Prop :=
 ∃ps:Array sv,H P=AK (.tbl ps)/\AF ps.toList/\(codeAmong pos ps.toList=AL\/∃c',codeAmong pos ps.toList=AK (.ref c')/\H c'=AK (cdE c' q))
def SamT(P:su)(H H':Hp):Prop:=∀b o,b≠P->H b=AK o->H' b=AK o
def LamAt(H:Hp)(f:su)(name qual:sB)(params:Aw)(body:tK)(scope:tY)(cl:List (sB × su)):Prop :=
 ∃(c':su) (pm ctv:sv),H c'=AK (cdE c' qual)/\H f=AK (fnE f { cls:=.type "function",data:=.func (cj name qual params body scope cl pm (.ref c') ctv) })
def zd8(x:h.CodeRec (.ref c') q):ObjOk P w H h c' (cdE c' q):=by
 refine#[x,?_,λh1 h2 a k=>?_]
 ·let#[c,o,vs,t,e,g,_]:=x;cases e;exact#[o,g]
 ·let#[c,o,vs,t,e,g,r]:=a;cases e;exact#[_,o,vs,t,rfl,k o g,r]
def zbs(x:h.get? f=AK o):ObjOk P w H h f (fnE f o) :=
 #[x,#[o,x],λh1 h2 a k=>k o a]
def Inv.grow(I:Inv X AO σ H s)(hP:H P=AK (.tbl ps))(hk:∀b u,b≠P->s.heap.get? b=AK u->h'.get? b=AK u)(hP':h'.get? P=AK { cls:=.none,data:=.fields (ps ++ more) })(hc:s⁻¹<=c')(hf:s⁻¹<=f)(hcf:c'≠f)(hcr:h'.CodeRec (.ref c') q)(hfo:h'.get? f=AK o) :
  Inv X AO σ (upd (upd (upd H P (.tbl (ps ++ more))) c' (cdE c' q)) f (fnE f o)) { s with heap:=h',toks:=tk }:=by
 have Pl:P<s⁻¹:=I.hok.lt hP;have hPc:P≠c':=az (ax Pl hc);have hPf:P≠f:=az (ax Pl hf)
 have old:∀b,b<s⁻¹->b≠P->(upd (upd (upd H P (.tbl (ps ++ more))) c' (cdE c' q)) f (fnE f o)) b=H b:=λb hb hbP=>by
  rw[zq (az (ax hb hf)),zq (az (ax hb hc)),zq hbP]
 have atP:(upd (upd (upd H P (.tbl (ps ++ more))) c' (cdE c' q)) f (fnE f o)) P=AK (.tbl (ps ++ more)):=by
  rw[zq hPf,zq hPc,zb]
 have neP:∀b,H b=AL->b≠P:=λb e z=>by rw[z,hP]at e;cases e
 refine I.un #[λb u e n Z Z=>hk b u (neP b n) e,λb u e n Z Z=>#[u.slots,hk b u (neP b n) e],λb u e n Z=>?_,λb u e Z=>?_,λb xs e=>?_,λb ob u e=>?_,λb qs e=>?_] λb u e=>?_
 ·rw[old b (av e) (neP b n)];exact n
 ·by_cases hb:b=P
  ·subst hb;exact#[_,hP']
  ·exact#[u,hk b u hb e]
 ·rw[old b (I.hok.lt e) (λz=>by rw[z,hP]at e;cases e)];exact e
 ·rw[old b (I.hok.lt e) (λz=>by rw[z,hP]at e;cases e)];exact e
 ·by_cases hb:b=P
  ·subst hb;rw[hP]at e;cases e;exact#[more,atP]
  ·rw[old b (I.hok.lt e) hb];exact#[#[],by rw[e];simp]
 ·by_cases hbf:b=f
  ·subst hbf;rw[zb]at e;cases e;exact zbs hfo
  ·rw[zq hbf]at e;by_cases hbc:b=c'
   ·subst hbc;rw[zb]at e;cases e;exact zd8 hcr
   ·rw[zq hbc]at e;by_cases hbP:b=P
    ·subst hbP;rw[zb]at e;cases e;exact hP'
    ·rw[zq hbP]at e;refine (I.hok b u e).stay (λd v hd g=>hk d v ?_ g) (λd g=>?_) λd xs g=>?_
     ·rcases hd with z | z
      ·rw[z];exact hbP
      ·intro z';rw[z',hP]at z;cases z
     ·rw[old d (I.hok.lt g) (λz=>by rw[z,hP]at g;cases g)];exact g
     ·rw[old d (I.hok.lt g) (λz=>by rw[z,hP]at g;cases g)];exact g
theorem qp : ∀(l:List sv),AF l->AF (l ++ [rawInt a,rawInt b,v])
 | [],_=>trivial
 | .int _ _::.int _ _::_::rest,h=>qp rest h
def Yx{h h':sU}(x:h.BuiltinsAt mg T)(k:∀b o,h.get? b=AK o->h'.get? b=AK o):h'.BuiltinsAt mg T:=by let#[bm,o,b1,b2,b3,b4,b5,b6]:=x;exact#[bm,o,b1,b2,b3,b4,k _ _ b5,b6]
def KG(hcode:X.env.code=.ref cc)(hC:PySem.W.CodeHd X.base cc P)(hB:X.base.BuiltinsAt X.mg P)(hgP:sk≠P)(hcl:closureFor scope X.env=pure [(y,c)])(hdef:defaultsOf params X.env=([],[]))(I:Inv X AO σ H s)(hT:TabOk H P pos (X.env.qual ++ "<lambda>"))(h:∀f H',H f=AL->LamAt H' f "<lambda>" (X.env.qual ++ "<lambda>") params body scope [(y,c)]->TabOk H' P pos (X.env.qual ++ "<lambda>")->SamT P H H'->Q (.ref f) H') :
  sy (model X.prog X.w) X.A (eval (.Lambda params body scope pos) X.env) (EP X AO σ Q) X.xe s:=by
 refine PySem.W.kla_eval hdef ?_;let#[ps,hP,ht,hh]:=hT;have hPo:s.heap.get? P=AK (PySem.W.tabObj ps):=I.hok _ _ hP;have hg:=I.mod.glob.keeps I.bk;have Pl:P<s⁻¹:=I.hok.lt hP;rcases hh with hn | ⟨c',hit,hc'⟩
 ·refine PySem.W.kla_makeFunction (mg:=X.mg) hcl I.ok.glob hg hcode (hC.keeps I.bk) hPo ht hn hgP (Yx hB I.bk) λc' ctv h' tk hx hge hlt hrec htb=>?_;have hsz:s⁻¹<=h'.objs.size:=dB (bT hge hlt)
  have I1:=Inv.grow (P:=P) (c':=c') (f:=h'.objs.size) (more:=(t7 [rawInt pos.line,rawInt pos.col,.ref c'])) (tk:=tk) (o:={ cls:=.type "function",data:=.func (cj "<lambda>" (X.env.qual ++ "<lambda>") params body scope [(y,c)] ((X.mg "__name__").getD .none) (.ref c') ctv) }) I hP
   (λb u hb e=>ag _ (hx b u hb e)) (ag _ htb) hge hsz (az hlt) (hrec.push _) (aI _ rfl)
  have hPc:P≠c':=az (ax Pl hge);have hPf:P≠h'.objs.size:=az (ax Pl hsz)
  have atc:(upd (upd (upd H P (.tbl (ps ++ (t7 [rawInt pos.line,rawInt pos.col,.ref c'])))) c' (cdE c' (X.env.qual ++ "<lambda>"))) h'.objs.size (fnE h'.objs.size { cls:=.type "function",data:=.func (cj "<lambda>" (X.env.qual ++ "<lambda>") params body scope [(y,c)] ((X.mg "__name__").getD .none) (.ref c') ctv) })) c'=AK (cdE c' (X.env.qual ++ "<lambda>")):=by
   rw[zq (az hlt),zb]
  refine#[.ref h'.objs.size,_,I1,rfl,h _ _ (I.hok.fresh hsz) #[c',_,ctv,atc,zb] #[ps ++ (t7 [rawInt pos.line,rawInt pos.col,.ref c']),?_,?_,.inr #[c',?_,atc]] λb o hb e=>?_]
  ·rw[zq hPf,zq hPc,zb]
  ·rw[gn];exact qp _ ht
  ·rw[gn];exact codeAmong_snoc _ ht hn
  ·have hl:=I.hok.lt e;rw[zq (az (ax hl hsz)),zq (az (ax hl hge)),zq hb];exact e
 ·refine PySem.W.kla_makeFunctionHit (mg:=X.mg) hcl I.ok.glob hg hcode (hC.keeps I.bk) hPo ht hit (Yx hB I.bk) λctv h' tk hk hsz=>?_;have hfr:H h'.objs.size=AL:=I.hok.fresh hsz
  have I1:=I.laid (a:=h'.objs.size) (t':=tk) (h':=h'.push { cls:=.type "function",data:=.func (cj "<lambda>" (X.env.qual ++ "<lambda>") params body scope [(y,c)] ((X.mg "__name__").getD .none) (.ref c') ctv) })
   (o:=fnE h'.objs.size { cls:=.type "function",data:=.func (cj "<lambda>" (X.env.qual ++ "<lambda>") params body scope [(y,c)] ((X.mg "__name__").getD .none) (.ref c') ctv) })
   (λb u e=>ag _ (hk b u e)) hsz (zbs (aI _ rfl))
  have sm:=zd (o:=fnE h'.objs.size { cls:=.type "function",data:=.func (cj "<lambda>" (X.env.qual ++ "<lambda>") params body scope [(y,c)] ((X.mg "__name__").getD .none) (.ref c') ctv) }) hfr;exact#[.ref h'.objs.size,_,I1,rfl,h _ _ hfr #[c',_,ctv,sm _ _ hc',zb] #[ps,sm _ _ hP,ht,.inr #[c',hit,sm _ _ hc']] λb o Z e=>sm _ _ e]
def zfH(R:V->Hp->Prop):List V->Hp->Prop
 | [v],H=>R v H
 | _,_=>False
theorem UP : ∀{vs:List V} {H:Hp},zfH R vs H->∃v,vs=[v]/\R v H
 | [v],_,h=>#[v,rfl,h]
def zgz(P:su)(pos:AI)(q:sB)(LA:Hp->su->Prop):TE:=λσ H Q=>TabOk H P pos q/\∀f H',H f=AL->LA H' f->TabOk H' P pos q->SamT P H H'->Q (.ref f) H'
def zbk{α:Type}(K:sr)(F:KeyFam α)(P:su)(pos:AI)(q:sB)(LA:Hp->su->Prop)(iy:Nat)(te tb:TE):TE:=λσ H Q=>te σ H λv H1=>TabOk H1 P pos q /\
 ∀f H2,H1 f=AL->LA H2 f->TabOk H2 P pos q->SamT P H1 H2->∃l xs vy,v=.ref l/\SqL K H2 l xs/\xs.length<64/\σ[iy]? = AK (AK vy)/\qo (λx H Q=>LA H f/\tb [AK x,AK vy] H Q) xs [] H2 (VJ K F xs Q)
def zeN(hcode:X.env.code=.ref cc)(hC:PySem.W.CodeHd X.base cc P)(hB:X.base.BuiltinsAt X.mg P)(hgP:sk≠P)(hcl:closureFor scope X.env=pure [(y,c)])(hdef:defaultsOf params X.env=([],[])) :
  PE X (.Lambda params body scope lpos) (zgz P lpos (X.env.qual ++ "<lambda>") λH f=>LamAt H f "<lambda>" (X.env.qual ++ "<lambda>") params body scope [(y,c)]):=by intros Q I h;exact KG hcode hC hB hgP hcl hdef I h.1 h.2
def Ko(FO:F.Ok)(S:zc6 p y scope)(hr:Room (k+3) X.A)(hg:Gl X x)(hm:X.mg x=AL)(hv:sV x=AK (.builtin "sorted"))(ha:PA X [e] (zI te xb))(hcode:X.env.code=.ref cc)(hC:PySem.W.CodeHd X.base cc P)(hB:X.base.BuiltinsAt X.mg P)(hgP:sk≠P)(hcl:closureFor scope X.env=pure [(y,c)])(hdef:defaultsOf params X.env=([],[]))(hbind:∀(cv pm ctv u:sv),bindArgs (cj "<lambda>" (X.env.qual ++ "<lambda>") params body scope [(y,c)] pm cv ctv) #[[u],[]]=pure [(p,u)])(hy:X.N[iy]? = AK y)(hvis:X.env.scope.names.lookup y=AK .cell)(hc:X.env.cells.lookup y=AK c)(hb:∀(s:sw) (H:Hp) (f:su) (cv:sv),Room k (Jk X [p,y] s H (X.env.qual ++ "<lambda>") scope f cv [(y,c)]).A->PE (Jk X [p,y] s H (X.env.qual ++ "<lambda>") scope f cv [(y,c)]) body tb)(hn:‹x≠"__name__"›)(hdb:‹(x ==("__debug__" : sB))=AN›)(hks:‹(sX pos (sN [#[AK "key",.Lambda params body scope lpos,kpos]] X.env)).filterMap (·.1)=[cu "key"]›)(hst:‹sQ pos (so [e] X.env)=(AN,eval e X.env)::sQ pos (so [] X.env)›)(hpl:‹(sQ pos (so [e] X.env)).any (·.1)=AN›)(hall:‹(sX pos (sN [#[AK "key",.Lambda params body scope lpos,kpos]] X.env)).all (·.1.isSome)=AM›)(hkw:‹(sX pos (sN [#[AK "key",.Lambda params body scope lpos,kpos]] X.env)).any (·.1.isNone)=AN›) :
  PE X (.Call (.Name x pp) [e] [#[AK "key",.Lambda params body scope lpos,kpos]] pos) (zbk X.K F P lpos (X.env.qual ++ "<lambda>") (λH f=>LamAt H f "<lambda>" (X.env.qual ++ "<lambda>") params body scope [(y,c)]) iy te tb):=by
 intros Q I h;have hlam:PE X (.Lambda params body scope lpos) (zgz P lpos (X.env.qual ++ "<lambda>") λH f=>LamAt H f "<lambda>" (X.env.qual ++ "<lambda>") params body scope [(y,c)]):=zeN hcode hC hB hgP hcl hdef;refine sS (vN I hg hm hv ?_ hn hdb)
 have h':(zI te xb) σ H (zfH λv H1=>TabOk H1 P lpos (X.env.qual ++ "<lambda>")/\∀f H2,H1 f=AL->LamAt H2 f "<lambda>" (X.env.qual ++ "<lambda>") params body scope [(y,c)]->TabOk H2 P lpos (X.env.qual ++ "<lambda>")->SamT P H1 H2 ->
   ∃l xs vy,v=.ref l/\SqL X.K H2 l xs/\xs.length<64/\σ[iy]? = AK (AK vy)/\qo (λx H Q=>LamAt H f "<lambda>" (X.env.qual ++ "<lambda>") params body scope [(y,c)]/\tb [AK x,AK vy] H Q) xs [] H2 (VJ X.K F xs Q)):=h
 refine callWith_kw (thn (ha pos AO s σ H _ I h') λus s1=>el5 λvs H1 I1 r1 q1=>?_) hst hpl hall hkw;let#[v,rfl,hT,q1]:=UP q1;let#[u,rfl,ru]:=wM r1
 refine thn ((Qz hlam zbb:PK X [#[AK "key",.Lambda params body scope lpos,kpos]] _) pos AO s1 σ H1 (zfH λkv H2=>∃f,kv=.ref f/\LamAt H2 f "<lambda>" (X.env.qual ++ "<lambda>") params body scope [(y,c)] /\
   ∃l xs vy,v=.ref l/\SqL X.K H2 l xs/\xs.length<64/\σ[iy]? = AK (AK vy)/\qo (λx H Q=>LamAt H f "<lambda>" (X.env.qual ++ "<lambda>") params body scope [(y,c)]/\tb [AK x,AK vy] H Q) xs [] H2 (VJ X.K F xs Q)) I1 #[hT,λf H2 a1 a2 a3 a4=>#[f,rfl,a2,q1 f H2 a1 a2 a3 a4]]) λws s2=>el5 λzs H2 I2 r2 q2=>?_
 let#[kv,rfl,f,rfl,hLA,l,xs,vy,rfl,hS,hz,hσ,hk]:=UP q2;let#[w',rfl,rw']:=wM r2;cases rw';cases ru;rw[hks];show sy _ _ (call (.builtin "sorted") [.ref l] [(cu "key",.ref f)]) _ _ _;refine U7 FO (k:=k+1) hr (λpins' s3 H3 x3 u3 Q3 I3 r3 h3=>?_) I2 hS hz hk;let#[#[c',pm,ctv,e1,e2],h4]:=h3;have hcd:s3.heap.CodeRec (.ref c') (X.env.qual ++ "<lambda>"):=(I3.hok _ _ e1).1;have ho:=(I3.hok _ _ e2).1;exact K1 (k:=k) S hr (hbind _ _ _ _) I3 ho hcd hy hσ hvis hc r3 (hb s3 H3 f (.ref c') (hr.in1.in1.deeper _)) h4
section
variable{K:sr}
def SamT.of(s:Same H H'):SamT T H H':=λb o Z e=>s b o e
def SamT.trans(s:SamT T H H')(s':SamT T H' H''):SamT T H H'':=λb o n e=>s' b o n (s b o n e)
def SamT.at(s:SamT T H H')(hT:H T=AK (.tbl ps))(e:H b=AK o)(ho:∀qs,o≠.tbl qs):H' b=AK o:=s b o (λz=>by rw[z,hT]at e;cases e;exact ho _ rfl) e
theorem SamT.free(s:SamT T H H')(hT:H' T=AK o)(h:H' b=AL):H b=AL:=by
 cases e:H b with
 | none=>rfl
 | some u =>
  by_cases hb:b=T
  ·rw[hb,hT]at h;cases h
  ·rw[s b u hb e]at h;cases h
def SamT.seqL(s:SamT T H H')(hT:H T=AK (.tbl ps))(h:SqL K H a xs):SqL K H' a xs:=by
 rcases h with (h | ⟨o,h⟩) | h
 ·exact .inl (.inl (s.at hT h λZ z=>by cases z))
 ·exact .inl (.inr #[o,s.at hT h λZ z=>by cases z])
 ·exact .inr h
def SamT.seqT(s:SamT T H H')(hT:H T=AK (.tbl ps))(h:SqT K H a xs):SqT K H' a xs:=by
 rcases h with (h | ⟨o,h⟩) | h
 ·exact .inl (.inl (s.at hT h λZ z=>by cases z))
 ·exact .inl (.inr #[o,s.at hT h λZ z=>by cases z])
 ·exact .inr h
mutual
theorem Is.samT(s:SamT T H H')(hT:H T=AK (.tbl ps)):∀(d:D) (v:V),Is K H d v->Is K H' d v
 | .non,v,h=>by erw[Is]at h ⊢;exact h
 | .bl b,v,h=>by erw[Is]at h ⊢;exact h
 | .int b,v,h=>by erw[Is]at h ⊢;exact h
 | .str b,v,h=>by erw[Is]at h ⊢;exact h
 | .lst l,v,h=>by
  erw[Is]at h ⊢
  let#[a,xs,e1,e2,e3]:=h;exact#[a,xs,e1,s.seqL hT e2,Iss.samT s hT l xs e3]
 | .tup l,v,h=>by
  erw[Is]at h ⊢
  let#[a,xs,e1,e2,e3]:=h;exact#[a,xs,e1,s.seqT hT e2,Iss.samT s hT l xs e3]
theorem Iss.samT(s:SamT T H H')(hT:H T=AK (.tbl ps)):∀(l:List D) (vs:List V),Iss K H l vs->Iss K H' l vs
 | [],vs,h=>by erw[Iss]at h ⊢;exact h
 | d::l,vs,h=>by
  erw[Iss]at h ⊢
  let#[v,r,e1,e2,e3]:=h;exact#[v,r,e1,Is.samT s hT d v e2,Iss.samT s hT l r e3]
end
def LsA.samT(h:LsA K H a ds)(s:SamT T H H')(hT:H T=AK (.tbl ps)):LsA K H' a ds:=by let#[xs,h1,h2]:=h;exact#[xs,s.at hT h1 (λZ z=>by cases z),Iss.samT s hT _ _ h2]
def TabOk.same{H H':Hp}{T:su}{pos:AI}{q:sB}(h:TabOk H T pos q)(s:Same H H'):TabOk H' T pos q:=by
 let#[ps,h1,h2,h3]:=h;refine#[ps,s _ _ h1,h2,?_];rcases h3 with h3 | ⟨c',h4,h5⟩
 ·exact .inl h3
 ·exact .inr #[c',h4,s _ _ h5]
def LamAt.same{H H':Hp}{f:su}{name qual:sB}{params:Aw}{body:tK}{scope:tY}{cl:List (sB × su)}(h:LamAt H f name qual params body scope cl)(s:Same H H'):LamAt H' f name qual params body scope cl:=by let#[c',pm,ctv,h1,h2]:=h;exact#[c',pm,ctv,s _ _ h1,s _ _ h2]
end
section
variable{P:sJ}{w:sP}{K:sr}{mg mb:sB->Option sv}{CX:CXT}{k:Nat}{fa a T cc:su}{fd:tQ}{x:sB}{sp:Sp}{s₁:sw}{vs:List sv}{ns:List Int}{ps:Array sv}
def YY(KX:K.In s₁.heap)(hKT:K.lookup T=AL)(hT:s₁.heap.get? T=AK { cls:=.none,data:=.fields ps })(hTc:Ax s₁.heap T)(hns:s₁.heap.Ns sk mg)(hb:s₁.heap.Ns builtinsNs mb)(hbb:∀x:sB,x≠"__name__"->mb x=sV x)(hlim:s₁.heap.NoLimit)(hg:s₁.gens=#[])(ha:s₁.heap.get? a=AK { cls:=.type "list",data:=.seq vs.toArray }) (hr:Room k callerA)(hbm:s₁.heap.BuiltinsAt mg T) (hcd:PySem.W.CodeHd s₁.heap cc T) (F:∀base:sU,K.In base->base.Ns sk mg->base.BuiltinsAt mg T->PySem.W.CodeHd base cc T->FnOk P w K mg base CX k fa fd [x] sp) (hbind:∀(s:sw) (u:sv),Ak s fd #[[u],[]] [(x,u)])(hCX:∀H e s',CX [] H s₁ (λZ Z Z=>False) e s'->False) (H:Hp) (h1:H T=AK (.tbl ps)) (h2:∀b u,H b=AK u->b=T\/(b=a/\K.lookup a=AL/\u=.frz { cls:=.type "list",data:=.seq vs.toArray } (.lst (ns.map V.int))))(hok:HOk P w H s₁.heap) (hsp:sp [.ref a] H (λv Z=>v=.bl AM) λZ Z Z=>False) :
  tz (model P w) callerA (.call (.ref fa) #[[.ref a],[]]) (λr s'=>r=.ok (.ret (.bool AM))/\OldK s₁.heap s'.heap/\s'.os=s₁.os/\tV s'.gens) s₁:=by
 have stay:∀b o,s₁.heap.get? b=AK o->(b≠T)->(b≠a)->(QO s₁.heap H).get? b=AK o:=λb o e n1 n2=>VA e (by
  cases q:H b with
  | none=>rfl
  | some u =>
   rcases h2 b u q with z | z
   ·exact w4 z n1
   ·exact w4 z.1 n2)
 have nsStay:∀(b:su) (m:sB->Option sv),s₁.heap.Ns b m->(QO s₁.heap H).Ns b m:=λb m hN=>by
  let#[o,es,ep,e,d,rest]:=hN;refine#[o,es,ep,stay b o e (λz=>?_) (λz=>?_),d,rest]
  ·rw[z,hT]at e;cases e;cases d
  ·rw[z,ha]at e;cases e;cases d
 have kStay:K.In (QO s₁.heap H):=λb o e=>by
  have g:=KX b o e;refine VA g ?_
  cases q:H b with
  | none=>rfl
  | some u =>
   rcases h2 b u q with z | z
   ·rw[z,hKT]at e;cases e
   ·rw[z.1,z.2.1]at e;cases e
 have bStay:(QO s₁.heap H).BuiltinsAt mg T:=by
  let#[bm,o,b1,b2,b3,b4,b5,b6,b7,b8]:=hbm;refine#[bm,o,b1,b2,b3,b4,stay bm o b5 b4 (λz=>?_),b6,b7,b8];rw[z,ha]at b5;cases b5;simp at b6
 have cStay:PySem.W.CodeHd (QO s₁.heap H) cc T:=by
  let#[o,vs',file,tf,flags,tg,inF,text,tt,c1,c2,c3,c4,c5,c6,c7,c8,c9,c10]:=hcd;refine#[o,vs',file,tf,flags,tg,inF,text,tt,stay cc o c1 c10 (λz=>?_),c2,c3,c4,c5,c6,c7,c8,c9,c10];rw[z,ha]at c1;cases c1;simp at c2
 let#[mc,l1,l2]:=hlim;have M0:Mod K mg (QO s₁.heap H):={ kin:=kStay,glob:=nsStay _ _ hns,blt:=#[mb,nsStay _ _ hb,hbb],nolimit:=#[mc,nsStay _ _ l1,l2] };have E0:Env0 P w K mg (QO s₁.heap H) callerA [] s₁ H:={ frames:=rfl,mod:=M0,bs:=λb o e=>zcS e,bsz:=Nat.le_of_eq (UF _ _),funs:=trivial,frf:=λb z=>(nomatch (show b ∈ ([]:List su)from z)),hok:=hok,bare:=.of_eq hg };refine tM ((F _ kStay (nsStay _ _ hns) bStay cStay).run callerA [] s₁ H #[[.ref a],[]] [.ref a] [.ref a] (λv Z=>v=.bl AM) (λZ Z Z=>False) hr E0 (hbind s₁ (.ref a)) (.cons rfl .nil) hsp) λr s' hq=>?_;rcases r with e | fl
 ·exact (hCX H e s' hq).elim
 rcases fl with _ | _ | _ | u
 all_goals first | exact False.elim hq | skip
 let#[v,H',e1,e2,un,hok',rv,ev]:=hq;have ev':v=V.bl AM:=ev;subst ev';have eu:u=Value.bool AM:=rv;subst eu;let#[more,hT2]:=un.tbls T ps h1;have hT3:s'.heap.get? T=AK { cls:=.none,data:=.fields (ps ++ more) }:=hok' T _ hT2
 have each:∀b o,s₁.heap.get? b=AK o->b≠T->s'.heap.get? b=AK o:=λb o e n=>by
  cases q:H b with
  | none=>exact un.keep b o e q (λz=>(nomatch (show b ∈ ([]:List su)from z))) (λz=>(nomatch z))
  | some ob =>
   rcases h2 b ob q with z | ⟨z,_,zz⟩
   ·exact w4 z n
   ·subst zz;have g:=(hok' b _ (un.frzs b _ _ q)).1;rw[z,ha]at e;cases e;exact g
 refine#[rfl,#[λb o e=>?_,λb o e=>?_],e1,e2]
 ·by_cases hbT:b=T
  ·subst hbT;rw[hT]at e;cases e;exact .inr (.inl #[hTc,rfl,ps,more,rfl,hT3])
  ·exact .inl (each b o e hbT)
 ·by_cases hbT:b=T
  ·subst hbT;exact#[_,hT3]
  ·exact#[o,each b o e hbT]
def Qo(KX:K.In s₁.heap)(hKT:K.lookup T=AL)(hT:s₁.heap.get? T=AK { cls:=.none,data:=.fields ps })(hTc:Ax s₁.heap T)(hns:s₁.heap.Ns sk mg)(hb:s₁.heap.Ns builtinsNs mb)(hbb:∀x:sB,x≠"__name__"->mb x=sV x)(hlim:s₁.heap.NoLimit)(hg:s₁.gens=#[])(ha:s₁.heap.get? a=AK { cls:=.type "list",data:=.seq vs.toArray }) (hi:As vs ns) (hl:ns.length<=sq) (hr:Room k callerA)(hbm:s₁.heap.BuiltinsAt mg T) (hcd:PySem.W.CodeHd s₁.heap cc T) (F:∀base:sU,K.In base->base.Ns sk mg->base.BuiltinsAt mg T->PySem.W.CodeHd base cc T->FnOk P w K mg base CX k fa fd [x] sp) (hbind:∀(s:sw) (u:sv),Ak s fd #[[u],[]] [(x,u)])(hCX:∀H e s',CX [] H s₁ (λZ Z Z=>False) e s'->False) (hsp:∀H:Hp,H T=AK (.tbl ps)->SqL K H a (ns.map V.int)->sp [.ref a] H (λv Z=>v=.bl AM) λZ Z Z=>False) :
  tz (model P w) callerA (.call (.ref fa) #[[.ref a],[]]) (λr s'=>r=.ok (.ret (.bool AM))/\OldK s₁.heap s'.heap/\s'.os=s₁.os/\tV s'.gens) s₁:=by
 have rv:=YE hi;have hlv:=hi.length
 have hTa:a≠T:=λz=>by
  rw[z,hT]at ha;cases ha
 rcases hk:K.lookup a with _ | o
 ·refine YY (ns:=ns) KX hKT hT hTc hns hb hbb hlim hg ha hr hbm hcd F hbind hCX (upd (upd (λZ=>AL) T (.tbl ps)) a (.frz { cls:=.type "list",data:=.seq vs.toArray } (.lst (ns.map V.int)))) ?_ (λb u e=>?_) (λb u e=>?_) ?_
  ·rw[zq (Ne.symm hTa),zb]
  ·by_cases hba:b=a
   ·subst hba;rw[zb]at e;cases e;exact .inr #[rfl,hk,rfl]
   ·rw[zq hba]at e;by_cases hbT:b=T
    ·exact .inl hbT
    ·rw[zq hbT]at e;cases e
  ·by_cases hba:b=a
   ·subst hba;rw[zb]at e;cases e;exact#[ha,by rw[aa];exact hl,vs,_,rv,ha]
   ·rw[zq hba]at e;by_cases hbT:b=T
    ·subst hbT;rw[zb]at e;cases e;exact hT
    ·rw[zq hbT]at e;cases e
  ·exact hsp _ (by rw[zq (Ne.symm hTa),zb]) (.inl (.inr #[_,zb]))
 ·have e:=KX a o hk;rw[ha]at e;cases e;refine YY (ns:=ns) KX hKT hT hTc hns hb hbb hlim hg ha hr hbm hcd F hbind hCX (upd (λZ=>AL) T (.tbl ps)) zb (λb u e=>?_) (λb u e=>?_) (hsp _ zb (.inr #[_,vs.toArray,_,hk,rfl,rfl,rfl,by rw[aj,hlv];exact hl,by simpa using rv]))
  ·by_cases hbT:b=T
   ·exact .inl hbT
   ·rw[zq hbT]at e;cases e
  ·by_cases hbT:b=T
   ·subst hbT;rw[zb]at e;cases e;exact hT
   ·rw[zq hbT]at e;cases e
end
end in def zcX(K:sr):Bool:=K.all λp=>match p.2 with
 | ⟨.none,_,.fields _,_⟩=>AN
 | _=>AM
theorem Va : ∀{K:sr},K.lookup T=AK o->(T,o) ∈ K
 | [],h=>by cases h
 | p::K,h=>by
  rw[ba]at h;by_cases hp:T=p.1
  ·rw[show (T == p.1)=AM by simpa using hp]at h;cases h;rw[hp];exact ay
  ·rw[show (T == p.1)=AN by simpa using hp]at h;exact ar _ (Va h)
theorem KD{K:sr}(e:zcX K=AM)(X:K.In h)(hT:h.get? T=AK { cls:=.none,data:=.fields ps }):K.lookup T=AL:=by
 cases q:K.lookup T with
 | none=>rfl
 | some o =>
  have g:=X _ _ q;rw[hT]at g;cases g;have:=AX.mp e _ (Va q);simp at this
def walk_ofT{l:PySem.W.OpenLaw}{XP:(sB->Option sv)->sU->Prop}{K:Params->sr}{CX:sP->CXT}{sp:sP->su->Sp}(hn:l.most=AK n)(hn2:n<=sq)(hdf:d.params.defaults=[])(hr:Room k callerA)(hdin:din ∈ recsOf q)(hY:∀(w:sP) (h:sU),YP w h->(K w.params).In h)(hno:∀w:sP,zcX (K w.params)=AM)(F:∀(w:sP) (mg:sB->Option sv) (fa:su) (h:sU) (cc T:su),(K w.params).In h->h.Ns sk mg->mg d.name=AK (.ref fa)->(∃a o fd,mg din.name=AK (.ref a)/\h.get? a=AK o/\o.data=.func fd/\fd.code=.ref cc)->sk≠T ->
   ∃fd:tQ,(∀(s:sw) (u:sv),Ak s fd #[[u],[]] [(x,u)]) /\
    ∀base:sU,(K w.params).In base->base.Ns sk mg->base.BuiltinsAt mg T->PySem.W.CodeHd base cc T->FnOk l.prog w (K w.params) mg base (CX w) k fa fd [x] (sp w T)) (hsp:∀(w:sP) (H:Hp) (a:su) (ns:List Int) (T:su),ns.length<=n->(∀z ∈ ns,kh z)->H T=AK (.tbl #[])->SqL (K w.params) H a (ns.map V.int)->sp w T [.ref a] H (λv Z=>v=.bl AM) λZ Z Z=>False) (hCX:∀(w:sP) (H:Hp) (s:sw) (e:sv) (s':sw),CX w [] H s (λZ Z Z=>False) e s'->False) :
  PySem.W.WalkO q loose XP YP l.row.toRowW d [] (λf vs=>gc f vs):=by
 refine YL hn hdf λw s₀ s₁ mg mb fa o pm cd doc a vs ns G Y ho hd hcd hmg hobj hints hlen hb' hg=>?_;have X0:=hY w _ Y;let#[ai,oi,fdi,cc,T,m1,m2,m3,m4,m5,m6]:=G.T.tab din hdin;have hcd':PySem.W.CodeHd s₁.heap cc T:=PySem.W.CodeHd.of m5 m6;have hTo:s₁.heap.get? T=AK { cls:=.none,data:=.fields #[] }:=m6.2;have hTc:Ax s₁.heap T:=m6.isCodeTable
 have hgT:sk≠T:=λz=>by
  let#[o,es,ep,e,hd',_]:=G.T.g;rw[z,hTo]at e;cases e;cases hd'
 have hbm:s₁.heap.BuiltinsAt mg T:=by
  let#[bm,ob,b1,b2,b3,b4,b5,b6]:=G.T.bmain;refine#[bm,ob,b1,b2,λz=>?_,λz=>?_,b3,b4,b5,b6]
  ·let#[o,es,ep,e,hd',_]:=G.T.g;rw[z,e]at b3;cases b3;rw[hd']at b6;cases b6
  ·rw[z,hTo]at b3;cases b3;cases b4
 let#[fd,hbd,hF]:=F w mg fa _ cc T X0 G.T.g hmg #[ai,oi,fdi,m1,m2,m3,m4] hgT;exact Qo (T:=T) (ps:=#[]) X0 (KD (hno w) X0 hTo) hTo hTc G.T.g G.T.b G.T.builtins G.T.nolimit hg hobj hints (aL hlen hn2) hr hbm hcd' hF hbd (λH e s'=>hCX w H s₁ e s') λH h1 h2=>hsp w H a ns T hlen hb' h1 h2
def zbW{K:sr}{st:sI}(F:Fun K x qual st f fd)(hcc:fd.code=.ref cc)(S:zm N ps (zi st))(len:∀vs H Q E,sp vs H Q E->vs.length=ps.length)(hbody:∀(A:sY) (outer:List AE) (s:sw) (H:Hp) (vs:List V) (Q:VK) (E:XK),Room k (A.deeper (tP qual (zi st) s⁻¹ f (.ref cc)))->sp vs H Q E ->
   ∃t,PSs (qZ CX0 P w K mg base N qual (zi st) f (.ref cc) A outer s H E).nox (yj st) t/\t { nx:=λZ H'=>Q .non H',rt:=Q } (start N vs) H):FnOk P w K mg base CX0 (k+1) f fd ps sp:=by let#[oc,od,kV,doc,pm,an,cdv,ct,osl,rfl,lk,hcd]:=F.ex;have e:cdv=.ref cc:=hcc;subst e;refine Kr lk hcd S len λA outer s H vs Q E hr hsp=>?_;let#[t,h,q]:=hbody A outer s H vs Q E hr hsp;exact#[t,h.nox,q]
end L3
namespace L3
end L3
namespace PySem
namespace F
end F
def Heap.IsRevS(h:sU)(a:su)(x:sB)(t:Az)(i:Int):Prop:=∃o,h.get? a=AK o/\o.cls=.type "reversed"/\o.data=.fields (t7 [.str x t,rawInt i])
def Heap.IsRevS.typeIs{s:sw}(z:s.heap.IsRevS a x t i):s.TypeIs (.ref a) "reversed":=let #[o,ho,hc,_]:=z; #[o,ho,hc]
def Heap.IsRevS.at{h h':sU}(z:h.IsRevS a x t i)(e:∀o,h.get? a=AK o->h'.get? a=AK o):h'.IsRevS a x t i:=let #[o,ho,r]:=z; #[o,e _ ho,r]
end PySem
namespace L3
end L3
namespace L2
end in def Itk(lo k:Int)(n:Nat):It:=#[λi Z=>i<n,λi H x H'=>H'=H/\x=.int (lo+i * k),λi Z=>n<=i]
def X3{K:sr}(it:su)(lo k:Int)(n:Nat):zaN P w K tg (Itk lo k n) [it] it (λi h=>Aj h it (lo+(i:Nat) * k) ((n:Int) - (i:Nat)) k) where
 mem:=by simp
 obj:=λi h st b hb=>by
  have e:b=it:=by simpa using hb
  subst e
  exact#[_,st,λv z=>by
   have z':Data.fields _=Data.cell v:=z
   cases z']
 keep:=λi h h' st k=>k it (by simp) _ st
 item:=by
  intro X hP hw hK hc i AO s σ H E I hf st hg;subst hP hw hK;let#[f0,f1,f2,f3,f4,f5]:=hf it (by simp);have W:=Walks.range (prog:=X.prog) (w:=X.w) (I.ok.hd hc) it lo k n;refine W.item i s _ _ hg st λv h' tk hv st' kk=>?_;let#[t,rfl]:=hv;have I1:Inv X AO σ H { s with heap:=h',toks:=tk }:=I.turned (λb o hb e=>kk b o (by simpa using hb) e) f0 f1 f3 f4 f5;exact#[_,rfl,QA (s:={ s with heap:=h',toks:=tk }) (n:="range_iterator") st' rfl rfl ∅ #[.int (lo+i * k),H,I1,#[t,rfl],#[rfl,rfl],st',λb hb=>(hf b hb).1]]
 done:=by
  intro X hP hw hK hc i AO s σ H E I hf st hg;subst hP hw hK;let#[f0,f1,f2,f3,f4,f5]:=hf it (by simp);exact Ab (I.ok.hd hc) st (by have:n<=i:=hg;lia) λh' eb=>#[rfl,I.turned (t':=s.toks) (λb o hb e=>eb b o hb e) f0 f1 f3 f4 f5]
 self:=λZ Z Z Z Z st h=>Ac st h
def zbw(h1:0<=i)(h2:i<=2 ^ 30)(h3:0<=j)(h4:j<=2 ^ 30)(h5:0<k)(h6:k<2 ^ 30):0<=p7 i j k/\p7 i j k<2 ^ 30+1:=by
 unfold p7;rw[w6 h5];split
 ·have a:=Int.ediv_nonneg (a:=j - i - 1) (b:=k) ⋯ ⋯;have b:=Int.ediv_le_self (a:=j - i - 1) k ⋯;lia
 ·lia
def zcv(h1:0<=i)(h2:i<=2 ^ 30)(h3:0<=j)(h4:j<=2 ^ 30)(h5:0<k)(h6:k<2 ^ 30):Builtin.Range.small i j k=AM:=by
 let#[a,b]:=zbw h1 h2 h3 h4 h5 h6;unfold Builtin.Range.small
 erw[Builtin.Range.rangeFitsLong,aQ,Bool.or_eq_true,decide_eq_true_eq,beq_iff_eq,h5,gt_iff_lt,if_true]
 lia
def Uy{lo hi k:Int}(I:Inv X AO σ H s)(h1:0<=lo)(h2:lo<=2 ^ 30)(h3:0<=hi)(h4:hi<=2 ^ 30)(h5:0<k)(h6:k<2 ^ 30)(q:R (Itk lo k (p7 lo hi k).toNat) H):sy (model X.prog X.w) X.A (pyIter (.ref s⁻¹)) (PIE X AO σ tg R) E { s with heap:=s.heap.push { cls:=.type "range",data:=.fields (t7 [.int lo t,.int hi u,.int k v]) },toks:=tk }:=by
 refine An (IsRange.new ..) (zcv h1 h2 h3 h4 h5 h6) ?_;have I1:Inv X AO σ H { s with heap:=s.heap.push { cls:=.type "range",data:=.fields (t7 [.int lo t,.int hi u,.int k v]) },toks:=tk }:=I.kept λb o e=>ag _ e
 refine#[(s.heap.push { cls:=.type "range",data:=.fields (t7 [.int lo t,.int hi u,.int k v]) }).objs.size,[(s.heap.push { cls:=.type "range",data:=.fields (t7 [.int lo t,.int hi u,.int k v]) }).objs.size],_,_,H,rfl,
  I1.kept (t':=tk) λb o e=>ag _ e,X3 _ lo k (p7 lo hi k).toNat,?_,λb hb=>?_,q]
 ·have e1:lo+((0:Nat):Int) * k=lo:=by simp
  have e2:(((p7 lo hi k).toNat:Nat):Int) - ((0:Nat):Int)=p7 lo hi k:=by have:=(zbw h1 h2 h3 h4 h5 h6).1;lia
  show Aj _ _ (lo+((0:Nat):Int) * k) ((((p7 lo hi k).toNat:Nat):Int) - ((0:Nat):Int)) k;rw[e1,e2];exact aI _ rfl
 ·have e:b=(s.heap.push { cls:=.type "range",data:=.fields (t7 [.int lo t,.int hi u,.int k v]) }).objs.size:=by simpa using hb
  subst e;exact I1.fpOk (ao _) (I1.hok.fresh (ao _))
def zea(ta:TA):TI:=λσ H R=>ta σ H λvs H1=>∃i j k:Int,vs=[.int i,.int j,.int k]/\(0<=i/\i<=2 ^ 30/\0<=j/\j<=2 ^ 30/\0<k/\k<2 ^ 30)/\R (Itk i k (p7 i j k).toNat) H1
theorem QR(hg:Gl X "range")(hm:X.mg "range" = AL)(ha:PA X [a,b,c] ta)(hs:‹so [a,b,c] X.env=[(AN,eval a X.env),(AN,eval b X.env),(AN,eval c X.env)]›)(hs2:‹so [b,c] X.env=[(AN,eval b X.env),(AN,eval c X.env)]›) :
  PI X tg (.Call (.Name "range" p) [a,b,c] [] pos) (zea ta):=by
 intros R I h;refine Call_ (vN I hg hm boot_range (bK (thn (ha pos AO s σ H _ I h) λus s1=>el5 λvs H1 I1 r1 q1=>?_) (by rw[hs,hs2]) (by rw[hs2];rfl)));let#[i,j,k,e,#[q1,q2,q3,q4,q5,q6],q]:=q1;subst e
 cases r1 with
 | cons r rr =>
  cases rr with
  | cons r' rr =>
   cases rr with
   | cons r'' rr =>
    cases rr;let#[t,rfl]:=r;let#[t',rfl]:=r';let#[t'',rfl]:=r'';exact call_range_3 ⋯ (Uy I1 q1 q2 q3 q4 q5 q6 q) (Or.inl (PyProof.noPylong_small ⋯))
end L2
namespace L3
open PySem L2
def CompK(lo k:Int)(n:Nat)(g:TG)(tt:TT)(te:TE)(own:Nat)(ix:())(σ:L2.St)(H1:Hp)(Q:VK)(D:su):Prop:=XF (Itk lo k n) g tt te own ix σ H1 Q D
def zdH : kG (zea ta) g tt te own ix σ H Q=ta σ H λvs H1=>∃i j k:Int,vs=[.int i,.int j,.int k]/\(0<=i/\i<=2 ^ 30/\0<=j/\j<=2 ^ 30/\0<k/\k<2 ^ 30)/\∀D,H1 D=AL->CompK i k (p7 i j k).toNat g tt te own ix σ H1 Q D:=rfl
def CompK.by{g:TG}{tt:TT}{te:TE}{own:Nat}{ix:()}{σ:L2.St}{H1:Hp}{Q:VK}{D:su}{lo k:Int}(Pv:Nat->List V->Hp->Prop)(h0:Pv 0 [] (upd H1 D (.lst [])))(hs:∀i AR H',i<n->Pv i AR H'->g (.int (lo+i * k)) (uf σ own ix) H' λσ3 H3=>xu (uf σ own ix) σ3/\tt σ3 H3 λb H4=>if b=AM then
   te σ3 H4 λv H5=>H5 D=AK (.lst AR)/\AR.length<sq/\CNx n i Pv (AR ++ [v]) (upd H5 D (.lst (AR ++ [v])))else CNx n i Pv AR H4) (hd:∀AR H',Pv n AR H'->Q (.ref D) H'):CompK lo k n g tt te own ix σ H1 Q D:=by
 refine#[λi m AR H=>m=n - i/\i<=n/\Pv i AR H,#[n,by simp,aD _,h0],?_];rintro i m AR H' ⟨rfl,hi,p⟩;by_cases hlt:i<n
 ·refine .inr #[hlt,λx H2 y=>?_];let#[e,y]:=y;subst e y;exact hs i AR _ hlt p
 ·have e:i=n:=⋯;subst e;exact .inl #[ao _,hd AR H' p]
end L3
namespace L3
open PySem.AutoSeq1 (wpAny_loadPart')
open MeetsSeq MeetsSeq2 MeetsSeq3 SeqRoads2 SeqAt
end L3
namespace L3
theorem Vz{α:Type}[DecidableEq α](k:α)(v:sv)(x:α):∀kvs:List (α × sv),(kvs.map λkv=>if kv.1=k then (kv.1,v)else kv).find? (λkv=>kv.1=x)=(kvs.find? λkv=>kv.1=x).map λkv=>if kv.1=k then (kv.1,v)else kv
 | []=>rfl
 | p::kvs=>by
  have e:(if p.1=k then (p.1,v)else p).1=p.1:=by split <;> rfl
  rw[am,List.find?_cons,List.find?_cons,Vz k v x kvs]
  erw[e]
  by_cases h:p.1=x
  ·simp [h]
  ·simp [h]
set_option tactic.hygienic true in
def V8[DecidableEq α](kvs:List (α × sv))(k:α)(v:sv)(x:α):valueAt (stored kvs k v) x=if x=k then AK v else valueAt kvs x:=by
 unfold stored valueAt;split
 ·rename_i h;rw[Vz];by_cases e:x=k
  ·subst e;rw[w6 rfl];let#[p,hp,hk]:=Bo.mp h
   cases hf:kvs.find? λkv=>kv.1=x with
   | none =>
    have:=Bp.mp hf p hp;exact w4 hk this
   | some q =>
    have hq:=ee hf;have hq':q.1=x:=by simpa using hq
    simp [hq']
  ·rw[w9 e]
   cases hf:kvs.find? λkv=>kv.1=x with
   | none=>rfl
   | some q =>
    have hq:=ee hf;have hq':q.1=x:=by simpa using hq
    have:¬ q.1=k:=λz=>e (hq'.symm.trans z);simp [this]
 ·rename_i h;rw[List.find?_append];by_cases e:x=k
  ·subst e;rw[w6 rfl]
   have:kvs.find? (λkv=>kv.1=x)=AL:=by
    rw[gu];intro p hp hk;exact h (Bo.mpr #[p,hp,hk])
   rw[this];simp
  ·have e':¬ k=x:=λz=>e z.symm;rw[w9 e];simp [e']
end in def kj(P:sJ)(w:sP)(a:su)(m:sB->Option V)(n:Nat):HO:=.ext λh=>(a == sysModules)=AN/\∃kvs:List (sB × sv),h.DictOf (dm P w) a kvs/\kvs.length<=n/\∀k,RelO (m k) (valueAt kvs k)
def Ql(hs:(a == sysModules)=AN)(d:h.DictOf (dm P w) a kvs)(hl:kvs.length<=n)(r:∀k,RelO (m k) (valueAt kvs k)):ObjOk P w H h a (kj P w a m n) :=
 #[#[hs,kvs,d,hl,r],(let #[o,es,ep,ho,_]:=d; #[o,ho]),λh1 h2 ⟨hs,kvs,⟨o,es,ep,ho,rest⟩,z⟩ k=>#[hs,kvs,#[o,es,ep,k _ ho,rest],z]]
def Inv.beyond(I:Inv X AO σ H s):(s⁻¹ == sysModules)=AN:=by let#[o,es,ep,e,_]:=I.ok.mod.glob;have h1:=av e;have h2:=I.ok.bsz;have h3:=I.sz;have h4:1<=sk:=∅;have h5:1<s⁻¹:=ax (bT h4 h1) (aL h2 h3);rw[beq_eq_false_iff_ne];intro z;exact cr h5 z
def zeO(P:sJ)(w:sP):TE:=λZ H Q=>∀p,H p=AL->Q (.ref p) (upd H p (kj P w p (λZ=>AL) 0))
def zbL:PE X (.Dict [] [] pos) (zeO X.prog X.w):=λAO s σ H Q I h =>
 wpAny_Dict_empty #[.ref s⁻¹,_,I.laid (a:=s⁻¹) (t':=s.toks) (λZ Z q=>ag _ q) (ao _) (Ql (m:=λZ=>AL) (Inv.beyond I) (Heap.DictOf.new s.heap) (ao _) λZ=>trivial),rfl,h _ (I.hok.fresh (ao _))]
def Inv.tdic(I:Inv X AO σ H s)(h:H a=AK (kj X.prog X.w a m n)):(a == sysModules)=AN/\∃kvs:List (sB × sv),s.heap.DictOf (dm X.prog X.w) a kvs/\kvs.length<=n/\∀k,RelO (m k) (valueAt kvs k):=(I.hok _ _ h).1
def zgg(P:sJ)(w:sP):R2:=λx y H Q=>∃a m n k v,x=.ref a/\y=.str k/\H a=AK (kj P w a m n)/\m k=AK v/\Q v H
def zcV:IxR X (zgg X.prog X.w):=by intro value slice AO s σ H x y v u Q I rx ry h hs;let#[a,m,n,k,z,rfl,rfl,ha,hk,q]:=h;cases rx;let#[t,rfl]:=ry;let#[_,kvs,dd,hl,r]:=Inv.tdic I ha;let#[w',hw,rw']:=RelO.some_of (v:=z) (o:=valueAt kvs k) (by rw[<- hk];exact r k);exact tail_any dd.typeIs slot_dict_getitem.lookup (wpAny_getItem_of (knd:=dm X.prog X.w) (strKind_is _ _ _ _) dd.mapOf hw #[z,H,I.tok _,rw',q]) hs
def zeQ(P:sJ)(w:sP):V->V->V->Hp->(Hp->Prop)->Prop:=λo i v H Q=>∃a m n k,o=.ref a/\i=.str k/\H a=AK (kj P w a m n)/\n<=100000/\Q (upd H a (kj P w a (λx=>if x=k then AK v else m x) (n+1)))
def KA:zfQ X (zeQ X.prog X.w):=by
 intros o i v ov iv u Q I ro ri rv h;let#[a,m,n,k,rfl,rfl,ha,hn,q]:=h;cases ro;let#[t,rfl]:=ri;let#[hsm,kvs,dd,hl,r]:=Inv.tdic I ha;have s16:=zS;refine wpAny_setItem_pairs (knd:=dm X.prog X.w) (hsz:=by lia) (strKind_is _ _ _ _) dd λh' dd' hs=>#[_,?_,q];have he:∃q,h'.get? a=AK q:=let #[q,_,_,hq,_]:=dd'; #[q,hq];refine I.write (x:=a) (e:=a) (by rw[ha];exact True.intro) (.inl rfl) (λb q hb z=>(hs.2 b hb).trans z) he (Ql hsm dd' (aL (stored_length_le _ _ _) ⋯) λx=>?_);rw[V8];by_cases e:x=k
 ·rw[w6 e,w6 e];exact rv
 ·rw[w9 e,w9 e];exact r x
def zd4(P:sJ)(w:sP):R2:=λx y H Q=>∃a m n k,x=.str k/\y=.ref a/\H a=AK (kj P w a m n)/\Q (.bl (m k).isNone) H
def K0:OpR X (sH .NotIn) (zd4 X.prog X.w):=by
 intros x y v u Q I rx ry h;let#[a,m,n,k,rfl,rfl,ha,q]:=h;let#[t,rfl]:=rx;cases ry;let#[hsm,kvs,dd,hl,r]:=Inv.tdic I ha;refine wpAny_notIn_of (knd:=dm X.prog X.w) (strKind_is _ _ _ _) hsm dd.mapOf ?_
 have e:(!(valueAt kvs k).isSome)=(m k).isNone:=by
  have:=r k
  cases hm:m k with
  | none =>
   cases hv:valueAt kvs k with
   | none=>rfl
   | some z=>rw[hm,hv]at this;exact this.elim
  | some z0 =>
   cases hv:valueAt kvs k with
   | none=>rw[hm,hv]at this;exact this.elim
   | some z=>rfl
 rw[e];exact#[.bl _,H,I.tok _,rfl,q]
def qy(hc:X.calm=AM)(S:kR X scope own caps ix)(hg:∀cl C AO s3 H3 fp,PG (yB X scope cl C (own ++ caps) AO s3 H3 fp λZ Z=>False) tg g)(ht:∀cl C AO s3 H3 fp xe,XE (yB X scope cl C (own ++ caps) AO s3 H3 fp xe) EX->PTs (yB X scope cl C (own ++ caps) AO s3 H3 fp xe) ifs tt)(hst:X.stack=X.env::X.outer/\X.env.frame=AK X.env.locals)(hxe:XE X EX)(he:∀cl C AO s3 H3 fp xe,XE (yB X scope cl C (own ++ caps) AO s3 H3 fp xe) EX->PE (yB X scope cl C (own ++ caps) AO s3 H3 fp xe) elt te)(hc1:∀y c,cl.lookup y=AK c->X.env.cells.lookup y=AK c)(hc2:∀y,(y,NameKind.free) ∈ scope.names->∃c,cl.lookup y=AK c){Q:VK}(I2:Inv X AO σ H2 s2)(T:zaN X.prog X.w X.K tg J fp it tn)(st2:tn 0 s2.heap)(f2:∀b ∈ fp,wj X AO H2 b)(q:∀D,H2 D=AL->∃W:Nat->Nat->List V->Hp->Prop,(∃m,W 0 m [] (upd H2 D (.lst []))) /\
   ∀i m AR H',W i m AR H'->(J.stop i H'/\Q (.ref D) H')\/(J.go i H'/\∀x H2,J.yld i H' x H2->g x (uf σ own.length ix) H2 λσ3 H3=>xu (uf σ own.length ix) σ3/\tt σ3 H3 λb H4=>if b=AM then
    te σ3 H4 λv H5=>H5 D=AK (.lst AR)/\AR.length<sq/\∃m',m'<m/\W (i+1) m' (AR ++ [v]) (upd H5 D (.lst (AR ++ [v])))
    else ∃m',m'<m/\W (i+1) m' AR H4)) {RR:sv->su->Result->sw->Prop} (hRR:∀D C m s' H',H2 D=AL->s'.heap.Ns C m->wj X AO H' C->Inv X AO σ H' s'->Q (.ref D) H'->RR (.ref D) C (.ok .next) s') (hRE:∀D C m s' x,s'.heap.Ns C m->(∀h',Heap.SameBut C s'.heap h'->∀cenv:AE,cenv.locals=C->sy (model X.prog X.w) X.A (gq "comprehension.variables-let-go" x cenv:Sem sv) (λZ Z=>False) X.xe { s' with heap:=h' })->RR (.ref D) C (.error x) s') :
  sy (model X.prog X.w) X.A (newList []) (λAR s3=>sy (model X.prog X.w) X.A (newFunctionEnv scope X.env.globals cl [] X.env.qual AL .none (AK X.env)) (λcenv s4 =>
   tz (model X.prog X.w) X.A (.compStart (.ListComp elt [#[tg,iter,ifs,0]] scope pos) 0 (.ref it) AR { cenv with scope:=relabel scope X.env }) (RR AR cenv.locals) s4) E s3) E s2:=by
 have hD:H2 s2⁻¹=AL:=I2.hok.fresh (ao _);let#[W,#[m0,w0],turn]:=q _ hD;refine tS (Af S.nocell (by intro y hy;simp at hy) (λh1 hns1 hsb1=>?_) S.kind);dsimp only at hns1 hsb1 ⊢
 have I3:Inv X AO σ (upd H2 s2⁻¹ (.lst [])) { s2 with heap:=s2.heap.push { cls:=.type "list",dict:=AL,data:=.seq ([]:List sv).toArray } } :=
  I2.lnew (its:=[]) (t':=s2.toks) .nil (aD _)
 generalize hs3:({ s2 with heap:=s2.heap.push { cls:=.type "list",dict:=AL,data:=.seq ([]:List sv).toArray } }:sw)=s3 at I3;have e3:s2.heap.push { cls:=.type "list",dict:=AL,data:=.seq ([]:List sv).toArray }=s3.heap:=by rw[<- hs3]
 rw[e3]at hns1 hsb1 ⊢;have k1:∀b o,s3.heap.get? b=AK o->h1.get? b=AK o:=λb o e=>(hsb1.2 b (az (av e))).trans (ag _ e);have k23:∀b o,s2.heap.get? b=AK o->s3.heap.get? b=AK o:=λb o e=>by rw[<- e3];exact ag _ e
 have hz:s3⁻¹=s2⁻¹+1:=by rw[<- e3,cZ]
 have fpObj:∀b ∈ fp,∃o,s2.heap.get? b=AK o:=λb hb=>let #[o,e,_]:=T.obj 0 _ st2 b hb; #[o,e];have fplt:∀b ∈ fp,b<s2⁻¹:=λb hb=>let #[o,e]:=fpObj b hb;av e;have f3:∀b ∈ fp,wj X AO (upd H2 s2⁻¹ (.lst [])) b:=λb hb=>#[by rw[zq (az (fplt b hb))];exact (f2 b hb).1,(f2 b hb).2]
 have I4:Inv (yB X scope cl s3⁻¹ (own ++ caps) AO s3 (upd H2 s2⁻¹ (.lst [])) fp λZ Z=>False) [] (uf σ own.length ix) (upd H2 s2⁻¹ (.lst [])) { s3 with heap:=h1,toks:=s3.toks+([]:List (sB × sv)).length } :=
  VQ S hc1 hc2 I3 f3 (λb hb=>by rw[hz];exact cY (fplt b hb)) hns1 k1
 have st4:tn 0 h1:=T.keep 0 _ _ st2 λb hb o e=>k1 b o (k23 b o e);generalize hs4:({ s3 with heap:=h1,toks:=s3.toks+([]:List (sB × sv)).length }:sw)=s4 at I4;have es4:({ s2 with heap:=h1,toks:=s2.toks+([]:List (sB × sv)).length }:sw)=s4:=by rw[<- hs4,<- hs3]
 have e4:h1=s4.heap:=by rw[<- hs4]
 have loop:tz (model X.prog X.w) X.A (.compLoop (.ListComp elt [#[tg,iter,ifs,0]] scope pos) 0 (.ref it) (.ref s2⁻¹) (compEnvC scope cl s3⁻¹ X.env)) (RR (.ref s2⁻¹) s3⁻¹) s4:=by
  let X':=yB X scope cl s3⁻¹ (own ++ caps) AO s3 (upd H2 s2⁻¹ (.lst [])) fp λZ Z=>False
  have fp':∀{H':Hp},(∀b ∈ fp,H' b=AL)->∀b ∈ fp,wj X' [] H' b:=λ{H'} hn b hb=>by
   let#[_,a1,a2,a3,a4,a5]:=f3 b hb;refine#[hn b hb,az (show b<s3⁻¹ from by rw[hz];exact cY (fplt b hb)),λz=>?_,.inl hb,λx c e=>a4 x c (hc1 x c e),λp hp=>?_]
   ·rcases AU.mp (I3.stkSub b z)with e | e
    ·exact a1 e
    ·exact a2 e
   ·have:p ∈ (X.pn ++ AO) ++ []:=hp;rw[bc]at this;exact a5 p this
  refine JY (λn s'=>∃i AR H',Inv X' [] (uf σ own.length ix) H' s'/\tn i s'.heap/\(∀b ∈ fp,H' b=AL)/\W i n AR H') rfl ?_ m0 #[0,[],_,I4,by rw[<- e4];exact st4,λb hb=>(f3 b hb).1,w0];rintro n s5 ⟨i,AR,H5,I5,st5,fr5,w5⟩;refine tw ?_;rcases turn i n AR H5 w5 with ⟨stop,qn⟩ | ⟨go,step⟩
  ·refine thn (T.done X' rfl rfl rfl hc i [] s5 _ H5 _ I5 (fp' fr5) st5 stop) λr s6 ⟨hr,I6⟩=>?_;subst hr;let#[m,hm,_]:=I6.loc;refine hRR _ _ m s6 H5 hD hm (I3.fpOk (ao _) I6.free) (I3.call' (s':=s6) I6.os I6.base I6.hok I6.bare λb hb=>?_) qn;let#[_,a1,a2,a3,a4,a5]:=f3 b hb;exact#[a3,a1,a4,a5]
  ·refine thn (T.item X' rfl rfl rfl hc i [] s5 _ H5 (λZ Z=>False) I5 (fp' fr5) st5 go) λr s6 ⟨u,hr,h6⟩=>?_;subst hr;refine tw (thn h6 λZ s7=>el5 λx H7 I7 r7 q_z=>?_);let#[y7,st7,fr7]:=q_z;have I7':=I7.pinned (fp' fr7) (T.obj _ _ st7);refine tw (thn (hg _ _ _ _ _ _ _ s7 _ H7 x u _ I7' r7 (step x H7 y7)) λZ s8=>el5 λσ8 H8 I8 ks q8=>?_);refine thn (ht cl _ AO s3 (upd H2 s2⁻¹ (.lst [])) fp _ (λe s hfl=>Ju (RE:=λe s'=>RR (.ref s2⁻¹) s3⁻¹ (.error e) s') hst hxe hc1 I3 f3 hfl λm s' x a b=>hRE _ _ m s' x a b) _ s8 σ8 H8 _ (I8.wish _) q8) λb s9=>el3 λH9 I9' q9=>?_;have I9:=Inv.unwish (X:=X') I9'
   have back:∀{s':sw} {H':Hp} {acc':List V} {m':Nat},Inv X' ([] ++ Ys fp s7.heap) σ8 H' s'->m'<n->W (i+1) m' acc' H'->∃m,m<n/\∃i AR H',Inv X' [] (uf σ own.length ix) H' s'/\tn i s'.heap/\(∀b ∈ fp,H' b=AL)/\W i m AR H':=λ{s' H' acc' m'} J' hm w'=>by
    refine#[m',hm,i+1,acc',H',(J'.unpinned).weak ks.1 ks.2,T.keep _ _ _ st7 λb hb o e=>(J'.pin (b,o) (aG _ (aG _ (vw hb e)))).1,λb hb=>?_,w'];let#[o,e,d]:=T.obj _ _ st7 b hb;exact (J'.pin (b,o) (aG _ (aG _ (vw hb e)))).2.1
   cases b with
   | false =>
    rw[w9 aF]at q9 ⊢;let#[m',hm,w']:=q9;exact back I9 hm w'
   | true =>
    rw[w6 rfl]at q9 ⊢;refine thn (he cl _ AO s3 (upd H2 s2⁻¹ (.lst [])) fp _ (λe s hfl=>Ju (RE:=λe s'=>RR (.ref s2⁻¹) s3⁻¹ (.error e) s') hst hxe hc1 I3 f3 hfl λm s' x a b=>hRE _ _ m s' x a b) _ s9 σ8 H9 _ (I9.wish _) q9) λv s10=>el5 λy H10 I10' r10 q_z=>?_;let#[hD10,hsz,m',hm,w']:=q_z;have I10:=Inv.unwish (X:=X') I10';refine tw ?_;have:=yP (X:=X') _ s10 σ8 H10 (.ref s2⁻¹) [y] (.ref s2⁻¹) [v] (λZ H'=>H'=upd H10 s2⁻¹ (.lst (AR ++ [y]))) I10 rfl (.cons r10 .nil) #[AR,hD10,hsz,rfl];refine thn this λ_ s11 ⟨_,H11,I11,_,eH⟩=>?_;subst eH;exact back I11 hm w'
 have goal:tz (model X.prog X.w) X.A (.compStart (.ListComp elt [#[tg,iter,ifs,0]] scope pos) 0 (.ref it) (.ref s2⁻¹) (compEnvC scope cl s3⁻¹ X.env)) (RR (.ref s2⁻¹) s3⁻¹) s4 :=
  codeAny_compStart_list loop (T.self _ 0 s4 _ _ (by rw[<- e4];exact st4) loop)
 rw[<- es4]at goal;exact goal
def Y7(hc:X.calm=AM)(S:kR X scope own caps ix)(hst:X.stack=X.env::X.outer/\X.env.frame=AK X.env.locals)(hxe:XE X EX)(hi:PI X tg iter wi)(hg:∀cl C AO s3 H3 fp,PG (yB X scope cl C (own ++ caps) AO s3 H3 fp λZ Z=>False) tg g)(ht:∀cl C AO s3 H3 fp xe,XE (yB X scope cl C (own ++ caps) AO s3 H3 fp xe) EX->PTs (yB X scope cl C (own ++ caps) AO s3 H3 fp xe) ifs tt)(he:∀cl C AO s3 H3 fp xe,XE (yB X scope cl C (own ++ caps) AO s3 H3 fp xe) EX->PE (yB X scope cl C (own ++ caps) AO s3 H3 fp xe) elt te)(hs:∀x,foldedSetIterable iter X.env x=pure x:=by intro _;rfl) :
  PE X (.ListComp elt [#[tg,iter,ifs,0]] scope pos) (kG wi g tt te own.length ix):=by
 intros Q I h;let#[cl,hclos,hc1,hc2]:=uo (scope:=scope) (env:=X.env) λy hy=>I.ok.has y (S.free y hy);rw[eval_ListComp];refine tZ (use:=AL) rfl hs hclos S.kind S.names (thn (hi AO s σ H _ I h) λv s1 h1=>thn h1 λitv s2 h2=>?_);let#[it,fp,tn,J,H2,e,I2,T,st2,f2,q]:=h2;subst e;refine qy (RR:=λAR C=>compPost (model X.prog X.w) X.A X.xe AL (EP X AO σ Q) AR C) hc S hg ht hst hxe he hc1 hc2 I2 T st2 f2 q ?_ ?_
 ·intro D C m s' H' _ hn fc I' qn;let#[a0,a1,a2,a3,a4,a5]:=fc;exact#[m,hn,λh' sb=>#[.ref D,H',I'.turned (t':=s'.toks) (λb o hb e=>(sb.2 b hb).trans e) a0 a1 a3 a4 a5,rfl,qn]]
 ·intro D C m s' x hn hp;exact#[m,hn,hp]
def xeN:XE X E0:=λe s h=>by
 let#[_,_,_,_,_,_,_,_,_,_,_,_,_,_,h]:=h;exact h.elim
def zdT(h:PE (X.wish λZ Z=>False) e t):PE X e t:=λAO s σ H Q I hq=>tw (thn (h AO s σ H Q (I.wish _) hq) λv s'=>el5 λx H' I' r q=>#[x,H',I'.unwish,r,q])
def zaW(h:PTs (X.wish λZ Z=>False) ifs t):PTs X ifs t:=λAO s σ H Q I hq=>tw (thn (h AO s σ H Q (I.wish _) hq) λv s'=>el3 λH' I' q=>#[H',I'.unwish,q])
def yy(hc:X.calm=AM)(S:kR X scope own caps ix)(hi:PI X tg iter wi)(hg:∀cl C AO s3 H3 fp,PG (yB X scope cl C (own ++ caps) AO s3 H3 fp λZ Z=>False) tg g)(ht:∀cl C AO s3 H3 fp,PTs (yB X scope cl C (own ++ caps) AO s3 H3 fp λZ Z=>False) ifs tt)(he:∀cl C AO s3 H3 fp,PE (yB X scope cl C (own ++ caps) AO s3 H3 fp λZ Z=>False) elt te)(hst:X.stack=X.env::X.outer/\X.env.frame=AK X.env.locals:=by exact#[rfl,rfl]) (hs:∀x,foldedSetIterable iter X.env x=pure x:=by intro _;rfl) :
  PE X (.ListComp elt [#[tg,iter,ifs,0]] scope pos) (kG wi g tt te own.length ix) :=
 Y7 hc S hst xeN hi hg (λa b c d e f Z Z=>zaW (ht a b c d e f)) (λa b c d e f Z Z=>zdT (he a b c d e f)) hs
def Xx(hN:X.N.Nodup)(hy:X.N[i]? = AK y)(hly:Loc X.env.scope y)(hf:X.fn y=AM\/X.env.scope.names.lookup y=AK .local)(hc:X.calm=AM)(S:kR X scope own caps ix)(hi:PI X tg iter wi)(hg:∀cl C AO s3 H3 fp,PG (yB X scope cl C (own ++ caps) AO s3 H3 fp λZ Z=>False) tg g)(ht:∀cl C AO s3 H3 fp,PTs (yB X scope cl C (own ++ caps) AO s3 H3 fp λZ Z=>False) ifs tt)(he:∀cl C AO s3 H3 fp,PE (yB X scope cl C (own ++ caps) AO s3 H3 fp λZ Z=>False) elt te)(hst:X.stack=X.env::X.outer/\X.env.frame=AK X.env.locals:=by exact#[rfl,rfl])(hsw:‹swapsWith (.ListComp elt [#[tg,iter,ifs,0]] scope pos) (AK (.Name y py)) spos.line X.env=pure AM›)(hs:∀x,foldedSetIterable iter X.env x=pure x:=by intro _;rfl) :
  PS X (.Assign [.Name y py] (.ListComp elt [#[tg,iter,ifs,0]] scope pos) spos) (ZT i (kG wi g tt te own.length ix)):=by
 intros D I h;let#[cl,hclos,hc1,hc2]:=uo (scope:=scope) (env:=X.env) λy hy=>I.ok.has y (S.free y hy);rw[exec_Assign_Name_used _ _ _ _ hsw];refine si (tu (si ?_));show sy _ X.A (do let _ <- comprehension (.ListComp elt [#[tg,iter,ifs,0]] scope pos) scope X.env _ (newList []) AN (eval iter X.env) (AK (assign (.Name y py) X.env))) _ _ s;refine si (thn (tZ (use:=AK (assign (.Name y py) X.env)) (Q:=λZ s'=>SP X AO D .next s') rfl hs hclos S.kind S.names (thn (hi AO s σ H _ I h) λv s1 h1=>thn h1 λitv s2 h2=>?_)) λZ s' hq=>sj (sj hq));let#[it,fp,tn,J,H2,e,I2,T,st2,f2,q]:=h2;subst e;refine qy (Q:=λx H1=>D.nx (σ.set i (AK x)) H1) (RR:=λAR C=>compPost (model X.prog X.w) X.A X.xe (AK (assign (.Name y py) X.env)) (λZ s'=>SP X AO D .next s') AR C) hc S hg (λa b c d e f Z Z=>zaW (ht a b c d e f)) hst xeN (λa b c d e f Z Z=>zdT (he a b c d e f)) hc1 hc2 I2 T st2 f2 q ?_ λD C m s' x hn hp=>#[m,hn,hp];intro D' C m s' H1 hD' hn fc I1 nx;let#[a0,a1,a2,a3,a4,a5]:=fc;show sy _ X.A (assign (.Name y py) X.env (.ref D')) _ _ s';refine Ap (Xb I1 hN hy hly (v:=.ref D') rfl (λs'' I2' ⟨a,sb,ha⟩=>?_) hf)
 have hCa:C≠a:=by
  rcases ha with e | e
  ·rw[e];exact a1
  ·exact λz=>a4 _ _ e z.symm
 refine#[m,hn.sameBut sb hCa,λh' sb'=>#[_,H1,I2'.turned (t':=s''.toks) (λb o hb e=>(sb'.2 b hb).trans e) a0 a1 a3 a4 a5,nx]]
end L3
namespace LL
open PySem L2 L3
end in def top(i:Nat):sI:=PySem.Challenge.pw_letterlaw_k79_rounds_judged.main.body.getD i (.Pass #[0,0,0,0])
end in abbrev yK:sI:=yH (top 4) 0
end in abbrev z9:sI:=yH (top 5) 0
end in abbrev yY:sI:=top 11
end in abbrev vd:sI:=top 12
end in abbrev vV:sI:=top 13
end in abbrev zb8:sI:=top 14
end in abbrev VF:sI:=top 16
end in abbrev Z2:sI:=top 17
end in abbrev xU:sI:=top 20
end in abbrev ve:sI:=top 21
end in abbrev vK:sI:=top 22
end in abbrev wx:sI:=yH (top 23) 0
end in abbrev yF:sI:=yH (top 23) 1
end in abbrev XD:sI:=top 25
end in abbrev uY:sI:=top 26
end in abbrev Jo:sI:=top 27
end in abbrev jt:sI:=top 28
end in abbrev ZQ:sI:=top 29
end in abbrev xS:sI:=top 30
end in abbrev uQ:sI:=top 36
end in abbrev vz:sI:=top 37
end in abbrev vS:sI:=top 38
end in abbrev jv:sI:=top 39
end in abbrev yL:sI:=top 40
end in abbrev xP:sI:=top 41
end in abbrev xo:sI:=top 42
end in abbrev vq:sI:=top 43
end in abbrev jx:sI:=top 44
end in abbrev yO:sI:=top 50
end in abbrev wE:sI:=top 51
end in abbrev y9:sI:=top 52
end in abbrev xM:sI:=top 53
end in abbrev uU:sI:=top 54
end in abbrev ww:sI:=top 55
end in abbrev vD:sI:=top 58
end in abbrev vo:sI:=yH (top 59) 0
end in abbrev wC:sI:=yH (top 59) 1
end in abbrev vW:sI:=yH (top 59) 3
end in abbrev xQ:sI:=yH (top 59) 5
end in abbrev xV:sI:=yH (top 59) 6
end in abbrev wv:sI:=top 62
end in abbrev xm:sI:=top 63
end in abbrev vv:sI:=top 64
end in abbrev wy:sI:=top 65
end in abbrev wo:sI:=top 66
end in abbrev wk:sI:=top 70
end in abbrev yU:sI:=top 71
end in abbrev yN:sI:=top 72
end in abbrev ZA:sI:=top 73
end in abbrev vp:sI:=yH (top 75) 0
end in abbrev xO:sI:=yH (top 75) 1
end in abbrev wY:sI:=yH (top 75) 2
end in abbrev xG:sI:=yH (top 75) 3
end in abbrev xL:sI:=yH (top 75) 4
end in abbrev xa:sI:=yH (top 76) 0
end in abbrev U5:sI:=top 78
end in abbrev Xp:sI:=top 79
end in abbrev j4:sI:=top 80
end in abbrev UE:sI:=top 81
end in abbrev XA:sI:=top 82
end in abbrev XZ:sI:=top 83
end in abbrev UL:sI:=top 84
end in abbrev zbH:sI:=top 85
end in abbrev jh:sI:=top 86
end in abbrev vx:sI:=top 87
end in abbrev Ye:sI:=top 88
end in abbrev UO:sI:=top 89
end in abbrev ut:sI:=top 90
end in abbrev wq:sI:=top 91
end in abbrev qc:sI:=top 92
end in abbrev xT:sI:=top 93
end in abbrev zc4:sI:=top 94
end in abbrev X2:sI:=top 95
end in abbrev uA:sI:=top 96
end in abbrev wl:sI:=top 97
end in abbrev qk:sI:=top 98
end in abbrev jR:sI:=top 99
section
variable{P:sJ}{w:sP}{K:sr}{mg:sB->Option sv}{base:sU}
seal L2.PE L2.PS L2.PA L2.PT L2.PSs L2.PI L2.PG L2.PW L2.PGs
local macro_rules | `($a<<<$b)=>`(Df $(mkIdent `P) $(mkIdent `w) $(mkIdent `K) $(mkIdent `mg) $(mkIdent `base) CX0 $a $b)
local macro_rules | `($a>>>$b)=>`(Df $(mkIdent `P) $(mkIdent `w) $(mkIdent `K) $(mkIdent `mg) $(mkIdent `base) (CXx $(mkIdent `P) $(mkIdent `w)) $a $b)
local macro_rules | `($a&&&$b)=>`(FnOk $(mkIdent `P) $(mkIdent `w) $(mkIdent `K) $(mkIdent `mg) $(mkIdent `base) CX0 $a $(mkIdent `f) $(mkIdent `fd) $b)
local macro_rules | `($a|||$b)=>`(FnOk $(mkIdent `P) $(mkIdent `w) $(mkIdent `K) $(mkIdent `mg) $(mkIdent `base) (CXx $(mkIdent `P) $(mkIdent `w)) $a $(mkIdent `f) $(mkIdent `fd) $b)
local macro_rules | `(!!$a)=>`(AK (.ref $a))
local macro_rules | `(~~~$a)=>`(AK (.str (tx $a)))
local macro_rules | `(-~~~$a)=>`(AK (.int (($a):Nat)))
local macro_rules | `(~~~!$a)=>`(AK (.int $a))
local macro_rules | `($a^^^$b)=>`(Fun $(mkIdent `K) $a $a $b $(mkIdent `f) $(mkIdent `fd))
end in abbrev sQz(n:Nat)(a:List PySem.Str)(s:PySem.Stmt):=zm a (a.take n) (zi s)
local macro_rules | `(tactic| rfl')=>do
 let A0←("zfA zfK zfx zfv zfJ zgl zfM zf8 zf5 zfq zcT zcD zbV zc7 zfE zfF zfU zfp zf7 zcg zcx zb5 zcB zbP zcp zdb zdh zbF zfO zgq zgi zfI zf0 zf1 zf6 zgd zb4 zda zbK zct zbS zcd zdg zcJ".splitOn " ").toArray.mapM fun s=>`(Lean.Parser.Tactic.simpLemma| ↓$(mkIdent s.toName):ident)
 let A1←("zfc KL zbA zfb Wf tOp tUn tC vE zI xb tCB zdq yx K4 zdr zfe tOr QL J0 kW tIf rI rI0 rU rGe zdk ud za5 zdj zdO zd9 tSl Zh Yw Um zeZ tBM zfh zbN zce L2.start zfN cxK cxP cxW am aA aC bg cC eG Nat.reduceAdd Nat.reduceSub cM dI aT aU bR bu uf fh fj".splitOn " ").toArray.mapM fun s=>`(Lean.Parser.Tactic.simpLemma| $(mkIdent s.toName):ident)
 let A2←("zdU za0 za4 zaS zgy zfA zfK zfx zfv zfJ zgl zfM zf8 zf5 zfq zcT zcD zbV zc7 zfE zfF zfU zfp zf7 zcg zcx zb5 zcB zbP zcp zdb zdh zbF zfO zgq zgi zfI zf0 zf1 zf6 zgd zb4 zda zbK zct zbS zcd zdg zcJ".splitOn " ").toArray.mapM fun s=>`(Lean.Parser.Tactic.simpLemma| ↓$(mkIdent s.toName):ident)
 let A3←("zfc uf fh fj rU ZT zbx zeM zdL KL zbA zfb Wf tOp tUn QJ tC vE zI xb tCB zdq yx K4 zdr zfe tOr QL J0 kW tIf rI rI0 rEq_is rNe_is zdk ud za5 zdO zd9 zdj tSl Zh Yw rGe decide_false decide_true Prod.mk.injEq rLen_is zec zfk JE zas Jb tyV tBM zfh if_true if_false bf decide_eq_true_eq decide_eq_false_iff_not dN gg fQ lt1 Um zeZ zbO kH zcG Wt XY zer zeX zeB zeV zdR zdV Value.ref.injEq L2.start zdS zdy zgV zgP zgC zdA zgD zbN zce zgR Ji zew zdt zfr Zp JK Yk xZ Xw zR zfN zaH zd5 cxK cxP cxW am aA aC bg cC eG Nat.reduceAdd Nat.reduceSub and_assoc zeI exists_eq exists_eq' exists_eq_left' exists_eq_left exists_eq_right exists_eq_right' exists_and_left exists_and_right V.int.injEq V.ref.injEq V.str.injEq V.bl.injEq V.ty.injEq reduceCtorEq false_and and_false true_and and_true or_false false_or exists_false exists_const cM dI Option.some.injEq aT aU List.cons.injEq bc bR bu zbj zba za7 zbi".splitOn " ").toArray.mapM fun s=>`(Lean.Parser.Tactic.simpLemma| $(mkIdent s.toName):ident)
 `(tactic| first | (dsimp only[$A0,*,$A1,*];try simp only[$A2,*,$A3,*]) | simp only[$A2,*,$A3,*])
local macro_rules | `(tactic| ac_rfl)=>do
 let A0←("yn zy zK yt yw zA".splitOn " ").toArray.mapM fun s=>`(Lean.Parser.Tactic.simpLemma| $(mkIdent s.toName):ident)
 `(tactic| repeat (first | rfl' | simp only[$A0,*]))
def xe0 : XE X E0:=λe s h=>by
 let#[_,_,_,_,_,_,_,_,_,_,_,_,_,_,h]:=h;exact h.elim
def small(l:()):Prop:=∀c ∈ l,97<=c/\c<=122
end in instance (l:()):Decidable (small l):=by unfold small;infer_instance
end in def jJ(l:()):Bool:=decide (1<=l.length/\l.length<=6/\small l/\l.Nodup)
def Zf:Sp:=λvs H Q Z=>∃c:Nat,vs=[.str (tx [c])]/\Q (.bl (decide (97<=c/\c<=122))) H
def Ki:sQz 1 ["sign"] yY:=by nofun
def KU(F:("is_small_letter"^^^yY)):(1&&&["sign"]) Zf:=by
 exists F.ok Ki
 ·let#[c,rfl,q]:=h;refine#[_,(zg (zl (Vy wF wF zQ (pv 0) zQ))),?_];have ea:cs (("a" : sB))=[97]:=rfl;have ez:cs (("z" : sB))=[122]:=rfl
  rfl'
  erw[ea,ez,Xw,lt1]
  refine z8 (λh=>?_) λh=>?_
  ·have e:decide (97<=c/\c<=122)=!decide (122<c):=by
    by_cases h2:122<c
    ·rw[u9 h2,v9 ⋯];rfl
    ·rw[v9 h2,u9 ⋯];rfl
   rw[e]at q;exact q
  ·rw[v9 ⋯]at q;exact q
structure zgZ(K:sr)(mg:sB->Option sv)(C:su):Prop where
 xi:XI K C
 ini:ah K (.ref C) "__init__" = AK (AK (.builtin "ValueError.__init__"))
 g:mg "NoLetters" = AK (.ref C)
 most:∃t,mg "MOST_LETTERS" = AK (.int 6 t)
def wn(C:su):Sp:=λvs H Q E=>∃l:(),vs=[.str (tx l)]/\l.length<=1000/\(jJ l=AM->Q (.str (tx l)) H)/\(jJ l=AN->E (.ref C) AL H)
def nF:sQz 1 ["text","sign"] vd:=by nofun
def ZZ(B:Bt mg)(T:zgZ K mg C)(F:("letters_of"^^^vd))(Ds:(1<<<"is_small_letter") ["sign"] [] Zf):(2|||["text"]) (wn C):=by
 exists Fun.okX F nF,0
 ·let#[l,rfl,hl,q1,q2]:=h;let#[t6,g6]:=T.most
  refine#[_,(zG (zJ (yd (qV wF wF zf (zE B.len (pv 0)) (yJ (v:=.int 6) rfl g6 #[t6,rfl]))) (zg (yk hx rfl T.xi.toXC T.ini rfl T.g (za zQ ze)))
    zp) (zG (zZ PassesOwn.leaving rfl (YC (pv 0)) (zr (i:=1) nF.nd rfl (.inl rfl)) (zG (zJ (yd (Vw (cl0 Ds hr .nil rfl (za (pv 1) ze)) (λZ=>rfl))) (zg (yk hx rfl T.xi.toXC T.ini rfl T.g (za zQ ze)))
     zp) (zg (zJ (zt VD (wL bz PySem.F.slot_str_count PySem.F.type_str_count zcL (pv 0) (za (pv 1) ze)) zf (zv _)) (zg (yk hx rfl T.xi.toXC T.ini rfl T.g (za zQ ze)))
     zp)))) (zg (zl (pv 0))))),?_]
  have s16:=zS
  rfl'
  have bad:(¬ (1<=l.length/\l.length<=6/\small l/\l.Nodup))->∀H':Hp,H'=H->E (.ref C) AL H':=λh H' e=>by
   rw[e];exact q2 (v9 h)
  refine#[⋯,z8 (λc=>z8 (λc2=>#[⋯,bad (λh=>by have:=h.2.1;lia) H rfl]) (λc2=>?_)) (λc=>#[⋯,bad (λh=>by have:=h.1;lia) H rfl])];refine ForS.by (λi σ H'=>H'=H/\∃v,σ=[~~~l,v]/\small (l.take i)/\∀c ∈ l.take i,l.count c<=1) #[rfl,AL,rfl,λc h=>w4 h (by simp),λc h=>w4 h (by simp)] ?_ ?_
  ·refine nm4 ?_;rintro i c σ H' hg ⟨eH,v,rfl,hs,hn⟩:_;have hc:=ac hg;right
   rfl'
   erw[Zf]
   rfl'
   refine z8 (λh=>#[⋯,bad (λz=>by have:=z.2.2.1 c hc;lia) _ eH]) (λh=>z8 (λh2=>#[⋯,bad (λz=>?_) _ eH]) (λh2=>#[eH,?_,?_]))
   ·have:=Bq.mp z.2.2.2 c;lia
   ·rw[zO hg];intro x hx;rcases AV.mp hx with q | q
    ·exact hs x q
    ·have:x=c:=by simpa using q
     subst this;lia
   ·rw[zO hg];intro x hx;rcases AV.mp hx with q | q
    ·exact hn x q
    ·have:x=c:=by simpa using q
     subst this;lia
  ·rintro σ H' ⟨eH,v,rfl,hs,hn⟩;rw[aK]at hs hn
   rfl'
   rw[eH];refine q1 (u9 #[⋯,⋯,hs,Bq.mpr λc=>?_]);by_cases hc:c ∈ l
   ·exact hn c hc
   ·rw[List.count_eq_zero.mpr hc];lia
end in def zw(l:())(k:Int)(p:()):Bool:=decide (0<=k/\k+p.length<=l.length/\(l.drop k.toNat).take p.length=p)
def wT:Sp:=λvs H Q Z=>∃(l p:()) (k:Int),vs=[.str (tx l),.int k,.str (tx p)]/\l.length<=10000/\p.length<=10000/\Q (.bl (zw l k p)) H
def ZO(h1:l.length<=10000)(h2:p.length<=10000)(h:Q (.bl (zw l k p)) H):wT [.str (tx l),.int k,.str (tx p)] H Q E:=#[l,p,k,rfl,h1,h2,h]
def Yo:sQz 3 ["word","place","part"] vV:=by nofun
def YD(B:Bt mg)(F:("stands_at"^^^vV)):(1&&&["word","place","part"]) wT:=by
 exists F.ok Yo
 ·let#[l,p,k,rfl,hl,hp,q]:=h
  refine#[_,(zG (zJ (yd (qV wF wF zf (pv 1) (zD xD (zE B.len (pv 0)) (zE B.len (pv 2))))) (zg (zl yC))
    zp) (zg (zl (yf yW (zY xY (pv 0) (z6 (pv 1)) (z6 (zD yz (pv 1) (zE B.len (pv 2))))) (pv 2) (zv _))))),?_]
  have s16:=zS
  rfl'
  have no:¬ (0<=k/\k+p.length<=l.length/\(l.drop k.toNat).take p.length=p)->Q (.bl AN) H:=λh=>by
   have e:zw l k p=AN:=v9 h;rw[e]at q;exact q
  refine z8 (λh0=>#[⋯,⋯,z8 (λh1=>no λh=>w4 h.2.1 ⋯) λh1=>#[⋯,⋯,?_]]) λh0=>no λh=>h0 h.1;rw[XS _ h0 ⋯ ⋯];have e:(k+(p.length:Int) - k).toNat=p.length:=⋯;rw[e]
  have e2:zw l k p=decide ((l.drop k.toNat).take p.length=p):=by
   unfold zw;exact decide_eq_decide.mpr #[λh=>h.2.2,λh=>#[h0,⋯,h]]
  rw[<- e2];exact q
end in def yS(l:())(k:Int)(o n:()):():=l.take k.toNat ++ n ++ l.drop (k.toNat+o.length)
def yo(h:zw l k o=AM):l.take k.toNat ++ o ++ l.drop (k.toNat+o.length)=l/\(l.take k.toNat).length=k.toNat/\0<=k/\k+o.length<=l.length:=by
 unfold zw at h;rw[decide_eq_true_eq]at h;let#[h0,h1,h2]:=h;refine#[?_,by rw[aH];lia,h0,h1]
 have e:l.drop k.toNat=o ++ l.drop (k.toNat+o.length):=by
  have:=cf o.length (l.drop k.toNat);rw[h2,fR]at this;exact this.symm
 rw[aV,<- e,cf]
def VC(n:())(h:zw l k o=AM):zw (yS l k o n) k n=AM/\yS (yS l k o n) k n o=l:=by
 let#[e,hl,h0,h1]:=yo h
 have e1:(yS l k o n).take k.toNat=l.take k.toNat:=by
  unfold yS;rw[aV,bw ⋯,bn ⋯]
 have e2:(yS l k o n).drop k.toNat=n ++ l.drop (k.toNat+o.length):=by
  unfold yS;rw[aV,cB ⋯,bo ⋯,bR]
 have e3:(yS l k o n).length=l.length - o.length+n.length:=by
  unfold yS
  erw[ak,aZ,hl]
  lia
 refine#[?_,?_]
 ·unfold zw;refine u9 #[h0,⋯,?_];rw[e2,bw ⋯,bn ⋯]
 ·show (yS l k o n).take k.toNat ++ o ++ (yS l k o n).drop (k.toNat+n.length)=l;rw[e1,<- fR,e2,cB ⋯,bo ⋯,bR];exact e
def zb0(h0:0<=k):cut l AL (AK k) ++ n ++ cut l (AK (k + ↑o.length)) AL=yS l k o n:=by rw[qw _ h0,wA _ ⋯];have:(k+(o.length:Int)).toNat=k.toNat+o.length:=⋯;rw[this];rfl
structure TNU(K:sr)(mg:sB->Option sv)(C:su):Prop where
 xi:XI K C
 g:mg "NoUse" = AK (.ref C)
 na:NoAttr K C "at"
def ZS:sQz 2 ["self","at"] yK:=by nofun
def Zq(T:TNU K mg C)(F:Fun K "__init__" "NoUse.__init__" yK f fd):(1&&&["self","at"]) (ui C "at"):=by
 exists F.ok ZS
 ·let#[x,v,rfl,hx,q]:=h;refine#[_,(zg (QX (pv 0) (pv 1) rfl)),?_]
  erw[zcZ]
  rfl'
  exact#[C,hx,T.xi.toXC,T.na,q]
structure DNU(P:sJ)(w:sP)(K:sr)(mg:sB->Option sv)(base:sU)(C:su):Prop extends TNU K mg C where
 ini:∃f fd,ah K (.ref C) "__init__" = AK (AK (.ref f))/\be K (.ref f)=AM/\(1&&&["self","at"]) (ui C "at")/\Binds K fd ["self","at"] []
def WJ(C:su):Sp:=λvs H Q E=>∃(l o n:()) (k:Int),vs=[.str (tx l),.int k,.str (tx o),.str (tx n)]/\l.length<=10000/\o.length<=10000/\n.length<=10000/\(zw l k o=AM->Q (.str (tx (yS l k o n))) H)/\(zw l k o=AN->∀d H',zfZ H d "at" (.int 0) H'->E (.ref C) (AK d) H')
def zdZ:sQz 4 ["word","place","old","new"] zb8:=by nofun
def zdu(B:Bt mg)(T:DNU P w K mg base C)(F:("put"^^^zb8))(rg:(1<<<"stands_at") ["word","place","part"] [] wT):(3|||["word","place","old","new"]) (WJ C):=by
 let#[fi,fdi,hi,hfn,Fi,Bi]:=T.ini
 exists Fun.okX F zdZ,0
 ·let#[l,o,n,k,rfl,hl,ho,hn,q1,q2]:=h
  refine#[_,(zG (zJ (yd (Vw (cl0 rg hr .nil rfl (za (pv 0) (za (pv 1) (za (pv 2) ze)))) (λZ=>rfl))) (zg (Y5 hx rfl T.xi.toXC hi hfn Fi hr Bi rfl T.g (za zf ze)))
    zp) (zg (zl (zD zL (zD zL (zY xY (pv 0) yG (z6 (pv 1))) (pv 3)) (zY xY (pv 0) (z6 (zD yz (pv 1) (zE B.len (pv 2)))) yG))))),?_]
  have s16:=zS
  rfl'
  refine ZO hl ho ?_
  rfl'
  refine z8 (λhb=>#[⋯,Qv (q2 hb)]) λhb=>?_;have hb':zw l k o=AM:=by simpa using hb
  let#[_,_,h0,h1]:=yo hb';have c1:=wX l AL (AK k);have c2:=wX l (AK (k + ↑o.length)) AL;refine#[⋯,⋯,⋯,⋯,?_,?_]
  ·erw[ak]
   lia
  ·have e:cut l AL (AK k) ++ n ++ cut l (AK (k + ↑o.length)) AL=yS l k o n:=by
    rw[qw _ h0,wA _ ⋯];have:(k+(o.length:Int)).toNat=k.toNat+o.length:=⋯;rw[this];rfl
   rw[e];exact q1 hb'
structure TOrd(K:sr)(mg:sB->Option sv)(CO CR CW:su):Prop where
 cO:Cls K CO
 cR:Cls K CR
 cW:Cls K CW
 gO:mg "Order" = AK (.ref CO)
 gR:mg "FromRight" = AK (.ref CR)
 lO:NoAttr K CO "letters"
 lR:NoAttr K CR "letters"
 lW:NoAttr K CW "letters"
def OrdAt(CO CR CW:su)(H:Hp)(o:su)(k:Nat)(l:())(ns:List Int):Prop:=∃dx,(k=0/\H o=AK (.ins CO dx [("letters",.str (tx l))]))\/(k=1/\H o=AK (.ins CR dx [("letters",.str (tx l))]))
def OrdAt.same{CO CR CW:su}{H H':Hp}{o:su}{k:Nat}{l:()}{ns:List Int}(h:OrdAt CO CR CW H o k l ns)(e:Same H H'):OrdAt CO CR CW H' o k l ns:=by
 obtain⟨dx,⟨h1,h2⟩ | ⟨h1,h2⟩⟩:=h
 ·exact#[dx,.inl #[h1,e _ _ h2]]
 ·exact#[dx,.inr #[h1,e _ _ h2]]
end in def J5(l:())(ns:List Int)(w:()):Int:=((l.zip ns).map λp=>(w.count p.1:Int) * p.2).sum
end in def zx(k:Nat)(l:())(ns:List Int)(w:()):Int:=if k=2 then J5 l ns w else (w.length:Int)
end in def yA(k:Nat)(w:()):():=if k=1 then w.reverse else w
def ZG(K:sr):Sp:=λvs H Q Z=>∃(x C dx:su) (l:()),vs=[.ref x,.str (tx l)]/\jJ l=AM/\Cls K C/\NoAttr K C "letters"/\H x=AK (.ins C dx [])/\Q .non (upd H x (.ins C dx [("letters",.str (tx l))]))
def Z5:sQz 2 ["self","letters"] vp:=by nofun
def ug(B:Bt mg)(F:Fun K "__init__" "Order.__init__" vp f fd)(my:(2>>>"letters_of") ["text"] [] (wn C)):(3&&&["self","letters"]) (ZG K):=by
 exists F.ok Z5
 ·let#[x,C,dx,l,rfl,hg,hC,hN,hx,q]:=h;refine#[_,(zg (Yl (pv 0) (clP xe0 my hr .nil rfl (za (pv 1) ze)) rfl)),?_];have s16:=zS
  rfl'
  exact#[l,rfl,by have:=u6 hg;lia,λZ=>#[_,_,_,hx,hC,hN,∅,q],λe=>by rw[hg]at e;cases e]
def Z6:Sp:=λvs H Q Z=>∃(o:su) (w:()),vs=[.ref o,.str (tx w)]/\w.length<=1000/\Q (.int (w.length:Nat)) H
def j6:sQz 2 ["self","word"] xO:=by nofun
def wW(B:Bt mg)(F:Fun K "weight" "Order.weight" xO f fd):(1&&&["self","word"]) Z6:=by
 exists F.ok j6
 ·let#[o,w,rfl,hw,q]:=h;refine#[_,(zg (zl (zE B.len (pv 1)))),?_];have s16:=zS
  rfl'
  exact#[⋯,q]
def UU:Sp:=λvs H Q Z=>∃(o:su) (w:()),vs=[.ref o,.str (tx w)]/\Q (.str (tx w)) H
def ZJ:sQz 2 ["self","word"] wY:=by nofun
def Zz(B:Bt mg)(F:Fun K "seen" "Order.seen" wY f fd):(1&&&["self","word"]) UU:=by
 exists F.ok ZJ
 ·let#[o,w,rfl,q]:=h;refine#[_,(zg (zl (pv 1))),?_];have s16:=zS
  rfl'
  exact q
def XM:Sp:=λvs H Q Z=>∃(o:su) (w:()),vs=[.ref o,.str (tx w)]/\w.length<=1000/\Q (.str (tx w.reverse)) H
def uP:sQz 2 ["self","word"] xa:=by nofun
def uZ(B:Bt mg)(F:Fun K "seen" "FromRight.seen" xa f fd):(1&&&["self","word"]) XM:=by
 exists F.ok uP
 ·let#[o,w,rfl,hw,q]:=h;refine#[_,(zg (zl (zbQ (pv 1) (zfo zdK zf)))),?_];have s16:=zS;ac_rfl;exact#[⋯,q]
theorem zaw : xu (AL::AL::r) (AK x::AK y::r):=#[rfl,λi v h=>by
 cases i with
 | zero=>cases h
 | succ i =>
  cases i with
  | zero=>cases h
  | succ i=>exact h]
def zfs(l:())(c e:Nat):StrLaws.At (tx l) (tx [c]) (tx l).length e ↔ l[e]? = AK c:=by
 unfold StrLaws.At Builtin.Str.subAt;rw[zR,zR];have h1:[c].length=1:=rfl;rw[h1,beq_iff_eq]
 have e1:((tx l).cps.extract e (e+1)).toList=(l.drop e).take 1:=by
  show (l.toArray.extract e (e+1)).toList=_;simp [eW]
 have e2:((tx l).cps.extract e (e+1)=(tx [c]).cps) ↔ (l.drop e).take 1=[c]:=by
  constructor
  ·intro h;rw[<- e1,h]
  ·intro h;apply Array.toList_inj.mp;rw[e1,h]
 constructor
 ·rintro⟨h2,h3⟩;have:=e2.mp h3;rw[aX ⋯,dq,bA]at this;rw[af ⋯];injection this with h _;rw[h]
 ·intro h;let#[he,hx]:=AS.mp h;refine#[⋯,e2.mpr ?_];rw[aX he,dq,bA,hx]
def Vp(h:c ∈ l):Txt.find (tx l) (tx [c])=((l.idxOf c:Nat):Int):=by
 have hlt:=bL h;have hg:l[l.idxOf c]? = AK c:=by rw[af hlt,eK]
 rcases PyProof.Rows.find_whole (tx l) (tx [c])with ⟨h1,h2⟩ | ⟨e,h1,h2,h3⟩
 ·exact w4 ((zfs l c _).mpr hg) (h2 _)
 ·have he:=(zfs l c e).mp h2
  have:e=l.idxOf c:=by
   rcases dO e (l.idxOf c)with q | q | q
   ·have:=List.not_of_lt_findIdx (p:=(· == c)) q;let#[h4,h5]:=AS.mp he;simp [h5]at this
   ·exact q
   ·exact w4 ((zfs l c _).mpr hg) (h3 _ q)
  rw[h1,this]
abbrev MkO(P:sJ)(w:sP)(K:sr)(mg:sB->Option sv)(base:sU)(C:su):Prop:=DMk P w K mg base CX0 3 C ["self","letters"] (ZG K)
abbrev MW(P:sJ)(w:sP)(K:sr)(mg:sB->Option sv)(base:sU)(C:su)(m:sB)(sp:Sp):Prop:=DM P w K mg base CX0 1 C m ["self","word"] sp
structure TWS(P:sJ)(w:sP)(K:sr)(mg:sB->Option sv)(base:sU)(CO CR CW:su):Prop extends TOrd K mg CO CR CW where
 mO:MkO P w K mg base CO
 mR:MkO P w K mg base CR
 wO:MW P w K mg base CO "weight" Z6
 wR:MW P w K mg base CR "weight" Z6
 sO:MW P w K mg base CO "seen" UU
 sR:MW P w K mg base CR "seen" XM
structure OG(l:())(ns:List Int)(k:Nat):Prop where
 g:jJ l=AM
 k3:k<3
 nl:ns.length=l.length
 nb:∀n ∈ ns,1<=n/\n<=1000000
end in def qC(l:())(w:()):List Int:=w.map λc=>((l.idxOf c:Nat):Int)
end in def w8(k:Nat)(l:())(w:()):List Int:=qC l (yA k w)
def ze1(CO CR CW:su):su->Prop:=λC=>C=CO\/C=CR\/C=CW
def OrdAt.fam{CO CR CW:su}(h:OrdAt CO CR CW H o k l ns):∃C dx fs,ze1 CO CR CW C/\H o=AK (.ins C dx fs)/\(∀m:sB,m≠"letters"->m≠"weights"->fs.lookup m=AL)/\fs.lookup ("letters" : sB)=AK (V.str (tx l)):=by
 have e1:∀m:sB,m≠"letters"->(m ==("letters" : sB))=AN:=λm hm=>by simpa using hm
 obtain⟨dx,⟨h1,h2⟩ | ⟨h1,h2⟩⟩:=h
 ·exact#[_,_,_,.inl rfl,h2,λm hm Z=>by simp [bx,e1 m hm],rfl]
 ·exact#[_,_,_,.inr (.inl rfl),h2,λm hm Z=>by simp [bx,e1 m hm],rfl]
def kg(CO CR CW:su):Sp:=λvs H Q Z=>∃(o:su) (k:Nat) (l:()) (ns:List Int) (w:()),vs=[.ref o,.str (tx w)]/\OrdAt CO CR CW H o k l ns/\OG l ns k/\w.length<=1000/\(∀c ∈ w,c ∈ l)/\∀(p q:su) (H':Hp),Same H H'->H' p=AK (.tup [.int (zx k l ns w),.ref q])->H' q=AK (.lst ((w8 k l w).map V.int))->Q (.ref p) H'
def Kk{CO CR CW o D:su}(T:TOrd K mg CO CR CW)(ho:OrdAt CO CR CW H o k l ns)(hl:v.length<=1000)(hm:∀c ∈ v,c ∈ l)(hD:H D=AL)(q:∀H',Same H H'->H' D=AK (.lst ((qC l v).map V.int))->Q (.ref D) H') :
  CompS (tx v) (yx 0) y4 (tBM K "str" zA (zdt K (zW 1) "letters") (zI (zW 0) xb)) 1 [0] [!!o,a1] H Q D:=by
 have s16:=zS;refine CompS.by (λi AR H'=>Same H H'/\H' D=AK (.lst AR)/\AR=(qC l (v.take i)).map V.int) #[zd hD,zb,rfl] ?_ ?_
 ·refine nm4 ?_;rintro i c AR H' hc ⟨hs,hH,rfl⟩:_;have hci:=(AS.mp hc).1;have hcl:=hm c (ac hc);let#[C,dx,fs,hf,ho',_,hlk]:=(ho.same hs).fam
  have hC:Cls K C/\NoAttr K C "letters":=by
   rcases hf with rfl | rfl | rfl
   ·exact#[T.cO,T.lO]
   ·exact#[T.cR,T.lR]
   ·exact#[T.cW,T.lW]
  right
  erw[y4]
  ac_rfl;refine#[yq,_,_,_,ho',hC.1,hC.2,_,hlk,trivial,_,rfl,_,Vp hcl,hH,by rw[aa];unfold qC;rw[aa,aH];lia,CNx.mk hci #[zu hs hD,zb,?_]];unfold qC;rw[zO hc,aq,aq];rfl
 ·rintro AR H' ⟨hs,hH,rfl⟩;rw[aK]at hH;exact q H' hs hH
def Yb:sQz 2 ["self","word"] xG:=by nofun
def uB{f CO CR CW:su}(B:Bt mg)(T:TWS P w K mg base CO CR CW)(F:Fun K "rank" "Order.rank" xG f fd):(2&&&["self","word"]) (kg CO CR CW):=by
 exists F.ok Yb
 ·let#[o,k,l,ns,w,rfl,ho,hG,hw,hm,q]:=h;refine#[_,(zg (zl (zN (za (zdE T.wO T.wR T.wO T.cO T.cR T.cO hr (pv 0) (za (pv 1) ze)) (za (yy (own:=["letter"]) (caps:=["self"]) (ix:=[0]) (tt:=y4) (te:=(tBM K "str" zA (zdt K (zW 1) "letters") (zI (zW 0) xb))) rfl (zH (sc:=zi xG) rfl (!0) (!0) (!0) rfl (!0) (!0) rfl) (YC (zdE T.sO T.sR T.sO T.cO T.cR T.cO hr (pv 0) (za (pv 1) ze))) (λZ Z Z Z Z Z=>zr (i:=0) (show List.Nodup [_,_] by decide) rfl (.inl rfl)) (λZ Z Z Z Z Z=>z7) (λZ Z Z Z Z Z=>(wL bz fL fM JV (j3 (pv 1) rfl) (za (pv 0) ze)))) ze))))),?_];have s16:=zS
  have hsl:(yA k w).length<=1000:=by
   unfold yA;split
   ·rw[br];exact hw
   ·exact hw
  have hsm:∀c ∈ yA k w,c ∈ l:=λc hc=>by
   unfold yA at hc;split at hc
   ·exact hm c (Bb.mp hc)
   ·exact hm c hc
  have l6:l.length<=6:=(u6 hG.g).2.1;have fin:∀H1,Same H H1->∀D,H1 D=AL->CompS (tx (yA k w)) (yx 0) y4 (tBM K "str" zA (zdt K (zW 1) "letters") (zI (zW 0) xb)) 1 [0] [!!o,~~~w] H1 (λx5 H1=>2<=sq/\∀p,H1 p=AL->Q (.ref p) (upd H1 p (.tup [.int (zx k l ns w),x5]))) D:=λH1 s1 D hD=>Kk T.toTOrd (ho.same s1) hsl hsm hD λH' s' hH=>#[⋯,λp hp=>q p D _ (s1.trans (s'.trans (zd hp))) zb (zd hp _ _ hH)];ac_rfl;obtain⟨dx',⟨h1,h2⟩ | ⟨h1,h2⟩⟩:=id ho
  ·have e1:zx k l ns w=(w.length:Int):=by unfold zx;rw[w9 ⋯]
   have e2:yA k w=w:=by unfold yA;rw[w9 ⋯]
   rw[e1,e2]at fin;exact .inl #[_,_,h2,rfl,o,w,rfl,hw,.inl #[_,_,h2,rfl,o,w,rfl,_,rfl,fin H (Same.refl _)]]
  ·have e1:zx k l ns w=(w.length:Int):=by unfold zx;rw[w9 ⋯]
   have e2:yA k w=w.reverse:=by unfold yA;rw[w6 h1]
   rw[e1,e2]at fin;exact .inr (.inl #[_,_,h2,rfl,o,w,rfl,hw,.inr (.inl #[_,_,h2,rfl,o,w,rfl,hw,_,rfl,fin H (Same.refl _)])])
end in def zP(k:Nat)(l:())(ns:List Int)(u v:()):Bool:=if zx k l ns u=zx k l ns v then ltI (w8 k l u) (w8 k l v)else decide (zx k l ns u<zx k l ns v)
abbrev DR(P:sJ)(w:sP)(K:sr)(mg:sB->Option sv)(base:sU)(CO CR CW:su):Prop:=DMF P w K mg base CX0 2 (ze1 CO CR CW) "rank" ["self","word"] (λZ=>kg CO CR CW)
def Zu{ns:List Int}(hp:H p=AK (.tup [.int z,.ref q]))(hq:H q=AK (.lst (ns.map V.int))):Is K H (.tup [.int z,.lst (ns.map L3.D.int)]) (.ref p):=by
 erw[Is,Iss]
 exact#[p,_,rfl,SqT.of hp,_,_,rfl,rfl,_,_,rfl,#[q,_,rfl,SqL.of hq,Iss.ints ns],rfl]
theorem xh:∀x:List Int,ltI x x=AN
 | []=>rfl
 | a::x=>by
  rw[ltI,w6 rfl];exact xh x
def JX(a b:Int)(x y:List Int):ltD (.tup [.int a,.lst (x.map L3.D.int)]) (.tup [.int b,.lst (y.map L3.D.int)])=if a=b then ltI x y else decide (a<b):=by
 erw[ltD,wN,eqD,j9,YS]
 by_cases h:a=b
 ·subst h;by_cases h2:x=y
  ·subst h2;simp [xh]
  ·simp [h2]
 ·simp [h]
def UH(CO CR CW:su):Sp:=λvs H Q Z=>∃(o:su) (k:Nat) (l:()) (ns:List Int) (u v:()),vs=[.ref o,.str (tx u),.str (tx v)]/\OrdAt CO CR CW H o k l ns/\OG l ns k/\u.length<=1000/\v.length<=1000/\(∀c ∈ u,c ∈ l)/\(∀c ∈ v,c ∈ l)/\∀H':Hp,Same H H'->Q (.bl (zP k l ns u v)) H'
def jP:sQz 3 ["self","one","other"] xL:=by nofun
def vj{f CO CR CW:su}(B:Bt mg)(DRk:DR P w K mg base CO CR CW)(F:Fun K "before" "Order.before" xL f fd):(3&&&["self","one","other"]) (UH CO CR CW):=by
 exists F.ok jP
 ·let#[o,k,l,ns,u,v,rfl,ho,hG,hu,hv,hmu,hmv,q]:=h;refine#[_,(zg (zl (yf (zeE (wm hr)) (zdo DRk hr (pv 0) (za (pv 1) ze)) (zdo DRk hr (pv 0) (za (pv 2) ze)) (zv _)))),?_];have s16:=zS;ac_rfl;let#[C,dx,fs,hf,ho1,hn,_]:=ho.fam;have h1:fs.lookup ("rank" : sB)=AL:=hn _ ∅ ∅;refine#[C,hf,dx,fs,ho1,h1,o,k,l,ns,u,rfl,ho,hG,hu,hmu,λp x H1 s1 hp hx=>#[C,hf,dx,fs,s1 _ _ ho1,h1,o,k,l,ns,v,rfl,ho.same s1,hG,hv,hmv,λp' x' H2 s2 hp' hx'=>?_]];refine zc5 (Zu (s2 _ _ hp) (s2 _ _ hx)) (Zu hp' hx') (by erw[dpD,vI,ql];decide) (by erw[okD,ZN];exact#[trivial,uG _ _,trivial]) ?_;rw[JX];exact q H2 (s1.trans s2)
abbrev DB(P:sJ)(w:sP)(K:sr)(mg:sB->Option sv)(base:sU)(CO CR CW:su):Prop:=DMF P w K mg base CX0 3 (ze1 CO CR CW) "before" ["self","one","other"] (λZ=>UH CO CR CW)
end in def zay(k:Int)(ls:())(ns:List Int)(w:()):Int:=(w.map λc=>if k=2 then ns.getD (ls.idxOf c) 0 else 1).sum
theorem KF{w:()}(h:k≠2):zay k ls ns w=(w.length:Int):=by
 unfold zay
 induction w with
 | nil=>rfl
 | cons c w ih =>
  rw[am,bv,ih,w9 h,aC];lia
theorem jB{ls:()}(f g:Nat->Int):((ls.zip ns).map λp=>(f p.1+g p.1) * p.2).sum=((ls.zip ns).map λp=>f p.1 * p.2).sum+((ls.zip ns).map λp=>g p.1 * p.2).sum:=by
 induction ls.zip ns with
 | nil=>rfl
 | cons p r ih =>
  rw[am,am,am,bv,bv,bv,ih,Int.add_mul];lia
theorem Qm:∀{ls:()} {ns:List Int} {c:Nat},ls.Nodup->ns.length=ls.length->c ∈ ls->((ls.zip ns).map λp=>(if p.1=c then (1:Int)else 0) * p.2).sum=ns.getD (ls.idxOf c) 0
 | [],ns,c,_,_,hc=>(nomatch hc)
 | d::ls,[],c,_,hl,_=>by cases hl
 | d::ls,n::ns,c,hn,hl,hc=>by
  rw[dC,am,bv];have hnd:=Bd.mp hn;by_cases h:d=c
  ·subst h
   have h0:∀(l:()) (m:List Int),d ∉ l->((l.zip m).map λp=>(if p.1=d then (1:Int)else 0) * p.2).sum=0:=by
    intro l
    induction l with
    | nil=>intro m _;rfl
    | cons x l ih =>
     intro m hx
     cases m with
     | nil=>rfl
     | cons y m =>
      rw[dC,am,bv,ih m (λq=>hx (ar _ q)),w9 (show ¬ x=d from λe=>hx (by rw[e];exact ay))];lia
   rw[h0 ls ns hnd.1,w6 rfl,List.idxOf_cons_self];simp
  ·have hc':c ∈ ls:=by
    rcases AU.mp hc with e | e
    ·exact w4 e.symm h
    ·exact e
   rw[Qm hnd.2 (by simpa using hl) hc',w9 h,fG,show (d == c)=AN by simpa using h];simp
theorem Wz(hn:ls.Nodup)(hl:ns.length=ls.length):∀{w:()},(∀x ∈ w,x ∈ ls)->zay 2 ls ns w=J5 ls ns w
 | [],_=>by
  have h0:∀r:List (Nat × Int),(r.map λp=>((([]:()).count p.1:Nat):Int) * p.2).sum=0:=by
   intro r
   induction r with
   | nil=>rfl
   | cons p r ih=>rw[am,bv,ih];simp
  exact (h0 _).symm
 | c::w,h=>by
  have ih:=Wz hn hl (w:=w) λx hx=>h x (ar _ hx)
  have e1:zay 2 ls ns (c::w)=ns.getD (ls.idxOf c) 0+zay 2 ls ns w:=by
   unfold zay;rw[am,bv,w6 rfl]
  rw[e1,ih,<- Qm hn hl (h c ay)];unfold J5;rw[<- jB (λx=>if x=c then 1 else 0) (λx=>(w.count x:Int))];refine congrArg List.sum (aW λp Z=>?_);rw[cF];by_cases e:c=p.1
  ·rw[w6 e.symm,w6 (by simpa using e)];simp [Int.add_comm]
  ·rw[w9 (λz=>e z.symm),w9 (by simpa using e)];simp
end in def wt(k:Nat)(ns:List Int)(i:Int):Int:=if k=2 then ns.getD i.toNat 0 else 1
theorem wf{g:Int->Int}:∀{x:List Int},(∀i ∈ x,0<g i)->0<=(x.map g).sum
 | [],_=>by simp
 | a::x,h=>by
  have h1:=h a ay;have h2:=wf (x:=x) λi hi=>h i (ar _ hi);rw[am,bv];lia
theorem wS:∀{x y:List Int},x≠y->ltI x y=!ltI y x
 | [],[],h=>w4 rfl h
 | [],_::_,_=>rfl
 | _::_,[],_=>rfl
 | a::x,b::y,h=>by
  rw[ltI,ltI];by_cases e:a=b
  ·rw[w6 e,w6 e.symm];exact wS λq=>h (by rw[e,q])
  ·rw[w9 e,w9 λq=>e q.symm];by_cases c:a<b
   ·rw[u9 c,v9 ⋯];rfl
   ·rw[v9 c,u9 ⋯];rfl
theorem ji:∀{x y z:List Int},ltI x y=AM->ltI y z=AM->ltI x z=AM
 | [],[],_,h,_=>by cases h
 | [],_::_,[],_,h=>by cases h
 | [],_::_,_::_,_,_=>rfl
 | _::_,[],_,h,_=>by cases h
 | _::_,_::_,[],_,h=>by cases h
 | a::x,b::y,c::z,h1,h2=>by
  rw[ltI]at h1 h2 ⊢;by_cases e:a=b
  ·subst e;rw[w6 rfl]at h1;by_cases f:a=c
   ·rw[w6 f]at h2 ⊢;exact ji h1 h2
   ·rw[w9 f]at h2 ⊢;exact h2
  ·rw[w9 e]at h1;have h1':=u6 h1;by_cases f:b=c
   ·subst f;rw[w9 e];exact h1
   ·rw[w9 f]at h2;have h2':=u6 h2;rw[w9 ⋯];exact u9 ⋯
theorem XG:∀(c x y:List Int),ltI (c ++ x) (c ++ y)=ltI x y
 | [],_,_=>rfl
 | a::c,x,y=>by
  rw[bu,bu,ltI,w6 rfl];exact XG c x y
theorem Vd{g:Int->Int}:∀{x y:List Int},(∀i ∈ x,0<g i)->(∀i ∈ y,0<g i)->(x.map g).sum=(y.map g).sum->ltI (x ++ c) (y ++ c)=ltI x y
 | [],[],_,_,_=>xh c
 | [],b::y,_,hy,h=>by
  have h1:=hy b ay;have h2:=wf (x:=y) λi hi=>hy i (ar _ hi);rw[am,bv,aA,List.sum_nil]at h;lia
 | a::x,[],hx,_,h=>by
  have h1:=hx a ay;have h2:=wf (x:=x) λi hi=>hx i (ar _ hi);rw[am,bv,aA,List.sum_nil]at h;lia
 | a::x,b::y,hx,hy,h=>by
  rw[bu,bu,ltI,ltI];by_cases e:a=b
  ·rw[w6 e,w6 e];rw[am,bv,am,bv,e]at h;exact Vd (λi hi=>hx i (ar _ hi)) (λi hi=>hy i (ar _ hi)) ⋯
  ·rw[w9 e,w9 e]
section
variable{k:Nat}{l:()}{ns:List Int}{t u v:()}
def K5(a b:()):J5 l ns (a ++ b)=J5 l ns a+J5 l ns b:=by unfold J5;rw[<- jB (λx=>(a.count x:Int)) (λx=>(b.count x:Int))];refine congrArg List.sum (aW λp Z=>?_);rw[eU];simp
theorem xl(a b:()):zx k l ns (a ++ b)=zx k l ns a+zx k l ns b:=by
 unfold zx;by_cases h:k=2
 ·rw[w6 h,w6 h,w6 h,K5]
 ·rw[w9 h,w9 h,w9 h,ak];lia
theorem xg(G:OG l ns k):∀{w:()},(∀c ∈ w,c ∈ l)->zx k l ns w=((qC l w).map (wt k ns)).sum:=by
 intro w hm;have hn:l.Nodup:=(u6 G.g).2.2.2
 have e:((qC l w).map (wt k ns)).sum=zay (k:Int) l ns w:=by
  unfold qC zay;rw[aY];refine congrArg List.sum (aW λc Z=>?_);show wt k ns _=_;unfold wt;by_cases h:k=2
  ·rw[w6 h,w6 ⋯,aE]
  ·rw[w9 h,w9 ⋯]
 rw[e];unfold zx;by_cases h:k=2
 ·rw[w6 h,h];exact (Wz hn G.nl hm).symm
 ·rw[w9 h,KF ⋯]
theorem YO(G:OG l ns k)(hm:∀c ∈ u,c ∈ l):∀i ∈ qC l u,0<wt k ns i:=by
 intro i hi;let#[c,hc,rfl]:=AT.mp hi;have hlt:=bL (hm c hc);have hl:=G.nl;unfold wt;split
 ·rw[aE,ae,af ⋯];have:=(G.nb _ (List.getElem_mem (l:=ns) (n:=l.idxOf c) ⋯)).1;show 0<ns[l.idxOf c];lia
 ·decide
def uE(G:OG l ns k)(hm:∀c ∈ u,c ∈ l):0<=zx k l ns u:=by rw[xg G hm];exact wf (YO G hm)
theorem kO(G:OG l ns k)(hm:∀c ∈ u,c ∈ l)(h:u≠[]):0<zx k l ns u:=by
 cases u with
 | nil=>exact w4 rfl h
 | cons a u =>
  have h1:=YO G hm (l.idxOf a:Nat) (AT.mpr #[a,ay,rfl]);have h2:0<=((qC l u).map (wt k ns)).sum:=wf (YO (u:=u) G λc hc=>hm c (ar _ hc));rw[xg G hm];show 0<((((l.idxOf a:Nat):Int)::qC l u).map (wt k ns)).sum;rw[am,bv];lia
theorem ZV:∀{u v:()},(∀c ∈ u,c ∈ l)->(∀c ∈ v,c ∈ l)->qC l u=qC l v->u=v
 | [],[],_,_,_=>rfl
 | [],_::_,_,_,h=>by cases h
 | _::_,[],_,_,h=>by cases h
 | a::u,b::v,hu,hv,h=>by
  unfold qC at h;rw[am,am]at h;injection h with h1 h2;have h3:l.idxOf a=l.idxOf b:=⋯;have ha:=eK (bL (hu a ay));have hb:=eK (bL (hv b ay))
  have:a=b:=by
   rw[<- ha,<- hb]
   erw[h3]
  rw[this,ZV (λc hc=>hu c (ar _ hc)) (λc hc=>hv c (ar _ hc)) h2]
def xB:zP k l ns u u=AN:=by unfold zP;rw[w6 rfl,xh]
def Zr(hu:∀c ∈ u,c ∈ l)(hv:∀c ∈ v,c ∈ l)(h:w8 k l u=w8 k l v):u=v:=by
 unfold w8 yA at h;by_cases e:k=1
 ·rw[w6 e,w6 e]at h;exact List.reverse_inj.mp (ZV (λc hc=>hu c (Bb.mp hc)) (λc hc=>hv c (Bb.mp hc)) h)
 ·rw[w9 e,w9 e]at h;exact ZV hu hv h
theorem jQ(hu:∀c ∈ u,c ∈ l)(hv:∀c ∈ v,c ∈ l)(h:u≠v):zP k l ns u v=!zP k l ns v u:=by
 unfold zP;by_cases e:zx k l ns u=zx k l ns v
 ·rw[w6 e,w6 e.symm];exact wS λq=>h (Zr hu hv q)
 ·rw[w9 e,w9 λq=>e q.symm];by_cases c:zx k l ns u<zx k l ns v
  ·rw[u9 c,v9 ⋯];rfl
  ·rw[v9 c,u9 ⋯];rfl
theorem jV(h1:zP k l ns t u=AM)(h2:zP k l ns u v=AM):zP k l ns t v=AM:=by
 unfold zP at h1 h2 ⊢;generalize zx k l ns t=a at *;generalize zx k l ns u=b at *;generalize zx k l ns v=c at *;by_cases e:a=b
 ·subst e;rw[w6 rfl]at h1;by_cases f:a=c
  ·rw[w6 f]at h2 ⊢;exact ji h1 h2
  ·rw[w9 f]at h2 ⊢;exact h2
 ·rw[w9 e]at h1;have h1':=u6 h1;by_cases f:b=c
  ·subst f;rw[w9 e];exact h1
  ·rw[w9 f]at h2;have h2':=u6 h2;rw[w9 ⋯];exact u9 ⋯
def Wx(a b:()):qC l (a ++ b)=qC l a ++ qC l b:=aq
def YH(G:OG l ns k)(hu:∀c ∈ u,c ∈ l)(hv:∀c ∈ v,c ∈ l)(e:zx k l ns u=zx k l ns v)(c:List Int):ltI (qC l u ++ c) (qC l v ++ c)=ltI (qC l u) (qC l v):=by rw[xg G hu,xg G hv]at e;exact Vd (YO G hu) (YO G hv) e
def k8(G:OG l ns k)(hu:∀c ∈ u,c ∈ l):zx k l ns u.reverse=zx k l ns u:=by rw[xg G hu,xg G λc hc=>hu c (Bb.mp hc)];unfold qC;rw[dh,dh,List.sum_reverse]
theorem Y9(G:OG l ns k)(ht:∀c ∈ t,c ∈ l)(hu:∀c ∈ u,c ∈ l)(hv:∀c ∈ v,c ∈ l):zP k l ns (t ++ u) (t ++ v)=zP k l ns u v/\zP k l ns (u ++ t) (v ++ t)=zP k l ns u v:=by
 have hur:∀c ∈ u.reverse,c ∈ l:=λc hc=>hu c (Bb.mp hc);have hvr:∀c ∈ v.reverse,c ∈ l:=λc hc=>hv c (Bb.mp hc);unfold zP;rw[xl,xl,xl,xl];by_cases e:zx k l ns u=zx k l ns v
 ·rw[w6 ⋯,w6 e,w6 ⋯];unfold w8 yA;by_cases f:k=1
  ·erw[w6 f,List.reverse_append,Wx]
   exact#[YH G hur hvr (by rw[k8 G hu,k8 G hv,e]) _,XG _ _ _]
  ·erw[w9 f,Wx]
   exact#[XG _ _ _,YH G hu hv e _]
 ·rw[w9 ⋯,w9 e,w9 ⋯];exact#[by congr 1;exact propext ⋯,by congr 1;exact propext ⋯]
theorem Kp(G:OG l ns k)(ht:∀c ∈ t,c ∈ l)(hu:∀c ∈ u,c ∈ l)(hv:∀c ∈ v,c ∈ l)(h:t ++ u ++ v≠u):zP k l ns u (t ++ u ++ v)=AM/\zP k l ns (t ++ u ++ v) u=AN:=by
 have h0:0<zx k l ns t+zx k l ns v:=by
  have h1:=uE G ht;have h2:=uE G hv;by_cases e:t=[]
  ·by_cases f:v=[]
   ·subst e f;simp at h
   ·have:=kO G hv f;lia
  ·have:=kO G ht e;lia
 unfold zP;rw[xl,xl,w9 ⋯,w9 ⋯];exact#[u9 ⋯,v9 ⋯]
end
theorem Y3:∀x y:List Int,ltI x y=AM->ltI y x=AN
 | [],[],h=>by cases h
 | [],_::_,_=>rfl
 | _::_,[],h=>by cases h
 | a::x,b::y,h=>by
  rw[ltI]at h ⊢;by_cases e:a=b
  ·rw[w6 e]at h;rw[w6 e.symm];exact Y3 x y h
  ·rw[w9 e]at h;rw[w9 (λq=>e q.symm)];have:=u6 h;exact v9 ⋯
def XR(h:zP k l ns u v=AM):zP k l ns v u=AN:=by
 unfold zP at h ⊢;by_cases e:zx k l ns u=zx k l ns v
 ·rw[w6 e]at h;rw[w6 e.symm];exact Y3 _ _ h
 ·rw[w9 e]at h;rw[w9 (λq=>e q.symm)];have:=u6 h;exact v9 ⋯
end in def stJ(l:())(ps:List zC)(q j:Nat):Bool:=((ps[j]?).map λp=>zw l (q:Int) p.1).getD AN
def kL(h:ps[j]? = AK p):stJ l ps q j=zw l (q:Int) p.1:=by unfold stJ;rw[h];rfl
theorem vR(h:stJ l ps q j=AM):j<ps.length/\∃p,ps[j]? = AK p/\zw l (q:Int) p.1=AM:=by
 unfold stJ at h
 cases e:ps[j]? with
 | none=>rw[e]at h;cases h
 | some p =>
  rw[e]at h;exact#[(AS.mp e).1,p,rfl,h]
end in def qM(l:())(ps:List zC)(q i:Nat):List (Nat × Nat):=((aJ i).filter (stJ l ps q)).map λj=>(j,q)
end in def xw(l:())(ps:List zC)(k:Nat):List (Nat × Nat):=(aJ k).flatMap λq=>qM l ps q ps.length
def VW(l:())(ps:List zC)(q i:Nat):qM l ps q (i+1)=qM l ps q i ++ (if stJ l ps q i=AM then [(i,q)]else []):=by
 unfold qM;rw[cy,cX,aq];congr 1;by_cases h:stJ l ps q i=AM
 ·rw[w6 h,fv h];rfl
 ·rw[w9 h,fw h];rfl
def kP(l:())(ps:List zC)(k:Nat):xw l ps (k+1)=xw l ps k ++ qM l ps k ps.length:=by unfold xw;rw[cy,dv];simp
def Uo(l:())(ps:List zC)(q i:Nat):(qM l ps q i).length<=i:=by unfold qM;rw[aa];have:=db (stJ l ps q) (aJ i);rw[bF]at this;exact this
theorem QN(l:())(ps:List zC):∀k,(xw l ps k).length<=k * ps.length
 | 0=>by simp [xw]
 | k+1=>by
  rw[kP,ak,d6];have:=QN l ps k;have:=Uo l ps k ps.length;lia
def usesN_mem : u ∈ qM l ps q i ↔ u.2=q/\u.1<i/\stJ l ps q u.1=AM:=by
 unfold qM;rw[List.mem_map];constructor
 ·rintro⟨j,hj,rfl⟩;rw[List.mem_filter,fS]at hj;exact#[rfl,hj.1,hj.2]
 ·rintro⟨h1,h2,h3⟩;exact#[u.1,Ba.mpr #[AY.mpr h2,h3],by rw[<- h1]]
def usesK_mem : u ∈ xw l ps k ↔ u.2<k/\stJ l ps u.2 u.1=AM:=by
 unfold xw;rw[List.mem_flatMap];constructor
 ·rintro⟨q,hq,hu⟩;let#[h1,h2,h3]:=usesN_mem.mp hu;rw[fS]at hq;rw[h1];exact#[hq,h3]
 ·rintro⟨h1,h2⟩;exact#[u.2,AY.mpr h1,usesN_mem.mpr #[rfl,(vR h2).1,h2]]
def uLt(a b:Nat × Nat):Prop:=a.2<b.2\/(a.2=b.2/\a.1<b.1)
theorem qz(l:())(ps:List zC)(q:Nat):∀i,(qM l ps q i).Pairwise uLt
 | 0=>by simp [qM]
 | i+1=>by
  rw[VW];refine Br.mpr #[qz l ps q i,?_,λa ha b hb=>?_]
  ·split
   ·exact dH _ _
   ·exact List.Pairwise.nil
  ·let#[h1,h2,_]:=usesN_mem.mp ha;split at hb
   ·rw[AW.mp hb];exact .inr #[h1,h2]
   ·cases hb
theorem vf(l:())(ps:List zC):∀k,(xw l ps k).Pairwise uLt
 | 0=>by simp [xw]
 | k+1=>by
  rw[kP];refine Br.mpr #[vf l ps k,qz l ps k _,λa ha b hb=>?_];have h1:=(usesK_mem.mp ha).1;have h2:=(usesN_mem.mp hb).1;exact .inl ⋯
def FirstN(l:())(ps:List zC)(lo hi n:Nat)(r:Option (Nat × Nat)):Prop :=
 (r=AL/\∀j q,j<n->lo<=q->q<hi->stJ l ps q j=AN) \/
 ∃n0 q0,r=AK (n0,q0)/\n0<n/\lo<=q0/\q0<hi/\stJ l ps q0 n0=AM/\∀j q,j<n->lo<=q->stJ l ps q j=AM->q0<q\/(q0=q/\n0<=j)
def FirstN.uniq{lo hi n:Nat}(h:FirstN l ps lo hi n r)(h':FirstN l ps lo hi n r'):r=r':=by
 rcases h with ⟨rfl,h⟩ | ⟨n0,q0,rfl,a1,a2,a3,a4,a5⟩
 ·rcases h' with ⟨rfl,_⟩ | ⟨n0,q0,rfl,a1,a2,a3,a4,a5⟩
  ·rfl
  ·rw[h n0 q0 a1 a2 a3]at a4;cases a4
 ·rcases h' with ⟨rfl,h⟩ | ⟨n1,q1,rfl,b1,b2,b3,b4,b5⟩
  ·rw[h n0 q0 a1 a2 a3]at a4;cases a4
  ·have x1:=a5 n1 q1 b1 b2 b4;have x2:=b5 n0 q0 a1 a2 a4;have e1:q0=q1:=⋯;have e2:n0=n1:=⋯;rw[e1,e2]
theorem VX(h:FirstN l ps 0 l.length ps.length r):r=(xw l ps l.length).head?:=by
 have hs:=vf l ps l.length;refine h.uniq ?_
 cases e:xw l ps l.length with
 | nil =>
  refine .inl #[rfl,λj q Z Z hq=>?_]
  cases hb:stJ l ps q j with
  | false=>rfl
  | true =>
   have:(j,q) ∈ xw l ps l.length:=usesK_mem.mpr #[hq,hb];rw[e]at this;cases this
 | cons u us =>
  rw[e]at hs;have hu:u ∈ xw l ps l.length:=by rw[e];exact ay
  let#[h1,h2]:=usesK_mem.mp hu;refine .inr #[u.1,u.2,rfl,(vR h2).1,aD _,h1,h2,λj q hj Z hb=>?_];by_cases hq:q<l.length
  ·have:(j,q) ∈ xw l ps l.length:=usesK_mem.mpr #[hq,hb];rw[e]at this;rcases AU.mp this with e2 | e2
   ·rw[<- e2];exact .inr #[rfl,ao _]
   ·rcases (Bj.mp hs).1 _ e2 with h | ⟨h,h'⟩
    ·exact .inl h
    ·exact .inr #[h,dB h']
  ·exact .inl ⋯
def ju{q:Nat}(hp:p≠[])(h:zw l (q:Int) p=AM):q<l.length:=by let#[h0,h1,_]:=u6 h;have:0<p.length:=Be.mpr hp;lia
def FirstN.keep{lo hi n:Nat}(h:FirstN l ps lo hi n r)(hp:ps[n]? = AK p)(hn:∀q:Nat,lo<=q->q<(r.map Prod.snd).getD hi->zw l (q:Int) p.1=AN):FirstN l ps lo hi (n+1) r:=by
 rcases h with ⟨rfl,h⟩ | ⟨n0,q0,rfl,a1,a2,a3,a4,a5⟩
 ·refine .inl #[rfl,λj q hj h1 h2=>?_];by_cases e:j<n
  ·exact h j q e h1 h2
  ·have:j=n:=⋯;subst this;rw[kL hp];exact hn q h1 h2
 ·refine .inr #[n0,q0,rfl,⋯,a2,a3,a4,λj q hj h1 h2=>?_];by_cases e:j<n
  ·exact a5 j q e h1 h2
  ·have:j=n:=⋯;subst this;rw[kL hp]at h2;by_cases hq:q<q0
   ·rw[hn q h1 hq]at h2;cases h2
   ·lia
def FirstN.take{lo hi n k:Nat}(h:FirstN l ps lo hi n r)(hp:ps[n]? = AK p)(h1:lo<=k)(h2:k<(r.map Prod.snd).getD hi)(h3:zw l (k:Int) p.1=AM)(hn:∀q:Nat,lo<=q->q<k->zw l (q:Int) p.1=AN):FirstN l ps lo hi (n+1) (AK (n,k)):=by
 have hk:k<hi/\∀j q,j<n->lo<=q->stJ l ps q j=AM->k<q:=by
  rcases h with ⟨rfl,h⟩ | ⟨n0,q0,rfl,a1,a2,a3,a4,a5⟩
  ·refine#[h2,λj q hj hl hb=>?_];by_cases hq:q<hi
   ·rw[h j q hj hl hq]at hb;cases hb
   ·have h2':k<hi:=h2;lia
  ·have h2':k<q0:=h2;refine#[⋯,λj q hj hl hb=>?_];have:=a5 j q hj hl hb;lia
 refine .inr #[n,k,rfl,⋯,h1,hk.1,by rw[kL hp];exact h3,λj q hj hl hb=>?_];by_cases e:j<n
 ·exact .inl (hk.2 j q e hl hb)
 ·have:j=n:=⋯;subst this;rw[kL hp]at hb;by_cases hq:q<k
  ·rw[hn q hl hq]at hb;cases hb
  ·lia
def FirstN.window{lo mid hi n:Nat}(h0:FirstN l ps lo mid n AL)(hm:lo<=mid)(h:FirstN l ps mid hi n r):FirstN l ps lo hi n r:=by
 have h0':∀j q,j<n->lo<=q->q<mid->stJ l ps q j=AN:=by
  rcases h0 with ⟨_,h⟩ | ⟨_,_,h,_⟩
  ·exact h
  ·cases h
 rcases h with ⟨rfl,h⟩ | ⟨n0,q0,rfl,a1,a2,a3,a4,a5⟩
 ·refine .inl #[rfl,λj q hj h1 h2=>?_];by_cases e:q<mid
  ·exact h0' j q hj h1 e
  ·exact h j q hj ⋯ h2
 ·refine .inr #[n0,q0,rfl,a1,⋯,a3,a4,λj q hj h1 h2=>?_];by_cases e:q<mid
  ·rw[h0' j q hj h1 e]at h2;cases h2
  ·exact a5 j q hj ⋯ h2
def NeL(ps:List zC):Prop:=∀p ∈ ps,p.1≠[]
def FirstN.toEnd{lo hi n:Nat}(hN:NeL ps)(h:FirstN l ps lo hi n r)(hl:r=AL->l.length<=hi):FirstN l ps lo l.length n r:=by
 have hlt:∀j q,stJ l ps q j=AM->q<l.length:=λj q hb=>by
  let#[_,p,hp,hs]:=vR hb;exact ju (hN p (ac hp)) hs
 rcases h with ⟨rfl,h⟩ | ⟨n0,q0,rfl,a1,a2,a3,a4,a5⟩
 ·exact .inl #[rfl,λj q hj h1 h2=>h j q hj h1 (by have:=hl rfl;lia)]
 ·exact .inr #[n0,q0,rfl,a1,a2,hlt _ _ a4,a4,a5]
end in def zF(l:())(ps:List zC):Option (Nat × Nat):=(xw l ps l.length).head?
def ZK(h:FirstN l ps 0 l.length ps.length r):r=zF l ps:=VX h
theorem WI(l:())(ps:List zC)(hN:NeL ps):FirstN l ps 0 l.length ps.length (zF l ps):=by
 have hs:=vf l ps l.length;unfold zF
 cases e:xw l ps l.length with
 | nil =>
  refine .inl #[rfl,λj q Z Z hq=>?_]
  cases hb:stJ l ps q j with
  | false=>rfl
  | true =>
   have:(j,q) ∈ xw l ps l.length:=usesK_mem.mpr #[hq,hb];rw[e]at this;cases this
 | cons u us =>
  rw[e]at hs;have hu:u ∈ xw l ps l.length:=by rw[e];exact ay
  let#[h1,h2]:=usesK_mem.mp hu;refine .inr #[u.1,u.2,rfl,(vR h2).1,aD _,h1,h2,λj q hj Z hb=>?_]
  have hq:q<l.length:=by
   let#[_,p,hp,hs]:=vR hb;exact ju (hN p (ac hp)) hs
  have:(j,q) ∈ xw l ps l.length:=usesK_mem.mpr #[hq,hb];rw[e]at this;rcases AU.mp this with e2 | e2
  ·rw[<- e2];exact .inr #[rfl,ao _]
  ·rcases (Bj.mp hs).1 _ e2 with h | ⟨h,h'⟩
   ·exact .inl h
   ·exact .inr #[h,dB h']
end in def Yv(ps:List zC)(n:Nat):zC:=ps.getD n ([],[])
def yu(h:ps[n]? = AK p):Yv ps n=p:=by unfold Yv;rw[ae,h];rfl
end in def qO(l:())(ps:List zC)(u:Nat × Nat):():=yS l (u.2:Int) (Yv ps u.1).1 (Yv ps u.1).2
end in def Xv(ps:List zC)(l:()):():=((zF l ps).map (qO l ps)).getD l
end in def wAt(ps:List zC)(l:()):Nat->()
 | 0=>l
 | j+1=>Xv ps (wAt ps l j)
end in def sAt(ps:List zC)(l:())(j:Nat):List (Nat × Nat):=(aJ j).map λi=>(zF (wAt ps l i) ps).getD (0,0)
def WT(ps:List zC)(l:())(j:Nat):sAt ps l (j+1)=sAt ps l j ++ [(zF (wAt ps l j) ps).getD (0,0)]:=by unfold sAt;rw[cy,aq];rfl
def xn(ps:List zC)(l:())(j:Nat):(sAt ps l j).length=j:=by unfold sAt;rw[aa,bF]
def yZ(h:zF (wAt ps l j) ps=AK u):wAt ps l (j+1)=qO (wAt ps l j) ps u:=by show Xv ps (wAt ps l j)=_;unfold Xv;rw[h];rfl
def Yd(ps:List zC)(l:())(j:Nat):Prop:=∀i,i<j->zF (wAt ps l i) ps≠AL
def uJ(h1:Yd ps l i)(h2:zF (wAt ps l i) ps=AL)(h3:Yd ps l j)(h4:zF (wAt ps l j) ps=AL):i=j:=by
 rcases dO i j with h | h | h
 ·exact w4 h2 (h3 i h)
 ·exact h
 ·exact w4 h4 (h1 j h)
def Uk{n q M lo:Nat}(h:FirstN l ps 0 l.length ps.length (AK (n,q)))(hN:NeL ps)(hM:∀p ∈ ps,p.1.length<=M)(hlo:lo=0\/lo+M<=q+1):FirstN (qO l ps (n,q)) ps 0 lo ps.length AL:=by
 refine .inl #[rfl,λj x hj Z hx=>?_];rcases h with ⟨h,_⟩ | ⟨n0,q0,e,a1,a2,a3,a4,a5⟩
 ·cases h
 ·injection e with e;injection e with e1 e2;subst e1 e2
  cases hb:stJ (qO l ps (n,q)) ps x j with
  | false=>rfl
  | true =>
   let#[_,p,hp,hs]:=vR hb;have hpm:=hM p (ac hp);have hpn:=Be.mpr (hN p (ac hp));have hxq:x+p.1.length<=q:=⋯;let#[s0,s1,s2]:=u6 hs;rw[aE]at s2;let#[_,p2,hp2,hs2]:=vR a4;let#[t0,t1,t2]:=u6 hs2
   have e4:(qO l ps (n,q)).take q=l.take q:=by
    unfold qO yS;rw[aE,aV,bw (by rw[aH];lia),fV,e7]
   have e5:∀z:(),((z.take q).drop x).take p.1.length=(z.drop x).take p.1.length:=λz=>by
    rw[List.drop_take,fV];congr 1;lia
   have s3:(l.drop x).take p.1.length=p.1:=by rw[<- e5,<- e4,e5,s2]
   have:stJ l ps x j=AM:=by
    rw[kL hp];exact u9 #[⋯,⋯,by rw[aE];exact s3]
   have:=a5 j x hj (aD _) this;lia
def FirstN.lower{lo hi n:Nat}(h:FirstN l ps 0 hi n AL)(hl:lo<=hi):FirstN l ps 0 lo n AL:=by
 rcases h with ⟨_,h⟩ | ⟨_,_,h,_⟩
 ·exact .inl #[rfl,λj q hj h1 h2=>h j q hj h1 ⋯]
 ·cases h
def zgK(a b c:Nat):min a b+(b - (a+c))<=b:=⋯
def zal(h:FirstN l ps 0 l.length ps.length (AK (n,q)))(hm:∀p ∈ ps,p.2.length<=m):(qO l ps (n,q)).length<=l.length+m:=by
 rcases h with ⟨h,_⟩ | ⟨n0,q0,e,a1,a2,a3,a4,a5⟩
 ·cases h
 ·injection e with e;injection e with e1 e2;subst e1 e2;let#[_,p,hp,hs]:=vR a4;have:=hm p (ac hp);have er:=yu hp;unfold qO yS
  erw[ak,aH,aZ,er]
  rw[Nat.add_right_comm];exact fW (zgK _ _ _) this
theorem jM(hN:NeL ps)(hm:∀p ∈ ps,p.2.length<=m):∀j,(wAt ps l j).length<=l.length+j * m
 | 0=>by simp [wAt]
 | j+1=>by
  have ih:=jM (l:=l) hN hm j;have hf:=WI (wAt ps l j) ps hN;rw[d6]
  cases e:zF (wAt ps l j) ps with
  | none =>
   show (Xv ps (wAt ps l j)).length<=_;unfold Xv;rw[e];show (wAt ps l j).length<=_;lia
  | some u =>
   rw[yZ e];rw[e]at hf;let#[a,b]:=u;have:=zal hf hm;lia
def UseAt(H:Hp)(r:Option (Nat × Nat))(v:V):Prop:=(r=AL/\v=.non)\/∃(n q:Nat) (p:su),r=AK (n,q)/\v=.ref p/\H p=AK (.tup [.int (n:Nat),.int (q:Nat)])
def UseAt.same{H H':Hp}{r:Option (Nat × Nat)}{v:V}(h:UseAt H r v)(s:Same H H'):UseAt H' r v:=by
 rcases h with h | ⟨n,q,p,h1,h2,h3⟩
 ·exact .inl h
 ·exact .inr #[n,q,p,h1,h2,s _ _ h3]
def Js{lo hi:Int}(h0:0<=lo)(h1:0<=hi)(h:∀r:Int,((r=-1/\∀q:Nat,lo<=q->(q:Int)+p.length<=hi->zw l q p=AN)\/∃k:Nat,r=k/\lo<=k/\(k:Int)+p.length<=hi/\zw l k p=AM/\∀q:Nat,lo<=q->q<k->zw l q p=AN)->Q (.int r) H):zbg (.str (tx l)) [.str (tx p),.int lo,.int hi] H Q:=by
 refine#[l,p,lo,hi,rfl,rfl,h0,h1,λr hr=>h r ?_]
 have no:∀q:Nat,((l.drop q).take p.length≠p\/¬ q+p.length<=l.length)->zw l q p=AN:=λq hq=>v9 λ⟨_,b,c⟩=>by
  rcases hq with hq | hq
  ·exact hq c
  ·lia
 rcases hr with ⟨rfl,hn⟩ | ⟨k,rfl,k1,k2,k3,k4,hn⟩
 ·refine .inl #[rfl,λq q1 q2=>no q ?_];by_cases e:q+p.length<=l.length
  ·exact .inl (hn q q1 q2 e)
  ·exact .inr e
 ·exact .inr #[k,rfl,k1,k2,u9 #[⋯,⋯,k4],λq q1 q2=>no q (.inl (hn q q1 q2))]
def uS(K:sr):Sp:=λvs H Q Z=>∃(a:su) (l:()) (ps:List zC) (st en:Nat),vs=[.ref a,.str (tx l),.int (st:Nat),.int (en:Nat)]/\LsA K H a (ps.map dR)/\NeL ps/\(∀p ∈ ps,p.1.length<=1000)/\∀(r:Option (Nat × Nat)) (v:V) (H':Hp),Same H H'->UseAt H' r v->FirstN l ps st en ps.length r->Q v H'
def Wj{st en:Nat}{s e:Int}(hs:s=(st:Nat))(he:e=(en:Nat))(hA:LsA K H a (ps.map dR))(hN:NeL ps)(hP:∀p ∈ ps,p.1.length<=1000)(q:∀(r:Option (Nat × Nat)) (v:V) (H':Hp),Same H H'->UseAt H' r v->FirstN l ps st en ps.length r->Q v H'):uS K [.ref a,.str (tx l),.int s,.int e] H Q E:=by subst hs he;exact#[a,l,ps,st,en,rfl,hA,hN,hP,q]
def gP:sQz 4 ["rules","word","start","end","found","number","rule","place"] xU:=by nofun
def j1(B:Bt mg)(F:("first_within"^^^xU)):(1&&&["rules","word","start","end"]) (uS K):=by
 exists F.ok gP
 ·let#[a,l,ps,st,en,rfl,hA,hN,hP,q]:=h
  refine#[_,(zh (zB 4 gP.nd yb) (zh (zZ p9 rfl (xH rfl B.enum (za (pv 0) ze)) (qr (n:=2) rfl (ye (zr (i:=5) gP.nd rfl (.inl rfl)) (ye (zr (i:=6) gP.nd rfl (.inl rfl)) vb))) (zG (zB 7 gP.nd (wL bz dc de zbG (pv 1) (za (!-6) (za (pv 2) (za (zD yz (zD xD (pv 3) zf) (zE B.len (!-6))) ze))))) (zg (zJ (zt op_ge' (pv 7) zf (zv _)) (zG (zB 4 gP.nd (zN (za (pv 5) (za (pv 7) ze)))) (zg (zB 3 gP.nd (pv 7))))
     zp)))) (zg (zl (pv 4))))),?_]
  have s16:=zS;let#[xs,hX,hI]:=id hA;have hxl:=hI.len;rw[aa]at hxl;have s16:=zS;change H'=H/\σ=[!!a,~~~l,-~~~st,-~~~en,AK (.non),AL,AL,AL]
  ·rfl'
  rintro σ H1 ⟨rfl,rfl⟩:_;right;change Same H1 H'/\∃(r:Option (Nat × Nat)) (v:V) (v3 v5 v6 v7:Option V),UseAt H' r v/\FirstN l ps st en ps.length r/\σ=[!!a,~~~l,-~~~st,v3,AK (v),v5,v6,v7]
  ·rfl'
   refine#[#[_,SqL.of hX],ForEL.by (xs:=xs) (λi σ H'=>Same H1 H'/\∃(r:Option (Nat × Nat)) (v:V) (v5 v6 v7:Option V),UseAt H' r v/\FirstN l ps st en i r/\σ=[!!a,~~~l,-~~~st,AK (.int (((r.map Prod.snd).getD en:Nat):Int)),AK (v),v5,v6,v7]) #[Same.refl _,AL,.non,AL,AL,AL,.inl #[rfl,rfl],.inl #[rfl,λj q h=>w4 h (bI j)],rfl] (λi σ H' Z h=>SqL.of (h.1 _ _ hX)) ?_ ?_]
   ·rintro i y σ H' p hy ⟨hs,r,v,v5,v6,v7,hu,hF,rfl⟩ hpn;let#[rl,pr,hri,rfl,hqr]:=hI.getR hy;have hm:=ac hri;have hne:=Be.mpr (hN rl hm);have hrl:=hP rl hm;have s2:=hs.trans (zd (o:=.tup [.int (i:Nat),.ref pr]) hpn);have hq2:=zo s2 hqr;have hu2:=hu.same (zd (o:=.tup [.int (i:Nat),.ref pr]) hpn)
    rfl'
    refine#[_,SqT.of zb,rfl,_,_,rfl,_,_,rfl,rfl,_,rfl,_,hq2,_,rfl,_,rfl,_,hq2,_,rfl,_,#[by rw[zR];lia,rfl],Js ⋯ (by rw[zR];lia) λz hz=>#[z,rfl,?_]];rw[zR]at hz;rcases hz with ⟨rfl,hn⟩ | ⟨k,rfl,k1,k2,k3,hn⟩
    ·rw[w9 ∅];exact#[s2,r,v,hu2,hF.keep hri λq q1 q2=>hn q ⋯ ⋯,rfl,rfl]
    ·rw[w6 ⋯];refine#[⋯,λp2 hp2=>#[s2.trans (zd hp2),AK (i,k),.ref p2,.inr #[i,k,p2,rfl,rfl,zb],hF.take hri ⋯ ⋯ k3 λq q1 q2=>hn q ⋯ q2,rfl,rfl]]
   ·rintro σ H' ⟨hs,r,v,v5,v6,v7,hu,hF,rfl⟩;rw[hxl]at hF;exact#[hs,r,v,hu,hF,_,_,_,_,rfl]
  rintro σ H2 ⟨s2,r,v,v3,v5,v6,v7,hu,hF,rfl⟩:_;right
  rfl'
  exact q r v H2 s2 hu hF
structure zgE(mg:sB->Option sv):Prop where
 g:∃t,mg "WINDOW" = AK (.int 128 t)
def ZC(K:sr):Sp:=λvs H Q Z=>∃(a:su) (l:()) (ps:List zC) (st:Nat),vs=[.ref a,.str (tx l),.int (st:Nat)]/\LsA K H a (ps.map dR)/\NeL ps/\(∀p ∈ ps,p.1.length<=1000)/\l.length<=100000/\∀(r:Option (Nat × Nat)) (v:V) (H':Hp),Same H H'->UseAt H' r v->FirstN l ps st l.length ps.length r->Q v H'
def Xd{st:Nat}{s:Int}(hs:s=(st:Nat))(hA:LsA K H a (ps.map dR))(hN:NeL ps)(hP:∀p ∈ ps,p.1.length<=1000)(hl:l.length<=100000)(q:∀(r:Option (Nat × Nat)) (v:V) (H':Hp),Same H H'->UseAt H' r v->FirstN l ps st l.length ps.length r->Q v H'):ZC K [.ref a,.str (tx l),.int s] H Q E:=by subst hs;exact#[a,l,ps,st,rfl,hA,hN,hP,hl,q]
def iw:sQz 3 ["rules","word","start","size","found"] ve:=by nofun
def Z0(B:Bt mg)(T:zgE mg)(F:("first_from"^^^ve))(pf:(1<<<"first_within") ["rules","word","start","end"] [] (uS K)):(2&&&["rules","word","start"]) (ZC K):=by
 let#[t8,g8]:=T.g
 exists F.ok iw
 ·let#[a,l,ps,st,rfl,hA,hN,hP,hl,q]:=h
  refine#[_,(zh (zB 3 iw.nd (yJ (v:=.int 128) rfl g8 #[t8,rfl])) (zh (uI p9 (zt Xy (pv 2) (zE B.len (pv 1)) (zv _)) (zG (zB 4 iw.nd (cl0 pf hr .nil rfl (za (pv 0) (za (pv 1) (za (pv 2) (za (zD yz (pv 2) (pv 3)) ze)))))) (zG (zJ (zt op_notN' (pv 4) yb (zv _)) (zg (zl (pv 4)))
     zp) (zG (zB 2 iw.nd (zD yz (pv 2) (pv 3))) (zg (zB 3 iw.nd (zD uH (pv 3) zf))))))) (zg (zl yb)))),?_]
  have s16:=zS;have s16:=zS;change H'=H/\σ=[!!a,~~~l,-~~~st,~~~!128,AL]
  ·rfl'
  rintro σ H1 ⟨rfl,rfl⟩:_;right;change Same H1 H'/\FirstN l ps st l.length ps.length AL
  ·unfold YB;refine#[λm σ H'=>∃(s z:Nat) (v4:Option V),m=l.length - s/\st<=s/\1<=z/\Same H1 H'/\FirstN l ps st s ps.length AL/\σ=[!!a,~~~l,-~~~s,-~~~z,v4],#[_,st,128,AL,rfl,ao _,∅,Same.refl _,.inl #[rfl,λj q Z h1 h2=>by lia],rfl],?_];rintro m σ H' ⟨s,z,v4,rfl,hs,hz,sm,hF,rfl⟩
   rfl'
   refine#[⋯,z8 (λhlt=>?_) λhge=>#[sm,hF.toEnd hN λZ=>by lia]];refine#[λσ' H''=>∃v4:Option V,Same H1 H''/\FirstN l ps st (s+z) ps.length AL/\σ'=[!!a,~~~l,AK (.int ((s+z:Nat):Int)),AK (.int ((z * 2:Nat):Int)),v4],λσ' H'' ⟨v4,a1,a2,a3⟩=>#[l.length - (s+z),⋯,s+z,rfl,⋯,z * 2,⋯,a1,a2,v4,a3],?_];refine Wj (en:=s+z) rfl ⋯ (hA.same sm) hN hP λr v H2 s2 hu hF2=>?_;rcases hu with ⟨rfl,rfl⟩ | ⟨n,qq,p,rfl,rfl,hp⟩
   ·rw[w9 (λh=>h rfl)];exact#[.inr #[∅,∅],AK .non,sm.trans s2,hF.window hs hF2,by push_cast;rfl]
   ·rw[w6 (by intro h;cases h)];exact q _ _ H2 (sm.trans s2) (.inr #[n,qq,p,rfl,rfl,hp]) ((hF.window hs hF2).toEnd hN (λe=>by cases e))
  rintro σ H2 ⟨s2,hF⟩:_;right
  rfl'
  exact q AL .non H2 s2 (.inl #[rfl,rfl]) hF
def LsA.pushT{D p:su}(h1:H D=AK (.lst xs))(h2:Iss K H ds xs)(hp:H p=AL)(hv:Iss K H es vs)(f:ya ds)(fe:ya es):LsA K (upd (upd H p (.tup vs)) D (.lst (xs ++ [.ref p]))) D (ds ++ [.tup es]):=by have e:(upd H p (.tup vs)) D=AK (.lst xs):=zd hp _ _ h1;exact LsA.snoc e (Iss.same (zd hp) _ _ h2) f (by erw[xx];exact fe) (Is.tup hp hv)
structure zcQ(K:sr)(mg:sB->Option sv)(C:su):Prop where
 xi:XI K C
 ini:ah K (.ref C) "__init__" = AK (AK (.builtin "ValueError.__init__"))
 g:mg "TooFar" = AK (.ref C)
end in def dG(u:Nat × Nat):L3.D:=.tup [.int (u.1:Nat),.int (u.2:Nat),.bl AM]
def zdf(u:Nat × Nat):xx (dG u):=by erw[dG,xx,ya,and_self]
def Kh(us:List (Nat × Nat)):ya (us.map dG):=wZ λd h=>by let#[r,_,rfl]:=AT.mp h;exact zdf r
def zgk : Iss K H [.int (n:Nat),.int (q:Nat),.bl AM] [.int (n:Nat),.int (q:Nat),.bl AM]:=by
 erw[Iss,Is]
 exact#[_,_,rfl,rfl,_,_,rfl,rfl,_,_,rfl,rfl,rfl]
structure Rd(ps:List zC)(l:())(J:Nat):Prop where
 live:Yd ps l J
 len:∀j,j<=J->(wAt ps l j).length<=10000
 most:J<=10000
def xR(K:sr)(CF:su):Sp:=λvs H Q E=>∃(a:su) (l:()) (ps:List zC) (m:Int) (J:Nat),vs=[.ref a,.str (tx l),.int m]/\LsA K H a (ps.map dR)/\NeL ps/\ps.length<=100/\(∀p ∈ ps,p.1.length<=1000/\p.2.length<=1000)/\Rd ps l J /\
 ((zF (wAt ps l J) ps=AL/\(J:Int)<=m/\∀(p S:su) (H':Hp),Same H H'->H' p=AK (.tup [.ref S,.str (tx (wAt ps l J))])->LsA K H' S ((sAt ps l J).map dG)->H S=AL->Q (.ref p) H') \/
  (zF (wAt ps l J) ps≠AL/\(J:Int)=m/\∀H',Same H H'->E (.ref CF) AL H'))
def Qy{ps:List zC}{D:su}(hA:LsA K H a (ps.map dR))(hP:∀p ∈ ps,p.1.length<=1000)(hpl:ps.length<=100)(hD:H D=AL)(q:∀H',Same H H'->H' D=AK (.lst ((ps.map λp=>(p.1.length:Int)).map V.int))->Q (.ref D) H') :
  CompL K a (yx 0) y4 (tCB (Xt K) (zI (tOp (ud K) (zW 0) (tC (.int 0))) xb)) 1 [] σ H Q D:=by
 have s16:=zS;let#[xs,hX,hI]:=hA;have hxl:=hI.len;rw[aa]at hxl;refine CompL.by (xs:=xs) (λi AR H'=>Same H H'/\H' D=AK (.lst AR)/\AR=((ps.take i).map λp=>(p.1.length:Int)).map V.int) #[zd hD,zb,rfl] (λi AR H' Z h=>SqL.of (h.1 _ _ hX)) ?_ ?_
 ·refine nm4 ?_;rintro i x AR H' hx ⟨hs,hH,rfl⟩:_;have hil:=(AS.mp hx).1;let#[r,pr,hri,rfl,hqr]:=hI.getR hx;have hm:=hP r (ac hri);right
  erw[y4]
  rfl'
  refine#[yq,_,zo hs hqr,_,rfl,_,#[by rw[zR];lia,rfl],hH,by rw[aa,aa,aH];lia,CNx.mk hil #[zu hs hD,zb,?_]];rw[zO hri,aq,aq,zR];rfl
 ·rintro AR H' ⟨hs,hH,rfl⟩;rw[hxl,aK]at hH;exact q H' hs hH
def zgb{rs:List zC}{i:Nat}(hI:Iss K H (rs.map dR) xs)(hi:rs[i]? = AK r):∃p,atI xs (i:Int)=AK (.ref p)/\SqT K H p [.str (tx r.1),.str (tx r.2)]:=by have hl:=hI.len;rw[aa]at hl;have hil:=(AS.mp hi).1;let#[v,a1,b1]:=j2 (xs:=xs) (i:=(i:Int)) ⋯ ⋯;let#[r',p,h1,rfl,h3]:=hI.getR (j:=i) b1;rw[hi]at h1;cases h1;exact#[p,a1,h3]
def iX:sQz 3 ["rules","word","most","longest","steps","use","number","place"] vK:=by nofun
def zb2(B:Bt mg)(T:zcQ K mg CF)(TU:DNU P w K mg base CU)(F:FunD K "gone" "gone" vK dV f fd)(nM:(2<<<"first_from") ["rules","word","start"] [] (ZC K))(pS:(3>>>"put") ["word","place","old","new"] [] (WJ CU)):(4|||["rules","word","most"]) (xR K CF):=by
 exists FunD.okX F iX,0
 ·let#[a,l,ps,m,J,rfl,hA,hN,hpl,hP,hR,hq]:=h
  refine#[_,(zh (zB 3 iX.nd (QC (zeD rfl) rfl B.max uF (za (yy (own:=["rule"]) (caps:=[]) (ix:=[]) (tt:=y4) (te:=(tCB (Xt K) (zI (tOp (ud K) (zW 0) (tC (.int 0))) xb))) rfl (zH (sc:=zi vK) rfl (!0) (!0) (!0) rfl (!0) (!0) rfl) (zX (pv 0)) (λZ Z Z Z Z Z=>zr (i:=0) (show List.Nodup [_] by decide) rfl (.inl rfl)) (λZ Z Z Z Z Z=>z7) (λZ Z Z Z Z Z=>(zE B.len (!-0)))) ze) (Qz zf zbb))) (zh (zB 4 iX.nd (y6 ze)) (zh (zB 5 iX.nd (cl0 nM hr .nil rfl (za (pv 0) (za (pv 1) (za zf ze))))) (zh (uI PassesOwn.leaving (zt op_notN' (pv 5) yb (zv _)) (zh (zJ (zt op_ge' (zE B.len (pv 4)) (pv 2) (zv _)) (zg (yk hx rfl T.xi.toXC T.ini rfl T.g (za zQ ze)))
     zp) (zh (zB 6 iX.nd (!-5)) (zh (zB 7 iX.nd (!-5)) (zh (zB 1 iX.nd (clP hx pS hr .nil rfl (za (pv 1) (za (pv 7) (za (zk u5 (zk ix_list (pv 0) (pv 6)) zf) (za (zk u5 (zk ix_list (pv 0) (pv 6)) zf) ze)))))) (zh (xt (wL bh bC bD yP (pv 4) (za (zN (za (pv 6) (za (pv 7) (za yC ze)))) ze))) (zg (zB 5 iX.nd (cl0 nM hr .nil rfl (za (pv 0) (za (pv 1) (za (yR (Vj rfl) rfl B.max uF (za zf (za (zD yz (zD xD (pv 7) (pv 3)) zf) ze))) ze)))))))))))) (zg (zl (zN (za (pv 4) (za (pv 1) ze))))))))),?_]
  have s16:=zS;have s16:=zS;change Same H H'/\∃M:Int,(∀p ∈ ps,(p.1.length:Int)<=M)/\σ=[!!a,~~~l,~~~!m,~~~!M,AL,AL,AL,AL]
  ·rfl'
   erw[zgX]
   rfl'
   let#[xs,hX,hI]:=id hA;exact#[#[_,SqL.of hX],λD hD=>Qy hA (λp hp=>(hP p hp).1) hpl hD λH' s' hH=>#[D,_,0,rfl,rfl,SqL.of hH,λz Z hz=>#[s',z,λp hp=>hz _ (AT.mpr #[p,hp,rfl]),rfl]]]
  rintro σ H1 ⟨s1,M,hM,rfl⟩:_;right;change Same H H'/\∃S:su,H S=AL/\H' S=AK (.lst [])/\σ=[!!a,~~~l,~~~!m,~~~!M,!!S,AL,AL,AL]
  ·rfl'
   exact#[⋯,λp hp=>#[s1.trans (zd hp),p,s1.free hp,zb,rfl]]
  rintro σ H2 ⟨s2,S,hSn,hS,rfl⟩:_;right;change Same H H'/\H' S=AK (.lst [])/\∃uv:V,UseAt H' (zF l ps) uv/\σ=[!!a,~~~l,~~~!m,~~~!M,!!S,AK (uv),AL,AL]
  ·rfl'
   exact Xd (st:=0) rfl (hA.same s2) hN (λp hp=>(hP p hp).1) (by have:=hR.len 0 (aD _);exact aL this ∅) λr v H' s' hu hF=>#[s2.trans s',s' _ _ hS,(by rw[ZK hF]at hu;exact hu)]
  rintro σ H3 ⟨s3,hS3,uv,hu,rfl⟩:_;right;change Same H H'/\zF (wAt ps l J) ps=AL/\LsA K H' S ((sAt ps l J).map dG)/\∃v5 v6 v7,σ=[!!a,AK (.str (tx (wAt ps l J))),~~~!m,~~~!M,!!S,v5,v6,v7]
  ·unfold YB;refine#[λk σ H'=>∃(j:Nat) (uv:V) (v6 v7:Option V),k=J - j/\j<=J/\Same H H'/\LsA K H' S ((sAt ps l j).map dG)/\UseAt H' (zF (wAt ps l j) ps) uv/\σ=[!!a,AK (.str (tx (wAt ps l j))),~~~!m,~~~!M,!!S,AK (uv),v6,v7],#[_,0,uv,AL,AL,rfl,aD _,s3,#[[],hS3,by erw[sAt,List.range_zero,aA,Iss]],hu,rfl],?_];rintro k σ H' ⟨j,uv,v6,v7,rfl,hj,hs,hL,hu,rfl⟩;have hlj:=hR.len j hj;have hRm:=hR.most;let#[xs,hX,hI]:=id hA
   rfl'
   refine z8 (λhne=>?_) λhne=>?_
   ·rcases hu with ⟨_,h⟩ | ⟨n,q0,p,hf,rfl,hp⟩
    ·exact w4 h hne
    have hF:=WI (wAt ps l j) ps hN;rw[hf]at hF
    have hjJ:j<J\/(j=J/\(J:Int)=m/\∀H',Same H H'->E (.ref CF) AL H'):=by
     by_cases e:j=J
     ·subst e;rcases hq with ⟨h,_⟩ | ⟨_,h1,h2⟩
      ·rw[hf]at h;cases h
      ·exact .inr #[rfl,h1,h2]
     ·exact .inl ⋯
    have hJm:(J:Int)<=m:=by
     rcases hq with ⟨_,h,_⟩ | ⟨_,h,_⟩ <;> lia
    obtain⟨rl,hrl,hst⟩:∃rl,ps[n]? = AK rl/\zw (wAt ps l j) (q0:Int) rl.1=AM:=by
     rcases hF with ⟨h,_⟩ | ⟨n0,q1,e,_,_,_,a4,_⟩
     ·cases h
     ·cases e;exact (vR a4).2
    have hlp:=hP rl (ac hrl);have hw:=yZ hf;let#[pr,hai,hqr]:=zgb hI hrl;refine#[λσ' H''=>∃(uv:V) (v6 v7:Option V),j<J/\Same H H''/\LsA K H'' S ((sAt ps l (j+1)).map dG)/\UseAt H'' (zF (wAt ps l (j+1)) ps) uv/\σ'=[!!a,AK (.str (tx (wAt ps l (j+1)))),~~~!m,~~~!M,!!S,AK (uv),v6,v7],λσ' H'' ⟨uv,v6,v7,a0,a1,a2,a3,a4⟩=>#[J - (j+1),⋯,j+1,rfl,⋯,a1,a2,uv,a3,v6,v7,a4],?_];let#[ys,hY,hJ2]:=id hL;have hyl:=hJ2.len;rw[aa,xn]at hyl;refine zj (λσ' H''=>H''=H'/\j<J/\σ'=[!!a,AK (.str (tx (wAt ps l j))),~~~!m,~~~!M,!!S,!!p,v6,v7]) ?_ ?_
    ·rfl'
     refine#[_,.inl #[_,SqL.of hY,rfl],z8 (λhge=>?_) λhge=>?_]
     ·rcases hjJ with h | ⟨_,_,h⟩
      ·lia
      ·exact#[⋯,h _ hs]
     ·rcases hjJ with h | ⟨e,h,_⟩
      ·exact h
      ·lia
    rintro σ' G1 ⟨rfl,hlt,rfl⟩:_;right;refine zj (λσ' H''=>H''=G1/\σ'=[!!a,AK (.str (tx (wAt ps l j))),~~~!m,~~~!M,!!S,!!p,-~~~n,v7]) ?_ ?_
    ·rfl'
     exact#[_,SqT.of hp,rfl]
    rintro σ' G2 ⟨rfl,rfl⟩:_;right;refine zj (λσ' H''=>H''=G2/\σ'=[!!a,AK (.str (tx (wAt ps l j))),~~~!m,~~~!M,!!S,!!p,-~~~n,-~~~q0]) ?_ ?_
    ·rfl'
     exact#[_,SqT.of hp,rfl]
    rintro σ' G3 ⟨rfl,rfl⟩:_;right;refine zj (λσ' H''=>H''=G3/\σ'=[!!a,AK (.str (tx (wAt ps l (j+1)))),~~~!m,~~~!M,!!S,!!p,-~~~n,-~~~q0]) ?_ ?_
    ·rfl'
     have hq2:=zo hs hqr;exact#[_,SqL.of (hs _ _ hX),_,hai,_,rfl,_,hq2,_,rfl,_,SqL.of (hs _ _ hX),_,hai,_,rfl,_,hq2,_,rfl,wAt ps l j,rl.1,rl.2,(q0:Nat),rfl,hlj,by have:=hlp.1;lia,by have:=hlp.2;lia,λZ=>#[rfl,by rw[hw];unfold qO;rw[yu hrl]],λh=>by rw[hst]at h;cases h]
    rintro σ' G4 ⟨rfl,rfl⟩:_;right;refine zj (λσ' H''=>Same H H''/\LsA K H'' S ((sAt ps l (j+1)).map dG)/\σ'=[!!a,AK (.str (tx (wAt ps l (j+1)))),~~~!m,~~~!M,!!S,!!p,-~~~n,-~~~q0]) ?_ ?_
    ·rfl'
     refine#[.inl #[_,SqL.of hY],⋯,λt ht=>#[_,zd ht _ _ hY,⋯,zu (hs.trans (zd ht)) hSn,?_]];rw[WT,hf,aq];exact LsA.pushT hY hJ2 ht zgk (Kh _) (by erw[ya,xx,and_self])
    rintro σ' G5 ⟨s5,hL5,rfl⟩:_;have hl1:=hR.len (j+1) hlt;have hM0:=hM rl (ac hrl);right
    rfl'
    refine Xd (st:=(if (q0:Int) - M+1 > 0 then (q0:Int) - M+1 else 0).toNat) (by split <;> lia) (hA.same s5) hN (λp hp=>(hP p hp).1) (aL hl1 ∅) λr v H' s' hu hF2=>#[hlt,s5.trans s',hL5.same s',?_];have hb:=Uk (M:=M.toNat) (lo:=(if (q0:Int) - M+1 > 0 then (q0:Int) - M+1 else 0).toNat) hF hN (λp hp=>by have:=hM p hp;lia) (by split <;> lia);rw[<- hw]at hb;rw[ZK (hb.window (aD _) hF2)]at hu;exact hu
   ·have hv:uv=.non:=Decidable.not_not.mp hne
    have hf:zF (wAt ps l j) ps=AL:=by
     rcases hu with ⟨h,_⟩ | ⟨_,_,_,_,h,_⟩
     ·exact h
     ·rw[hv]at h;cases h
    have e:j=J:=by
     rcases d8 j J with h | h
     ·exact w4 hf (hR.live j h)
     ·lia
    subst e;exact#[hs,hf,hL,rfl]
  rintro σ H4 ⟨s4,hF,hL,v5,v6,v7,rfl⟩:_;right
  rfl'
  rcases hq with ⟨_,_,hq⟩ | ⟨h,_⟩
  ·exact#[⋯,λp hp=>hq p S _ (s4.trans (zd hp)) zb (hL.same (zd hp)) hSn]
  ·exact w4 hF h
end in abbrev Stp:=Int × Int × Bool
end in def dSt(t:Stp):D:=.tup [.int t.1,.int t.2.1,.bl t.2.2]
end in def sdl(r:zC)(f:Bool):zC:=if f=AM then r else (r.2,r.1)
end in def yD(ps:List zC)(w:())(t:Stp):Option (()) :=
 if 0<=t.1/\t.1<ps.length then (if zw w t.2.1 (sdl (ps.getD t.1.toNat ([],[])) t.2.2).1=AM then AK (yS w t.2.1 (sdl (ps.getD t.1.toNat ([],[])) t.2.2).1 (sdl (ps.getD t.1.toNat ([],[])) t.2.2).2)else AL)else AL
def KH{D p:su}(h1:H D=AK (.lst xs))(h2:Iss K H ds xs)(hp:H p=AL)(hv:Iss K H es vs)(f:ya ds)(fe:ya es):LsA K (upd (upd H p (.tup vs)) D (.lst (xs ++ [.ref p]))) D (ds ++ [.tup es]):=by have e:(upd H p (.tup vs)) D=AK (.lst xs):=zd hp _ _ h1;exact LsA.snoc e (Iss.same (zd hp) _ _ h2) f (by erw[xx];exact fe) (Is.tup hp hv)
def zet : Iss K H [dS l,dS m] [.str (tx l),.str (tx m)]:=by
 erw[Iss,Is]
 exact#[_,_,rfl,rfl,_,_,rfl,rfl,rfl]
def kK(rs:List zC):Prop:=rs.length<=30/\∀r ∈ rs,r.1.length<=100/\r.2.length<=100
def zbh(h:Is K H (dSt t) v):∃p,v=.ref p/\SqT K H p [.int t.1,.int t.2.1,.bl t.2.2]:=by
 erw[dSt,Is,Iss]at h
 let#[a,xs,e,hs,v1,r1,rfl,rfl,v2,r2,rfl,rfl,v3,r3,rfl,rfl,rfl]:=h;exact#[a,e,hs]
def WO(h:SqT K H p [.int t.1,.int t.2.1,.bl t.2.2]):Is K H (dSt t) (.ref p):=by
 erw[dSt,Is,Iss]
 exact#[p,_,rfl,h,_,_,rfl,rfl,_,_,rfl,rfl,_,_,rfl,rfl,rfl]
def zaC : Iss K H [.int i,.int j,.bl b] [.int i,.int j,.bl b]:=by
 erw[Iss,Is]
 exact#[_,_,rfl,rfl,_,_,rfl,rfl,_,_,rfl,rfl,rfl]
def uj(rs:List Stp):ya (rs.map dSt):=wZ λd h=>by let#[r,_,rfl]:=AT.mp h;erw[dSt,xx,ya,and_self]
def uq{rs:List Stp}{j:Nat}(h:Iss K H (rs.map dSt) vs)(q:vs[j]? = AK v):∃r p,rs[j]? = AK r/\v=.ref p/\SqT K H p [.int r.1,.int r.2.1,.bl r.2.2]:=by let#[d,e,i]:=h.get q;rw[au]at e;let#[r,hr,rfl]:=AZ.mp e;let#[p,e1,e2]:=zbh i;exact#[r,p,hr,e1,e2]
def ze6{rs:List zC}{i:Int}(hI:Iss K H (rs.map dR) xs)(h0:0<=i)(hi:i<rs.length):∃p,atI xs i=AK (.ref p)/\rs[i.toNat]? = AK (rs.getD i.toNat ([],[]))/\SqT K H p [.str (tx (rs.getD i.toNat ([],[])).1),.str (tx (rs.getD i.toNat ([],[])).2)]:=by
 have hl:=hI.len;rw[aa]at hl;let#[v,a1,b1]:=j2 (xs:=xs) (i:=i) h0 ⋯;let#[r,p,h1,rfl,h3]:=hI.getR b1;have e:rs.getD i.toNat ([],[])=r:=by rw[ae,h1];rfl
 rw[e];exact#[p,a1,h1,h3]
theorem Wg(h:kK rs)(i:Nat):(rs.getD i ([],[])).1.length<=100/\(rs.getD i ([],[])).2.length<=100:=by
 rw[ae]
 cases e:rs[i]? with
 | none=>exact#[aD _,aD _]
 | some r=>exact h.2 r (ac e)
def xj{w:()}{t:Stp}(h:¬ (0<=t.1/\t.1<ps.length)):yD ps w t=AL:=w9 h
def y3{w:()}{t:Stp}(h:0<=t.1/\t.1<ps.length):yD ps w t=if zw w t.2.1 (sdl (ps.getD t.1.toNat ([],[])) t.2.2).1=AM then AK (yS w t.2.1 (sdl (ps.getD t.1.toNat ([],[])) t.2.2).1 (sdl (ps.getD t.1.toNat ([],[])) t.2.2).2)else AL:=w6 h
def Ch(rs:List zC)(ws:List (()))(ss:List Stp):Prop:=ws.length=ss.length+1/\∀i s,ss[i]? = AK s->∃w w',ws[i]? = AK w/\ws[i+1]? = AK w'/\yD rs w s=AK w'
end in def bk(s:Stp):Stp:=(s.1,s.2.1,!s.2.2)
end in def yE(ss:List Stp):List Stp:=ss.reverse.map bk
end in def mvL(ss:List Stp)(z:Int):List Stp:=ss.map λs=>(s.1,s.2.1+z,s.2.2)
def zcK(r:zC)(f:Bool):sdl r (!f)=((sdl r f).2,(sdl r f).1):=by cases f <;> rfl
def kZ{w w':()}(h:yD rs w s=AK w'):yD rs w' (bk s)=AK w:=by
 by_cases hb:0<=s.1/\s.1<rs.length
 ·rw[y3 hb]at h;have hb':0<=(bk s).1/\(bk s).1<rs.length:=hb;rw[y3 hb']
  erw[bk,zcK]
  generalize sdl (rs.getD s.1.toNat ([],[])) s.2.2=r at *;by_cases hs:zw w s.2.1 r.1=AM
  ·rw[w6 hs]at h;cases h;let#[e1,e2]:=VC r.2 hs;rw[w6 e1,e2]
  ·rw[w9 hs]at h;cases h
 ·rw[xj hb]at h;cases h
def Ch.back(h:Ch rs ws ss):Ch rs ws.reverse (yE ss):=by
 let#[hl,hs]:=h;refine#[by simp [yE,hl],λi s hi=>?_];have hil:i<ss.length:=by have:=(AS.mp hi).1;simpa [yE] using this
 unfold yE at hi;rw[au,bq hil]at hi;let#[s0,h0,rfl]:=AZ.mp hi;let#[w,w',e1,e2,e3]:=hs _ _ h0;refine#[w',w,?_,?_,kZ e3]
 ·rw[bq ⋯,<- e2];congr 1;lia
 ·rw[bq ⋯,<- e1];congr 1;lia
def Vu{a w b:()}(h:k<=w.length):(a ++ w ++ b).drop (a.length+k)=w.drop k ++ b:=by rw[aV,<- fR,List.drop_left,cB h]
def Yf{a w b o:()}(h:zw w k o=AM):zw (a ++ w ++ b) (k+(a.length:Int)) o=AM:=by let#[_,_,h0,h1]:=yo h;unfold zw at h ⊢;rw[decide_eq_true_eq]at h ⊢;let#[_,_,h2]:=h;refine#[⋯,by erw[ak];lia,?_];rw[show (k+(a.length:Int)).toNat=a.length+k.toNat by lia,Vu ⋯,bw (by rw[aZ];lia),h2]
def Ui{a w b o n:()}(h:zw w k o=AM):yS (a ++ w ++ b) (k+(a.length:Int)) o n=a ++ yS w k o n ++ b:=by
 let#[_,_,h0,h1]:=yo h;unfold yS;rw[show (k+(a.length:Int)).toNat=a.length+k.toNat by lia]
 have e1:(a ++ w ++ b).take (a.length+k.toNat)=a ++ w.take k.toNat:=by
  rw[aV,List.take_length_add_append,bw ⋯]
 have e2:(a ++ w ++ b).drop (a.length+k.toNat+o.length)=w.drop (k.toNat+o.length) ++ b:=by
  rw[Nat.add_assoc];exact Vu ⋯
 rw[e1,e2];simp [aV]
def qB{w w':()}(a b:())(h:yD rs w s=AK w'):yD rs (a ++ w ++ b) (s.1,s.2.1+(a.length:Int),s.2.2)=AK (a ++ w' ++ b):=by
 by_cases hb:0<=s.1/\s.1<rs.length
 ·rw[y3 hb]at h;rw[y3 (by exact hb)];simp only;generalize sdl (rs.getD s.1.toNat ([],[])) s.2.2=r at *;by_cases hs:zw w s.2.1 r.1=AM
  ·rw[w6 hs]at h;cases h;rw[w6 (Yf hs),Ui hs]
  ·rw[w9 hs]at h;cases h
 ·rw[xj hb]at h;cases h
def Ch.within(a b:())(h:Ch rs ws ss):Ch rs (ws.map λw=>a ++ w ++ b) (mvL ss (a.length:Int)):=by let#[hl,hs]:=h;refine#[by simp [mvL,hl],λi s hi=>?_];unfold mvL at hi;rw[au]at hi;let#[s0,h0,rfl]:=AZ.mp hi;let#[w,w',e1,e2,e3]:=hs _ _ h0;exact#[a ++ w ++ b,a ++ w' ++ b,by rw[au,e1];rfl,by rw[au,e2];rfl,qB a b e3]
def Ka{w o n:()}(h:zw w k o=AM):(yS w k o n).length+o.length=w.length+n.length:=by
 let#[e,hl,h0,h1]:=yo h;unfold yS
 erw[ak,aZ,hl]
 lia
def jc{D p:su}(h1:H D=AK (.lst xs))(h2:Iss K H ds xs)(hp:H p=AL)(hv:Iss K H es vs)(f:ya ds)(fe:ya es):Iss K (upd (upd H p (.tup vs)) D (.lst (xs ++ [.ref p]))) (ds ++ [.tup es]) (xs ++ [.ref p]):=by let#[ys,hy1,hy2]:=KH h1 h2 hp hv f fe;rw[zb]at hy1;cases hy1;exact hy2
def uW(K:sr):Sp:=λvs H Q Z=>∃(t:su) (ss:List Stp),vs=[.ref t]/\Is K H (.lst (ss.map dSt)) (.ref t)/\ss.length<=1000/\∀(D:su) (H':Hp),H D=AL->Same H H'->LsA K H' D ((yE ss).map dSt)->Q (.ref D) H'
def jb(h1:Is K H (.lst (ss.map dSt)) (.ref t))(h2:ss.length<=1000)(h:∀(D:su) (H':Hp),H D=AL->Same H H'->LsA K H' D ((yE ss).map dSt)->Q (.ref D) H'):uW K [.ref t] H Q E:=#[t,ss,rfl,h1,h2,h]
def zcu(h:ss.reverse[i]? = AK s):(yE ss).take (i+1)=(yE ss).take i ++ [bk s]:=zO (by unfold yE;rw[au,h];rfl)
def zcN:sQz 1 ["steps"] VF:=by nofun
def zca(B:Bt mg)(F:("back"^^^VF)):(1&&&["steps"]) (uW K):=by
 exists F.ok zcN
 ·let#[t,ss,rfl,hT,hsl,q]:=h;refine#[_,(zg (zl (yy (own:=["step"]) (caps:=[]) (ix:=[]) (tt:=y4) (te:=(Um (zI (tOp (ud K) (zW 0) (tC (.int 0))) (zI (tOp (ud K) (zW 0) (tC (.int 1))) (zI (J0 (tOp (ud K) (zW 0) (tC (.int 2)))) xb))))) rfl (zH (sc:=zi VF) rfl (!0) (!0) (!0) rfl (!0) (!0) rfl) (zeU rfl B.rev (za (pv 0) ze)) (λZ Z Z Z Z Z=>zr (i:=0) (show List.Nodup [_] by decide) rfl (.inl rfl)) (λZ Z Z Z Z Z=>z7) (λZ Z Z Z Z Z=>(zN (za (!-0) (za (!-0) (za (zaK (!-0)) ze)))))))),?_];have s16:=zS
  rfl'
  erw[Is]at hT
  let#[_,ts,e,hTs,hJ]:=hT;cases e;have htl:=hJ.len;rw[aa]at htl;have hbl:(yE ss).length=ss.length:=by simp [yE]
  refine#[ts,hTs,λD hD=>CompV.by (xs:=ts) (λi AR H'=>Same H H'/\H' D=AK (.lst AR)/\Iss K H' (((yE ss).take i).map dSt) AR) #[zd hD,zb,by erw[bA,aA,Iss]] (λi AR H' Z h=>h.1.seq hTs) ?_ ?_]
  ·refine nm4 ?_;rintro i x AR H' hx ⟨hs,hH,hA⟩:_;have hi:i<ts.length:=by have:=(AS.mp hx).1;simpa using this
   rw[bq hi]at hx;let#[s,ps,hsi,rfl,hqs]:=uq hJ hx;have hsr:ss.reverse[i]? = AK s:=by rw[bq ⋯,<- hsi,htl]
   have hal:=hA.len;rw[aa,aH]at hal;right
   erw[y4]
   rfl'
   refine#[yq,_,zo hs hqs,_,rfl,_,zo hs hqs,_,rfl,_,zo hs hqs,_,rfl,_,rfl,⋯,λp hp=>#[zd hp _ _ hH,⋯,CNx.mk hi #[zu (hs.trans (zd hp)) hD,zb,?_]]];rw[zcu hsr,aq];exact jc hH hA hp zaC (uj _) (by erw[ya,xx,and_self])
  ·rintro AR H' ⟨hs,hH,hA⟩;rw[htl,<- hbl,aK]at hA;exact q D H' hD hs #[AR,hH,hA]
def Zs(K:sr):Sp:=λvs H Q Z=>∃(t:su) (ss:List Stp) (z:Int),vs=[.ref t,.int z]/\Is K H (.lst (ss.map dSt)) (.ref t)/\ss.length<=1000/\∀(D:su) (H':Hp),H D=AL->Same H H'->LsA K H' D ((mvL ss z).map dSt)->Q (.ref D) H'
def YN(h1:Is K H (.lst (ss.map dSt)) (.ref t))(h2:ss.length<=1000)(h:∀(D:su) (H':Hp),H D=AL->Same H H'->LsA K H' D ((mvL ss z).map dSt)->Q (.ref D) H'):Zs K [.ref t,.int z] H Q E:=#[t,ss,z,rfl,h1,h2,h]
def KN:sQz 2 ["steps","size"] Z2:=by nofun
def zai(B:Bt mg)(F:("moved"^^^Z2)):(1&&&["steps","size"]) (Zs K):=by
 exists F.ok KN
 ·let#[t,ss,z,rfl,hT,hsl,q]:=h;refine#[_,(zg (zl (yy (own:=["step"]) (caps:=["size"]) (ix:=[1]) (tt:=y4) (te:=(Um (zI (tOp (ud K) (zW 0) (tC (.int 0))) (zI (tOp ZI (tOp (ud K) (zW 0) (tC (.int 1))) (zW 1)) (zI (tOp (ud K) (zW 0) (tC (.int 2))) xb))))) rfl (zH (sc:=zi Z2) rfl (!0) (!0) (!0) rfl (!0) (!0) rfl) (zX (pv 0)) (λZ Z Z Z Z Z=>zr (i:=0) (show List.Nodup [_,_] by decide) rfl (.inl rfl)) (λZ Z Z Z Z Z=>z7) (λZ Z Z Z Z Z=>(zN (za (!-0) (za (zD qb (!-0) (pv 1)) (za (!-0) ze)))))))),?_];have s16:=zS
  rfl'
  erw[Is]at hT
  let#[_,ts,e,hTs,hJ]:=hT;cases e;have htl:=hJ.len;rw[aa]at htl;have hbl:(mvL ss z).length=ss.length:=by simp [mvL]
  refine#[#[ts,hTs],λD hD=>CompL.by (xs:=ts) (λi AR H'=>Same H H'/\H' D=AK (.lst AR)/\Iss K H' (((mvL ss z).take i).map dSt) AR) #[zd hD,zb,by erw[bA,aA,Iss]] (λi AR H' Z h=>h.1.seq hTs) ?_ ?_]
  ·refine nm4 ?_;rintro i x AR H' hx ⟨hs,hH,hA⟩:_;have hi:=(AS.mp hx).1;let#[s,ps,hsi,rfl,hqs]:=uq hJ hx;have hm:(mvL ss z)[i]? = AK (s.1,s.2.1+z,s.2.2):=by unfold mvL;rw[au,hsi];rfl
   have hal:=hA.len;rw[aa,aH]at hal;right
   erw[y4]
   rfl'
   refine#[yq,_,zo hs hqs,_,rfl,_,zo hs hqs,_,rfl,_,zo hs hqs,_,rfl,⋯,λp hp=>#[zd hp _ _ hH,⋯,CNx.mk hi #[zu (hs.trans (zd hp)) hD,zb,?_]]];rw[zO hm,aq];exact jc hH hA hp zaC (uj _) (by erw[ya,xx,and_self])
  ·rintro AR H' ⟨hs,hH,hA⟩;rw[htl,<- hbl,aK]at hA;exact q D H' hD hs #[AR,hH,hA]
end in abbrev Ent:=() × () × List Stp
end in def dE(e:Ent):L3.D:=.tup [dS e.1,dS e.2.1,.lst (e.2.2.map dSt)]
end in def XV(es:List Ent)(u:Stp):List Stp:=mvL (if u.2.2=AM then (es.getD u.1.toNat ([],[],[])).2.2 else yE (es.getD u.1.toNat ([],[],[])).2.2) u.2.1
end in def byL(es:List Ent)(us:List Stp):List Stp:=us.flatMap (XV es)
def zdQ(h:Is K H (dE e) v):∃p s,v=.ref p/\SqT K H p [.str (tx e.1),.str (tx e.2.1),.ref s]/\Is K H (.lst (e.2.2.map dSt)) (.ref s):=by
 erw[dE,Is,Iss]at h
 let#[a,xs,e0,hs,v1,r1,rfl,rfl,v2,r2,rfl,rfl,v3,r3,rfl,#[s,zs,rfl,h1,h2],rfl]:=h;refine#[a,s,e0,hs,?_]
 erw[Is]
 exact#[s,zs,rfl,h1,h2]
def zhm{es:List Ent}{i:Int}(hI:Iss K H (es.map dE) xs)(h0:0<=i)(hi:i<es.length):∃p s,atI xs i=AK (.ref p)/\es[i.toNat]? = AK (es.getD i.toNat ([],[],[]))/\SqT K H p [.str (tx (es.getD i.toNat ([],[],[])).1),.str (tx (es.getD i.toNat ([],[],[])).2.1),.ref s]/\Is K H (.lst ((es.getD i.toNat ([],[],[])).2.2.map dSt)) (.ref s):=by
 have hl:=hI.len;rw[aa]at hl;let#[v,a1,b1]:=j2 (xs:=xs) (i:=i) h0 ⋯;let#[d,e,ix]:=hI.get b1;rw[au]at e;let#[r,hr,rfl]:=AZ.mp e;have e:es.getD i.toNat ([],[],[])=r:=by rw[ae,hr];rfl
 rw[e];let#[p,s,rfl,h2,h3]:=zdQ ix;exact#[p,s,a1,hr,h2,h3]
def Yy(ss:List Stp)(z:Int):(mvL ss z).length=ss.length:=by simp [mvL]
def yh(ss:List Stp):(yE ss).length=ss.length:=by simp [yE]
def Uu(K:sr):Sp:=λvs H Q Z=>∃(a t:su) (es:List Ent) (us:List Stp),vs=[.ref a,.ref t]/\Is K H (.lst (es.map dE)) (.ref a)/\Is K H (.lst (us.map dSt)) (.ref t)/\us.length<=100/\(∀e ∈ es,e.2.2.length<=600)/\(∀u ∈ us,0<=u.1/\u.1<es.length)/\∀(D:su) (H':Hp),H D=AL->Same H H'->LsA K H' D ((byL es us).map dSt)->Q (.ref D) H'
def lQ:sQz 2 ["entries","steps","chain","step","own"] uQ:=by nofun
def XB(B:Bt mg)(F:("by_pacts"^^^uQ))(rP:(1<<<"moved") ["steps","size"] [] (Zs K))(mz:(1<<<"back") ["steps"] [] (uW K)):(2&&&["entries","steps"]) (Uu K):=by
 exists F.ok lQ
 ·let#[a,t,es,us,rfl,hE,hU,hul,hel,hub,q]:=h
  refine#[_,(zh (zB 2 lQ.nd (y6 ze)) (zh (zZ p9 rfl (zX (pv 1)) (zr (i:=3) lQ.nd rfl (.inl rfl)) (zh (zB 4 lQ.nd (zk u5 (zk ix_list (pv 0) (!-3)) zf)) (zg (xt (wL bh PySem.F.slot_list_extend PySem.F.type_list_extend Je (pv 2) (za (cl0 rP hr .nil rfl (za (xE (ym (!-3) (λZ=>rfl)) (pv 4) (cl0 mz hr .nil rfl (za (pv 4) ze))) (za (!-3) ze))) ze)))))) (zg (zl (pv 2))))),?_]
  have s16:=zS;have hE':=hE;have hU':=hU
  erw[Is]at hE' hU'
  let#[_,xs,e,hX,hI]:=hE';cases e;let#[_,ts,e,hTs,hJ]:=hU';cases e;have htl:=hJ.len;rw[aa]at htl;change ∃D,H D=AL/\Same H H'/\H' D=AK (.lst [])/\σ=[!!a,!!t,!!D,AL,AL]
  ·rfl'
   exact#[⋯,λp hp=>#[p,hp,zd hp,zb,rfl]]
  rintro σ H1 ⟨D,hD,s1,hD1,rfl⟩:_;right;change Same H H'/\LsA K H' D ((byL es us).map dSt)/\∃v3 v4,σ=[!!a,!!t,!!D,v3,v4]
  ·rfl'
   refine#[#[_,s1.seq hTs],ForL.by (xs:=ts) (λi σ H'=>Same H H'/\LsA K H' D ((byL es (us.take i)).map dSt)/\(byL es (us.take i)).length<=i * 600/\∃v3 v4,σ=[!!a,!!t,!!D,v3,v4]) #[s1,#[[],hD1,by erw[bA,byL,List.flatMap_nil,aA,Iss]],by simp [byL],_,_,rfl] (λi σ H' Z h=>h.1.seq hTs) ?_ ?_]
   ·refine nm4 ?_;rintro i x σ H' hx ⟨hs,hL,hl,v3,v4,rfl⟩:_;let#[u,pu,hui,rfl,hqu]:=uq hJ hx;have hil:=(AS.mp hui).1;let#[u0,u1]:=hub u (ac hui);let#[pe,se,g1,g2,g3,g4]:=zhm hI u0 u1;have hle:=hel _ (ac g2)
    have hby:byL es (us.take (i+1))=byL es (us.take i) ++ XV es u:=by
     unfold byL;rw[zO hui,dv];simp
    right
    erw[yx,aU,aT]
    refine zj (λσ H''=>H''=H'/\σ=[!!a,!!t,!!D,!!pu,!!se]) ?_ ?_
    ·rfl'
     exact#[_,zo hs hqu,_,rfl,_,rfl,_,hs.seq hX,_,g1,_,rfl,_,zo hs g3,rfl]
    rintro σ G ⟨rfl,rfl⟩:_;let#[zs,hZ,hZI]:=id hL;have hzl:=hZI.len;rw[aa]at hzl;have hse:=Is.same hs _ _ g4
    have fin:∀(ws:List Stp) (M:su) (G2:Hp),XV es u=ws->ws.length<=600->Same G G2->LsA K G2 M (ws.map dSt)->QD (V.ref D) [V.ref M] G2 λx H1=>Same H H1/\LsA K H1 D ((byL es (us.take (i+1))).map dSt)/\(byL es (us.take (i+1))).length<=(i+1) * 600:=λws M G2 ew hwl sg hM=>by
     let#[ys,hY,hYI]:=hM;have hyl:=hYI.len;rw[aa]at hyl;have hZ2:=sg _ _ hZ;refine#[D,M,zs,ys,rfl,rfl,hZ2,hY,⋯,zu (hs.trans sg) hD,#[_,zb,?_],?_]
     ·rw[hby,ew,aq];exact Iss.append (Iss.updL hZ2 _ _ (uj _) (Iss.same sg _ _ hZI)) (Iss.updL hZ2 _ _ (uj _) hYI)
     ·rw[hby,ew,ak];lia
    right
    rfl'
    refine#[.inl #[_,SqL.of hZ],_,zo hs hqu,_,rfl,_,rfl,z8 (λhf=>#[_,zo hs hqu,_,rfl,YN hse ⋯ λM G2 Z sg hM=>fin _ M G2 (by unfold XV;rw[w6 hf]) (by rw[Yy];lia) sg hM]) λhf=>jb hse ⋯ λM0 G1 Z sg0 hM0=>#[_,zo (hs.trans sg0) hqu,_,rfl,YN hM0.is (by rw[yh];lia) λM G2 Z sg hM=>fin _ M G2 (by unfold XV;rw[w9 hf]) (by rw[Yy,yh];lia) (sg0.trans sg) hM]]
   ·rintro σ H' ⟨hs,hL,hl,v3,v4,rfl⟩;rw[htl,aK]at hL;exact#[hs,hL,_,_,rfl]
  rintro σ H2 ⟨s2,hL2,v3,v4,rfl⟩:_;right
  rfl'
  exact q D H2 hD s2 hL2
end in def yl(rs:List zC):()->List Stp->Option (())
 | w,[]=>AK w
 | w,s::ss=>(yD rs w s).bind λw'=>yl rs w' ss
theorem xA(rs:List zC):∀(ss ts:List Stp) (w:()),yl rs w (ss ++ ts)=(yl rs w ss).bind λw'=>yl rs w' ts
 | [],ts,w=>rfl
 | s::ss,ts,w=>by
  erw[bu,yl]
  cases yD rs w s with
  | none=>rfl
  | some w1=>exact xA rs ss ts w1
def jq{w w':()}(h:yl rs w (s::ss)=AK w'):∃w1,yD rs w s=AK w1/\yl rs w1 ss=AK w':=by
 erw[yl]at h
 let#[w1,h1,h2]:=Bk.mp h;exact#[w1,h1,h2]
def Y2{w w1 w2:()}(h:yl rs w ss=AK w1)(h2:yD rs w1 s=AK w2):yl rs w (ss ++ [s])=AK w2:=by
 rw[xA,h]
 erw[yl,bZ]
 rw[h2];rfl
def Ur(s:Stp)(ss:List Stp):yE (s::ss)=yE ss ++ [bk s]:=by simp [yE]
theorem wP : ∀{ss:List Stp} {w w':()},yl rs w ss=AK w'->yl rs w' (yE ss)=AK w
 | [],w,w',h=>by cases h;rfl
 | s::ss,w,w',h=>by
  let#[w1,h1,h2]:=jq h;rw[Ur];exact Y2 (wP h2) (kZ h1)
theorem je(a b:()):∀{ss:List Stp} {w w':()},yl rs w ss=AK w'->yl rs (a ++ w ++ b) (mvL ss (a.length:Int))=AK (a ++ w' ++ b)
 | [],w,w',h=>by cases h;rfl
 | s::ss,w,w',h=>by
  let#[w1,h1,h2]:=jq h;have e:mvL (s::ss) (a.length:Int)=(s.1,s.2.1+(a.length:Int),s.2.2)::mvL ss (a.length:Int):=rfl;rw[e]
  erw[yl]
  rw[qB a b h1];exact je a b h2
def EOk(rs:List zC)(e:Ent):Prop:=yl rs e.1 e.2.2=AK e.2.1
end in def zc(es:List Ent):List zC:=es.map λe=>(e.1,e.2.1)
theorem Kx(hE:∀e ∈ es,EOk rs e){w w':()}(h:yD (zc es) w u=AK w'):yl rs w (XV es u)=AK w':=by
 have hb:0<=u.1/\u.1<(zc es).length:=bS λhb=>by rw[xj hb]at h;cases h
 rw[y3 hb]at h;have hl:(zc es).length=es.length:=by unfold zc;rw[aa]
 rw[hl]at hb
 have hg:es[u.1.toNat]? = AK (es.getD u.1.toNat ([],[],[])):=by
  rw[ae,af ⋯];rfl
 have hp:(zc es).getD u.1.toNat ([],[])=((es.getD u.1.toNat ([],[],[])).1,(es.getD u.1.toNat ([],[],[])).2.1):=by
  unfold zc;rw[ae,au,hg];rfl
 rw[hp]at h;have he:=hE _ (ac hg);unfold XV;generalize es.getD u.1.toNat ([],[],[])=e at *
 have key:∀(o n:()) (ss:List Stp),sdl (e.1,e.2.1) u.2.2=(o,n)->yl rs o ss=AK n->yl rs w (mvL ss u.2.1)=AK w':=λo n ss hs hw=>by
  rw[hs]at h;by_cases hst:zw w u.2.1 o=AM
  ·rw[w6 hst]at h;cases h;let#[e1,e2,h0,h1]:=yo hst;have:=je (w.take u.2.1.toNat) (w.drop (u.2.1.toNat+o.length)) hw;rw[e1,e2,show ((u.2.1.toNat:Nat):Int)=u.2.1 by lia]at this;exact this
  ·rw[w9 hst]at h;cases h
 cases hf:u.2.2 with
 | true =>
  rw[w6 rfl];exact key e.1 e.2.1 e.2.2 (by rw[hf];rfl) he
 | false =>
  rw[w9 ∅];exact key e.2.1 e.1 (yE e.2.2) (by rw[hf];rfl) (wP he)
theorem jH(hE:∀e ∈ es,EOk rs e):∀{us:List Stp} {w w':()},yl (zc es) w us=AK w'->yl rs w (byL es us)=AK w'
 | [],w,w',h=>by cases h;rfl
 | u::us,w,w',h=>by
  let#[w1,h1,h2]:=jq h;have e:byL es (u::us)=XV es u ++ byL es us:=by simp [byL]
  rw[e,xA,Kx hE h1];exact jH hE h2
def Qs(ok:kK rs){w w':()}(h:yD rs w s=AK w'):w'.length<=w.length+100:=by
 have hb:0<=s.1/\s.1<rs.length:=bS λhb=>by rw[xj hb]at h;cases h
 rw[y3 hb]at h;have g:=Wg ok s.1.toNat;generalize rs.getD s.1.toNat ([],[])=r at *;by_cases hs:zw w s.2.1 (sdl r s.2.2).1=AM
 ·rw[w6 hs]at h;cases h;have:=Ka (n:=(sdl r s.2.2).2) hs
  have h2:(sdl r s.2.2).2.length<=100:=by
   cases s.2.2
   ·exact g.1
   ·exact g.2
  lia
 ·rw[w9 hs]at h;cases h
end in def kF(D:su)(H:Hp):Hp:=λb=>if b=D then AL else H b
def wV{D b:su}(h:b≠D):kF D H b=H b:=by unfold kF;rw[w9 h]
def j8{D:su}:kF D H D=AL:=by unfold kF;rw[w6 rfl]
def wQ{D:su}:Same (kF D H) H:=λb o e=>by
 by_cases hb:b=D
 ·rw[hb,j8]at e;cases e
 ·rw[wV hb]at e;exact e
def Jx{D:su}(hD:H D=AL)(s:Same H H'):Same H (kF D H'):=λb o e=>by
 have hb:b≠D:=λz=>by rw[z,hD]at e;cases e
 rw[wV hb];exact s _ _ e
def vh{D:su}(s:Same H H'):Same (kF D H) (kF D H'):=λb o e=>by
 by_cases hb:b=D
 ·rw[hb,j8]at e;cases e
 ·rw[wV hb]at e ⊢;exact s _ _ e
def xz{D:su}:Same (kF D H) (kF D (upd H D o)):=λb o' e=>by
 by_cases hb:b=D
 ·rw[hb,j8]at e;cases e
 ·rw[wV hb]at e ⊢;rw[zq hb];exact e
def Uz{D a:su}(hD:H D=AK (.lst ys))(h:SqT K H a xs):SqT K (kF D H) a xs:=by
 rcases h with (h | ⟨o,h⟩) | h
 ·exact .inl (.inl (by rw[wV (λe=>by rw[e,hD]at h;cases h)];exact h))
 ·exact .inl (.inr #[o,by rw[wV (λe=>by rw[e,hD]at h;cases h)];exact h])
 ·exact .inr h
theorem Vn{D:su}(hD:H D=AK (.lst ys)):∀(ss:List Stp) (vs:List V),Iss K H (ss.map dSt) vs->Iss K (kF D H) (ss.map dSt) vs
 | [],vs,h=>by erw[aA,Iss]at h ⊢;exact h
 | s::ss,vs,h=>by
  erw[am,Iss]at h ⊢
  let#[v,r,rfl,h1,h2]:=h;let#[p,rfl,h3]:=zbh h1;exact#[_,r,rfl,WO (Uz hD h3),Vn hD ss r h2]
def zgs(h1:SqT K H p [.str (tx e.1),.str (tx e.2.1),.ref s])(h2:Is K H (.lst (e.2.2.map dSt)) (.ref s)):Is K H (dE e) (.ref p):=by
 erw[dE,Is,Iss]
 erw[Is]at h2
 exact#[p,_,rfl,h1,_,_,rfl,rfl,_,_,rfl,rfl,_,_,rfl,h2,rfl]
def W6{es:List Ent}{j:Nat}(h:Iss K H (es.map dE) vs)(q:vs[j]? = AK v):∃e p s,es[j]? = AK e/\v=.ref p/\SqT K H p [.str (tx e.1),.str (tx e.2.1),.ref s]/\Is K H (.lst (e.2.2.map dSt)) (.ref s):=by let#[d,e,i]:=h.get q;rw[au]at e;let#[r,hr,rfl]:=AZ.mp e;let#[p,s,e1,e2,e3]:=zdQ i;exact#[r,p,s,hr,e1,e2,e3]
def zbM(h:Is K H d v):Iss K H [d] [v]:=by
 erw[Iss]
 exact#[v,[],rfl,h,rfl]
def EnA(K:sr)(H:Hp)(e:Ent)(v:V):Prop:=∃p s,v=.ref p/\SqT K H p [.str (tx e.1),.str (tx e.2.1),.ref s]/\LsA K H s (e.2.2.map dSt)
def EnsA(K:sr)(H:Hp):List Ent->List V->Prop
 | [],vs=>vs=[]
 | e::es,vs=>∃v r,vs=v::r/\EnA K H e v/\EnsA K H es r
def EnsL(K:sr)(H:Hp)(a:su)(es:List Ent):Prop:=∃xs,SqL K H a xs/\EnsA K H es xs
def EnsM(K:sr)(H:Hp)(a:su)(es:List Ent):Prop:=∃xs,H a=AK (.lst xs)/\EnsA K H es xs
def EnA.is(h:EnA K H e v):Is K H (dE e) v:=by let#[p,s,rfl,h1,h2]:=h;exact zgs h1 h2.is
def EnA.same{H H':Hp}{e:Ent}{v:V}(h:EnA K H e v)(q:Same H H'):EnA K H' e v:=by let#[p,s,e0,h1,h2]:=h;exact#[p,s,e0,zo q h1,h2.same q]
theorem EnsA.iss : ∀{es:List Ent} {vs:List V},EnsA K H es vs->Iss K H (es.map dE) vs
 | [],vs,h=>by erw[EnsA]at h;erw[aA,Iss];exact h
 | e::es,vs,h=>by
  erw[EnsA]at h
  let#[v,r,rfl,h1,h2]:=h
  erw[am,Iss]
  exact#[v,r,rfl,h1.is,h2.iss]
def EnsA.len(h:EnsA K H es vs):vs.length=es.length:=by have:=h.iss.len;rw[aa]at this;exact this
theorem EnsA.same{H H':Hp}(q:Same H H'):∀{es:List Ent} {vs:List V},EnsA K H es vs->EnsA K H' es vs
 | [],vs,h=>by erw[EnsA]at h ⊢;exact h
 | e::es,vs,h=>by
  erw[EnsA]at h ⊢
  let#[v,r,e0,h1,h2]:=h;exact#[v,r,e0,h1.same q,h2.same q]
theorem EnsA.snoc(hv:EnA K H e v):∀{es:List Ent} {vs:List V},EnsA K H es vs->EnsA K H (es ++ [e]) (vs ++ [v])
 | [],vs,h=>by
  erw[EnsA]at h
  subst h
  erw[bR,EnsA]
  exact#[v,[],rfl,hv,rfl]
 | e'::es,vs,h=>by
  erw[EnsA]at h
  let#[x,r,rfl,hx,hr]:=h
  erw[bu,EnsA]
  exact#[x,r ++ [v],rfl,hx,hr.snoc hv]
theorem EnsA.get : ∀{es:List Ent} {vs:List V} {j:Nat} {v:V},EnsA K H es vs->vs[j]? = AK v->∃e p s,es[j]? = AK e/\v=.ref p/\SqT K H p [.str (tx e.1),.str (tx e.2.1),.ref s]/\LsA K H s (e.2.2.map dSt)
 | [],vs,j,v,h,q=>by
  erw[EnsA]at h
  subst h;simp at q
 | e::es,vs,0,v,h,q=>by
  erw[EnsA]at h
  let#[x,r,rfl,#[p,s,rfl,h1,h2],_]:=h;cases q;exact#[e,p,s,rfl,rfl,h1,h2]
 | e::es,vs,j+1,v,h,q=>by
  erw[EnsA]at h
  let#[x,r,rfl,_,hr]:=h;exact hr.get (j:=j) (by simpa using q)
def EnsL.is(h:EnsL K H a es):Is K H (.lst (es.map dE)) (.ref a):=by
 let#[xs,h1,h2]:=h
 erw[Is]
 exact#[a,xs,rfl,h1,h2.iss]
def EnsL.same{H H':Hp}{a:su}{es:List Ent}(h:EnsL K H a es)(q:Same H H'):EnsL K H' a es:=by let#[xs,h1,h2]:=h;exact#[xs,q.seq h1,h2.same q]
def EnsM.l(h:EnsM K H a es):EnsL K H a es:=by let#[xs,h1,h2]:=h;exact#[xs,SqL.of h1,h2]
def EnsM.same{H H':Hp}{a:su}{es:List Ent}(h:EnsM K H a es)(q:Same H H'):EnsM K H' a es:=by let#[xs,h1,h2]:=h;exact#[xs,q _ _ h1,h2.same q]
def EnA.new{D p s:su}{H:Hp}{e:Ent}{ys:List V}(hD:H D=AK (.lst ys))(hp:H p=AK (.tup [.str (tx e.1),.str (tx e.2.1),.ref s]))(hs:LsA K H s (e.2.2.map dSt))(hsD:s≠D):EnA K (kF D H) e (.ref p):=by
 let#[zs,hz,hi]:=hs;have hpD:p≠D:=λz=>by rw[z,hD]at hp;cases hp
 exact#[p,s,rfl,SqT.of (by rw[wV hpD];exact hp),zs,by rw[wV hsD];exact hz,Vn hD _ _ hi]
def xq(es:List Ent):(zc es).length=es.length:=by unfold zc;rw[aa]
def wD(K:sr):Sp:=λvs H Q Z=>∃(a:su) (es:List Ent),vs=[.ref a]/\Is K H (.lst (es.map dE)) (.ref a)/\es.length<=1000/\∀(D:su) (H':Hp),H D=AL->Same H H'->LsA K H' D ((zc es).map dR)->Q (.ref D) H'
def wc(h1:Is K H (.lst (es.map dE)) (.ref a))(h2:es.length<=1000)(h:∀(D:su) (H':Hp),H D=AL->Same H H'->LsA K H' D ((zc es).map dR)->Q (.ref D) H'):wD K [.ref a] H Q E:=#[a,es,rfl,h1,h2,h]
def X7:sQz 1 ["entries"] vz:=by nofun
def Wn(B:Bt mg)(F:("pairs_of"^^^vz)):(1&&&["entries"]) (wD K):=by
 exists F.ok X7
 ·let#[a,es,rfl,hA,hl,q]:=h;refine#[_,(zg (zl (yy (own:=["entry"]) (caps:=[]) (ix:=[]) (tt:=y4) (te:=(Um (zI (tOp (ud K) (zW 0) (tC (.int 0))) (zI (tOp (ud K) (zW 0) (tC (.int 1))) xb)))) rfl (zH (sc:=zi vz) rfl (!0) (!0) (!0) rfl (!0) (!0) rfl) (zX (pv 0)) (λZ Z Z Z Z Z=>zr (i:=0) (show List.Nodup [_] by decide) rfl (.inl rfl)) (λZ Z Z Z Z Z=>z7) (λZ Z Z Z Z Z=>(zN (za (!-0) (za (!-0) ze))))))),?_];have s16:=zS
  rfl'
  erw[Is]at hA
  let#[_,xs,e,hX,hI]:=hA;cases e;have hxl:=hI.len;rw[aa]at hxl;have hpl:=xq es;refine#[#[xs,hX],λD hD=>CompL.by (xs:=xs) (λi AR H'=>Same H H'/\H' D=AK (.lst AR)/\Iss K H' (((zc es).take i).map dR) AR) #[zd hD,zb,by erw[bA,aA,Iss]] (λi AR H' Z h=>h.1.seq hX) ?_ ?_]
  ·refine nm4 ?_;rintro i x AR H' hx ⟨hs,hH,hA⟩:_;have hi:=(AS.mp hx).1;let#[e,pe,se,hei,rfl,hqe,_]:=W6 hI hx;have hm:(zc es)[i]? = AK (e.1,e.2.1):=by unfold zc;rw[au,hei];rfl
   have hal:=hA.len;rw[aa,aH]at hal;right
   erw[y4]
   rfl'
   refine#[yq,_,zo hs hqe,_,rfl,_,zo hs hqe,_,rfl,⋯,λp hp=>#[zd hp _ _ hH,⋯,CNx.mk hi #[zu (hs.trans (zd hp)) hD,zb,?_]]];rw[zO hm,aq];exact jc hH hA hp zet (wu _) (by erw[ya,xx,and_self])
  ·rintro AR H' ⟨hs,hH,hA⟩;rw[hxl,<- hpl,aK]at hA;exact q D H' hD hs #[AR,hH,hA]
end in def yg(k:Nat)(l:())(ns:List Int)(e:Ent):Ent:=if zP k l ns e.2.1 e.1=AM then e else (e.2.1,e.1,yE e.2.2)
structure EB(l:())(e:Ent):Prop where
 a:e.1.length<=60
 b:e.2.1.length<=60
 s:e.2.2.length<=600
 ma:∀c ∈ e.1,c ∈ l
 mb:∀c ∈ e.2.1,c ∈ l
def EB.rule(h:EB l e):EB l (yg k l ns e):=by
 unfold yg;split
 ·exact h
 ·exact#[h.b,h.a,by rw[yh];exact h.s,h.mb,h.ma]
def vk(K:sr)(CO CR CW:su):Sp:=λvs H Q Z=>∃(o p s:su) (k:Nat) (l:()) (ns:List Int) (e:Ent),vs=[.ref o,.ref p]/\OrdAt CO CR CW H o k l ns/\OG l ns k/\SqT K H p [.str (tx e.1),.str (tx e.2.1),.ref s]/\Is K H (.lst (e.2.2.map dSt)) (.ref s)/\EB l e /\
 (yg k l ns e=e->∀H',Same H H'->Q (.ref p) H') /\
 (∀(p' s':su) (H':Hp),Same H H'->H s'=AL->H' p'=AK (.tup [.str (tx (yg k l ns e).1),.str (tx (yg k l ns e).2.1),.ref s'])->LsA K H' s' ((yg k l ns e).2.2.map dSt)->Q (.ref p') H')
def kN{CO CR CW o p s:su}(h1:OrdAt CO CR CW H o k l ns)(h2:OG l ns k)(h3:SqT K H p [.str (tx e.1),.str (tx e.2.1),.ref s])(h4:Is K H (.lst (e.2.2.map dSt)) (.ref s))(h5:EB l e)(h6:yg k l ns e=e->∀H',Same H H'->Q (.ref p) H')(h7:∀(p' s':su) (H':Hp),Same H H'->H s'=AL->H' p'=AK (.tup [.str (tx (yg k l ns e).1),.str (tx (yg k l ns e).2.1),.ref s'])->LsA K H' s' ((yg k l ns e).2.2.map dSt)->Q (.ref p') H'):vk K CO CR CW [.ref o,.ref p] H Q E :=
 #[o,p,s,k,l,ns,e,rfl,h1,h2,h3,h4,h5,h6,h7]
def V1:sQz 2 ["order","entry"] jv:=by nofun
def VL{f CO CR CW:su}(B:Bt mg)(DBk:DB P w K mg base CO CR CW)(F:("as_rule"^^^jv))(mz:(1<<<"back") ["steps"] [] (uW K)):(4&&&["order","entry"]) (vk K CO CR CW):=by
 exists F.ok V1
 ·let#[o,p,s,k,l,ns,e,rfl,ho,hG,hp,hs,hE,q1,q2]:=h
  refine#[_,(zG (zJ (ym (zdo DBk hr (pv 0) (za (!-1) (za (!-1) ze))) (λZ=>rfl)) (zg (zl (pv 1)))
    zp) (zg (zl (zN (za (!-1) (za (!-1) (za (cl0 mz hr .nil rfl (za (!-1) ze)) ze))))))),?_]
  have s16:=zS;ac_rfl;let#[C,dx,fs,hf,ho1,hn,_]:=ho.fam;have h1:fs.lookup ("before" : sB)=AL:=hn _ ∅ ∅;refine#[C,hf,dx,fs,ho1,h1,_,hp,_,rfl,_,hp,_,rfl,o,k,l,ns,e.2.1,e.1,rfl,ho,hG,by have:=hE.b;lia,by have:=hE.a;lia,hE.mb,hE.ma,λH1 s1=>#[_,rfl,z8 (λh=>?_) λh=>?_]]
  ·exact q1 (by unfold yg;rw[w6 h]) H1 s1
  ·have er:yg k l ns e=(e.2.1,e.1,yE e.2.2):=by unfold yg;rw[w9 h]
   rw[er]at q2;have hp1:=zo s1 hp;refine#[_,hp1,_,rfl,_,hp1,_,rfl,_,hp1,_,rfl,jb (Is.same s1 _ _ hs) (by have:=hE.s;lia) λD H2 hD s2 hL=>#[⋯,λt ht=>?_]];exact q2 t D _ (s1.trans (s2.trans (zd ht))) (s1.free hD) zb (hL.same (zd ht))
def Wc{w:()}(hb:∀n ∈ ns,1<=n/\n<=1000000):0<=J5 l ns w:=by
 unfold J5
 have key:∀xs:List Int,(∀x ∈ xs,0<=x)->0<=xs.sum:=by
  intro xs
  induction xs with
  | nil=>intro _;simp
  | cons x xs ih =>
   intro h;rw[bv];have h1:=h x ay;have h2:=ih λy hy=>h y (ar _ hy);lia
 refine key _ λx hx=>?_;let#[p,hp,rfl]:=AT.mp hx;have h1:=(hb p.2 (dw (show (p.1,p.2) ∈ l.zip ns from hp)).2).1;exact Int.mul_nonneg ⋯ ⋯
def Jf(hb:∀n ∈ ns,1<=n/\n<=1000000)(h:zP k l ns u v=AM):v≠[]:=by
 intro e;subst e
 have h0:zx k l ns []=0:=by
  unfold zx;split
  ·unfold J5
   have z:∀xs:List (Nat × Int),(xs.map λp=>(([]:()).count p.1:Int) * p.2).sum=0:=by
    intro xs
    induction xs with
    | nil=>rfl
    | cons x xs ih=>rw[am,bv,ih];simp
   exact z _
  ·rfl
 have h1:0<=zx k l ns u:=by
  unfold zx;split
  ·exact Wc hb
  ·lia
 have h2:w8 k l []=[]:=by
  unfold w8 yA;split <;> rfl
 unfold zP at h;rw[h0,h2]at h;split at h
 ·cases hr:w8 k l u with
  | nil=>rw[hr]at h;cases h
  | cons a r=>rw[hr]at h;cases h
 ·have:=u6 h;lia
def ka(hE:EB l e)(hne:e.1≠e.2.1):zP k l ns (yg k l ns e).2.1 (yg k l ns e).1=AM:=by
 unfold yg;by_cases h:zP k l ns e.2.1 e.1=AM
 ·rw[w6 h];exact h
 ·rw[w9 h];have:=jQ (k:=k) (ns:=ns) hE.ma hE.mb hne;show zP k l ns e.1 e.2.1=AM;rw[this];simpa using h
end in def qL(k:Nat)(l:())(ns:List Int)(es:List Ent):List Ent:=(es.filter λe=>!decide (e.1=e.2.1)).map (yg k l ns)
def zcz(k:Nat)(l:())(ns:List Int)(es fs:List Ent):qL k l ns (es ++ fs)=qL k l ns es ++ qL k l ns fs:=by unfold qL;rw[cX,aq]
def X5(k:Nat)(l:())(ns:List Int)(es:List Ent):(qL k l ns es).length<=es.length:=by unfold qL;rw[aa];exact db _ _
end in def Zk(k:Nat)(l:())(ns:List Int)(a b:Ent):Bool:=if a.1=b.1 then zP k l ns a.2.1 b.2.1 else zP k l ns a.1 b.1
structure Lined(k:Nat)(l:())(ns:List Int)(es zs:List Ent):Prop where
 perm:zs.Perm (qL k l ns es)
 srt:zs.Pairwise λa b=>Zk k l ns b a=AN
 is:zs=L3.srt (Zk k l ns) ([],[],[]) (qL k l ns es)
structure EndsAt(ps:List zC)(w:())(i:Nat):Prop where
 live:Yd ps w i
 end_:zF (wAt ps w i) ps=AL
 most:i<=40
def Q8(ps:List zC)(w:()):(∃i,EndsAt ps w i)\/(Yd ps w 40/\zF (wAt ps w 40) ps≠AL):=by
 have key:∀n,n<=41->(∃i,EndsAt ps w i)\/Yd ps w n:=by
  intro n
  induction n with
  | zero=>intro _;exact .inr λi h=>w4 h (bI i)
  | succ n ih =>
   intro hn;rcases ih ⋯ with h | h
   ·exact .inl h
   ·cases e:zF (wAt ps w n) ps with
    | none=>exact .inl #[n,h,e,⋯]
    | some u =>
     refine .inr λi hi=>?_;by_cases hin:i=n
     ·rw[hin,e];intro z;cases z
     ·exact h i ⋯
 rcases key 41 (ao _)with h | h
 ·exact .inl h
 ·exact .inr #[λi hi=>h i ⋯,h 40 ∅]
def EndsAt.uniq{w:()}(h1:EndsAt ps w i)(h2:EndsAt ps w j):i=j:=uJ h1.live h1.end_ h2.live h2.end_
end in def stS(us:List (Nat × Nat)):List Stp:=us.map λu=>((u.1:Int),(u.2:Int),AM)
end in def yM(bs:List Ent)(e:Ent)(i j:Nat):Ent:=(wAt (zc bs) e.1 i,wAt (zc bs) e.2.1 j,byL bs (yE (stS (sAt (zc bs) e.1 i))) ++ e.2.2 ++ byL bs (stS (sAt (zc bs) e.2.1 j)))
def ke(e:Ent):Prop:=240<e.2.2.length\/60<e.1.length\/60<e.2.1.length
inductive xf(k:Nat)(l:())(ns:List Int):List Ent->List Ent->Option (List Ent)->Prop where
 | nil (bs:List Ent):xf k l ns bs [] (AK bs)
 | same {bs es:List Ent} {e:Ent} {i j:Nat} {r:Option (List Ent)} (h1:EndsAt (zc bs) e.1 i) (h2:EndsAt (zc bs) e.2.1 j) (h3:wAt (zc bs) e.1 i=wAt (zc bs) e.2.1 j) (h4:xf k l ns bs es r):xf k l ns bs (e::es) r
 | new {bs es:List Ent} {e:Ent} {i j:Nat} {r:Option (List Ent)} (h1:EndsAt (zc bs) e.1 i) (h2:EndsAt (zc bs) e.2.1 j) (h3:wAt (zc bs) e.1 i≠wAt (zc bs) e.2.1 j) (h4:¬ ke (yM bs e i j)) (h5:xf k l ns (bs ++ [yg k l ns (yM bs e i j)]) es r):xf k l ns bs (e::es) r
 | far {bs es:List Ent} {e:Ent} {i j:Nat} (h1:EndsAt (zc bs) e.1 i) (h2:EndsAt (zc bs) e.2.1 j) (h3:wAt (zc bs) e.1 i≠wAt (zc bs) e.2.1 j) (h4:ke (yM bs e i j)):xf k l ns bs (e::es) AL
 | stuck {bs es:List Ent} {e:Ent} (h:(∀i,¬ EndsAt (zc bs) e.1 i)\/(∀j,¬ EndsAt (zc bs) e.2.1 j)):xf k l ns bs (e::es) AL
inductive uO(k:Nat)(l:())(ns:List Int):Nat->List Ent->Option (List Ent)->Prop where
 | out (es:List Ent):uO k l ns 0 es AL
 | bad {n:Nat} {es zs:List Ent} (h1:Lined k l ns es zs) (h2:xf k l ns [] zs AL):uO k l ns (n+1) es AL
 | done {n:Nat} {es zs bs:List Ent} (h1:Lined k l ns es zs) (h2:xf k l ns [] zs (AK bs)) (h3:zc bs=zc zs):uO k l ns (n+1) es (AK bs)
 | more {n:Nat} {es zs bs:List Ent} {r:Option (List Ent)} (h1:Lined k l ns es zs) (h2:xf k l ns [] zs (AK bs)) (h3:zc bs≠zc zs) (h4:uO k l ns n bs r):uO k l ns (n+1) es r
def z5{w:()}(h:zF w ps=AK u):∃p,ps[u.1]? = AK p/\zw w (u.2:Int) p.1=AM:=by have hm:u ∈ xw w ps w.length:=List.mem_of_mem_head? (by unfold zF at h;rw[h];rfl);exact (vR (usesK_mem.mp hm).2).2
theorem qd{l w:()}(hw:∀c ∈ w,c ∈ l)(hp:∀p ∈ ps,∀c ∈ p.2,c ∈ l):∀j,∀c ∈ wAt ps w j,c ∈ l
 | 0=>hw
 | j+1=>by
  have ih:=qd hw hp j
  cases e:zF (wAt ps w j) ps with
  | none =>
   show ∀c ∈ Xv ps (wAt ps w j),c ∈ l;unfold Xv;rw[e];exact ih
  | some u =>
   let#[p,h1,h2]:=z5 e;rw[yZ e];unfold qO yS;rw[yu h1];intro c hc;rcases AV.mp hc with hc | hc
   ·rcases AV.mp hc with hc | hc
    ·exact ih c (bJ hc)
    ·exact hp p (ac h1) c hc
   ·exact ih c (di hc)
structure zfj(R:()->()->Prop):Prop where
 refl:∀u,R u u
 symm:∀{u v},R u v->R v u
 trans:∀{u v w},R u v->R v w->R u w
 ctx:∀{u v} (a b:()),R u v->R (a ++ u ++ b) (a ++ v ++ b)
def Uf(R:()->()->Prop)(es:List Ent):Prop:=∀e ∈ es,R e.1 e.2.1
theorem zcM(hR:zfj R)(hk:∀p ∈ ps,R p.1 p.2)(w:()):∀j,R w (wAt ps w j)
 | 0=>hR.refl w
 | j+1=>by
  have ih:=zcM hR hk w j
  cases e:zF (wAt ps w j) ps with
  | none =>
   show R w (Xv ps (wAt ps w j));unfold Xv;rw[e];exact ih
  | some u =>
   let#[p,h1,h2]:=z5 e;rw[yZ e];refine hR.trans ih ?_;let#[e1,_]:=yo h2;unfold qO yS;rw[yu h1];have:=hR.ctx ((wAt ps w j).take ((u.2:Int)).toNat) ((wAt ps w j).drop (((u.2:Int)).toNat+p.1.length)) (hk p (ac h1));rw[e1]at this;exact this
def jo(h:Uf R bs):∀p ∈ zc bs,R p.1 p.2:=λp hp=>by
 unfold zc at hp;let#[e,he,rfl]:=AT.mp hp;exact h e he
def Za(hR:zfj R):R (yg k l ns e).1 (yg k l ns e).2.1 ↔ R e.1 e.2.1:=by
 unfold yg;split
 ·exact Iff.rfl
 ·exact#[hR.symm,hR.symm]
def Qn(hR:zfj R){e:Ent}(h:Uf R bs):R (wAt (zc bs) e.1 i) (wAt (zc bs) e.2.1 j) ↔ R e.1 e.2.1:=by have h1:=zcM hR (jo h) e.1 i;have h2:=zcM hR (jo h) e.2.1 j;exact#[λx=>hR.trans h1 (hR.trans x (hR.symm h2)),λx=>hR.trans (hR.symm h1) (hR.trans x h2)]
theorem zfz(hR:zfj R)(h:xf k l ns bs es r):∀fs,r=AK fs->(Uf R fs ↔ Uf R bs/\Uf R es):=by
 induction h with
 | nil bs =>
  intro fs e;cases e;exact#[λh=>#[h,λe he=>(nomatch he)],λh=>h.1]
 | @same bs es e i j r h1 h2 h3 h4 ih =>
  intro fs er;rw[ih fs er];refine#[λ⟨a,b⟩=>#[a,λx hx=>?_],λ⟨a,b⟩=>#[a,λx hx=>b x (ar _ hx)]];rcases AU.mp hx with rfl | hx
  ·refine (Qn hR a (i:=i) (j:=j)).mp ?_;rw[h3];exact hR.refl _
  ·exact b x hx
 | @new bs es e i j r h1 h2 h3 h4 h5 ih =>
  intro fs er;rw[ih fs er];constructor
  ·rintro⟨a,b⟩;have a':Uf R bs:=λx hx=>a x (bH _ hx);refine#[a',λx hx=>?_];rcases AU.mp hx with rfl | hx
   ·have:=a _ (aG bs (AW.mpr rfl));exact (Qn hR a' (i:=i) (j:=j)).mp ((Za hR).mp this)
   ·exact b x hx
  ·rintro⟨a,b⟩;refine#[λx hx=>?_,λx hx=>b x (ar _ hx)];rcases AV.mp hx with hx | hx
   ·exact a x hx
   ·rw[AW.mp hx];exact (Za hR).mpr ((Qn hR a (i:=i) (j:=j)).mpr (b e ay))
 | far=>intro fs e;cases e
 | stuck=>intro fs e;cases e
def Within(p w:()):Prop:=∃a b:(),w=a ++ p ++ b
def UA{w p:()}(h:Within p w):∃q:Nat,zw w (q:Int) p=AM:=by let#[a,b,rfl]:=h;refine#[a.length,?_];unfold zw;refine u9 #[⋯,by erw[ak];lia,?_];rw[aE,aV,List.drop_left,List.take_left]
def JG{w:()}(hN:NeL ps)(h:zF w ps=AL):∀p ∈ ps,¬ Within p.1 w:=λp hp hw=>by
 let#[q,hq]:=UA hw;let#[j,hj]:=Bh.mp hp;have hlt:=ju (hN p hp) hq;have hs:stJ w ps q j=AM:=by rw[kL hj];exact hq
 have:(j,q) ∈ xw w ps w.length:=usesK_mem.mpr #[hlt,hs];unfold zF at h;rw[List.head?_eq_none_iff]at h;rw[h]at this;cases this
structure RL(k:Nat)(l:())(ns:List Int)(bs:List Ent):Prop where
 e:∀e ∈ bs,EB l e
 lt:∀e ∈ bs,zP k l ns e.2.1 e.1=AM
def Kc{w:()}(G:OG l ns k)(hp:∀p ∈ ps,zP k l ns p.2 p.1=AM/\(∀c ∈ p.1,c ∈ l)/\∀c ∈ p.2,c ∈ l)(hw:∀c ∈ w,c ∈ l)(h:zF w ps=AK u):zP k l ns (qO w ps u) w=AM:=by let#[p,h1,h2]:=z5 h;let#[e1,_]:=yo h2;let#[p1,p2,p3]:=hp p (ac h1);unfold qO yS;rw[yu h1];have ha:∀c ∈ w.take ((u.2:Int)).toNat,c ∈ l:=λc hc=>hw c (bJ hc);have hb:∀c ∈ w.drop (((u.2:Int)).toNat+p.1.length),c ∈ l:=λc hc=>hw c (di hc);generalize w.take ((u.2:Int)).toNat=a at *;generalize w.drop (((u.2:Int)).toNat+p.1.length)=b at *;rw[<- e1];have ap:∀x:(),(∀c ∈ x,c ∈ l)->∀c ∈ a ++ x,c ∈ l:=λx hx c hc=>(AV.mp hc).elim (ha c) (hx c);rw[(Y9 G hb (ap p.2 p3) (ap p.1 p2)).2,(Y9 G ha p3 p2).1];exact p1
theorem za2{w:()}(G:OG l ns k)(hp:∀p ∈ ps,zP k l ns p.2 p.1=AM/\(∀c ∈ p.1,c ∈ l)/\∀c ∈ p.2,c ∈ l)(hw:∀c ∈ w,c ∈ l):∀j,wAt ps w j=w\/zP k l ns (wAt ps w j) w=AM
 | 0=>.inl rfl
 | j+1=>by
  have ih:=za2 G hp hw j;have hm:=qd hw (λp hp'=>(hp p hp').2.2) j
  cases e:zF (wAt ps w j) ps with
  | none =>
   show Xv ps (wAt ps w j)=w\/zP k l ns (Xv ps (wAt ps w j)) w=AM;unfold Xv;rw[e];exact ih
  | some u =>
   rw[yZ e];have h:=Kc G hp hm e;rcases ih with h' | h'
   ·rw[h']at h ⊢;exact .inr h
   ·exact .inr (jV h h')
def RL.pairs(h:RL k l ns bs):∀p ∈ zc bs,zP k l ns p.2 p.1=AM/\(∀c ∈ p.1,c ∈ l)/\∀c ∈ p.2,c ∈ l:=λp hp=>by
 unfold zc at hp;let#[e,he,rfl]:=AT.mp hp;exact#[h.lt e he,(h.e e he).ma,(h.e e he).mb]
def RL.ne(h:RL k l ns bs)(G:OG l ns k):NeL (zc bs):=λp hp=>Jf G.nb (h.pairs p hp).1
def RL.snoc(h:RL k l ns bs)(hd:EB l d)(hne:d.1≠d.2.1):RL k l ns (bs ++ [yg k l ns d]):=by
 refine#[λe he=>?_,λe he=>?_]
 ·rcases AV.mp he with he | he
  ·exact h.e e he
  ·rw[AW.mp he];exact hd.rule
 ·rcases AV.mp he with he | he
  ·exact h.lt e he
  ·rw[AW.mp he];exact ka hd hne
def zcR(hB:RL k l ns bs)(hE:EB l e)(hF:¬ ke (yM bs e i j)):EB l (yM bs e i j):=by unfold ke at hF;exact#[⋯,⋯,⋯,qd hE.ma (λp hp=>(hB.pairs p hp).2.2) i,qd hE.mb (λp hp=>(hB.pairs p hp).2.2) j]
def V5(G:OG l ns k)(hB:RL k l ns bs)(hE:EB l e)(hlt:zP k l ns e.2.1 e.1=AM)(h1:EndsAt (zc bs) e.1 i)(h2:EndsAt (zc bs) e.2.1 j)(hp1:(yg k l ns (yM bs e i j)).1=e.1)(hp2:(yg k l ns (yM bs e i j)).2.1=e.2.1):zF e.1 (zc bs)=AL/\zF e.2.1 (zc bs)=AL:=by
 unfold yg at hp1 hp2;by_cases h:zP k l ns (yM bs e i j).2.1 (yM bs e i j).1=AM
 ·rw[w6 h]at hp1 hp2;have a1:wAt (zc bs) e.1 i=e.1:=hp1;have a2:wAt (zc bs) e.2.1 j=e.2.1:=hp2;have b1:=h1.end_;have b2:=h2.end_;rw[a1]at b1;rw[a2]at b2;exact#[b1,b2]
 ·rw[w9 h]at hp1 hp2;have a1:wAt (zc bs) e.2.1 j=e.1:=hp1;rcases za2 G hB.pairs hE.mb j with h' | h'
  ·rw[a1]at h';rw[h',xB]at hlt;cases hlt
  ·rw[a1]at h';rw[XR h']at hlt;cases hlt
theorem kM(G:OG l ns k)(h:xf k l ns bs es r):∀fs,r=AK fs->RL k l ns bs->RL k l ns es->∃gs,fs=bs ++ gs/\gs.length<=es.length/\RL k l ns fs /\
  (zc gs=zc es->∀i e,es[i]? = AK e->zF e.1 (zc (bs ++ gs.take i))=AL/\zF e.2.1 (zc (bs ++ gs.take i))=AL):=by
 induction h with
 | nil bs =>
  intro fs er hb he;cases er;exact#[[],by simp,ao _,hb,λZ i e h=>by simp at h]
 | @same bs es e i j r h1 h2 h3 h4 ih =>
  intro fs er hb he;let#[gs,g1,g2,g3,g4]:=ih fs er hb #[λx hx=>he.e x (ar _ hx),λx hx=>he.lt x (ar _ hx)];refine#[gs,g1,by rw[aC];lia,g3,λhp=>?_];have:=congrArg dP hp;unfold zc at this;rw[aa,aa,aC]at this;lia
 | @new bs es e i j r h1 h2 h3 h4 h5 ih =>
  intro fs er hb he;have hEe:=he.e e ay;have hd:=zcR hb hEe h4;let#[gs,g1,g2,g3,g4]:=ih fs er (hb.snoc hd h3) #[λx hx=>he.e x (ar _ hx),λx hx=>he.lt x (ar _ hx)];refine#[yg k l ns (yM bs e i j)::gs,by rw[g1,aV];rfl,by rw[aC,aC];lia,g3,λhp n x hx=>?_];unfold zc at hp;rw[am,am]at hp;injection hp with hp1 hp2;have hp1a:=(Prod.ext_iff.mp hp1).1;have hp1b:=(Prod.ext_iff.mp hp1).2
  cases n with
  | zero =>
   have e0:e=x:=by simpa using hx
   subst e0;rw[bA,bc];exact V5 G hb hEe (he.lt _ ay) h1 h2 hp1a hp1b
  | succ n =>
   have:=g4 hp2 n x (by simpa using hx);rw[aV]at this;rw[dq];exact this
 | far=>intro fs e;cases e
 | stuck=>intro fs e;cases e
def qu(G:OG l ns k){p w:()}(hw:∀c ∈ w,c ∈ l)(h:Within p w):p=w\/zP k l ns p w=AM:=by
 let#[a,b,rfl]:=h;by_cases e:a ++ p ++ b=p
 ·exact .inl e.symm
 ·refine .inr (Kp G (λc hc=>hw c ?_) (λc hc=>hw c ?_) (λc hc=>hw c ?_) e).1
  ·exact bH _ (bH _ hc)
  ·exact bH _ (aG _ hc)
  ·exact aG _ hc
structure ThinL(k:Nat)(l:())(ns:List Int)(zs:List Ent):Prop where
 rl:RL k l ns zs
 up:∀(i j:Nat) (a b:Ent),zs[i]? = AK a->zs[j]? = AK b->i<j->zP k l ns a.1 b.1=AM
 no1:∀(i j:Nat) (a b:Ent),zs[i]? = AK a->zs[j]? = AK b->i≠j->¬ Within b.1 a.1
 no2:∀(i j:Nat) (a b:Ent),zs[i]? = AK a->zs[j]? = AK b->¬ Within b.1 a.2.1
def zbU(G:OG l ns k)(hz:RL k l ns zs)(hs:zs.Pairwise λa b=>Zk k l ns b a=AN)(h:xf k l ns [] zs (AK bs))(hp:zc bs=zc zs):ThinL k l ns zs:=by
 let#[gs,g1,g2,g3,g4]:=kM G h bs rfl #[λe he=>(nomatch he),λe he=>(nomatch he)] hz;rw[bR]at g1;subst g1;have irr:=g4 hp
 erw[bR]at irr
 have early:∀(i j:Nat) (a b:Ent),zs[i]? = AK a->zs[j]? = AK b->j<i->¬ Within b.1 a.1/\¬ Within b.1 a.2.1:=λi j a b ha hb hj=>by
  have hm:(b.1,b.2.1) ∈ zc (bs.take i):=by
   have e1:zc (bs.take i)=(zc zs).take i:=by
    rw[<- hp];unfold zc;rw[cP]
   rw[e1];refine Bh.mpr #[j,?_];rw[cK hj];unfold zc;rw[au,hb];rfl
  have hN:NeL (zc (bs.take i)):=λp hp'=>by
   refine (g3.ne G) p ?_;unfold zc at hp' ⊢;let#[x,hx,rfl]:=AT.mp hp';exact AT.mpr #[x,bJ hx,rfl]
  let#[f1,f2]:=irr i a ha;exact#[JG hN f1 _ hm,JG hN f2 _ hm]
 have later:∀(i j:Nat) (a b:Ent),zs[i]? = AK a->zs[j]? = AK b->i<j->zP k l ns b.1 a.1=AN:=λi j a b ha hb hij=>by
  have hi:=(AS.mp ha);have hj:=(AS.mp hb);have:=List.pairwise_iff_getElem.mp hs i j hi.1 hj.1 hij;rw[hi.2,hj.2]at this;unfold Zk at this;by_cases e:b.1=a.1
  ·rw[e,xB]
  ·rw[w9 e]at this;exact this
 have memz:∀{i:Nat} {a:Ent},zs[i]? = AK a->EB l a/\zP k l ns a.2.1 a.1=AM:=λ{i a} ha=>#[hz.e _ (ac ha),hz.lt _ (ac ha)]
 have up:∀(i j:Nat) (a b:Ent),zs[i]? = AK a->zs[j]? = AK b->i<j->zP k l ns a.1 b.1=AM:=λi j a b ha hb hij=>by
  have hne:a.1≠b.1:=λe=>(early j i b a hb ha hij).1 #[[],[],by rw[e];simp];have t:=jQ (k:=k) (ns:=ns) (memz ha).1.ma (memz hb).1.ma hne;rw[later i j a b ha hb hij]at t;simpa using t
 refine#[hz,up,λi j a b ha hb hij=>?_,λi j a b ha hb hw=>?_]
 ·rcases Nat.lt_or_gt_of_ne hij with h1 | h1
  ·intro hw;rcases qu G (memz ha).1.ma hw with e | e
   ·have:=up i j a b ha hb h1;rw[e,xB]at this;cases this
   ·rw[later i j a b ha hb h1]at e;cases e
  ·exact (early i j a b ha hb h1).1
 ·have hle:zP k l ns b.1 a.1=AM:=by
   rcases qu G (memz ha).1.mb hw with e | e
   ·rw[e];exact (memz ha).2
   ·exact jV e (memz ha).2
  rcases dO i j with h1 | h1 | h1
  ·rw[later i j a b ha hb h1]at hle;cases hle
  ·subst h1;rw[ha]at hb;cases hb;rw[xB]at hle;cases hle
  ·exact (early i j a b ha hb h1).2 hw
theorem uL{w:()}:∀{i:Nat},Yd ps w i->yl ps w (stS (sAt ps w i))=AK (wAt ps w i)
 | 0,_=>rfl
 | i+1,h=>by
  have ih:=uL (i:=i) λj hj=>h j ⋯;have hne:=h i ⋯
  cases e:zF (wAt ps w i) ps with
  | none=>exact w4 e hne
  | some u =>
   rw[WT,yZ e,e];unfold stS at ih ⊢;rw[aq];refine Y2 ih ?_;let#[p,h1,h2]:=z5 e;have hl:=(AS.mp h1).1;show yD ps (wAt ps w i) ((u.1:Int),(u.2:Int),AM)=_;rw[y3 (by show (0:Int)<=(u.1:Int)/\(u.1:Int)<ps.length;lia)];have e2:ps.getD ((u.1:Int)).toNat ([],[])=p:=by rw[aE,ae,h1];rfl
   show (if zw (wAt ps w i) (u.2:Int) (sdl (ps.getD ((u.1:Int)).toNat ([],[])) AM).1=AM then _ else AL)=_;rw[e2,w6 (show zw (wAt ps w i) (u.2:Int) (sdl p AM).1=AM from h2)];unfold qO;rw[yu h1];rfl
def QE(h:EOk rs e):EOk rs (yg k l ns e):=by
 unfold yg;split
 ·exact h
 ·exact wP h
def zbJ(hb:∀e ∈ bs,EOk rs e)(he:EOk rs e)(h1:EndsAt (zc bs) e.1 i)(h2:EndsAt (zc bs) e.2.1 j):EOk rs (yM bs e i j):=by have w1:=jH hb (wP (uL h1.live));have w2:=jH hb (uL h2.live);have he':yl rs e.1 e.2.2=AK e.2.1:=he;show yl rs (wAt (zc bs) e.1 i) (byL bs (yE (stS (sAt (zc bs) e.1 i))) ++ e.2.2 ++ byL bs (stS (sAt (zc bs) e.2.1 j)))=AK (wAt (zc bs) e.2.1 j);rw[xA,xA,w1,bZ,he',bZ];exact w2
theorem WY(h:xf k l ns bs es r):∀fs,r=AK fs->(∀e ∈ bs,EOk rs e)->(∀e ∈ es,EOk rs e)->∀e ∈ fs,EOk rs e:=by
 induction h with
 | nil bs=>intro fs er hb _;cases er;exact hb
 | @same bs es e i j r h1 h2 h3 h4 ih=>intro fs er hb he;exact ih fs er hb λx hx=>he x (ar _ hx)
 | @new bs es e i j r h1 h2 h3 h4 h5 ih =>
  intro fs er hb he;refine ih fs er (λx hx=>?_) λx hx=>he x (ar _ hx);rcases AV.mp hx with hx | hx
  ·exact hb x hx
  ·rw[AW.mp hx];exact QE (zbJ hb (he e ay) h1 h2)
 | far=>intro fs e;cases e
 | stuck=>intro fs e;cases e
def Vt(h:Lined k l ns es zs)(he:∀e ∈ es,EOk rs e):∀e ∈ zs,EOk rs e:=λe hz=>by
 have hm:=h.perm.mem_iff.mp hz;unfold qL at hm;let#[y,hy,rfl]:=AT.mp hm;exact QE (he y (Ba.mp hy).1)
def Ww(h:Lined k l ns es zs)(he:∀e ∈ es,EB l e):RL k l ns zs:=by
 have key:∀e ∈ zs,∃y,EB l y/\y.1≠y.2.1/\e=yg k l ns y:=λe hz=>by
  have hm:=h.perm.mem_iff.mp hz;unfold qL at hm;let#[y,hy,rfl]:=AT.mp hm;let#[h1,h2]:=Ba.mp hy;exact#[y,he y h1,by simpa using h2,rfl]
 refine#[λe hz=>?_,λe hz=>?_]
 ·let#[y,h1,_,rfl]:=key e hz;exact h1.rule
 ·let#[y,h1,h2,rfl]:=key e hz;exact ka h1 h2
def Kn(G:OG l ns k)(hz:RL k l ns zs)(h:xf k l ns [] zs (AK bs)):RL k l ns bs:=by let#[gs,g1,g2,g3,g4]:=kM G h bs rfl #[λe he=>(nomatch he),λe he=>(nomatch he)] hz;exact g3
theorem Vm(G:OG l ns k)(h:uO k l ns n es r):∀fs,r=AK fs->(∀e ∈ es,EB l e)->(∀e ∈ es,EOk rs e)->(∀e ∈ fs,EOk rs e)/\∃zs,ThinL k l ns zs/\zc fs=zc zs:=by
 induction h with
 | out=>intro fs e;cases e
 | bad=>intro fs e;cases e
 | @done n es zs bs h1 h2 h3 =>
  intro fs er he ho;cases er;have hz:=Ww h1 he;exact#[WY h2 bs rfl (λe h=>(nomatch h)) (Vt h1 ho),zs,zbU G hz h1.srt h2 h3,h3]
 | @more n es zs bs r h1 h2 h3 h4 ih =>
  intro fs er he ho;have hz:=Ww h1 he;exact ih fs er (Kn G hz h2).e (WY h2 bs rfl (λe h=>(nomatch h)) (Vt h1 ho))
end in def rankF:KeyFam (Int × List Int):=#[λr=>[.int r.1,.lst (r.2.map L3.D.int)],λa b=>if a.1=b.1 then ltI a.2 b.2 else decide (a.1<b.1),AM,(0,[])]
def Ks(h:ltI x y=AM):ltI y x=AN:=by
 by_cases e:x=y
 ·subst e;rw[xh]at h;cases h
 ·have:=wS e;rw[h]at this;simpa using this.symm
theorem zcY(h1:ltI y x=AN)(h2:ltI z y=AN):ltI z x=AN:=by
 cases h:ltI z x with
 | false=>rfl
 | true =>
  by_cases e:y=x
  ·subst e;rw[h2]at h;cases h
  ·have h3:=wS e;rw[h1]at h3;have h4:ltI x y=AM:=by simpa using h3.symm
   rw[ji h h4]at h2;cases h2
def rankF_ok:rankF.Ok where
 w:=#[λa b h=>by
   erw[rankF]at h ⊢
   by_cases e:a.1=b.1
   ·rw[w6 e]at h;rw[w6 e.symm];exact Ks h
   ·rw[w9 e]at h;rw[w9 (λz=>e z.symm)];have:=u6 h;exact v9 ⋯,
  λa b c h1 h2=>by
   erw[rankF]at h1 h2 ⊢
   by_cases e:b.1=a.1
   ·rw[w6 e]at h1;rw[e]at h2;by_cases f:c.1=a.1
    ·rw[w6 f]at h2 ⊢;exact zcY h1 h2
    ·rw[w9 f]at h2 ⊢;exact h2
   ·rw[w9 e]at h1;have h1':=of_decide_eq_false h1;by_cases f:c.1=b.1
    ·rw[w9 ⋯];exact v9 ⋯
    ·rw[w9 f]at h2;have h2':=of_decide_eq_false h2;rw[w9 ⋯]
     exact v9 ⋯]
 eq:=λa b=>by
  have:=JX a.1 b.1 a.2 b.2
  erw[ltD]at this
  exact this
 ok:=λa b=>by erw[rankF,ZN,okD];exact#[trivial,uG _ _,trivial]
 dp:=λa=>by erw[rankF,dpD,vI,ql];decide
 sh:=λa=>#[_,_,rfl,.inl #[rfl,_,rfl]]
end in def vQ(k:Nat)(l:())(ns:List Int)(w:()):Int × List Int:=(zx k l ns w,w8 k l w)
theorem Vx : ∀{ds:List L3.D} {vs:List V},Iss K H ds vs->Is K H d v->Iss K H (ds ++ [d]) (vs ++ [v])
 | [],vs,h,hv=>by
  erw[Iss]at h
  subst h
  erw[bR,Iss]
  exact#[v,[],rfl,hv,rfl]
 | e::ds,vs,h,hv=>by
  erw[Iss]at h
  let#[x,r,rfl,hx,hr]:=h
  erw[bu,Iss]
  exact#[x,r ++ [v],rfl,hx,Vx hr hv]
def OrdAt.samT{T CO CR CW:su}(h:OrdAt CO CR CW H o k l ns)(s:SamT T H H')(hT:H T=AK (.tbl ps)):OrdAt CO CR CW H' o k l ns:=by
 obtain⟨dx,⟨h1,h2⟩ | ⟨h1,h2⟩⟩:=h
 ·exact#[dx,.inl #[h1,s.at hT h2 λZ z=>by cases z]]
 ·exact#[dx,.inr #[h1,s.at hT h2 λZ z=>by cases z]]
theorem EnsA.samT(s:SamT T H H')(hT:H T=AK (.tbl ps)):∀{es:List Ent} {vs:List V},EnsA K H es vs->EnsA K H' es vs
 | [],vs,h=>by erw[EnsA]at h ⊢;exact h
 | e::es,vs,h=>by
  erw[EnsA]at h ⊢
  let#[v,r,e0,#[p,s',e1,h1,h2],h3]:=h;exact#[v,r,e0,#[p,s',e1,s.seqT hT h1,h2.samT s hT],EnsA.samT s hT h3]
def jD(h:a≠b):rankF.lt a b=!rankF.lt b a:=by
 erw[rankF]
 by_cases e:a.1=b.1
 ·rw[w6 e,w6 e.symm];exact wS λq=>h (Prod.ext e q)
 ·rw[w9 e,w9 λq=>e q.symm];by_cases c:a.1<b.1
  ·rw[u9 c,v9 ⋯];rfl
  ·rw[v9 c,u9 ⋯];rfl
def QV(a b:Int × List Int):eqD (.tup (rankF.dec a)) (.tup (rankF.dec b))=decide (a=b):=by
 let#[a1,a2]:=a;let#[b1,b2]:=b
 erw[rankF,eqD,uk,j9]
 by_cases h:a1=b1
 ·by_cases h2:a2=b2
  ·simp [h,h2]
  ·simp [h,h2]
 ·simp [h]
def WP(a b:Int × List Int):ltD (.tup (rankF.dec a)) (.tup (rankF.dec b))=rankF.lt a b:=by
 erw[ltD]
 exact rankF_ok.eq a b
def Xf(a:Int × List Int):rankF.lt a a=AN:=by
 erw[rankF]
 rw[w6 trivial];exact xh _
end in def pairF:KeyFam ((Int × List Int) × (Int × List Int)):=#[λr=>[.tup (rankF.dec r.1),.tup (rankF.dec r.2)],λa b=>if a.1=b.1 then rankF.lt a.2 b.2 else rankF.lt a.1 b.1,AN,((0,[]),(0,[]))]
def qP(a b:(Int × List Int) × (Int × List Int)):pairF.lt a b=if a.1=b.1 then rankF.lt a.2 b.2 else rankF.lt a.1 b.1:=rfl
def pairF_ok:pairF.Ok where
 w:=#[λa b h=>by
   rw[qP]at h ⊢;by_cases e:a.1=b.1
   ·rw[w6 e]at h;rw[w6 e.symm];exact rankF_ok.w.asym _ _ h
   ·rw[w9 e]at h;rw[w9 λq=>e q.symm];exact rankF_ok.w.asym _ _ h,
  λa b c h1 h2=>by
   rw[qP]at h1 h2 ⊢;by_cases e:b.1=a.1
   ·rw[w6 e]at h1;rw[e]at h2;by_cases f:c.1=a.1
    ·rw[w6 f]at h2 ⊢;exact rankF_ok.w.ntr _ _ _ h1 h2
    ·rw[w9 f]at h2 ⊢;exact h2
   ·rw[w9 e]at h1;by_cases g:c.1=b.1
    ·rw[g,w9 e];exact h1
    ·rw[w9 g]at h2;by_cases f:c.1=a.1
     ·rw[f]at h2;have:=jD (a:=b.1) (b:=a.1) e;rw[h1,h2]at this;cases this
     ·rw[w9 f]
      exact rankF_ok.w.ntr _ _ _ h1 h2]
 eq:=λa b=>by
  show wN [.tup (rankF.dec a.1),.tup (rankF.dec a.2)] [.tup (rankF.dec b.1),.tup (rankF.dec b.2)]=_;rw[qP,wN,QV,wN,QV,WP,WP,wN];by_cases e:a.1=b.1
  ·rw[w6 (u9 e),w6 e];by_cases f:a.2=b.2
   ·rw[w6 (u9 f),f,Xf]
   ·rw[w9 (by simpa using f)]
  ·rw[w9 (by simpa using e),w9 e]
 ok:=λa b=>by
  show ZN [.tup (rankF.dec a.1),.tup (rankF.dec a.2)] [.tup (rankF.dec b.1),.tup (rankF.dec b.2)]
  erw[ZN,okD]
  exact#[rankF_ok.ok _ _,rankF_ok.ok _ _,trivial]
 dp:=λa=>by erw[pairF,rankF,dpD,vI,ql];decide
 sh:=λa=>#[_,_,rfl,.inr #[rfl,_,rfl]]
end in def rkE(k:Nat)(l:())(ns:List Int)(e:Ent):(Int × List Int) × (Int × List Int):=(vQ k l ns e.1,vQ k l ns e.2.1)
def zbo(hu:∀c ∈ u,c ∈ l)(hv:∀c ∈ v,c ∈ l):vQ k l ns u=vQ k l ns v ↔ u=v :=
 #[λh=>Zr hu hv (Prod.ext_iff.mp h).2,λh=>by rw[h]]
def JC(ha:EB l a)(hb:EB l b):pairF.lt (rkE k l ns a) (rkE k l ns b)=Zk k l ns a b:=by
 rw[qP];unfold Zk;have h:(rkE k l ns a).1=(rkE k l ns b).1 ↔ a.1=b.1:=zbo ha.ma hb.ma;by_cases e:a.1=b.1
 ·rw[w6 (h.mpr e),w6 e];rfl
 ·rw[w9 λq=>e (h.mp q),w9 e];rfl
theorem Ux : ∀{es:List Ent} {vs:List V},EnsA K H es vs->∀t ∈ es.zip vs,EnA K H t.1 t.2
 | [],_,_,t,ht=>by simp at ht
 | e::es,vs,h,t,ht=>by
  erw[EnsA]at h
  let#[v,r,rfl,h1,h2]:=h;rw[dC]at ht;rcases AU.mp ht with rfl | ht
  ·exact h1
  ·exact Ux h2 t ht
theorem za8 : ∀{ts:List (Ent × V)},(∀t ∈ ts,EnA K H t.1 t.2)->EnsA K H (ts.map (·.1)) (ts.map (·.2))
 | [],_=>by erw[aA,EnsA]
 | t::ts,h=>by
  erw[am,EnsA]
  exact#[_,_,rfl,h t ay,za8 λu hu=>h u (ar _ hu)]
def Xm(hI:EnsA K H es vs)(hE:∀e ∈ es,EB l e)(h1:ys=srt (λp q=>pairF.lt p.1 q.1) d ((es.map (rkE k l ns)).zip vs)) :
  ∃zs:List Ent,zs.Perm es/\zs.Pairwise (λa b=>Zk k l ns b a=AN)/\zs=srt (Zk k l ns) ([],[],[]) es/\EnsA K H zs (ys.map (·.2)):=by
 have hl:=hI.len
 have e0:(es.map (rkE k l ns)).zip vs=(es.zip vs).map λt=>(rkE k l ns t.1,t.2):=by
  rw[List.zip_map_left];rfl
 have W0:WkO λ(p q:((Int × List Int) × (Int × List Int)) × V)=>pairF.lt p.1 q.1:=#[λa b=>pairF_ok.w.asym _ _,λa b c=>pairF_ok.w.ntr _ _ _];have W1:WkO λ(p q:Ent × V)=>pairF.lt (rkE k l ns p.1) (rkE k l ns q.1):=#[λa b=>pairF_ok.w.asym _ _,λa b c=>pairF_ok.w.ntr _ _ _];have W2:WkO λ(p q:Ent)=>pairF.lt (rkE k l ns p) (rkE k l ns q):=#[λa b=>pairF_ok.w.asym _ _,λa b c=>pairF_ok.w.ntr _ _ _];rw[e0,zav W0 (d':=(λt:Ent × V=>(rkE k l ns t.1,t.2)) (([],[],[]),.non)) (λZ Z Z Z=>rfl)]at h1
 replace h1:=h1.trans (Qh (lt:=λ(p q:((Int × List Int) × (Int × List Int)) × V)=>pairF.lt p.1 q.1) (λt:Ent × V=>(rkE k l ns t.1,t.2)) (([],[],[]),.non) (es.zip vs))
 let#[p,h2]:=WZ W1 (([],[],[]),.non) (es.zip vs)
 have e2:(srt (λ(p q:Ent × V)=>pairF.lt (rkE k l ns p.1) (rkE k l ns q.1)) (([],[],[]),.non) (es.zip vs)).map (·.1)=srt (Zk k l ns) ([],[],[]) es:=by
  rw[<- zav W2 (d:=([],[],[])) λa ha b hb=>JC (hE a ha) (hE b hb)];have:=Qh (lt:=λ(p q:Ent)=>pairF.lt (rkE k l ns p) (rkE k l ns q)) (λt:Ent × V=>t.1) (([],[],[]),.non) (es.zip vs);rw[fk ⋯]at this;exact this.symm
 generalize srt (λ(p q:Ent × V)=>pairF.lt (rkE k l ns p.1) (rkE k l ns q.1)) (([],[],[]),.non) (es.zip vs)=ts at h1 h2 p e2;have hm:∀t ∈ ts,t.1 ∈ es:=λt ht=>(dw (show (t.1,t.2) ∈ es.zip vs from p.mem_iff.mp ht)).1;refine#[ts.map (·.1),?_,?_,e2,?_]
 ·have:=p.map (·.1);rw[fk ⋯]at this;exact this
 ·rw[List.pairwise_map];refine h2.imp_of_mem λ{a b} ha hb h=>?_;rw[<- JC (hE _ (hm _ hb)) (hE _ (hm _ ha))];exact h
 ·rw[h1,aY];exact za8 λt ht=>Ux hI t (p.mem_iff.mp ht)
def tbE(K:sr)(CO CR CW:su):TE:=Um (zI (zy (ze1 CO CR CW) "rank" (λZ=>kg CO CR CW) [] E0 (zW 1) (zI (tOp (ud K) (zW 0) (tC (.int 0))) xb)) (zI (zy (ze1 CO CR CW) "rank" (λZ=>kg CO CR CW) [] E0 (zW 1) (zI (tOp (ud K) (zW 0) (tC (.int 1))) xb)) xb))
def ze3{CO CR CW o p s:su}(hG:OG l ns k)(ho:OrdAt CO CR CW H o k l ns)(hE:EB l e)(hp:SqT K H p [.str (tx e.1),.str (tx e.2.1),.ref s])(q:∀(t:su) (H':Hp),Same H H'->Is K H' (.tup (pairF.dec (rkE k l ns e))) (.ref t)->Q (.ref t) H'):tbE K CO CR CW [!!p,!!o] H Q:=by
 have s16:=zS;let#[C,dx,fs,hf,ho1,hn,_]:=ho.fam;have h1:fs.lookup ("rank" : sB)=AL:=hn _ ∅ ∅;unfold tbE;ac_rfl;refine#[C,hf,dx,fs,ho1,h1,_,hp,_,rfl,o,k,l,ns,e.1,rfl,ho,hG,by have:=hE.a;lia,hE.ma,λp1 q1 H1 s1 hp1 hq1=>#[C,hf,dx,fs,s1 _ _ ho1,h1,_,zo s1 hp,_,rfl,o,k,l,ns,e.2.1,rfl,ho.same s1,hG,by have:=hE.b;lia,hE.mb,λp2 q2 H2 s2 hp2 hq2=>#[⋯,λt ht=>?_]]];refine q t _ (s1.trans (s2.trans (zd (o:=.tup [.ref p1,.ref p2]) ht))) ?_;show Is K _ (.tup [.tup (rankF.dec (vQ k l ns e.1)),.tup (rankF.dec (vQ k l ns e.2.1))]) (.ref t);refine Is.tup ht ?_
 erw[Iss]
 exact#[_,_,rfl,Zu (s2 _ _ hp1) (s2 _ _ hq1),_,_,rfl,Zu hp2 hq2,rfl]
theorem zaE{CO CR CW o:su}{LA:Hp->Prop}(hG:OG l ns k)(hLA:∀H H',LA H->Same H H'->LA H'):∀(es:List Ent) (vs AR:List V) (rs:List ((Int × List Int) × (Int × List Int))) (H:Hp),LA H->OrdAt CO CR CW H o k l ns->(∀e ∈ es,EB l e)->EnsA K H es vs ->
  Iss K H (rs.map λa=>.tup (pairF.dec a)) AR->(∀acc' H',Same H H'->Iss K H' ((rs ++ es.map (rkE k l ns)).map λa=>.tup (pairF.dec a)) acc'->Qf acc' H')->qo (λx H Q=>LA H/\tbE K CO CR CW [AK x,!!o] H Q) vs AR H Qf
 | [],vs,AR,rs,H,hL,ho,hw,hV,hI,h=>by
  erw[EnsA]at hV
  subst hV;exact h AR H (Same.refl _) (by simpa using hI)
 | e::es,vs,AR,rs,H,hL,ho,hw,hV,hI,h=>by
  have s16:=zS
  erw[EnsA]at hV
  let#[v,r,rfl,#[p,s,rfl,hp,_],hV]:=hV;refine#[hL,ze3 hG ho (hw e ay) hp λt H' s3 hIs=>?_];refine zaE hG hLA es r (AR ++ [.ref t]) (rs ++ [rkE k l ns e]) _ (hLA _ _ hL s3) (ho.same s3) (λx hx=>hw x (ar _ hx)) (hV.same s3) ?_ λacc' H' s' hI'=>h acc' H' (s3.trans s') (by simpa using hI');rw[aq];exact Vx (Iss.same s3 _ _ hI) hIs
end in def zed:tK->AI
 | .Lambda _ _ _ p=>p
 | _=>default
end in def zhe:List sI->AI
 | _::.Return (AK (.Call _ _ (k::_) _)) _::_=>zed k.value
 | _=>default
end in def lp:AI:=zhe (yj yL)
end in def lq:sB:="in_order.<locals>.<lambda>"
def ZE(K:sr)(CO CR CW T:su):Sp:=λvs H Q Z=>∃(o a:su) (k:Nat) (l:()) (ns:List Int) (es:List Ent),vs=[.ref o,.ref a]/\OrdAt CO CR CW H o k l ns/\OG l ns k/\EnsL K H a es/\es.length<64/\(∀e ∈ es,EB l e)/\TabOk H T lp lq /\
 ∀(D:su) (zs:List Ent) (H':Hp),SamT T H H'->TabOk H' T lp lq->H D=AL->Lined k l ns es zs->EnsM K H' D zs->Q (.ref D) H'
def Jy{CO CR CW T o a:su}(h1:OrdAt CO CR CW H o k l ns)(h2:OG l ns k)(h3:EnsL K H a es)(h4:es.length<64)(h5:∀e ∈ es,EB l e)(h6:TabOk H T lp lq)(h:∀(D:su) (zs:List Ent) (H':Hp),SamT T H H'->TabOk H' T lp lq->H D=AL->Lined k l ns es zs->EnsM K H' D zs->Q (.ref D) H'):ZE K CO CR CW T [.ref o,.ref a] H Q E:=#[o,a,k,l,ns,es,rfl,h1,h2,h3,h4,h5,h6,h]
abbrev Jq(mg:sB->Option sv):Prop:=mg "sorted" = AL
def ot:sQz 2 ["order","entries","unlike"] yL:=by nofun
def Xo{f CO CR CW CC TB:su}(B:Bt mg)(DRk:DR P w K mg base CO CR CW)(hsorted:Jq mg)(hCd:PySem.W.CodeHd base CC TB)(hBt:base.BuiltinsAt mg TB)(hgT:sk≠TB)(F:("in_order"^^^yL))(HC:fd.code=.ref CC)(nN:(4<<<"as_rule") ["order","entry"] [] (vk K CO CR CW)):(6&&&["order","entries"]) (ZE K CO CR CW TB):=by
 refine zbW F HC ot (λvs H Q E h=>?_) (λA outer s H vs Q E hr h=>?_)
 ·let#[o,a,k,l,ns,es,rfl,_]:=h;rfl
 ·let#[o,a,k,l,ns,es,rfl,ho,hG,hA,hz,hE,hTab,q]:=h
  refine#[_,(zh (Xx (i:=2) ot.nd rfl (.inl rfl) (.inl rfl) (own:=["entry"]) (caps:=["order"]) (ix:=[0]) (tt:=(tBl (tOp rNe (tOp (ud K) (zW 0) (tC (.int 0))) (tOp (ud K) (zW 0) (tC (.int 1)))))) (te:=(vE (vk K CO CR CW) [] E0 (zI (zW 1) (zI (zW 0) xb)))) rfl (zH (sc:=zi yL) rfl (!0) (!0) (!0) rfl (!0) (!0) rfl) (zX (pv 1)) (λZ Z Z Z Z Z=>zr (i:=0) (show List.Nodup [_,_] by decide) rfl (.inl rfl)) (λZ Z Z Z Z Z=>(Jj (zt qG (!-0) (!-0) (zv _)))) (λZ Z Z Z Z Z=>(cl0 nN hr .nil rfl (za (pv 1) (za (pv 0) ze))))) (zg (zl (Ko (k:=2) (p:="entry") (y:="order") (iy:=0) (c:=s⁻¹+1) (tb:=tbE K CO CR CW) pairF_ok #[rfl,rfl,rfl,∅,rfl,rfl,∅,∅] (hr.mono ∅) rfl hsorted fm (za (pv 2) ze) rfl hCd hBt hgT rfl rfl (by intro _ _ _ _;exact rfl) rfl rfl rfl (λs H f cv hr'=>zN (za (zdo DRk hr' (pv 1) (za (!-0) ze)) (za (zdo DRk hr' (pv 1) (za (!-0) ze)) ze))))))),?_]
  have s16:=zS;let#[xs,hX,hI]:=id hA;have hxl:=hI.len
  have hEr:∀e ∈ qL k l ns es,EB l e:=λe he=>by
   unfold qL at he;let#[y,hy,rfl]:=AT.mp he;exact (hE y (Ba.mp hy).1).rule
  have hrl:=X5 k l ns es;change Same H H'/\∃(D0:su) (AR:List V),H D0=AL/\H' D0=AK (.lst AR)/\EnsA K (kF D0 H') (qL k l ns es) AR/\σ=[!!o,!!a,!!D0]
  ·ac_rfl;refine#[#[xs,hX],λD hD=>CompL.by (xs:=xs) (λi AR H'=>Same H H'/\H' D=AK (.lst AR)/\EnsA K (kF D H') (qL k l ns (es.take i)) AR) #[zd hD,zb,by erw[bA,qL,dA,aA,EnsA]] (λi AR H' Z h=>h.1.seq hX) ?_ ?_]
   ·refine nm4 ?_;rintro i x AR H' hx ⟨hs,hH,hA⟩:_;have hi:=(AS.mp hx).1;let#[e,pe,se,hei,rfl,hqe,hse]:=hI.get hx;have hEe:=hE e (ac hei);have hal:=hA.len;have hal2:=X5 k l ns (es.take i);rw[aH]at hal2;have hq1:=zo hs hqe
    have hraw:qL k l ns (es.take (i+1))=qL k l ns (es.take i) ++ if e.1=e.2.1 then []else [yg k l ns e]:=by
     rw[zO hei,zcz];congr 1;unfold qL;by_cases hne:e.1=e.2.1
     ·rw[w6 hne,fw (by simp [hne])];rfl
     ·rw[w9 hne,fv (by simp [hne])];rfl
    right;ac_rfl;refine#[yq,_,hq1,_,rfl,_,hq1,_,rfl,rfl,z8 (λhne=>?_) λheq=>?_]
    ·have hne':¬ e.1=e.2.1:=λz=>hne (by rw[z]);rw[w9 hne']at hraw
     have fin:∀(v:V) (H2:Hp),Same H' H2->EnA K (kF D H2) (yg k l ns e) v->H2 D=AK (.lst AR)/\AR.length<sq/\CNx xs.length i (λi AR H'=>Same H H'/\H' D=AK (.lst AR)/\EnsA K (kF D H') (qL k l ns (es.take i)) AR) (AR ++ [v]) (upd H2 D (.lst (AR ++ [v]))):=λv H2 s2 hv=>by
      refine#[s2 _ _ hH,⋯,CNx.mk hi #[zu (hs.trans s2) hD,zb,?_]];rw[hraw];exact (hA.same ((vh s2).trans xz)).snoc (hv.same xz)
     refine kN (ho.same hs) hG hq1 (hse.same hs).is hEe (λer H2 s2=>fin _ _ s2 ?_) λp' s' H2 s2 hsn hp' hL=>fin _ _ s2 ?_
     ·rw[er];exact EnA.same #[pe,se,rfl,hqe,hse] (Jx hD (hs.trans s2))
     ·exact EnA.new (s2 _ _ hH) hp' hL (λz=>by rw[z,hH]at hsn;cases hsn)
    ·have heq':e.1=e.2.1:=by
      have:=Classical.not_not.mp heq;injection this with this;exact vP this
     rw[w6 heq',bc]at hraw;exact CNx.mk hi #[hs,hH,by rw[hraw];exact hA]
   ·rintro AR H' ⟨hs,hH,hA⟩;rw[hxl,aK]at hA;exact#[hs,D,hD,AR,hH,hA,rfl]
  rintro σ H1 ⟨s1,D0,AR,hD0,hH1,hI1,rfl⟩:_;have hal:=hI1.len;have hT1:=hTab.same s1;let#[ps1,hps1,_]:=id hT1;right;ac_rfl;unfold zbk;refine#[hT1,λf H2 hf hLA hT2 sT=>?_];let#[ps2,hps2,_]:=id hT2;have hI2:=EnsA.samT sT hps1 (hI1.same wQ);refine#[D0,AR,.ref o,rfl,SqL.of (sT.at hps1 hH1 λZ z=>by cases z),⋯,rfl,?_];refine zaE hG (λA A' h1 h2=>LamAt.same h1 h2) (qL k l ns es) AR [] [] H2 hLA ((ho.same s1).samT sT hps1) hEr hI2 (by erw[aA,Iss]) λacc' H3 s3 hI3=>#[(qL k l ns es).map (rkE k l ns),by simpa using hI3,λys p1 D hD=>?_];let#[zs,z1,z2,z4,z3]:=Xm (hI2.same s3) hEr p1;have sD:=zd (o:=.lst (ys.map (·.2))) hD;refine q D zs _ ((SamT.of s1).trans (sT.trans (SamT.of (s3.trans sD)))) (hT2.same (s3.trans sD)) ?_ #[z1,z2,z4] #[_,zb,z3.same sD];exact ((SamT.of s1).trans (sT.trans (SamT.of s3))).free (s3 _ _ hps2) hD
structure TMo(mg:sB->Option sv):Prop where
 u:∃t,mg "MOST_USES_thinning" = AK (.int 40 t)
 s:∃t,mg "MOST_STEPS_thinning" = AK (.int 240 t)
 d:∃t,mg "MOST_SIDE_thinning" = AK (.int 60 t)
 p:∃t,mg "MOST_PASSES" = AK (.int 20 t)
structure BG(k:Nat)(l:())(ns:List Int)(bs:List Ent):Prop where
 n:bs.length<64
 e:∀e ∈ bs,EB l e
 lt:∀e ∈ bs,zP k l ns e.2.1 e.1=AM
def BG.ne(h:BG k l ns bs)(G:OG l ns k):NeL (zc bs):=λp hp=>by
 unfold zc at hp;let#[e,he,rfl]:=AT.mp hp;exact Jf G.nb (h.lt e he)
def BG.le(h:BG k l ns bs):∀p ∈ zc bs,p.1.length<=60/\p.2.length<=60:=λp hp=>by
 unfold zc at hp;let#[e,he,rfl]:=AT.mp hp;exact#[(h.e e he).a,(h.e e he).b]
def BG.mem(h:BG k l ns bs):∀p ∈ zc bs,∀c ∈ p.2,c ∈ l:=λp hp=>by
 unfold zc at hp;let#[e,he,rfl]:=AT.mp hp;exact (h.e e he).mb
def qi{w:()}(hA:LsA K H a (ps.map dR))(hN:NeL ps)(hpl:ps.length<=100)(hP:∀p ∈ ps,p.1.length<=60/\p.2.length<=60)(hw:w.length<=60)(h1:∀(i:Nat) (p S:su) (H':Hp),EndsAt ps w i->Same H H'->H' p=AK (.tup [.ref S,.str (tx (wAt ps w i))])->LsA K H' S ((sAt ps w i).map dG)->H S=AL->Q (.ref p) H')(h2:(∀i,¬ EndsAt ps w i)->∀H',Same H H'->E (.ref CF) AL H'):xR K CF [.ref a,.str (tx w),.int 40] H Q E:=by
 have hP':∀p ∈ ps,p.1.length<=1000/\p.2.length<=1000:=λp hp=>by
  have:=hP p hp;lia
 have len:∀j,j<=40->(wAt ps w j).length<=10000:=λj hj=>by
  have:=jM (l:=w) (m:=60) hN (λp hp=>(hP p hp).2) j;lia
 rcases Q8 ps w with ⟨i,hi⟩ | ⟨hL,hf⟩
 ·have hm:=hi.most;exact#[a,w,ps,40,i,rfl,hA,hN,hpl,hP',#[hi.live,λj hj=>len j ⋯,⋯],.inl #[hi.end_,⋯,λp S H' s' hp hL hS=>h1 i p S H' hi s' hp hL hS]]
 ·refine#[a,w,ps,40,40,rfl,hA,hN,hpl,hP',#[hL,λj hj=>len j hj,∅],.inr #[hf,rfl,h2 λi hi=>?_]];have hm:=hi.most;by_cases e:i=40
  ·subst e;exact hf hi.end_
  ·exact hL i ⋯ hi.end_
def US(us:List (Nat × Nat)):us.map dG=(stS us).map dSt:=by unfold stS;rw[aY];rfl
def xJ(us:List (Nat × Nat)):(stS us).length=us.length:=by unfold stS;rw[aa]
theorem zeG{w:()}(h:Yd ps w i):∀u ∈ sAt ps w i,u.1<ps.length:=λu hu=>by
 unfold sAt at hu;let#[j,hj,rfl]:=AT.mp hu
 cases e:zF (wAt ps w j) ps with
 | none=>exact w4 e (h j (AY.mp hj))
 | some v =>
  let#[p,h1,_]:=z5 e;exact (AS.mp h1).1
def W3{w:()}(h:Yd ps w i):∀u ∈ stS (sAt ps w i),0<=u.1/\u.1<ps.length:=λu hu=>by
 unfold stS at hu;let#[v,hv,rfl]:=AT.mp hu;have:=zeG h v hv;show 0<=(v.1:Int)/\(v.1:Int)<ps.length;lia
def Qe(h:∀u ∈ ss,0<=u.1/\u.1<n):∀u ∈ yE ss,0<=u.1/\u.1<n:=λu hu=>by
 unfold yE at hu;let#[v,hv,rfl]:=AT.mp hu;exact h v (Bb.mp hv)
def zdW(h:∀e ∈ es,e.2.2.length<=600)(u:Stp):(XV es u).length<=600:=by
 have hg:(es.getD u.1.toNat ([],[],[])).2.2.length<=600:=by
  rw[ae]
  cases e:es[u.1.toNat]? with
  | none=>exact aD _
  | some r=>exact h r (ac e)
 unfold XV;rw[Yy];split
 ·exact hg
 ·rw[yh];exact hg
theorem zci(h:∀e ∈ es,e.2.2.length<=600):∀us:List Stp,(byL es us).length<=us.length * 600
 | []=>by simp [byL]
 | u::us=>by
  have e:byL es (u::us)=XV es u ++ byL es us:=by simp [byL]
  have h1:=zdW h u;have h2:=zci h us;rw[e,ak,aC,d6];lia
def X8(K:sr)(CF:su):Sp:=λvs H Q E=>∃(a p s:su) (k:Nat) (l:()) (ns:List Int) (bs:List Ent) (e:Ent),vs=[.ref a,.ref p]/\OG l ns k/\Is K H (.lst (bs.map dE)) (.ref a)/\BG k l ns bs/\SqT K H p [.str (tx e.1),.str (tx e.2.1),.ref s]/\LsA K H s (e.2.2.map dSt)/\EB l e /\
 (∀i j H',EndsAt (zc bs) e.1 i->EndsAt (zc bs) e.2.1 j->wAt (zc bs) e.1 i=wAt (zc bs) e.2.1 j->Same H H'->Q .non H') /\
 (∀i j p' s' H',EndsAt (zc bs) e.1 i->EndsAt (zc bs) e.2.1 j->wAt (zc bs) e.1 i≠wAt (zc bs) e.2.1 j->Same H H'->H s'=AL->H' p'=AK (.tup [.str (tx (yM bs e i j).1),.str (tx (yM bs e i j).2.1),.ref s'])->LsA K H' s' ((yM bs e i j).2.2.map dSt)->Q (.ref p') H') /\
 ((∀i,¬ EndsAt (zc bs) e.1 i)\/(∀j,¬ EndsAt (zc bs) e.2.1 j)->∀H',Same H H'->E (.ref CF) AL H')
def W4(h1:Is K H (.lst (es.map dE)) (.ref a))(h2:Is K H (.lst (us.map dSt)) (.ref t))(h3:us.length<=100)(h4:∀e ∈ es,e.2.2.length<=600)(h5:∀u ∈ us,0<=u.1/\u.1<es.length)(h:∀(D:su) (H':Hp),H D=AL->Same H H'->LsA K H' D ((byL es us).map dSt)->Q (.ref D) H'):Uu K [.ref a,.ref t] H Q E:=#[a,t,es,us,rfl,h1,h2,h3,h4,h5,h]
def ig:sQz 2 ["entries","entry","rules","one","other","steps"] xP:=by nofun
def jr(B:Bt mg)(TM:TMo mg)(F:("brought_down"^^^xP))(gQ:(1<<<"pairs_of") ["entries"] [] (wD K))(nc:(4>>>"gone") ["rules","word","most"] [] (xR K CF))(DD_gone:(4>>>"gone") ["rules","word","most"] [.int 4000 ng] (xR K CF))(iH:(2<<<"by_pacts") ["entries","steps"] [] (Uu K))(mz:(1<<<"back") ["steps"] [] (uW K)):(5|||["entries","entry"]) (X8 K CF):=by
 let#[t9,g9]:=TM.u
 exists Fun.okX F ig,0
 ·let#[a,p,s,k,l,ns,bs,e,rfl,hG,hA,hB,hp,hs,hE,q1,q2,q3]:=h
  refine#[_,(zh (zB 2 ig.nd (cl0 gQ hr .nil rfl (za (pv 0) ze))) (zh (zB 3 ig.nd (clP hx nc hr .nil rfl (za (pv 2) (za (!-1) (za (yJ (v:=.int 40) rfl g9 #[t9,rfl]) ze))))) (zh (zB 4 ig.nd (clP hx nc hr .nil rfl (za (pv 2) (za (!-1) (za (yJ (v:=.int 40) rfl g9 #[t9,rfl]) ze))))) (zh (zJ (zt yW (!-3) (!-4) (zv _)) (zg (zl yb))
    zp) (zh (zB 5 ig.nd (zD jl (zD jl (cl0 iH hr .nil rfl (za (pv 0) (za (cl0 mz hr .nil rfl (za (!-3) ze)) ze))) (!-1)) (cl0 iH hr .nil rfl (za (pv 0) (za (!-4) ze))))) (zg (zl (zN (za (!-3) (za (!-4) (za (pv 5) ze))))))))))),?_]
  have s16:=zS;have hbl:=hB.n;have hN:=hB.ne hG;have hpl:=xq bs;have hst:∀e ∈ bs,e.2.2.length<=600:=λe he=>(hB.e e he).s;have hst3:∀e ∈ bs,e.2.2.length<=600:=λe he=>by have:=hst e he;lia
  change Same H H'/\∃R:su,LsA K H' R ((zc bs).map dR)/\σ=[!!a,!!p,!!R,AL,AL,AL]
  ·ac_rfl;exact wc hA ⋯ λD H' Z s' hL=>#[s',D,hL,rfl]
  rintro σ H1 ⟨s1,R,hR,rfl⟩:_;right;change Same H1 H'/\∃(i:Nat),EndsAt (zc bs) e.1 i/\∃p1:su,(∃S1:su,H' p1=AK (.tup [.ref S1,.str (tx (wAt (zc bs) e.1 i))])/\LsA K H' S1 ((sAt (zc bs) e.1 i).map dG))/\σ=[!!a,!!p,!!R,!!p1,AL,AL]
  ·ac_rfl;refine#[_,zo s1 hp,_,rfl,qi hR hN ⋯ hB.le hE.a (λi p1 S1 H' hi s' hp1 hL Z=>#[s',i,hi,p1,#[S1,hp1,hL],rfl]) λhno H' s'=>q3 (.inl hno) H' (s1.trans s')]
  rintro σ H2 ⟨s2,i,hi,p1,⟨S1,hp1,hS1⟩,rfl⟩:_;have s12:=s1.trans s2;right;change Same H2 H'/\∃(j:Nat),EndsAt (zc bs) e.2.1 j/\∃p2:su,(∃S2:su,H' p2=AK (.tup [.ref S2,.str (tx (wAt (zc bs) e.2.1 j))])/\LsA K H' S2 ((sAt (zc bs) e.2.1 j).map dG))/\σ=[!!a,!!p,!!R,!!p1,!!p2,AL]
  ·ac_rfl;refine#[_,zo s12 hp,_,rfl,qi (hR.same s2) hN ⋯ hB.le hE.b (λj p2 S2 H' hj s' hp2 hL Z=>#[s',j,hj,p2,#[S2,hp2,hL],rfl]) λhno H' s'=>q3 (.inr hno) H' (s12.trans s')]
  rintro σ H3 ⟨s3,j,hj,p2,⟨S2,hp2,hS2⟩,rfl⟩:_;have s13:=s12.trans s3;have hp1':=s3 _ _ hp1;have hS1':=hS1.same s3;right;change H'=H3/\wAt (zc bs) e.1 i≠wAt (zc bs) e.2.1 j/\σ=[!!a,!!p,!!R,!!p1,!!p2,AL]
  ·ac_rfl;refine#[_,SqT.of hp1',_,rfl,_,SqT.of hp2,_,rfl,rfl,z8 (λh=>?_) λh=>?_]
   ·exact q1 i j H3 hi hj (vP (by injection h)) s13
   ·exact λz=>h (by rw[z])
  rintro σ H4 ⟨rfl,hne,rfl⟩:_;have him:=hi.most;have hjm:=hj.most;have hl1:(stS (sAt (zc bs) e.1 i)).length=i:=by rw[xJ,xn]
  have hl2:(stS (sAt (zc bs) e.2.1 j)).length=j:=by rw[xJ,xn]
  rw[US]at hS1' hS2;have hA4:=Is.same s13 _ _ hA;have hb1:=zci hst (yE (stS (sAt (zc bs) e.1 i)));have hb2:=zci hst (stS (sAt (zc bs) e.2.1 j));rw[yh,hl1]at hb1;rw[hl2]at hb2;have hes:=hE.s;right;change Same H4 H'/\∃S:su,H4 S=AL/\LsA K H' S ((yM bs e i j).2.2.map dSt)/\σ=[!!a,!!p,!!R,!!p1,!!p2,!!S]
  ·ac_rfl;refine#[_,SqT.of hp1',_,rfl,jb hS1'.is ⋯ λB1 G1 Z t1 hB1=>W4 (Is.same t1 _ _ hA4) hB1.is (by rw[yh];lia) hst3 (by rw[<- hpl];exact Qe (W3 hi.live)) λC1 G2 hC1n t2 hC1=>?_];have t12:=t1.trans t2;let#[c1,hc1,ic1]:=id hC1;let#[es0,hs0,is0]:=hs.same (s13.trans t12);have lc1:=ic1.len;have ls0:=is0.len;rw[aa]at lc1 ls0;refine#[_,zo (s13.trans t12) hp,_,rfl,C1,rfl,s,rfl,c1,hc1,es0,hs0,⋯,λM hM=>?_];have t3:=zd (o:=.lst (c1 ++ es0)) hM;have t13:=t12.trans t3;refine#[_,SqT.of (t13 _ _ hp2),_,rfl,W4 (Is.same t13 _ _ hA4) (hS2.same t13).is ⋯ hst3 (by rw[<- hpl];exact W3 hj.live) λC2 G3 hC2n t4 hC2=>?_];let#[c2,hc2,ic2]:=id hC2;have lc2:=ic2.len;rw[aa]at lc2;refine#[C2,rfl,c1 ++ es0,t4 _ _ zb,c2,hc2,by rw[ak];lia,λS hS=>?_];have t5:=zd (o:=.lst (c1 ++ es0 ++ c2)) hS;refine#[t13.trans (t4.trans t5),S,(t13.trans t4).free hS,#[_,zb,?_],rfl];show Iss K _ ((byL bs (yE (stS (sAt (zc bs) e.1 i))) ++ e.2.2 ++ byL bs (stS (sAt (zc bs) e.2.1 j))).map dSt) _;rw[aq,aq];exact Iss.append (Iss.append (Iss.same (t3.trans (t4.trans t5)) _ _ ic1) (Iss.same (t3.trans (t4.trans t5)) _ _ is0)) (Iss.same t5 _ _ ic2)
  rintro σ H5 ⟨s5,S,hSn,hS,rfl⟩:_;right;ac_rfl;refine#[_,SqT.of (s5 _ _ hp1'),_,rfl,_,SqT.of (s5 _ _ hp2),_,rfl,⋯,λt ht=>?_];have st:=zd (o:=.tup [.str (tx (wAt (zc bs) e.1 i)),.str (tx (wAt (zc bs) e.2.1 j)),.ref S]) ht;exact q2 i j t S _ hi hj hne (s13.trans (s5.trans st)) (s13.free hSn) zb (hS.same st)
def jC(K:sr)(CF:su):Sp:=λvs H Q E=>∃(p s:su) (e:Ent),vs=[.ref p]/\SqT K H p [.str (tx e.1),.str (tx e.2.1),.ref s]/\Is K H (.lst (e.2.2.map dSt)) (.ref s)/\e.1.length<=10000/\e.2.1.length<=10000/\(¬ ke e->Q .non H)/\(ke e->E (.ref CF) AL H)
def Ua(h1:SqT K H p [.str (tx e.1),.str (tx e.2.1),.ref s])(h2:Is K H (.lst (e.2.2.map dSt)) (.ref s))(h3:e.1.length<=10000)(h4:e.2.1.length<=10000)(h5:¬ ke e->Q .non H)(h6:ke e->E (.ref CF) AL H):jC K CF [.ref p] H Q E:=#[p,s,e,rfl,h1,h2,h3,h4,h5,h6]
def qI:sQz 1 ["entry"] xo:=by nofun
def qF(B:Bt mg)(T:zcQ K mg CF)(TM:TMo mg)(F:("refuse_beyond"^^^xo)):(1|||["entry"]) (jC K CF):=by
 let#[#[t9,g9],#[t8,g8]]:=And.intro TM.s TM.d
 exists Fun.okX F qI,0
 ·let#[p,s,e,rfl,hp,hs,ha,hb,q1,q2]:=h
  refine#[_,(zh (zJ (zt UG (zE B.len (!-0)) (yJ (v:=.int 240) rfl g9 #[t9,rfl]) (zv _)) (zg (yk hx rfl T.xi.toXC T.ini rfl T.g (za zQ ze)))
    zp) (zg (zJ (zt UG (yR (Vj rfl) rfl B.max uF (za (zE B.len (!-0)) (za (zE B.len (!-0)) ze))) (yJ (v:=.int 60) rfl g8 #[t8,rfl]) (zv _)) (zg (yk hx rfl T.xi.toXC T.ini rfl T.g (za zQ ze)))
    zp))),?_]
  have s16:=zS
  erw[Is]at hs
  let#[_,zs,e0,hZ,hI]:=hs;cases e0;have hzl:=hI.len;rw[aa]at hzl;change H'=H/\e.2.2.length<=240/\σ=[!!p]
  ·ac_rfl;refine#[_,hp,_,rfl,_,.inl #[_,hZ,rfl],z8 (λh=>#[⋯,q2 (.inl ⋯)]) λh=>by lia]
  rintro σ H1 ⟨rfl,h1,rfl⟩:_;right;ac_rfl;refine#[_,hp,_,rfl,_,#[by rw[zR];lia,rfl],_,hp,_,rfl,_,#[by rw[zR];lia,rfl],?_];rw[zR,zR];refine z8 (λh=>#[⋯,q2 ?_]) λh=>q1 ?_
  ·unfold ke;split at h <;> lia
  ·unfold ke;split at h <;> lia
def KC(hB:BG k l ns bs)(hE:EB l e)(hF:¬ ke (yM bs e i j)):EB l (yM bs e i j):=by unfold ke at hF;exact#[⋯,⋯,⋯,qd hE.ma hB.mem i,qd hE.mb hB.mem j]
def BG.snoc(h:BG k l ns bs)(hn:bs.length+1<64)(hd:EB l d)(hne:d.1≠d.2.1):BG k l ns (bs ++ [yg k l ns d]):=by
 refine#[by rw[ak];exact hn,λe he=>?_,λe he=>?_]
 ·rcases AV.mp he with he | he
  ·exact h.e e he
  ·rw[AW.mp he];exact hd.rule
 ·rcases AV.mp he with he | he
  ·exact h.lt e he
  ·rw[AW.mp he];exact ka hd hne
def zaj(h1:OG l ns k)(h2:Is K H (.lst (bs.map dE)) (.ref a))(h3:BG k l ns bs)(h4:SqT K H p [.str (tx e.1),.str (tx e.2.1),.ref s])(h5:LsA K H s (e.2.2.map dSt))(h6:EB l e)(q1:∀i j H',EndsAt (zc bs) e.1 i->EndsAt (zc bs) e.2.1 j->wAt (zc bs) e.1 i=wAt (zc bs) e.2.1 j->Same H H'->Q .non H')(q2:∀i j p' s' H',EndsAt (zc bs) e.1 i->EndsAt (zc bs) e.2.1 j->wAt (zc bs) e.1 i≠wAt (zc bs) e.2.1 j->Same H H'->H s'=AL->H' p'=AK (.tup [.str (tx (yM bs e i j).1),.str (tx (yM bs e i j).2.1),.ref s'])->LsA K H' s' ((yM bs e i j).2.2.map dSt)->Q (.ref p') H')(q3:(∀i,¬ EndsAt (zc bs) e.1 i)\/(∀j,¬ EndsAt (zc bs) e.2.1 j)->∀H',Same H H'->E (.ref CF) AL H'):X8 K CF [.ref a,.ref p] H Q E:=#[a,p,s,k,l,ns,bs,e,rfl,h1,h2,h3,h4,h5,h6,q1,q2,q3]
def KB(hB:BG k l ns bs)(hG:OG l ns k)(hE:EB l e)(hi:i<=40)(hj:j<=40):(yM bs e i j).1.length<=10000/\(yM bs e i j).2.1.length<=10000:=by have h1:=jM (l:=e.1) (m:=60) (hB.ne hG) (λp hp=>(hB.le p hp).2) i;have h2:=jM (l:=e.2.1) (m:=60) (hB.ne hG) (λp hp=>(hB.le p hp).2) j;have h3:=hE.a;have h4:=hE.b;show (wAt (zc bs) e.1 i).length<=10000/\(wAt (zc bs) e.2.1 j).length<=10000;lia
def Zj(K:sr)(CO CR CW CF:su):Sp:=λvs H Q E=>∃(o a:su) (k:Nat) (l:()) (ns:List Int) (zs:List Ent),vs=[.ref o,.ref a]/\OrdAt CO CR CW H o k l ns/\OG l ns k/\EnsL K H a zs/\zs.length<64/\(∀e ∈ zs,EB l e) /\
 (∀(bs:List Ent) (D:su) (H':Hp),xf k l ns [] zs (AK bs)->BG k l ns bs->Same H H'->H D=AL->EnsM K H' D bs->Q (.ref D) H')/\(xf k l ns [] zs AL->∀H',Same H H'->E (.ref CF) AL H')
def Qi{CO CR CW CF o a:su}(h1:OrdAt CO CR CW H o k l ns)(h2:OG l ns k)(h3:EnsL K H a zs)(h4:zs.length<64)(h5:∀e ∈ zs,EB l e)(q1:∀(bs:List Ent) (D:su) (H':Hp),xf k l ns [] zs (AK bs)->BG k l ns bs->Same H H'->H D=AL->EnsM K H' D bs->Q (.ref D) H')(q2:xf k l ns [] zs AL->∀H',Same H H'->E (.ref CF) AL H'):Zj K CO CR CW CF [.ref o,.ref a] H Q E:=#[o,a,k,l,ns,zs,rfl,h1,h2,h3,h4,h5,q1,q2]
def zgm(K:sr)(H1 H':Hp)(bs:List Ent)(e:Ent)(v:V):Prop:=∃i j,EndsAt (zc bs) e.1 i/\EndsAt (zc bs) e.2.1 j/\((wAt (zc bs) e.1 i=wAt (zc bs) e.2.1 j/\v=.non) \/
 (wAt (zc bs) e.1 i≠wAt (zc bs) e.2.1 j/\∃p s:su,v=.ref p/\H1 s=AL/\H' p=AK (.tup [.str (tx (yM bs e i j).1),.str (tx (yM bs e i j).2.1),.ref s])/\LsA K H' s ((yM bs e i j).2.2.map dSt)))
def zfn(K:sr)(H:Hp)(D:su)(k:Nat)(l:())(ns:List Int)(zs:List Ent)(i:Nat)(H':Hp):Prop:=∃(bs:List Ent) (AR:List V),Same H H'/\H' D=AK (.lst AR)/\EnsA K (kF D H') bs AR/\BG k l ns bs/\bs.length<=i/\∀r,xf k l ns bs (zs.drop i) r->xf k l ns [] zs r
def iQ:sQz 2 ["order","entries","built","entry","lower"] vq:=by nofun
def Zi{f CO CR CW CF:su}(B:Bt mg)(F:("built_anew"^^^vq))(ph:(5>>>"brought_down") ["entries","entry"] [] (X8 K CF))(oP:(1>>>"refuse_beyond") ["entry"] [] (jC K CF))(nN:(4<<<"as_rule") ["order","entry"] [] (vk K CO CR CW)):(6|||["order","entries"]) (Zj K CO CR CW CF):=by
 exists Fun.okX F iQ,0
 ·let#[o,a,k,l,ns,zs,rfl,ho,hG,hA,hz,hE,q1,q2]:=h
  refine#[_,(zh (zB 2 iQ.nd (y6 ze)) (zh (zZ PassesOwn.leaving rfl (zX (pv 1)) (zr (i:=3) iQ.nd rfl (.inl rfl)) (zh (zB 4 iQ.nd (clP hx ph hr .nil rfl (za (pv 2) (za (pv 3) ze)))) (zg (zJ (zt op_notN' (pv 4) yb (zv _)) (zh (xt (clP hx oP hr .nil rfl (za (pv 4) ze))) (zg (xt (wL bh bC bD yP (pv 2) (za (cl0 nN hr .nil rfl (za (pv 0) (za (pv 4) ze))) ze)))))
     zp)))) (zg (zl (pv 2))))),?_]
  have s16:=zS;let#[xs,hX,hI]:=id hA;have hxl:=hI.len;change Same H H'/\∃D:su,H D=AL/\H' D=AK (.lst [])/\σ=[!!o,!!a,!!D,AL,AL]
  ·ac_rfl;exact#[⋯,λp hp=>#[zd hp,p,hp,zb,rfl]]
  rintro σ H0 ⟨s0,D,hD,hD0,rfl⟩:_;right;change zfn K H D k l ns zs zs.length H'/\∃(v3 v4:Option V),σ=[!!o,!!a,!!D,v3,v4]
  ·ac_rfl;refine#[#[_,s0.seq hX],ForL.by (xs:=xs) (λi σ H'=>zfn K H D k l ns zs i H'/\∃(v3 v4:Option V),σ=[!!o,!!a,!!D,v3,v4]) #[#[[],[],s0,hD0,by erw[EnsA],#[∅,λe he=>(nomatch he),λe he=>(nomatch he)],ao _,λr h=>h],AL,AL,rfl] (λi σ H' _ ⟨⟨_,_,h,_⟩,_⟩=>h.seq hX) ?_ ?_]
   ·refine nm4 ?_;rintro i x σ H1 hx ⟨⟨bs,AR,s1,hH1,hI1,hB,hbi,hr⟩,v3,v4,rfl⟩:_;have hix:=(AS.mp hx).1;let#[e,pe,se,hei,rfl,hqe,hse]:=hI.get hx;have hEe:=hE e (ac hei)
    have hdrop:zs.drop i=e::zs.drop (i+1):=by
     let#[h1,h2]:=AS.mp hei;rw[aX h1,h2]
    rw[hdrop]at hr;have hal:=hI1.len;have hbn:=hB.n
    have hIs:Is K H1 (.lst (bs.map dE)) (.ref D):=by
     erw[Is]
     exact#[D,AR,rfl,SqL.of hH1,(hI1.same wQ).iss]
    right
    erw[yx,aU,aT]
    change Same H1 H'/\∃v:V,zgm K H1 H' bs e v/\σ=[!!o,!!a,!!D,!!pe,AK (v)]
    ·ac_rfl;exact zaj hG hIs hB (zo s1 hqe) (hse.same s1) hEe (λi' j' H' a1 a2 a3 s'=>#[s',i',j',a1,a2,.inl #[a3,rfl]]) (λi' j' p' s' H' a1 a2 a3 t' a4 a5 a6=>#[t',i',j',a1,a2,.inr #[a3,p',s',rfl,a4,a5,a6]]) λh H' s'=>q2 (hr _ (.stuck h)) H' (s1.trans s')
    rintro σ H2 ⟨s2,v,⟨i',j',hi',hj',hc⟩,rfl⟩:_;right;rcases hc with ⟨hw,rfl⟩ | ⟨hw,p',s',rfl,hsn,hp',hL'⟩
    ·ac_rfl;exact#[bs,AR,s1.trans s2,s2 _ _ hH1,hI1.same (vh s2),hB,⋯,λr h=>hr r (.same hi' hj' hw h)]
    ·ac_rfl
     try rw[w6 not_false]
     have hdl:=KB hB hG hEe hi'.most hj'.most;change H'=H2/\¬ ke (yM bs e i' j')/\σ=[!!o,!!a,!!D,!!pe,!!p']
     ·ac_rfl;exact Ua (SqT.of hp') hL'.is hdl.1 hdl.2 (λh=>#[rfl,h]) λh=>q2 (hr _ (.far hi' hj' hw h)) H2 (s1.trans s2)
     rintro σ H3 ⟨rfl,hF,rfl⟩:_;have hEd:=KC hB hEe hF;have hH3:=s2 _ _ hH1
     have fin:∀(v:V) (H4:Hp),Same H3 H4->EnA K (kF D H4) (yg k l ns (yM bs e i' j')) v->zfn K H D k l ns zs (i+1) (upd H4 D (.lst (AR ++ [v]))):=λv H4 s4 hv=>by
      refine#[bs ++ [yg k l ns (yM bs e i' j')],AR ++ [v],zu (s1.trans (s2.trans s4)) hD,zb,?_,hB.snoc ⋯ hEd hw,by rw[ak];show bs.length+1<=i+1;lia,λr h=>hr r (.new hi' hj' hw hF h)];exact (hI1.same ((vh (s2.trans s4)).trans xz)).snoc (hv.same xz)
     right;ac_rfl;refine#[.inl #[_,SqL.of hH3],kN (ho.same (s1.trans s2)) hG (SqT.of hp') hL'.is hEd (λer H4 s4=>#[AR,s4 _ _ hH3,⋯,fin _ _ s4 ?_]) λp2 t2 H4 s4 htn hp2 hL2=>#[AR,s4 _ _ hH3,⋯,fin _ _ s4 ?_]]
     ·rw[er];exact EnA.new (s4 _ _ hH3) (s4 _ _ hp') (hL'.same s4) (λz=>by rw[z,hH1]at hsn;cases hsn)
     ·exact EnA.new (s4 _ _ hH3) hp2 hL2 (λz=>by rw[z,hH3]at htn;cases htn)
   ·rintro σ H' ⟨h,v3,v4,rfl⟩;rw[hxl]at h;exact#[h,_,_,rfl]
  rintro σ H2 ⟨⟨bs,AR,s2,hH2,hI2,hB,hbi,hr⟩,v3,v4,rfl⟩:_;rw[eY]at hr;right;ac_rfl;exact q1 bs D H2 (hr _ (.nil bs)) hB s2 hD #[AR,hH2,hI2.same wQ]
theorem Kd(rs ss:List zC):uk (rs.map dR) (ss.map dR)=decide (rs=ss):=by
 induction rs generalizing ss with
 | nil=>cases ss with
  | nil=>simp [uk]
  | cons s ss=>simp [uk]
 | cons r rs ih=>cases ss with
  | nil=>simp [uk]
  | cons s ss =>
   rw[am,am,uk,ih]
   have h:eqD (dR r) (dR s)=decide (r=s):=by
    let#[a,b]:=r;let#[c,d]:=s
    have e1:∀x y:(),eqD (dS x) (dS y)=decide (x=y):=λx y=>by
     have:eqD (dS x) (dS y)=decide (tx x=tx y):=by erw[dS,eqD];rfl
     rw[this];exact decide_eq_decide.mpr #[vP,λh=>by rw[h]]
    erw[dR,eqD,uk,e1]
    by_cases h1:a=c <;> by_cases h2:b=d <;> simp [h1,h2]
   rw[h];by_cases h1:r=s <;> by_cases h2:rs=ss <;> simp [h1,h2]
def Lined.eb(h:Lined k l ns es zs)(hE:∀e ∈ es,EB l e):∀e ∈ zs,EB l e:=λe he=>by
 have hm:=h.perm.mem_iff.mp he;unfold qL at hm;let#[y,hy,rfl]:=AT.mp hm;exact (hE y (Ba.mp hy).1).rule
def Lined.len(h:Lined k l ns es zs):zs.length<=es.length:=by rw[h.perm.length_eq];exact X5 k l ns es
def QG(K:sr)(CO CR CW T CF:su):Sp:=λvs H Q E=>∃(o a:su) (k:Nat) (l:()) (ns:List Int) (es:List Ent),vs=[.ref o,.ref a]/\OrdAt CO CR CW H o k l ns/\OG l ns k/\EnsL K H a es/\es.length<64/\(∀e ∈ es,EB l e)/\TabOk H T lp lq /\
 (∀(bs:List Ent) (D:su) (H':Hp),uO k l ns 20 es (AK bs)->BG k l ns bs->SamT T H H'->TabOk H' T lp lq->EnsM K H' D bs->Q (.ref D) H')/\(uO k l ns 20 es AL->∀H',SamT T H H'->TabOk H' T lp lq->E (.ref CF) AL H')
def zgH(K:sr)(T:su)(H:Hp)(k:Nat)(l:())(ns:List Int)(es:List Ent)(n:Nat)(H':Hp)(b:su):Prop:=∃fs:List Ent,SamT T H H'/\TabOk H' T lp lq/\(∀r,uO k l ns n fs r->uO k l ns 20 es r)/\EnsL K H' b fs/\fs.length<64/\∀e ∈ fs,EB l e
def mx:sQz 2 ["order","entries","turn","lined_up"] jx:=by nofun
def Ue{f CO CR CW TB CF:su}(B:Bt mg)(T:zcQ K mg CF)(TM:TMo mg)(F:("thinned"^^^jx))(rp:(6<<<"in_order") ["order","entries"] [] (ZE K CO CR CW TB))(pT:(6>>>"built_anew") ["order","entries"] [] (Zj K CO CR CW CF))(gQ:(1<<<"pairs_of") ["entries"] [] (wD K)):(7|||["order","entries"]) (QG K CO CR CW TB CF):=by
 let#[t9,g9]:=TM.p
 exists Fun.okX F mx,0
 ·let#[o,a,k,l,ns,es,rfl,ho,hG,hA,hz,hE,hTab,q1,q2]:=h
  refine#[_,(zh (zZ PassesOwn.leaving rfl (zV rfl B.range (za (yJ (v:=.int 20) rfl g9 #[t9,rfl]) ze)) (zr (i:=2) mx.nd rfl (.inl rfl)) (zh (zB 3 mx.nd (cl0 rp hr .nil rfl (za (pv 0) (za (pv 1) ze)))) (zh (zB 1 mx.nd (clP hx pT hr .nil rfl (za (pv 0) (za (pv 3) ze)))) (zg (zJ (zt (Vr (wm hr)) (cl0 gQ hr .nil rfl (za (pv 1) ze)) (cl0 gQ hr .nil rfl (za (pv 3) ze)) (zv _)) (zg (zl (pv 1)))
     zp))))) (zg (yk hx rfl T.xi.toXC T.ini rfl T.g (za zQ ze)))),?_]
  have s16:=zS;let#[ps0,hps0,_]:=id hTab;change ∃b:su,zgH K TB H k l ns es 0 H' b
  ·ac_rfl;refine#[⋯,⋯,ForR.by (λi σ H'=>∃(b:su) (v2 v3:Option V),zgH K TB H k l ns es (20 - i) H' b/\σ=[!!o,!!b,v2,v3]) #[a,AL,AL,#[es,SamT.of (Same.refl _),hTab,λr h=>h,hA,hz,hE],rfl] ?_ ?_]
   ·refine nm3 ?_;rintro i σ H1 hi ⟨b,v2,v3,⟨fs,s1,hT1,hr,hF,hfl,hFE⟩,rfl⟩:_;have ho1:=ho.samT s1 hps0;have hi20:i<20:=hi;obtain⟨n,hn⟩:∃n,20 - i=n+1:=#[20 - i - 1,⋯];rw[hn]at hr;right
    erw[yx,aU,aT]
    change SamT TB H1 H'/\TabOk H' TB lp lq/\∃(z:su),(∃zs:List Ent,Lined k l ns fs zs/\EnsM K H' z zs)/\∃v2,σ=[!!o,!!b,v2,!!z]
    ·ac_rfl;exact Jy ho1 hG hF hfl hFE hT1 λD zs H' s' hT' Z hLn hM=>#[s',hT',D,#[zs,hLn,hM],rfl]
    rintro σ H2 ⟨s2,hT2,z,⟨zs,hLn,hZ⟩,v2,rfl⟩:_;have s12:=s1.trans s2;have ho2:=ho.samT s12 hps0;have hzE:=hLn.eb hFE;have hzl:=hLn.len;right;change Same H2 H'/\∃(c:su),(∃bs:List Ent,xf k l ns [] zs (AK bs)/\BG k l ns bs/\EnsM K H' c bs)/\σ=[!!o,!!c,v2,!!z]
    ·ac_rfl;exact Qi ho2 hG hZ.l ⋯ hzE (λbs D H' hb hB s' Z hM=>#[s',D,#[bs,hb,hB,hM],rfl]) λhb H' s'=>q2 (hr _ (.bad hLn hb)) H' (s12.trans (SamT.of s')) (hT2.same s')
    rintro σ H3 ⟨s3,c,⟨bs,hb,hB,hM⟩,rfl⟩:_;have hbn:=hB.n;right;ac_rfl;refine wc hM.l.is ⋯ λP1 H4 Z s4 hP1=>wc ((hZ.same s3).same s4).l.is ⋯ λP2 H5 Z s5 hP2=>Z4 (.inl #[(hP1.same s5).is,hP2.is]) (bT (zbl _) ∅) ?_;rw[Kd];have s45:=s4.trans s5;have s15:=s12.trans (SamT.of (s3.trans s45));have hT5:=hT2.same (s3.trans s45);refine#[_,rfl,z8 (λh=>?_) λh=>?_]
    ·exact q1 bs c H5 (hr _ (.done hLn hb (u6 h))) hB s15 hT5 (hM.same s45)
    ·have e:20 - (i+1)=n:=⋯;rw[e];exact#[bs,s15,hT5,λr h'=>hr r (.more hLn hb (λz=>h (u9 z)) h'),(hM.same s45).l,hbn,hB.e]
   ·rintro σ H' ⟨b,v2,v3,h,rfl⟩;exact#[b,h]
  rintro σ H2 ⟨b,fs,s2,hT2,hr,_⟩:_;right;ac_rfl;exact#[⋯,q2 (hr _ (.out fs)) H2 s2 hT2]
def ZW(K:sr):Sp:=λvs H Q Z=>∃(a:su) (ns:List Int) (k:Int),vs=[.ref a,.int k]/\SqL K H a (ns.map V.int)/\(∀z ∈ ns,kh z)/\0<=k/\∀c:Int,kh c->Q (.int c) H
def uC{ns:List Int}(hS:SqL K H a (ns.map V.int))(hB:∀z ∈ ns,kh z)(hk:0<=k)(h:∀c:Int,kh c->Q (.int c) H):ZW K [.ref a,.int k] H Q E:=#[a,ns,k,rfl,hS,hB,hk,h]
def zbD:sQz 2 ["_law_script","_law_k"] U5:=by nofun
def zc1(B:Bt mg)(F:("_law_cell"^^^U5)):(1&&&["_law_script","_law_k"]) (ZW K):=by
 exists F.ok zbD
 ·let#[a,ns,k,rfl,hS,hB,hk,q]:=h
  refine#[_,(zG (zJ (zt Xy (pv 1) (zE B.len (pv 0)) (zv _)) (zg (zl (zk zbm (pv 0) (pv 1))))
    zp) (zg (zl zf))),?_]
  have s16:=zS
  rfl'
  refine#[_,.inl #[_,hS,rfl],z8 (λc=>?_) (λc=>q 0 (by unfold kh;decide))];let#[v,h1,h2]:=j2 hk c;rw[au]at h2;let#[z,hz,rfl]:=AZ.mp h2;exact .inl #[_,hS,_,h1,q z (hB z (ac hz))]
def wB:Sp:=λvs H Q Z=>∃(c t:Int),vs=[.int c,.int t]/\kh c/\0<=t/\t<=100/\∀z:Int,0<=z->Q (.int z) H
def wU(hc:kh c)(h0:0<=t)(h1:t<=100)(q:∀z:Int,0<=z->Q (.int z) H):wB [.int c,.int t] H Q E:=#[c,t,rfl,hc,h0,h1,q]
def pV:sQz 2 ["_law_cell_here","_law_turn","_law_number"] Xp:=by nofun
def zag(B:Bt mg)(F:("_law_mixed"^^^Xp)):(1&&&["_law_cell_here","_law_turn"]) wB:=by
 exists F.ok pV
 ·let#[c,t,rfl,hc,h0,h1,q]:=h
  refine#[_,(zG (zB 2 pV.nd (zD yz (zD uH (zD KJ (pv 0) (pv 0)) zf) (zD uH (zD uH (pv 0) zf) (zD yz (pv 1) zf)))) (zg (zl (zD vm (zD xp (zD yz (pv 2) (zD uH (pv 1) zf)) zf) zf)))),?_]
  have s16:=zS
  rfl'
  exact#[hc,hc,.inr #[∅,∅],.inr #[∅,∅],.inr #[⋯,⋯],.inr #[∅,∅],∅,#[∅,∅],q _ (Int.ediv_nonneg (cz _ ∅) ∅)]
def u7:Sp:=λvs H Q Z=>∃c m:Int,vs=[.int c,.int m]/\kh c/\0<=m/\m<=26/\∀l:(),(l.length:Int)=m->l.Nodup->small l->Q (.str (tx l)) H
def We(h:kh c)(h0:0<=m)(h1:m<=26)(q:∀l:(),(l.length:Int)=m->l.Nodup->small l->Q (.str (tx l)) H):u7 [.int c,.int m] H Q E:=#[c,m,rfl,h,h0,h1,q]
def zgA(c m:Int)(i:Nat)(σ:L2.St):Prop:=∃(left found:()) (number:Int) (v5 v6:Option V),found.length=i/\(found ++ left).Perm alpha/\σ=[~~~!c,~~~!m,~~~left,~~~!number,~~~found,v5,v6]
def ia:sQz 2 ["_law_cell_here","_law_many","_law_left","_law_number","_law_letters_here","_law_k","_law_at"] j4:=by nofun
def VS(B:Bt mg)(F:("_law_letters"^^^j4))(lA:(1<<<"_law_mixed") ["_law_cell_here","_law_turn"] [] wB):(2&&&["_law_cell_here","_law_many"]) u7:=by
 exists F.ok ia
 ·let#[c,m,rfl,hc,h0,h1,q]:=h
  refine#[_,(zh (zB 2 ia.nd zQ) (zh (zB 3 ia.nd (cl0 lA hr .nil rfl (za (pv 0) (za zf ze)))) (zh (zB 4 ia.nd zQ) (zh (zZ p9 rfl (zV rfl B.range (za (pv 1) ze)) (zr (i:=5) ia.nd rfl (.inl rfl)) (zh (zB 6 ia.nd (zD xp (pv 3) (zE B.len (pv 2)))) (zh (zB 3 ia.nd (zD vm (pv 3) (zE B.len (pv 2)))) (zh (zB 4 ia.nd (zD zL (pv 4) (zk wJ (pv 2) (pv 6)))) (zg (zB 2 ia.nd (zD zL (zY xY (pv 2) yG (z6 (pv 6))) (zY xY (pv 2) (z6 (zD yz (pv 6) zf)) yG)))))))) (zg (zl (pv 4))))))),?_]
  have s16:=zS;have ha:alpha.length=26:=rfl;change H'=H/\σ=[~~~!c,~~~!m,~~~alpha,AL,AL,AL,AL]
  ·rfl'
   exact UJ
  rintro σ H1 ⟨rfl,rfl⟩:_;right;change H'=H1/\∃z:Int,σ=[~~~!c,~~~!m,~~~alpha,~~~!z,AL,AL,AL]
  ·rfl'
   exact wU hc ∅ ∅ λz Z=>#[rfl,z,rfl]
  rintro σ H2 ⟨rfl,z,rfl⟩:_;right;change H'=H2/\σ=[~~~!c,~~~!m,~~~alpha,~~~!z,AK (.str (tx [])),AL,AL]
  ·rfl'
   rfl
  rintro σ H3 ⟨rfl,rfl⟩:_;right;change H'=H3/\zgA c m m.toNat σ
  ·rfl'
   refine#[⋯,⋯,ForR.by (λi σ H'=>H'=H3/\zgA c m i σ) #[rfl,alpha,[],z,AL,AL,rfl,.refl _,rfl] ?_ λσ H' h=>h];refine nm3 ?_;rintro i σ H' hi ⟨rfl,left,found,number,v5,v6,hf,hp,rfl⟩:_;have hpl:=hp.length_eq;rw[ak]at hpl;have hl:left.length+i=26:=⋯;have hm0:=cz number (b:=(left.length:Int)) ⋯;have hm1:=cp number (b:=(left.length:Int)) ⋯;right;generalize hz:number % (left.length:Int)=at_ at hm0 hm1;let#[v,e1,e2]:=j2 hm0 hm1
   erw[yx,aU,aT]
   refine zj (λσ H''=>H''=H'/\∃v5,σ=[~~~!c,~~~!m,~~~left,~~~!number,~~~found,v5,~~~!at_]) ?_ ?_
   ·rfl'
    exact#[⋯,⋯,hz]
   rintro σ G1 ⟨rfl,v5',rfl⟩:_;right;refine zj (λσ H''=>H''=G1/\∃n v5,σ=[~~~!c,~~~!m,~~~left,~~~!n,~~~found,v5,~~~!at_]) ?_ ?_
   ·rfl'
    exact#[⋯,#[⋯,⋯]]
   rintro σ G2 ⟨rfl,n,v5',rfl⟩:_;right;refine zj (λσ H''=>H''=G2/\∃v5,σ=[~~~!c,~~~!m,~~~left,~~~!n,AK (.str (tx (found ++ [v]))),v5,~~~!at_]) ?_ ?_
   ·rfl'
    exact#[⋯,v,e1,⋯,rfl]
   rintro σ G3 ⟨rfl,v5',rfl⟩:_;have hc1:=wX left AL (AK at_);have hc2:=wX left (AK (at_+1)) AL;right
   rfl'
   refine#[⋯,⋯,⋯,_,_,_,_,_,by rw[ak,hf];rfl,?_,rfl];rw[qw _ hm0,wA _ ⋯,aV];have e3:(at_+1).toNat=at_.toNat+1:=⋯;rw[e3];exact ((UD e2).append_left found).trans hp
  rintro σ H4 ⟨rfl,left,found,number,v5,v6,hf,hp,rfl⟩:_;right
  rfl'
  have hnd:(found ++ left).Nodup:=hp.nodup_iff.mpr ∅;refine q found ⋯ (List.nodup_append.mp hnd).1 λc hc=>?_;have h:c ∈ alpha:=hp.mem_iff.mp (bH _ hc);exact (by decide:∀c ∈ alpha,97<=c/\c<=122) c h
def Zn:Sp:=λvs H Q Z=>∃(ls:()) (c m:Int),vs=[.int c,.str (tx ls),.int m]/\0<=c/\1<=ls.length/\ls.length<=26/\0<=m/\m<=100/\∀l:(),(l.length:Int)<=m->(∀x ∈ l,x ∈ ls)->Q (.str (tx l)) H
def J9(h0:0<=c)(h1:1<=ls.length)(h2:ls.length<=26)(h3:0<=m)(h4:m<=100)(h:∀l:(),(l.length:Int)<=m->(∀x ∈ l,x ∈ ls)->Q (.str (tx l)) H):Zn [.int c,.str (tx ls),.int m] H Q E :=
 #[ls,c,m,rfl,h0,h1,h2,h3,h4,h]
def lB:sQz 3 ["_law_number","_law_letters_here","_law_most","_law_size","_law_word_here","_law_k"] UE:=by nofun
def zcq(B:Bt mg)(F:("_law_word"^^^UE)):(1&&&["_law_number","_law_letters_here","_law_most"]) Zn:=by
 exists F.ok lB
 ·let#[ls,c,m,rfl,h0,h1,h2,h3,h4,q]:=h
  refine#[_,(zG (zB 3 lB.nd (zD xp (pv 0) (zD yz (pv 2) zf))) (zG (zB 0 lB.nd (zD vm (pv 0) (zD yz (pv 2) zf))) (zG (zB 4 lB.nd zQ) (zG (zZ p9 rfl (zV rfl B.range (za (pv 3) ze)) (zr (i:=5) lB.nd rfl (.inl rfl)) (zG (zB 4 lB.nd (zD zL (pv 4) (zk wJ (pv 1) (zD xp (pv 0) (zE B.len (pv 1)))))) (zg (zB 0 lB.nd (zD vm (pv 0) (zE B.len (pv 1))))))) (zg (zl (pv 4))))))),?_]
  have s16:=zS
  rfl'
  have m0:=cz c (b:=m+1) ⋯;have m1:=cp c (b:=m+1) ⋯
  refine#[⋯,#[⋯,⋯],⋯,⋯,ForR.by (λi σ H'=>H'=H/\∃(found:()) (number:Int) (v5:Option V),σ=[~~~!number,~~~ls,~~~!m,AK (.int (c % (m+1))),~~~found,v5]/\found.length=i/\∀x ∈ found,x ∈ ls)
   #[rfl,[],_,AL,rfl,rfl,λx h=>(nomatch h)] ?_ ?_]
  ·rintro i σ H' hi ⟨rfl,found,number,v5,rfl,hf,hm⟩
   rfl'
   have hm0:=cz number (b:=(ls.length:Int)) ⋯;have hm1:=cp number (b:=(ls.length:Int)) ⋯;let#[v,e1,e2]:=j2 hm0 hm1
   repeat (refine And.intro (by first | lia | decide | exact#[⋯,⋯] | assumption) ?_)
   refine#[v,e1,?_]
   repeat (refine And.intro (by first | lia | decide | exact#[⋯,⋯] | assumption) ?_)
   refine#[by rw[ak,hf];rfl,λx hx=>?_];rcases AV.mp hx with h | h
   ·exact hm x h
   ·rw[AW.mp h];exact ac e2
  ·rintro σ H' ⟨rfl,found,number,v5,rfl,hf,hm⟩
   rfl'
   exact q found ⋯ hm
structure zhd(K:sr):Prop where
 ii:aS K (.type "int") (.type "int")=AK AM
 ib:aS K (.type "int") (.type "bool")=AK AN
def ur:Sp:=λvs H Q Z=>∃i:Int,vs=[.int i]/\Q (.bl AM) H
def jd(h:Q (.bl AM) H):ur [.int i] H Q E:=#[i,rfl,h]
def zah:sQz 1 ["_law_found"] XA:=by nofun
def zaa(B:Bt mg)(T:zhd K)(F:("_law_whole"^^^XA)):(1&&&["_law_found"]) ur:=by
 exists F.ok zah
 ·let#[i,rfl,q]:=h;refine#[_,(zg (zl (jG (yI rfl B.isi (pv 0) rfl B.int PySem.Pv.boot_int) (jE (zaK (yI rfl B.isi (pv 0) rfl B.bool PySem.Pv.boot_bool)))))),?_]
  rfl'
  exact#[_,.inl (.int _),AM,T.ii,zfL #[_,.inl (.int _),AN,T.ib,q]]
structure TLs(K:sr):Prop where
 ll:aS K (.type "list") (.type "list")=AK AM
 tt:aS K (.type "tuple") (.type "tuple")=AK AM
 bb:aS K (.type "bool") (.type "bool")=AK AM
def ZX(K:sr):Sp:=λvs H Q Z=>∃(t:su) (ss:List Stp),vs=[.ref t]/\Is K H (.lst (ss.map dSt)) (.ref t)/\Q (.bl AM) H
def pW:sQz 1 ["_law_found","_law_step"] XZ:=by nofun
def zar(B:Bt mg)(T:TLs K)(F:("_law_steps"^^^XZ))(og:(1<<<"_law_whole") ["_law_found"] [] ur):(2&&&["_law_found"]) (ZX K):=by
 exists F.ok pW
 ·let#[t,ss,rfl,hT,q]:=h
  refine#[_,(zh (zJ (yd (ym (yI rfl B.isi (pv 0) rfl B.list PySem.Pv.boot_list) (λZ=>rfl))) (zg (zl yC))
    zp) (zh (zZ p9 rfl (zX (pv 0)) (zr (i:=1) pW.nd rfl (.inl rfl)) (zh (zJ (PW.pt (vF (yd (ym (yI rfl B.isi (pv 1) rfl B.tuple PySem.Pv.boot_tuple) (λZ=>rfl))) (vF (zt qG (zE B.len (pv 1)) zf (zv _)) (wH (yd (ym (yI rfl B.isi (!-1) rfl B.bool PySem.Pv.boot_bool) (λZ=>rfl))))))) (zg (zl yC))
     zp) (zg (zJ (PW.pt (vF (yd (ym (cl0 og hr .nil rfl (za (!-1) ze)) (λZ=>rfl))) (wH (yd (ym (cl0 og hr .nil rfl (za (!-1) ze)) (λZ=>rfl)))))) (zg (zl yC))
     zp)))) (zg (zl yC)))),?_]
  have s16:=zS
  erw[Is]at hT
  let#[_,ts,e,hTs,hJ]:=hT;cases e;change H'=H/\σ=[!!t,AL]
  ·rfl'
   exact#[_,.inr (.inr (.inl #[_,_,rfl,rfl,hTs])),AM,T.ll,Yi trivial]
  rintro σ H1 ⟨rfl,rfl⟩:_;right;change H'=H1/\∃v1,σ=[!!t,v1]
  ·rfl'
   refine#[#[_,hTs],ForL.by (xs:=ts) (λi σ H'=>H'=H1/\∃v1,σ=[!!t,v1]) #[rfl,_,rfl] (λi σ H' Z h=>by rw[h.1];exact hTs) ?_ λσ H' h=>h];refine nm4 ?_;rintro i x σ H' hx ⟨rfl,v1,rfl⟩:_;let#[u,pu,hui,rfl,hqu]:=uq hJ hx;right
   erw[yx,aU,aT]
   refine zj (λσ H''=>H''=H'/\σ=[!!t,!!pu]) ?_ ?_
   ·rfl'
    exact#[_,.inr (.inr (.inr #[_,_,rfl,rfl,hqu])),AM,T.tt,Yi #[_,.inr #[_,hqu,rfl],z8 (λh=>w4 rfl h) λZ=>#[_,hqu,_,rfl,_,.inl (.bl _),AM,T.bb,Yi trivial]]]
   rintro σ G ⟨rfl,rfl⟩:_;right
   rfl'
   exact#[_,hqu,_,rfl,jd #[AM,rfl,Yi #[_,hqu,_,rfl,jd #[AM,rfl,Yi rfl]]]]
  rintro σ H2 ⟨rfl,v1,rfl⟩:_;right
  rfl'
  exact q
def Z8(K:sr):Sp:=λvs H Q Z=>∃(a t:su) (rs:List zC) (w w':()) (s:Stp),vs=[.ref a,.str (tx w),.ref t]/\Is K H (.lst (rs.map dR)) (.ref a)/\kK rs/\w.length<=300000/\SqT K H t [.int s.1,.int s.2.1,.bl s.2.2]/\yD rs w s=AK w'/\Q (.str (tx w')) H
def Qp{w w':()}(h1:Is K H (.lst (rs.map dR)) (.ref a))(h2:kK rs)(h3:w.length<=300000)(h4:SqT K H t [.int s.1,.int s.2.1,.bl s.2.2])(h5:yD rs w s=AK w')(q:Q (.str (tx w')) H):Z8 K [.ref a,.str (tx w),.ref t] H Q E:=#[a,t,rs,w,w',s,rfl,h1,h2,h3,h4,h5,q]
def nh:sQz 3 ["_law_pacts","_law_word_here","_law_step","_law_old","_law_new"] UL:=by nofun
def zcP(B:Bt mg)(F:("_law_used"^^^UL)):(1&&&["_law_pacts","_law_word_here","_law_step"]) (Z8 K):=by
 refine F.ok nh (λvs H Q E h=>?_) (λcdv A outer s H vs Q E hr h=>?_)
 ·let#[a,t,rs,w,w',s,rfl,_]:=h;rfl
 ·let#[a,t,rs,w,w',s,rfl,hR,ok,hw,ht,ha,q]:=h
  refine#[_,(zh (zB 3 nh.nd (zk u5 (zk ix_list (pv 0) (!-2)) zf)) (zh (zB 4 nh.nd (zk u5 (zk ix_list (pv 0) (!-2)) zf)) (zh (zJ (yd (ym (!-2) (λZ=>rfl))) (zG (zB 3 nh.nd (zk u5 (zk ix_list (pv 0) (!-2)) zf)) (zg (zB 4 nh.nd (zk u5 (zk ix_list (pv 0) (!-2)) zf))))
    zp) (zg (zl (zD zL (zD zL (zY xY (pv 1) yG (z6 (!-2))) (pv 4)) (zY xY (pv 1) (z6 (zD yz (!-2) (zE B.len (pv 3)))) yG))))))),?_]
  have s16:=zS
  erw[Is]at hR
  let#[_,xs,e,hX,hI]:=hR;cases e;have hb:0<=s.1/\s.1<rs.length:=bS λhb=>by rw[xj hb]at ha;cases ha
  let#[p,a1,_,hp]:=ze6 hI hb.1 hb.2;have gl:=Wg ok s.1.toNat;rw[y3 hb]at ha;generalize rs.getD s.1.toNat ([],[])=r at *;change H'=H/\σ=[!!a,~~~w,!!t,AK (.str (tx r.1)),AL]
  ·rfl'
   exact#[_,ht,_,rfl,_,rfl,_,hX,_,a1,_,rfl,_,hp,rfl]
  rintro σ H1 ⟨rfl,rfl⟩:_;right;change H'=H1/\σ=[!!a,~~~w,!!t,AK (.str (tx r.1)),AK (.str (tx r.2))]
  ·rfl'
   exact#[_,ht,_,rfl,_,rfl,_,hX,_,a1,_,rfl,_,hp,rfl]
  rintro σ H2 ⟨rfl,rfl⟩:_;right;change H'=H2/\σ=[!!a,~~~w,!!t,AK (.str (tx (sdl r s.2.2).1)),AK (.str (tx (sdl r s.2.2).2))]
  ·rfl'
   refine#[_,ht,_,rfl,_,rfl,z8 (λh=>#[_,ht,_,rfl,_,rfl,_,hX,_,a1,_,rfl,_,hp,_,rfl,_,ht,_,rfl,_,rfl,_,hX,_,a1,_,rfl,_,hp,_,rfl,?_]) λh=>?_]
   ·rw[h];exact#[rfl,rfl]
   ·rw[Bool.not_eq_false]at h;rw[h];exact#[rfl,rfl]
  rintro σ H3 ⟨rfl,rfl⟩:_
  have hol:(sdl r s.2.2).1.length<=100:=by
   cases s.2.2
   ·exact gl.2
   ·exact gl.1
  have hnl:(sdl r s.2.2).2.length<=100:=by
   cases s.2.2
   ·exact gl.1
   ·exact gl.2
  right;generalize sdl r s.2.2=on at *;have hst:zw w s.2.1 on.1=AM:=bS λhst=>by rw[w9 hst]at ha;cases ha
  rw[w6 hst]at ha;let#[_,_,h0,h1]:=yo hst;have c1:=wX w AL (AK s.2.1);have c2:=wX w (AK (s.2.1 + ↑on.1.length)) AL
  rfl'
  refine#[_,ht,_,rfl,_,rfl,⋯,⋯,_,ht,_,rfl,⋯,_,rfl,⋯,?_,?_]
  ·rw[ak];lia
  ·rw[zb0 h0];cases ha;exact q
def W9(hp:H p=AK (.lst ys))(h:SqT K H a xs):SqT K (upd H p (.lst zs)) a xs:=by
 rcases h with (h | ⟨o,h⟩) | h
 ·exact .inl (.inl (by rw[zq (λe=>by rw[e,hp]at h;cases h)];exact h))
 ·exact .inl (.inr #[o,by rw[zq (λe=>by rw[e,hp]at h;cases h)];exact h])
 ·exact .inr h
def QP{w w':()}(h:yD rs w s=AK w'):0<=s.1/\s.1<rs.length:=bS λhb=>by rw[xj hb]at h;cases h
def WW(K:sr):Sp:=λvs H Q Z=>∃(a t:su) (rs:List zC) (w w':()) (ss:List Stp),vs=[.ref a,.str (tx w),.ref t]/\Is K H (.lst (rs.map dR)) (.ref a)/\kK rs/\w.length<=60/\Is K H (.lst (ss.map dSt)) (.ref t)/\ss.length<=2000/\yl rs w ss=AK w'/\Q (.str (tx w')) H
def QZ{w w':()}(h1:Is K H (.lst (rs.map dR)) (.ref a))(h2:kK rs)(h3:w.length<=60)(h4:Is K H (.lst (ss.map dSt)) (.ref t))(h5:ss.length<=2000)(h6:yl rs w ss=AK w')(q:Q (.str (tx w')) H):WW K [.ref a,.str (tx w),.ref t] H Q E:=#[a,t,rs,w,w',ss,rfl,h1,h2,h3,h4,h5,h6,q]
def Uw{w w':()}(h:yl rs w ss=AK w')(hs:ss[i]? = AK s)(h1:yl rs w (ss.take i)=AK w1):∃w2,yD rs w1 s=AK w2/\yl rs w (ss.take (i+1))=AK w2:=by
 have e:ss=ss.take (i+1) ++ ss.drop (i+1):=(cf _ _).symm;rw[e,xA]at h;let#[w2,h2,_]:=Bk.mp h;refine#[w2,?_,h2];rw[zO hs,xA,h1]at h2
 erw[yl,bZ]at h2
 let#[w3,h3,h4]:=Bk.mp h2;cases h4;exact h3
def oQ:sQz 3 ["_law_pacts","_law_word_here","_law_steps_here","_law_step","_law_old"] zbH:=by nofun
def zeA(B:Bt mg)(F:("_law_end"^^^zbH))(rY:(1<<<"_law_used") ["_law_pacts","_law_word_here","_law_step"] [] (Z8 K)):(2&&&["_law_pacts","_law_word_here","_law_steps_here"]) (WW K):=by
 refine F.ok oQ (λvs H Q E h=>?_) (λcdv A outer s H vs Q E hr h=>?_)
 ·let#[a,t,rs,w,w',ss,rfl,_]:=h;rfl
 ·let#[a,t,rs,w,w',ss,rfl,hR,ok,hw,hT,hsl,hwk,q]:=h
  refine#[_,(zh (zZ p9 rfl (zX (pv 2)) (zr (i:=3) oQ.nd rfl (.inl rfl)) (zh (zJ (PW.pt (vF (zt Xy (!-3) zf (zv _)) (vF (zt op_ge' (!-3) (zE B.len (pv 0)) (zv _)) (wH (zt Xy (!-3) zf (zv _)))))) (zg (zl yb))
     zp) (zh (zB 4 oQ.nd (zk u5 (zk ix_list (pv 0) (!-3)) (zD xD zf (vg Qx rfl B.int PySem.Pv.boot_int (za (!-3) ze))))) (zh (zJ (PW.pt (vF (zt UG (zD yz (!-3) (zE B.len (pv 4))) (zE B.len (pv 1)) (zv _)) (wH (zt qG (zY xY (pv 1) (z6 (!-3)) (z6 (zD yz (!-3) (zE B.len (pv 4))))) (pv 4) (zv _))))) (zg (zl yb))
     zp) (zg (zB 1 oQ.nd (cl0 rY hr .nil rfl (za (pv 0) (za (pv 1) (za (pv 3) ze)))))))))) (zg (zl (pv 1)))),?_]
  have s16:=zS;have hR':=hR;have hT':=hT
  erw[Is]at hR' hT'
  let#[_,xs,e,hX,hI]:=hR';cases e;let#[_,ts,e,hTs,hJ]:=hT';cases e;have htl:=hJ.len;rw[aa]at htl;change H'=H/\∃v3 v4,σ=[!!a,~~~w',!!t,v3,v4]
  ·rfl'
   refine#[#[_,hTs],ForL.by (xs:=ts) (λi σ H'=>H'=H/\∃w1 v3 v4,yl rs w (ss.take i)=AK w1/\w1.length<=60+i * 100/\σ=[!!a,~~~w1,!!t,v3,v4]) #[rfl,w,_,_,rfl,⋯,rfl] (λi σ H' Z h=>by rw[h.1];exact hTs) ?_ ?_]
   ·refine nm4 ?_;rintro i x σ H' hx ⟨rfl,w1,v3,v4,hw1,hl1,rfl⟩:_;let#[s,ps,hsi,rfl,hqs]:=uq hJ hx;have hil:=(AS.mp hsi).1;let#[w2,haf,hw2]:=Uw hwk hsi hw1;have hl2:=Qs ok haf;have hb:=QP haf;let#[p,a1,_,hp]:=ze6 hI hb.1 hb.2;have gl:=Wg ok s.1.toNat;have ha:=haf;rw[y3 hb]at ha;right;generalize rs.getD s.1.toNat ([],[])=r at *;have hst:zw w1 s.2.1 (sdl r s.2.2).1=AM:=bS λhst=>by rw[w9 hst]at ha;cases ha
    let#[_,_,h0,h1]:=yo hst
    erw[yx,aU,aT]
    refine zj (λσ H''=>H''=H'/\σ=[!!a,~~~w1,!!t,!!ps,v4]) ?_ ?_
    ·rfl'
     exact#[_,hqs,_,rfl,_,rfl,z8 (λh=>w4 hb.1 ⋯) λZ=>#[_,hqs,_,rfl,_,.inl #[_,hX,rfl],_,rfl,z8 (λh=>w4 hb.2 (by have:=hI.len;rw[aa]at this;lia)) λZ=>#[_,hqs,_,rfl,_,rfl,z8 (λh=>w4 h0 ⋯) λZ=>trivial]]]
    rintro σ G ⟨rfl,rfl⟩:_;right;refine zj (λσ H''=>H''=G/\σ=[!!a,~~~w1,!!t,!!ps,AK (.str (tx (sdl r s.2.2).1))]) ?_ ?_
    ·rfl'
     refine#[_,hqs,_,rfl,_,rfl,_,hX,_,a1,_,hqs,_,rfl,.inr #[_,rfl,_,rfl,_,hp,?_]];cases s.2.2 <;> rfl
    rintro σ G1 ⟨rfl,rfl⟩:_;right;refine zj (λσ H''=>H''=G1/\σ=[!!a,~~~w1,!!t,!!ps,AK (.str (tx (sdl r s.2.2).1))]) ?_ ?_
    ·rfl'
     have hol:(sdl r s.2.2).1.length<=100:=by
      cases s.2.2
      ·exact gl.2
      ·exact gl.1
     refine#[_,hqs,_,rfl,⋯,_,rfl,⋯,z8 (λh=>w4 h1 ⋯) λZ=>#[_,hqs,_,rfl,_,rfl,_,hqs,_,rfl,⋯,_,rfl,⋯,z8 (λh=>w4 ?_ h) λZ=>trivial]];have hst':=hst;unfold zw at hst';rw[decide_eq_true_eq]at hst';rw[XS _ h0 ⋯ ⋯];have e:(s.2.1+((sdl r s.2.2).1.length:Int) - s.2.1).toNat=(sdl r s.2.2).1.length:=⋯;rw[e];exact hst'.2.2
    rintro σ G2 ⟨rfl,rfl⟩:_;right
    rfl'
    refine Qp hR ok ⋯ hqs haf #[rfl,w2,hw2,⋯,rfl]
   ·rintro σ H' ⟨rfl,w1,v3,v4,hw1,hl1,rfl⟩;rw[htl,aK,hwk]at hw1;cases hw1;exact#[rfl,_,_,rfl]
  rintro σ H2 ⟨rfl,v3,v4,rfl⟩:_;right
  rfl'
  exact q
def zgM(hx:XE X E)(D:DMk X.prog X.w X.K X.mg X.base (CXx X.prog X.w) k C ps sp)(hr:Room j X.A)(hg:Gl X x)(hm:X.mg x=AK (.ref C))(ha:PA X (e::es) t)(hdb:‹(x ==("__debug__" : sB))=AN›)(he:‹so (e::es) X.env=(AN,eval e X.env)::so es X.env›)(hpl:‹(sQ pos (so es X.env)).any (·.1)=AN›)(hj:‹k+1<=j›):PE X (.Call (.Name x p) (e::es) [] pos) (JK C sp [] E t):=by let#[f,fd,M,F,hb]:=D.ex;exact Qq M F (hr.mono hj) hg hm hb .nil (Vq hx) ha hdb he hpl
abbrev zg2(mg:sB->Option sv):Prop:=mg "any" = AL
structure TNT(K:sr)(mg:sB->Option sv)(C:su):Prop where
 xi:XI K C
 g:mg "NotTurned" = AK (.ref C)
 na:NoAttr K C "number"
def qg:sQz 2 ["self","number"] z9:=by nofun
def uV(T:TNT K mg C)(F:Fun K "__init__" "NotTurned.__init__" z9 f fd):(1&&&["self","number"]) (ui C "number"):=by
 exists F.ok qg
 ·let#[x,v,rfl,hx,q]:=h;refine#[_,(zg (QX (pv 0) (pv 1) rfl)),?_]
  erw[zcZ]
  rfl'
  exact#[C,hx,T.xi.toXC,T.na,q]
structure DNT(P:sJ)(w:sP)(K:sr)(mg:sB->Option sv)(base:sU)(C:su):Prop extends TNT K mg C where
 ini:∃f fd,ah K (.ref C) "__init__" = AK (AK (.ref f))/\be K (.ref f)=AM/\(1&&&["self","number"]) (ui C "number")/\Binds K fd ["self","number"] []
structure zdF(K:sr)(mg:sB->Option sv)(CH:su):Prop where
 cl:Cls K CH
 g:mg "System" = AK (.ref CH)
 no:NoAttr K CH "order"
 nr:NoAttr K CH "rules"
end in def va(k:Nat)(l:())(ns:List Int):List zC->Nat->Option Nat
 | [],_=>AL
 | r::rs,i=>if zP k l ns r.2 r.1=AM then va k l ns rs (i+1)else AK i
theorem WU : ∀{ps:List zC} {j i:Nat} {r:zC},(∀(m:Nat) (p:zC),m<i->ps[m]? = AK p->zP k l ns p.2 p.1=AM)->ps[i]? = AK r->zP k l ns r.2 r.1=AN->va k l ns ps j=AK (j+i)
 | [],_,_,_,_,h,_=>by simp at h
 | p::ps,j,0,r,_,h,hl=>by
  cases h;rw[va,hl,w9 aF];rfl
 | p::ps,j,i+1,r,hb,h,hl=>by
  rw[va,w6 (hb 0 p (Nat.succ_pos _) rfl),WU (i:=i) (λm q hm e=>hb (m+1) q ⋯ e) h hl];congr 1;lia
theorem qf : ∀{ps:List zC} {j:Nat},(∀(m:Nat) (p:zC),ps[m]? = AK p->zP k l ns p.2 p.1=AM)->va k l ns ps j=AL
 | [],_,_=>rfl
 | p::ps,j,hb=>by
  rw[va,w6 (hb 0 p rfl)];exact qf λm q e=>hb (m+1) q e
def InL(l:())(ps:List zC):Prop:=∀p ∈ ps,p.1.length<=1000/\p.2.length<=1000/\(∀c ∈ p.1,c ∈ l)/\∀c ∈ p.2,c ∈ l
def qN(K:sr)(CO CR CW CT CH:su):Sp:=λvs H Q E=>∃(x dx o a:su) (k:Nat) (l:()) (ns:List Int) (ps:List zC) (xs:List V),vs=[.ref x,.ref o,.ref a]/\H x=AK (.ins CH dx [])/\OrdAt CO CR CW H o k l ns/\OG l ns k/\H a=AK (.lst xs)/\Iss K H (ps.map dR) xs/\InL l ps /\
 (∀i,va k l ns ps 0=AK i->∀H1,Same H H1->∀d H',zfZ H1 d "number" (.int (i:Nat)) H'->E (.ref CT) (AK d) H') /\
 (va k l ns ps 0=AL->∀(q:su) (H':Hp),(∀b o',b≠x->H b=AK o'->H' b=AK o')->H' x=AK (.ins CH dx [("order",.ref o),("rules",.ref q)])->H' q=AK (.lst xs)->H q=AL->Q .non H')
def lC:sQz 3 ["self","order","rules","number","rule"] wx:=by nofun
def kq{f CO CR CW CT CH:su}(B:Bt mg)(T:DNT P w K mg base CT)(TS:zdF K mg CH)(DBk:DB P w K mg base CO CR CW)(F:Fun K "__init__" "System.__init__" wx f fd):(5|||["self","order","rules"]) (qN K CO CR CW CT CH):=by
 let#[fi,fdi,hi,hfn,Fi,Bi]:=T.ini
 exists Fun.okX F lC,0
 ·let#[x,dx,o,a,k,l,ns,ps,xs,rfl,hx0,ho,hG,hA,hI,hP,q1,q2]:=h
  refine#[_,(zh (zZ PassesOwn.leaving rfl (xH rfl B.enum (za (pv 2) ze)) (qr (n:=2) rfl (ye (zr (i:=3) lC.nd rfl (.inl rfl)) (ye (zr (i:=4) lC.nd rfl (.inl rfl)) vb))) (zg (zJ (yd (ym (zdo DBk hr (pv 1) (za (!-4) (za (!-4) ze))) (λZ=>rfl))) (zg (Y5 hx rfl T.xi.toXC hi hfn Fi (hr.mono ∅) Bi rfl T.g (za (pv 3) ze)))
     zp))) (zh (Yl (pv 0) (pv 1) rfl) (zg (Yl (pv 0) (vg xF rfl B.list PySem.Pv.boot_list (za (pv 2) ze)) rfl)))),?_]
  have s16:=zS;change Same H H'/\va k l ns ps 0=AL/\∃v3 v4,σ=[!!x,!!o,!!a,v3,v4]
  ·ac_rfl;refine#[#[_,SqL.of hA],ForEL.by (xs:=xs) (λi σ H'=>Same H H'/\(∀(j:Nat) (p:zC),j<i->ps[j]? = AK p->zP k l ns p.2 p.1=AM)/\∃v3 v4,σ=[!!x,!!o,!!a,v3,v4]) #[Same.refl _,λj p h=>w4 h (bI j),_,_,rfl] ?_ ?_ ?_]
   ·rintro i σ H' _ ⟨hs,_⟩;exact SqL.of (hs _ _ hA)
   ·rintro i y σ H' p hy ⟨hs,hb,v3,v4,rfl⟩ hpn;let#[r,pr,hri,rfl,hqr]:=hI.getR hy;have hm:=hP r (ac hri);have s2:=hs.trans (zd (o:=.tup [.int (i:Nat),.ref pr]) hpn);have ho2:=ho.same s2;have hq2:=zo s2 hqr;let#[C,dy,fs,hf,hoC,hn,_]:=ho2.fam;have hn1:fs.lookup ("before" : sB)=AL:=hn _ ∅ ∅;ac_rfl;refine#[_,SqT.of zb,rfl,_,_,rfl,_,_,rfl,rfl,C,hf,dy,fs,hoC,hn1,_,rfl,_,hq2,_,rfl,_,rfl,_,hq2,_,rfl,o,k,l,ns,r.2,r.1,rfl,ho2,hG,hm.2.1,hm.1,hm.2.2.2,hm.2.2.1,λH3 s3=>?_];have s16:=zS;refine#[_,rfl,z8 (λe=>#[⋯,Qv (q1 i (by have:=WU (j:=0) hb hri e;simpa using this) H3 (s2.trans s3))]) λe=>#[s2.trans s3,λj p' hj hp'=>?_]];by_cases hj':j<i
    ·exact hb j p' hj' hp'
    ·have:j=i:=⋯;rw[this,hri]at hp';cases hp';simpa using e
   ·rintro σ H' ⟨hs,hb,v3,v4,rfl⟩;have hxl:=hI.len;rw[aa]at hxl;exact#[hs,qf λm p e=>hb m p (by have:=(AS.mp e).1;lia) e,v3,v4,rfl]
  rintro σ H1 ⟨s1,hf,v3,v4,rfl⟩:_;right;change H'=upd H1 x (.ins CH dx [("order",.ref o)])/\σ=[!!x,!!o,!!a,v3,v4]
  ·ac_rfl;exact#[_,_,_,s1 _ _ hx0,TS.cl,TS.no,∅,rfl]
  rintro σ H2 ⟨rfl,rfl⟩:_;right;ac_rfl;have hax:a≠x:=λe=>by rw[e,hx0]at hA;cases hA
  refine#[xs,.inl (SqL.of (by rw[zq hax];exact s1 _ _ hA)),λq hq=>?_];have hqx:q≠x:=λe=>by rw[e,zb]at hq;cases hq
  rw[zq hqx]at hq
  have hqH:H q=AL:=by
   cases e:H q with
   | none=>rfl
   | some o'=>rw[s1 _ _ e]at hq;cases hq
  refine#[CH,dx,_,by rw[zq hqx.symm,zb],TS.cl,TS.nr,by show 1<1000;decide,q2 hf q _ (λb o' hb e=>?_) zb (by rw[zq hqx,zb]) hqH];rw[zq hb,zq (λz=>by rw[z,hqH]at e;cases e),zq hb];exact s1 _ _ e
def zaf(K:sr)(CH:su)(H:Hp)(y o q:su)(ps:List zC):Prop:=∃dx xs,H y=AK (.ins CH dx [("order",.ref o),("rules",.ref q)])/\H q=AK (.lst xs)/\Iss K H (ps.map dR) xs
end in def xy(l m:())(k:Nat):Bool:=decide ((l.drop k).take m.length=m.take (l.length - k))
end in def lf(rs:List zC)(i:Nat):():=(rs.getD i ([],[])).1
def um(h:rs[i]? = AK r):lf rs i=r.1:=by unfold lf;rw[ae,h];rfl
end in def YR(rs:List zC)(i j n:Nat):List N3:=((aJ n).filter λk=>(decide (i≠j) || decide (k≠0)) && xy (lf rs i) (lf rs j) k).map λk=>(i,j,k)
end in def ovI(rs:List zC)(i m:Nat):List N3:=(aJ m).flatMap λj=>YR rs i j (lf rs i).length
end in def ovA(rs:List zC)(m:Nat):List N3:=(aJ m).flatMap λi=>ovI rs i rs.length
def jF(rs:List zC)(i j n:Nat):YR rs i j (n+1)=YR rs i j n ++ (if ((decide (i≠j) || decide (n≠0)) && xy (lf rs i) (lf rs j) n)=AM then [(i,j,n)]else []):=by
 unfold YR;rw[cy,cX,aq];congr 1
 erw[fo,dA]
 split <;> rfl
def ja(rs:List zC)(i m:Nat):ovI rs i (m+1)=ovI rs i m ++ YR rs i m (lf rs i).length:=by unfold ovI;rw[cy,dv];simp
def Z1(rs:List zC)(m:Nat):ovA rs (m+1)=ovA rs m ++ ovI rs m rs.length:=by unfold ovA;rw[cy,dv];simp
def qT(rs:List zC)(i j n:Nat):(YR rs i j n).length<=n:=by unfold YR;rw[aa];have:=db (λk=>(decide (i≠j) || decide (k≠0)) && xy (lf rs i) (lf rs j) k) (aJ n);rw[bF]at this;exact this
theorem zdY(h:kK rs)(i:Nat):(lf rs i).length<=100:=by
 cases e:rs[i]? with
 | none=>unfold lf;rw[ae,e];exact aD _
 | some r=>rw[um e];exact (h.2 r (ac e)).1
theorem XX(h:kK rs)(i m:Nat):(ovI rs i m).length<=m * 100:=by
 induction m with
 | zero=>exact aD _
 | succ m ih =>
  rw[ja,ak];have h1:=qT rs i m (lf rs i).length;have h2:=zdY h i;lia
theorem Jh(h:kK rs)(m:Nat):(ovA rs m).length<=m * 3000:=by
 induction m with
 | zero=>exact aD _
 | succ m ih =>
  rw[Z1,ak];have h1:=XX h m rs.length;have h2:=h.1;lia
def Zv:Sp:=λvs H Q Z=>∃(l m:()) (k:Nat),vs=[.str (tx l),.str (tx m),.int (k:Nat)]/\l.length<=1000/\m.length<=1000/\k<=l.length/\Q (.bl (xy l m k)) H
def Yp(h1:l.length<=1000)(h2:m.length<=1000)(h3:k<=l.length)(h:Q (.bl (xy l m k)) H):Zv [.str (tx l),.str (tx m),.int (k:Nat)] H Q E:=#[l,m,k,rfl,h1,h2,h3,h]
def K6:sQz 3 ["one","other","place"] XD:=by nofun
def Ke(B:Bt mg)(F:("agree"^^^XD)):(1&&&["one","other","place"]) Zv:=by
 exists F.ok K6
 ·let#[l,m,k,rfl,hl,hm,hk,q]:=h;refine#[_,(zg (zl (yf yW (zY xY (pv 0) (z6 (pv 2)) (z6 (zD yz (pv 2) (zE B.len (pv 1))))) (zY xY (pv 1) yG (z6 (zD xD (zE B.len (pv 0)) (pv 2)))) (zv _)))),?_];have s16:=zS
  rfl'
  refine#[⋯,⋯,⋯,⋯,?_];rw[za9 _ ⋯ ⋯,qw _ ⋯];have e1:((k:Int)+(m.length:Int) - (k:Int)).toNat=m.length:=⋯;have e2:((l.length:Int) - (k:Int)).toNat=l.length - k:=⋯;rw[e1,e2];exact q
def v0(K:sr):Sp:=λvs H Q Z=>∃(a:su) (rs:List zC),vs=[.ref a]/\Is K H (.lst (rs.map dR)) (.ref a)/\kK rs/\∀D H',H D=AL->Same H H'->LsA K H' D ((ovA rs rs.length).map d3)->Q (.ref D) H'
def YU(h1:Is K H (.lst (rs.map dR)) (.ref a))(h2:kK rs)(h:∀D H',H D=AL->Same H H'->LsA K H' D ((ovA rs rs.length).map d3)->Q (.ref D) H'):v0 K [.ref a] H Q E:=#[a,rs,rfl,h1,h2,h]
def ik:sQz 1 ["rules","found","i","one","j","other","place"] uY:=by nofun
def Wv(B:Bt mg)(F:("overlaps"^^^uY))(rQ:(1<<<"agree") ["one","other","place"] [] Zv):(2&&&["rules"]) (v0 K):=by
 exists F.ok ik
 ·let#[a,rs,rfl,hR,ok,q]:=h
  refine#[_,(zG (zB 1 ik.nd (y6 ze)) (zG (zZ p9 rfl (xH rfl B.enum (za (pv 0) ze)) (qr (n:=2) rfl (ye (zr (i:=2) ik.nd rfl (.inl rfl)) (ye (zr (i:=3) ik.nd rfl (.inl rfl)) vb))) (zg (zZ p9 rfl (xH rfl B.enum (za (pv 0) ze)) (qr (n:=2) rfl (ye (zr (i:=4) ik.nd rfl (.inl rfl)) (ye (zr (i:=5) ik.nd rfl (.inl rfl)) vb))) (zg (zZ p9 rfl (Yr rfl B.range (za (xE (zt yW (pv 2) (pv 4) (zv _)) zf zf) (za (zE B.len (!-3)) ze))) (zr (i:=6) ik.nd rfl (.inl rfl)) (zg (zJ (ym (cl0 rQ hr .nil rfl (za (!-3) (za (!-5) (za (pv 6) ze)))) (λZ=>rfl)) (zg (xt (wL bh bC bD yP (pv 1) (za (zN (za (pv 2) (za (pv 4) (za (pv 6) ze)))) ze))))
       zp))))))) (zg (zl (pv 1))))),?_]
  have s16:=zS
  rfl'
  erw[Is]at hR
  let#[_,xs,e,hX,hI]:=hR;cases e;refine#[⋯,λD hD=>#[#[_,(zd hD).seq hX],ForEL.by (xs:=xs) (λi σ H'=>∃v2 v3 v4 v5 v6,σ=[!!a,!!D,v2,v3,v4,v5,v6]/\Same H H'/\LsA K H' D ((ovA rs i).map d3)) #[AL,AL,AL,AL,AL,rfl,zd hD,LsA.nil] ?_ ?_ ?_]]
  ·rintro i σ H' hi ⟨v2,v3,v4,v5,v6,rfl,hs,_⟩;exact hs.seq hX
  ·rintro i x σ H' p hx ⟨v2,v3,v4,v5,v6,rfl,hs,hL⟩ hp;let#[r,pr,hri,rfl,hqr]:=hI.getR hx;have er:=um hri;have hr1:=(ok.2 r (ac hri)).1
   rfl'
   refine#[_,SqT.of zb,rfl,_,_,rfl,_,_,rfl,rfl,#[_,((hs.trans (zd hp)).seq hX)],ForEL.by (xs:=xs) (λj σ H''=>∃v4 v5 v6,σ=[!!a,!!D,-~~~i,!!pr,v4,v5,v6]/\Same H H''/\LsA K H'' D ((ovA rs i ++ ovI rs i j).map d3)) #[v4,v5,v6,rfl,hs.trans (zd hp),by rw[show ovI rs i 0=[]from rfl,bc];exact hL.same (zd hp)] ?_ ?_ ?_]
   ·rintro j σ H2 hj ⟨v4,v5,v6,rfl,hs2,_⟩;exact hs2.seq hX
   ·rintro j y σ H2 p2 hy ⟨v4,v5,v6,rfl,hs2,hL2⟩ hp2;let#[r2,pr2,hri2,rfl,hqr2]:=hI.getR hy;have er2:=um hri2;have hr2:=(ok.2 r2 (ac hri2)).1;have hs3:=hs2.trans (zd (o:=.tup [.int (j:Nat),.ref pr2]) hp2);have hq1:=zo hs3 hqr;have el:(tx r.1).length=r.1.length:=zR _
    rfl'
    refine#[_,SqT.of zb,rfl,_,_,rfl,_,_,rfl,rfl,rfl,z8 (λh=>?_) λh=>?_]
    ·have hij:i=j:=by injection h with h;lia
     have z0:YR rs i j (1+0)=[]:=by
      subst hij;rw[show 1+0=0+1 from rfl,jF];simp [YR]
     have zn:YR rs i j (1+((r.1.length:Int) - 1).toNat)=YR rs i j r.1.length:=by
      by_cases h0:r.1.length=0
      ·rw[h0];exact z0
      ·rw[show 1+((r.1.length:Int) - 1).toNat=r.1.length by lia]
     refine#[_,hq1,_,rfl,_,#[⋯,rfl],∅,∅,⋯,⋯,ForR.by (λt σ H3=>∃v6,σ=[!!a,!!D,-~~~i,!!pr,-~~~j,!!pr2,v6]/\Same H H3/\LsA K H3 D ((ovA rs i ++ ovI rs i j ++ YR rs i j (1+t)).map d3)) #[v6,rfl,hs3,(by rw[z0,bc];exact hL2.same (zd hp2))] ?_ ?_]
     ·refine nm3 ?_;rintro n σ H3 hn ⟨v6,rfl,hs4,hL4⟩:_;have hn':1+n<r.1.length:=⋯;have en:((1:Int)+(n:Int))=((1+n:Nat):Int):=⋯;right;dsimp only;rw[en];let#[ys,hY,hJ]:=hL4;have hlen:=hJ.len;have l1:=Jh ok i;have l2:=XX ok i j;have l3:=qT rs i j (1+n);have i1:=(AS.mp hri).1;have i2:=(AS.mp hri2).1;have i3:=ok.1
      erw[aa,ak]at hlen
      have es:=jF rs i j (1+n);have etest:(decide (i≠j) || decide (1+n≠0))=AM:=by rw[show decide (1+n≠0)=AM from u9 ⋯,d7]
      rw[etest,gh,er,er2]at es
      rfl'
      refine#[_,zo hs4 hqr,_,rfl,_,zo hs4 hqr2,_,rfl,Yp ⋯ ⋯ ⋯ #[_,rfl,z8 (λhb=>#[.inl #[_,SqL.of hY],⋯,λt ht=>#[_,zd ht _ _ hY,⋯,zu (hs4.trans (zd ht)) hD,?_]]) λhb=>#[hs4,ys,hY,?_]]]
      ·rw[hb,w6 rfl]at es;rw[show 1+(n+1)=1+n+1 by lia,es,<- aV,aq];exact LsA.pushT hY hJ ht zep (WB _) (by erw[ya,xx,and_self])
      ·have hb':xy r.1 r2.1 (1+n)=AN:=by simpa using hb
       rw[hb',w9 aF,bc]at es;rw[show 1+(n+1)=1+n+1 by lia,es];exact hJ
     ·rintro σ H3 ⟨v6,rfl,hs4,hL4⟩;refine#[#[_,_,_,rfl],hs4,?_];rw[ja,er,<- aV];rw[el,zn]at hL4;exact hL4
    ·have hij:i≠j:=λz=>h (by rw[z]);refine#[_,hq1,_,rfl,_,#[⋯,rfl],∅,∅,⋯,⋯,ForR.by (λt σ H3=>∃v6,σ=[!!a,!!D,-~~~i,!!pr,-~~~j,!!pr2,v6]/\Same H H3/\LsA K H3 D ((ovA rs i ++ ovI rs i j ++ YR rs i j (0+t)).map d3)) #[v6,rfl,hs3,(by rw[show YR rs i j (0+0)=[]from rfl,bc];exact hL2.same (zd hp2))] ?_ ?_]
     ·refine nm3 ?_;rintro n σ H3 hn ⟨v6,rfl,hs4,hL4⟩:_;have hn':0+n<r.1.length:=⋯;have en:((0:Int)+(n:Int))=((0+n:Nat):Int):=⋯;right;dsimp only;rw[en];let#[ys,hY,hJ]:=hL4;have hlen:=hJ.len;have l1:=Jh ok i;have l2:=XX ok i j;have l3:=qT rs i j (0+n);have i1:=(AS.mp hri).1;have i2:=(AS.mp hri2).1;have i3:=ok.1
      erw[aa,ak]at hlen
      have es:=jF rs i j (0+n);have etest:(decide (i≠j) || decide (0+n≠0))=AM:=by rw[show decide (i≠j)=AM from u9 hij,Bool.true_or]
      rw[etest,gh,er,er2]at es
      rfl'
      refine#[_,zo hs4 hqr,_,rfl,_,zo hs4 hqr2,_,rfl,Yp ⋯ ⋯ ⋯ #[_,rfl,z8 (λhb=>#[.inl #[_,SqL.of hY],⋯,λt ht=>#[_,zd ht _ _ hY,⋯,zu (hs4.trans (zd ht)) hD,?_]]) λhb=>#[hs4,ys,hY,?_]]]
      ·rw[hb,w6 rfl]at es;rw[show 0+(n+1)=0+n+1 by lia,es,<- aV,aq];exact LsA.pushT hY hJ ht zep (WB _) (by erw[ya,xx,and_self])
      ·have hb':xy r.1 r2.1 (0+n)=AN:=by simpa using hb
       rw[hb',w9 aF,bc]at es;rw[show 0+(n+1)=0+n+1 by lia,es];exact hJ
     ·rintro σ H3 ⟨v6,rfl,hs4,hL4⟩;refine#[#[_,_,_,rfl],hs4,?_];rw[ja,er,<- aV];rw[el,show 0+((r.1.length:Int) - 0).toNat=r.1.length by lia]at hL4;exact hL4
   ·rintro σ H2 ⟨v4,v5,v6,rfl,hs2,hL2⟩;have e:=hI.len;rw[aa]at e;rw[e,<- Z1]at hL2;exact#[#[_,_,_,_,_,rfl],hs2,hL2]
  ·rintro σ H' ⟨v2,v3,v4,v5,v6,rfl,hs,hL⟩;have e:=hI.len;rw[aa]at e;rw[e]at hL
   rfl'
   exact q D H' hD hs hL
end in def yv(l m:())(k:Nat):():=l ++ m.drop (l.length - k)
def uM(l m:())(k:Nat)(hk:k<=l.length):(yv l m k).length=max l.length (k+m.length):=by unfold yv;rw[ak,aZ];lia
def kT(l m:())(k:Nat):zw (yv l m k) 0 l=AM:=by unfold zw yv;refine u9 #[∅,by rw[ak];lia,?_];rw[show (0:Int).toNat=0 from rfl,dF,bw (ao _),aK]
def jW(hk:k<=l.length)(h:xy l m k=AM):zw (yv l m k) (k:Nat) m=AM:=by
 unfold xy at h;rw[decide_eq_true_eq]at h;have hl:=uM l m k hk;unfold zw;refine u9 #[⋯,⋯,?_];rw[show ((k:Nat):Int).toNat=k from rfl];unfold yv;rw[cB hk];by_cases hm:m.length<=l.length - k
 ·rw[bw (by rw[aZ];lia),h,bn hm]
 ·rw[bn (by rw[aZ];lia)]at h;rw[h,cf,aK]
def Kq(h:t ∈ YR rs i j n):t.1=i/\t.2.1=j/\t.2.2<n/\xy (lf rs i) (lf rs j) t.2.2=AM:=by unfold YR at h;let#[k,hk,rfl]:=AT.mp h;rw[List.mem_filter,fS,aQ]at hk;exact#[rfl,rfl,hk.1,hk.2.2]
def jm(h:t ∈ ovA rs rs.length):t.1<rs.length/\t.2.1<rs.length/\t.2.2<(lf rs t.1).length/\xy (lf rs t.1) (lf rs t.2.1) t.2.2=AM:=by unfold ovA ovI at h;let#[i,hi,h]:=Bs.mp h;let#[j,hj,h]:=Bs.mp h;let#[e1,e2,e3,e4]:=Kq h;rw[e1,e2];exact#[AY.mp hi,AY.mp hj,e3,e4]
def Zw(K:sr):Sp:=λvs H Q Z=>∃(a t:su) (rs:List zC) (i j k:Nat) (r r2:zC),vs=[.ref a,.ref t]/\Is K H (.lst (rs.map dR)) (.ref a)/\SqT K H t [.int (i:Nat),.int (j:Nat),.int (k:Nat)]/\kK rs/\rs[i]? = AK r/\rs[j]? = AK r2/\k<=r.1.length/\xy r.1 r2.1 k=AM /\
 ∀p H',H p=AL->Same H H'->H' p=AK (.tup [.str (tx (yv r.1 r2.1 k)),.str (tx (yS (yv r.1 r2.1 k) 0 r.1 r.2)),.str (tx (yS (yv r.1 r2.1 k) (k:Nat) r2.1 r2.2))])->Q (.ref p) H'
def WV(h1:Is K H (.lst (rs.map dR)) (.ref a))(h2:SqT K H t [.int (i:Nat),.int (j:Nat),.int (k:Nat)])(h3:kK rs)(h4:rs[i]? = AK r)(h5:rs[j]? = AK r2)(h6:k<=r.1.length)(h7:xy r.1 r2.1 k=AM)(h:∀p H',H p=AL->Same H H'->H' p=AK (.tup [.str (tx (yv r.1 r2.1 k)),.str (tx (yS (yv r.1 r2.1 k) 0 r.1 r.2)),.str (tx (yS (yv r.1 r2.1 k) (k:Nat) r2.1 r2.2))])->Q (.ref p) H'):Zw K [.ref a,.ref t] H Q E:=#[a,t,rs,i,j,k,r,r2,rfl,h1,h2,h3,h4,h5,h6,h7,h]
def JF(h1:l.length<=10000)(h2:o.length<=10000)(h3:n.length<=10000)(hs:zw l k o=AM)(q:Q (.str (tx (yS l k o n))) H):WJ CU [.str (tx l),.int k,.str (tx o),.str (tx n)] H Q E:=#[l,o,n,k,rfl,h1,h2,h3,λZ=>q,λh=>by rw[hs]at h;cases h]
def ni:sQz 2 ["rules","overlap","one","other","place","word"] Jo:=by nofun
def zc8(B:Bt mg)(F:("peak"^^^Jo))(pS:(3>>>"put") ["word","place","old","new"] [] (WJ CU)):(4&&&["rules","overlap"]) (Zw K):=by
 exists F.ok ni
 ·let#[a,t,rs,i,j,k,r,r2,rfl,hR,ht,ok,hr1,hr2,hk,hag,q]:=h
  refine#[_,(zh (zB 2 ni.nd (zk ix_list (pv 0) (!-1))) (zh (zB 3 ni.nd (zk ix_list (pv 0) (!-1))) (zh (zB 4 ni.nd (!-1)) (zh (zB 5 ni.nd (zD zL (!-2) (zY zaF (!-3) (z6 (zD xD (zE B.len (!-2)) (pv 4))) yG))) (zg (zl (zN (za (pv 5) (za (clP xe0 pS hr .nil rfl (za (pv 5) (za zf (za (!-2) (za (!-2) ze))))) (za (clP xe0 pS hr .nil rfl (za (pv 5) (za (pv 4) (za (!-3) (za (!-3) ze))))) ze)))))))))),?_]
  have s16:=zS
  erw[Is]at hR
  let#[_,xs,e,hX,hI]:=hR;cases e;let#[p1,a1,q1]:=zgb hI hr1;let#[p2,a2,q2]:=zgb hI hr2;have b1:=ok.2 r (ac hr1);have b2:=ok.2 r2 (ac hr2);change H'=H/\σ=[!!a,!!t,!!p1,AL,AL,AL]
  ·rfl'
   exact#[_,ht,_,rfl,_,rfl,_,hX,a1]
  rintro σ H1 ⟨rfl,rfl⟩:_;right;change H'=H1/\σ=[!!a,!!t,!!p1,!!p2,AL,AL]
  ·rfl'
   exact#[_,ht,_,rfl,_,rfl,_,hX,a2]
  rintro σ H2 ⟨rfl,rfl⟩:_;right;change H'=H2/\σ=[!!a,!!t,!!p1,!!p2,-~~~k,AL]
  ·rfl'
   exact#[_,ht,rfl]
  rintro σ H3 ⟨rfl,rfl⟩:_;right;change H'=H3/\σ=[!!a,!!t,!!p1,!!p2,-~~~k,AK (.str (tx (yv r.1 r2.1 k)))]
  ·rfl'
   refine#[_,q1,_,rfl,_,q2,_,rfl,_,q1,_,rfl,_,#[by rw[zR];lia,rfl],#[by rw[zR];lia,_,rfl,_,rfl,?_,rfl,?_]]
   ·erw[zR,Xw]
    have:=wX r2.1 (AK ((r.1.length:Int) - (k:Int))) AL;lia
   ·rw[zR,Xw,xZ,wA _ ⋯,show ((r.1.length:Int) - (k:Int)).toNat=r.1.length - k by lia];rfl
  rintro σ H4 ⟨rfl,rfl⟩:_;have hw:=uM r.1 r2.1 k hk;right
  rfl'
  exact#[_,q1,_,rfl,_,q1,_,rfl,JF ⋯ ⋯ ⋯ (kT _ _ _) #[_,q2,_,rfl,_,q2,_,rfl,JF ⋯ ⋯ ⋯ (jW hk hag) #[⋯,λp hp=>q p _ hp (zd hp) zb]]]
def FmOk(ps:List zC)(most:Int)(m:sB->Option V):Prop:=∀k v,m k=AK v->∃(w:()) (J:Nat),k=tx w/\v=.str (tx (wAt ps w J))/\Yd ps w J/\zF (wAt ps w J) ps=AL/\(J:Int)<=most
def FmOk.get(h:FmOk ps most m){w:()}(e:m (tx w)=AK v)(hl:Yd ps w J)(hf:zF (wAt ps w J) ps=AL):v=.str (tx (wAt ps w J)):=by let#[w',J',e1,e2,e3,e4,_]:=h _ _ e;have e5:=vP e1;subst e5;rw[e2,uJ e3 e4 hl hf]
def FmOk.put(h:FmOk ps most m){w:()}(hl:Yd ps w J)(hf:zF (wAt ps w J) ps=AL)(hJ:(J:Int)<=most):FmOk ps most (λx=>if x=tx w then AK (.str (tx (wAt ps w J)))else m x):=λk v e=>by
 by_cases hk:k=tx w
 ·erw[hk,if_true]at e
  cases e;exact#[w,J,hk,rfl,hl,hf,hJ]
 ·erw[hk,if_false]at e
  exact h k v e
def XH(P:sJ)(w:sP)(K:sr)(CF:su):Sp:=λvs H Q E=>∃(a F:su) (l:()) (ps:List zC) (m:Int) (J n:Nat) (mp:sB->Option V),vs=[.ref a,.str (tx l),.int m,.ref F]/\LsA K H a (ps.map dR)/\NeL ps/\ps.length<=100/\(∀p ∈ ps,p.1.length<=1000/\p.2.length<=1000)/\Rd ps l J/\H F=AK (kj P w F mp n)/\FmOk ps m mp/\n<=10000 /\
 ((zF (wAt ps l J) ps=AL/\(J:Int)<=m/\∀(mp':sB->Option V) (n':Nat) (H':Hp),SamT F H H'->H' F=AK (kj P w F mp' n')->FmOk ps m mp'->n'<=n+1->Q (.str (tx (wAt ps l J))) H') \/
  (zF (wAt ps l J) ps≠AL/\(J:Int)=m/\∀H',Same H H'->E (.ref CF) AL H'))
def VR:sQz 4 ["rules","word","most","forms"] jt:=by nofun
def V0(B:Bt mg)(F:("form_of"^^^jt))(nc:(4>>>"gone") ["rules","word","most"] [] (xR K CF))(DD_gone:(4>>>"gone") ["rules","word","most"] [.int 4000 ng] (xR K CF)):(5|||["rules","word","most","forms"]) (XH P w K CF):=by
 exists Fun.okX F VR,0
 ·let#[a,F0,l,ps,m,J,n,mp,rfl,hA,hN,hpl,hP,hR,hF,hM,hn,hq]:=h
  refine#[_,(zh (zJ (zt K0 (pv 1) (pv 3) (by with_unfolding_all rfl)) (zg (zbt (zk u5 (clP hx nc hr .nil rfl (za (pv 0) (za (pv 1) (za (pv 2) ze)))) zf) (za3 (pv 3) (pv 1) KA (by intro _;rfl))))
    zp) (zg (zl (zk zcV (pv 3) (pv 1))))),?_]
  have s16:=zS;have s16:=zS;change SamT F0 H H'/\zF (wAt ps l J) ps=AL/\(J:Int)<=m/\(∃(mp':sB->Option V) (n':Nat),H' F0=AK (kj P w F0 mp' n')/\FmOk ps m mp'/\n'<=n+1/\mp' (tx l)=AK (.str (tx (wAt ps l J))))/\σ=[!!a,~~~l,~~~!m,!!F0]
  ·rfl'
   refine#[F0,mp,n,tx l,rfl,rfl,hF,_,rfl,z8 (λhnone=>#[a,l,ps,m,J,rfl,hA,hN,hpl,hP,hR,?_]) λhsome=>?_]
   ·rcases hq with ⟨hf,hJ,_⟩ | h
    ·refine .inl #[hf,hJ,λp S H' s' hp Z Z=>#[p,rfl,_,SqT.of hp,_,rfl,?_]]
     erw[zfu]
     rfl'
     exact#[F0,mp,n,tx l,rfl,rfl,s' _ _ hF,⋯,λb o hb e=>by rw[zq hb];exact s' _ _ e,hf,hJ,_,_,zb,hM.put hR.live hf hJ,ao _,w6 rfl]
    ·exact .inr h
   ·cases hv:mp (tx l)with
    | none=>rw[hv]at hsome;exact w4 rfl hsome
    | some v =>
     let#[w',J',e1,e2,e3,e4,e5]:=hM _ _ hv;have e6:=vP e1;subst e6;rcases hq with ⟨hf,hJ,_⟩ | ⟨hf,hJ,_⟩
     ·exact#[λb o Z e=>e,hf,hJ,mp,n,hF,hM,⋯,by rw[hM.get hv hR.live hf]at hv;exact hv]
     ·exfalso;rcases d8 J' J with h | h
      ·exact hR.live J' h e4
      ·have:J'=J:=⋯;subst this;exact hf e4
  rintro σ H1 ⟨s1,hf,hJ,⟨mp',n',h1,h2,h3,h4⟩,rfl⟩:_;right
  rfl'
  refine#[F0,mp',n',tx l,_,rfl,rfl,h1,h4,?_];rcases hq with ⟨_,_,q⟩ | ⟨h,_⟩
  ·exact q mp' n' H1 s1 h1 h2 h3
  ·exact w4 hf h
end in def pkA(ps:List zC)(t:N3):():=yS (yv (lf ps t.1) (lf ps t.2.1) t.2.2) 0 (lf ps t.1) (ps.getD t.1 ([],[])).2
end in def pkB(ps:List zC)(t:N3):():=yS (yv (lf ps t.1) (lf ps t.2.1) t.2.2) (t.2.2:Nat) (lf ps t.2.1) (ps.getD t.2.1 ([],[])).2
inductive zds(ps:List zC)(m:Int)(l:()):Option Nat->Prop where
 | yes {J:Nat} (h:Rd ps l J) (h1:zF (wAt ps l J) ps=AL) (h2:(J:Int)<=m):zds ps m l (AK J)
 | no {J:Nat} (h:Rd ps l J) (h1:zF (wAt ps l J) ps≠AL) (h2:(J:Int)=m):zds ps m l AL
def ZB(P:sJ)(w:sP)(K:sr)(CF:su):Sp:=λvs H Q E=>∃(a t F:su) (ps:List zC) (tr:N3) (m:Int) (n:Nat) (mp:sB->Option V) (g1 g2:Option Nat),vs=[.ref a,.ref t,.int m,.ref F]/\LsA K H a (ps.map dR)/\NeL ps/\kK ps/\SqT K H t [.int (tr.1:Nat),.int (tr.2.1:Nat),.int (tr.2.2:Nat)]/\tr ∈ ovA ps ps.length/\H F=AK (kj P w F mp n)/\FmOk ps m mp/\n<=9000/\zds ps m (pkA ps tr) g1/\zds ps m (pkB ps tr) g2 /\
 (∀(J1 J2:Nat) (mp':sB->Option V) (n':Nat) (H':Hp),g1=AK J1->g2=AK J2->SamT F H H'->H' F=AK (kj P w F mp' n')->FmOk ps m mp'->n'<=n+2->Q (.bl (decide (wAt ps (pkA ps tr) J1=wAt ps (pkB ps tr) J2))) H') /\
 ((g1=AL\/g2=AL)->∀H',SamT F H H'->E (.ref CF) AL H')
theorem WD(hA:LsA K H a (ps.map dR))(hN:NeL ps)(hok:kK ps)(hF:H F=AK (kj P w F mp n))(hM:FmOk ps m mp)(hn:n<=10000)(hg:zds ps m l g)(h1:∀(J:Nat) (mp':sB->Option V) (n':Nat) (H':Hp),g=AK J->SamT F H H'->H' F=AK (kj P w F mp' n')->FmOk ps m mp'->n'<=n+1->Q (.str (tx (wAt ps l J))) H')(h2:g=AL->∀H',Same H H'->E (.ref CF) AL H'):XH P w K CF [.ref a,.str (tx l),.int m,.ref F] H Q E:=by
 have hP:∀p ∈ ps,p.1.length<=1000/\p.2.length<=1000:=λp hp=>by have:=hok.2 p hp;lia
 have hl:ps.length<=100:=by have:=hok.1;lia
 cases hg with
 | yes h e1 e2=>exact#[a,F,l,ps,m,_,n,mp,rfl,hA,hN,hl,hP,h,hF,hM,hn,.inl #[e1,e2,λmp' n' H' a1 a2 a3 a4=>h1 _ mp' n' H' rfl a1 a2 a3 a4]]
 | no h e1 e2=>exact#[a,F,l,ps,m,_,n,mp,rfl,hA,hN,hl,hP,h,hF,hM,hn,.inr #[e1,e2,h2 rfl]]
def j0(s:SamT F H H')(hF:H F=AK (kj P w F mp n))(h:SqT K H t xs):SqT K H' t xs:=by
 rcases h with (h | ⟨o,h⟩) | h
 ·exact .inl (.inl (s _ _ (λz=>by rw[z,hF]at h;cases h) h))
 ·exact .inl (.inr #[o,s _ _ (λz=>by rw[z,hF]at h;cases h) h])
 ·exact .inr h
def WC{ps:List zC}(s:SamT F H H')(hF:H F=AK (kj P w F mp n))(h:LsA K H a (ps.map dR)):LsA K H' a (ps.map dR):=by
 let#[xs,h1,h2]:=h;refine#[xs,s _ _ (λz=>by rw[z,hF]at h1;cases h1) h1,?_]
 have key:∀(qs:List zC) (vs:List V),Iss K H (qs.map dR) vs->Iss K H' (qs.map dR) vs:=by
  intro qs
  induction qs with
  | nil=>intro vs h;erw[aA,Iss]at h ⊢;exact h
  | cons q qs ih =>
   intro vs h
   erw[am,Iss]at h ⊢
   let#[v,r,e,h3,h4]:=h;let#[p,rfl,h5]:=zef h3;exact#[_,r,e,vZ (j0 s hF h5),ih r h4]
 exact key ps xs h2
def mQ:sQz 4 ["rules","overlap","most","forms","sides","one","other"] ZQ:=by nofun
def Qa(B:Bt mg)(F:("is_met"^^^ZQ))(pX:(4<<<"peak") ["rules","overlap"] [] (Zw K))(pG:(5>>>"form_of") ["rules","word","most","forms"] [] (XH P w K CF)):(6|||["rules","overlap","most","forms"]) (ZB P w K CF):=by
 exists Fun.okX F mQ,0
 ·let#[a,t,F0,ps,tr,m,n,mp,g1,g2,rfl,hA,hN,hok,ht,htr,hF,hM,hn,hg1,hg2,q1,q2]:=h
  refine#[_,(zh (zB 4 mQ.nd (cl0 pX hr .nil rfl (za (pv 0) (za (pv 1) ze)))) (zh (zB 5 mQ.nd (clP hx pG hr .nil rfl (za (pv 0) (za (!-4) (za (pv 2) (za (pv 3) ze)))))) (zh (zB 6 mQ.nd (clP hx pG hr .nil rfl (za (pv 0) (za (!-4) (za (pv 2) (za (pv 3) ze)))))) (zg (zl (yf yW (pv 5) (pv 6) (zv _))))))),?_]
  have s16:=zS;have s16:=zS;let#[i1,i2,i3,i4]:=jm htr;obtain⟨r,hr⟩:∃r,ps[tr.1]? = AK r:=#[_,af i1];obtain⟨r2,hr2⟩:∃r,ps[tr.2.1]? = AK r:=#[_,af i2];have l1:=um hr;have l2:=um hr2;have d1:ps.getD tr.1 ([],[])=r:=by rw[ae,hr];rfl
  have d2:ps.getD tr.2.1 ([],[])=r2:=by rw[ae,hr2];rfl
  have eA:pkA ps tr=yS (yv r.1 r2.1 tr.2.2) 0 r.1 r.2:=by unfold pkA;rw[l1,l2,d1]
  have eB:pkB ps tr=yS (yv r.1 r2.1 tr.2.2) (tr.2.2:Nat) r2.1 r2.2:=by unfold pkB;rw[l1,l2,d2]
  rw[l1]at i3;rw[l1,l2]at i4;change Same H H'/\∃p:su,(∃x,H' p=AK (.tup [x,.str (tx (pkA ps tr)),.str (tx (pkB ps tr))]))/\σ=[!!a,!!t,~~~!m,!!F0,!!p,AL,AL]
  ·rfl'
   exact WV hA.is ht hok hr hr2 ⋯ i4 λp H' Z s' hp=>#[s',p,#[_,by rw[eA,eB];exact hp],rfl]
  rintro σ H1 ⟨s1,p,⟨x,hp⟩,rfl⟩:_;have hF1:=s1 _ _ hF;right;change SamT F0 H1 H'/\∃(J1:Nat),g1=AK J1/\(∃mp' n',H' F0=AK (kj P w F0 mp' n')/\FmOk ps m mp'/\n'<=n+1)/\σ=[!!a,!!t,~~~!m,!!F0,!!p,AK (.str (tx (wAt ps (pkA ps tr) J1))),AL]
  ·rfl'
   refine#[_,SqT.of hp,_,rfl,WD (hA.same s1) hN hok hF1 hM ⋯ hg1 (λJ mp' n' H' e a1 a2 a3 a4=>?_) λe H' s'=>q2 (.inl e) H' (SamT.of (s1.trans s'))];exact#[a1,J,e,#[mp',n',a2,a3,a4],rfl]
  rintro σ H2 ⟨s2,J1,e1,⟨mp1,n1,hF2,hM2,hn2⟩,rfl⟩:_;have s12:SamT F0 H H2:=(SamT.of s1).trans s2;have hpF:p≠F0:=λz=>by rw[z,hF1]at hp;cases hp
  right;change SamT F0 H2 H'/\∃(J2:Nat),g2=AK J2/\(∃mp' n',H' F0=AK (kj P w F0 mp' n')/\FmOk ps m mp'/\n'<=n+2)/\σ=[!!a,!!t,~~~!m,!!F0,!!p,AK (.str (tx (wAt ps (pkA ps tr) J1))),AK (.str (tx (wAt ps (pkB ps tr) J2)))]
  ·rfl'
   exact#[_,SqT.of (s2 _ _ hpF hp),_,rfl,WD (WC s2 hF1 (hA.same s1)) hN hok hF2 hM2 ⋯ hg2 (λJ mp' n' H' e a1 a2 a3 a4=>#[a1,J,e,#[mp',n',a2,a3,⋯],rfl]) λe H' s'=>q2 (.inr e) H' (s12.trans (SamT.of s'))]
  rintro σ H3 ⟨s3,J2,e2,⟨mp2,n2,hF3,hM3,hn3⟩,rfl⟩:_;right
  rfl'
  exact q1 J1 J2 mp2 n2 H3 e1 e2 (s12.trans s3) hF3 hM3 hn3
def ZH(K:sr)(CH:su):Sp:=λvs H Q Z=>∃(y o q:su) (ps:List zC),vs=[.ref y]/\zaf K CH H y o q ps/\∀(r:su) (H':Hp),Same H H'->LsA K H' r (ps.map dR)->H r=AL->Q (.ref r) H'
def vH:sQz 1 ["self"] yF:=by nofun
def vG(B:Bt mg)(TS:zdF K mg CH)(F:Fun K "rules_told" "System.rules_told" yF f fd):(1&&&["self"]) (ZH K CH):=by
 exists F.ok vH
 ·let#[y,o,q,ps,rfl,hy,k]:=h;refine#[_,(zg (zl (vg xF rfl B.list PySem.Pv.boot_list (za (j3 (pv 0) rfl) ze)))),?_];have s16:=zS
  rfl'
  let#[dx,xs,h1,h2,h3]:=hy;exact#[_,_,_,h1,TS.cl,TS.nr,_,rfl,_,rfl,_,.inl (SqL.of h2),λr hr'=>k r _ (zd hr') #[xs,zb,Iss.same (zd hr') _ _ h3] hr']
end in def goJ(ps:List zC)(m:Nat)(v:()):Option Nat:=(aJ (m+1)).find? λj=>(zF (wAt ps v j) ps).isNone
def Ya(e:goJ ps m v=AK i):i<=m/\Yd ps v i/\zF (wAt ps v i) ps=AL:=by
 unfold goJ at e;have h1:=ee e;have h2:zF (wAt ps v i) ps=AL:=Bl.mp h1;have hm:=AY.mp (eX e);refine#[⋯,λn hn hno=>?_,h2];let#[_,as,bs,e2,h3]:=List.find?_eq_some_iff_append.mp e
 have hlen:as.length=i:=by
  have:=congrArg (λl=>l[as.length]?) e2
  erw[bG (ao _),ef,cM]at this
  let#[h7,h8]:=AS.mp this;rw[eL]at h8;exact h8
 have h9:(aJ (m+1))[n]? = as[n]?:=by rw[e2,bQ ⋯]
 have h10:n<(aJ (m+1)).length:=by rw[bF];lia
 rw[af h10,eL]at h9;have:=h3 n (ac h9.symm);rw[hno]at this;cases this
def Vb(e:goJ ps m v=AL):∀j,j<=m->zF (wAt ps v j) ps≠AL:=λj hj hno=>by
 unfold goJ at e;have:=Bp.mp e j (AY.mpr ⋯);rw[hno]at this;exact this rfl
theorem Qg(hl:∀j,j<=m->(wAt ps v j).length<=10000)(hm:m<=10000):zds ps (m:Int) v (goJ ps m v):=by
 cases e:goJ ps m v with
 | some i =>
  let#[h1,h2,h3]:=Ya e;exact .yes #[h2,λj hj=>hl j ⋯,⋯] h3 ⋯
 | none =>
  have h:=Vb e;exact .no (J:=m) #[λi hi=>h i ⋯,λj hj=>hl j hj,hm] (h m (ao _)) rfl
end in def zfl(ps:List zC)(m:Nat)(v:()):():=wAt ps v ((goJ ps m v).getD 0)
end in def Km(ps:List zC)(m:Nat)(t:N3):Bool:=decide (zfl ps m (pkA ps t)=zfl ps m (pkB ps t))
def OkG(ps:List zC)(m:Nat)(t:N3):Prop:=(goJ ps m (pkA ps t)).isSome=AM/\(goJ ps m (pkB ps t)).isSome=AM
def zgN(ps:List zC)(m:Nat):Prop:=m<=10000/\∀t ∈ ovA ps ps.length,(∀j,j<=m->(wAt ps (pkA ps t) j).length<=10000)/\∀j,j<=m->(wAt ps (pkB ps t) j).length<=10000
def zbY(e1:goJ ps m (pkA ps t)=AK J1)(e2:goJ ps m (pkB ps t)=AK J2):decide (wAt ps (pkA ps t) J1=wAt ps (pkB ps t) J2)=Km ps m t:=by unfold Km zfl;rw[e1,e2];rfl
def zek(h:goJ ps m (pkA ps t)=AL\/goJ ps m (pkB ps t)=AL):¬ OkG ps m t:=λho=>by
 let#[h1,h2]:=ho;rcases h with h | h
 ·rw[h]at h1;cases h1
 ·rw[h]at h2;cases h2
def FmOk.nil : FmOk ps m λZ=>AL:=λk v e=>by cases e
theorem YA(s:SamT F H H')(hF:H F=AK (kj P w F mp n)):∀{ts:List N3} {vs:List V},Iss K H (ts.map d3) vs->Iss K H' (ts.map d3) vs
 | [],vs,h=>by erw[aA,Iss]at h ⊢;exact h
 | t::ts,vs,h=>by
  erw[am,Iss]at h ⊢
  let#[v,r,e,h3,h4]:=h;refine#[v,r,e,?_,YA s hF h4]
  erw[d3,Is]at h3 ⊢
  let#[a,xs,e1,e2,e3]:=h3;refine#[a,xs,e1,j0 s hF e2,?_]
  erw[Iss,Is]at e3 ⊢
  exact e3
end in def unG(ps:List zC)(m:Nat):List N3:=(ovA ps ps.length).filter λt=>!Km ps m t
def uz(K:sr)(CH CF:su):Sp:=λvs H Q E=>∃(y o q:su) (ps:List zC) (m:Nat),vs=[.ref y,.int (m:Nat)]/\zaf K CH H y o q ps/\NeL ps/\kK ps/\(ovA ps ps.length).length<=4000/\zgN ps m /\
 ((∀t ∈ ovA ps ps.length,OkG ps m t)->∀D H',Same H H'->H D=AL->LsA K H' D ((unG ps m).map d3)->Q (.ref D) H')/\(∀t ∈ ovA ps ps.length,¬ OkG ps m t->∀H',Same H H'->E (.ref CF) AL H')
def ow:sQz 2 ["system","most","rules","forms"] xS:=by nofun
def KR(B:Bt mg)(TS:zdF K mg CH)(F:FunD K "unmet" "unmet" xS dV f fd)(rq:(2<<<"overlaps") ["rules"] [] (v0 K))(rJ:(6>>>"is_met") ["rules","overlap","most","forms"] [] (ZB P w K CF))(M_system_rules_told:DM P w K mg base CX0 1 CH "rules_told" ["self"] (ZH K CH)):(7|||["system","most"]) (uz K CH CF):=by
 exists FunD.okX F ow,0
 ·let#[y,o,q,ps,m,rfl,hy,hN,hok,hlen,hE,k1,k2]:=h
  refine#[_,(zh (yT (i:=2) ow.nd rfl (Or.inr rfl) (me0 M_system_rules_told TS.cl hr (pv 0))) (zh (yT (i:=3) ow.nd rfl (Or.inr rfl) zbL) (zg (zl (Y7 (EX:=E) (own:=["overlap"]) (caps:=["rules","most","forms"]) (ix:=[2,1,3]) (tt:=(zdr (tBl (vE (ZB P w K CF) [] E (zI (zW 1) (zI (zW 0) (zI (zW 2) (zI (zW 3) xb)))))))) (te:=(zW 0)) rfl (zH (sc:=zi xS) rfl (!0) (!0) (!0) rfl (!0) (!0) rfl) #[rfl,rfl] hx (zX (cl0 rq hr .nil rfl (za (pv 2) ze))) (λZ Z Z Z Z Z=>zr (i:=0) (show List.Nodup [_,_,_,_] by decide) rfl (.inl rfl)) (λZ Z Z Z Z Z Z hx'=>(Jj (yd (ym (clP hx' rJ hr .nil rfl (za (pv 1) (za (pv 0) (za (pv 2) (za (pv 3) ze))))) (λZ=>rfl))))) (λZ Z Z Z Z Z Z Z=>(pv 0))))))),?_]
  have s16:=zS;have s16:=zS;let#[dx,xs0,h1,h2,h3]:=id hy;change Same H H'/\∃r:su,LsA K H' r (ps.map dR)/\σ=[!!y,-~~~m,!!r,AL]
  ·rfl'
   exact#[_,_,h1,rfl,y,o,q,ps,rfl,hy,λr H1 s1 hA hr'=>#[s1,r,hA,rfl]]
  rintro σ H1 ⟨s1,r,hA,rfl⟩:_;right;change Same H H'/\LsA K H' r (ps.map dR)/\∃F:su,H F=AL/\H' F=AK (kj P w F (λZ=>AL) 0)/\σ=[!!y,-~~~m,!!r,!!F]
  ·rfl'
   erw[zeO]
   intro F hF;have s2:=zd (o:=kj P w F (λZ=>AL) 0) hF
   rfl'
   exact#[s1.trans s2,hA.same s2,F,s1.free hF,zb,rfl]
  rintro σ H2 ⟨s2,hA2,F,hF0,hF,rfl⟩:_;right
  rfl'
  refine YU hA2.is hok λO H3 hO s3 hL=>#[O,rfl,?_,λD hD=>?_]
  ·let#[xs,hX,_]:=hL;exact#[_,SqL.of hX]
  let#[xs,hX,hI]:=hL;have hxl:=hI.len;rw[aa]at hxl;have hF3:=s3 _ _ hF;have s03:=s2.trans s3;have hDF:D≠F:=λz=>by rw[z,hF3]at hD;cases hD
  have hOF:O≠F:=λz=>by rw[z,hF3]at hX;cases hX
  have back:∀{G:Hp},SamT F H3 G->Same H G:=λ{G} sT b o' e=>sT b o' (λz=>by rw[z,hF0]at e;cases e) (s03 b o' e);refine CompL.by (xs:=xs) (λi AR H'=>SamT F H3 H'/\H' D=AK (.lst AR)/\(∃(mp:sB->Option V) (n:Nat),H' F=AK (kj P w F mp n)/\FmOk ps (m:Nat) mp/\n<=2 * i)/\Iss K H3 ((((ovA ps ps.length).take i).filter λt=>!Km ps m t).map d3) AR/\∀t ∈ (ovA ps ps.length).take i,OkG ps m t) #[SamT.of (zd hD),zb,#[_,0,by rw[zq (λz=>hDF z.symm)];exact hF3,FmOk.nil,⋯],by erw[bA,dA,aA,Iss],λt ht=>by simp at ht] (λi AR H' Z h=>SqL.of (h.1 _ _ hOF hX)) ?_ ?_
  ·refine nm4 ?_;rintro i x AR H' hx ⟨sT,hH,⟨mp,n,hFm,hM,hn⟩,hI',hle⟩:_;have hil:=(AS.mp hx).1;let#[t,p,ht,rfl,hp]:=hI.get3 hx;have htm:=ac ht;have hE':=hE.2 t htm
   have hal:AR.length<=i:=by
    have:=hI'.len;rw[aa]at this;have h5:=db (λt=>!Km ps m t) ((ovA ps ps.length).take i);rw[aH]at h5;lia
   right
   erw[zdr,tBl]
   rfl'
   refine#[yq,r,p,F,ps,t,(m:Nat),n,mp,_,_,rfl,WC sT hF3 (hA2.same s3),hN,hok,j0 sT hF3 hp,htm,hFm,hM,⋯,Qg hE'.1 hE.1,Qg hE'.2 hE.1,λJ1 J2 mp' n' H5 e1 e2 s5 hF5 hM5 hn5=>?_,λh H5 s5=>k2 t htm (zek h) H5 (back (sT.trans s5))]
   have hle':∀t' ∈ (ovA ps ps.length).take (i+1),OkG ps m t':=λt' ht'=>by
    rw[zO ht]at ht';rcases AV.mp ht' with h | h
    ·exact hle t' h
    ·rw[AW.mp h];exact#[by rw[e1];rfl,by rw[e2];rfl]
   rw[zbY e1 e2]
   have hcase:∀b,Km ps m t=b->(!b)=AM->Iss K H3 ((((ovA ps ps.length).take (i+1)).filter λt=>!Km ps m t).map d3) (AR ++ [.ref p]):=λb hb hb'=>by
    rw[zO ht,cX,aq];refine Iss.append hI' ?_;rw[fo,hb,w6 hb']
    erw[dA,am,aA,Iss]
    refine#[_,[],rfl,?_,rfl]
    erw[d3,Is,Iss]
    exact#[p,_,rfl,hp,_,_,rfl,rfl,_,_,rfl,rfl,_,_,rfl,rfl,rfl]
   refine#[_,rfl,?_]
   cases hb:Km ps m t with
   | false =>
    rw[w6 rfl];refine#[s5 _ _ hDF hH,⋯,CNx.mk hil #[λb o' hbF e=>?_,zb,#[mp',n',by rw[zq (λz=>hDF z.symm)];exact hF5,hM5,⋯],hcase _ hb rfl,hle']];rw[zq (λz=>by rw[z,hD]at e;cases e)];exact s5 b o' hbF (sT b o' hbF e)
   | true =>
    rw[w9 ∅];refine CNx.mk hil #[sT.trans s5,s5 _ _ hDF hH,#[mp',n',hF5,hM5,⋯],?_,hle'];rw[zO ht,cX,fo,hb]
    erw[gg,bf,if_false,dA,bc]
    exact hI'
  ·rintro AR H' ⟨sT,hH,_,hI',hle⟩;rw[hxl,aK]at hI' hle;exact k1 hle D H' (back sT) (s03.free hD) #[AR,hH,YA sT hF3 hI']
theorem zd1(h:SqT K H p [a,b])(k:R ((σ.set i (AK a)).set j (AK b)) H):zbO K 2 (kH (yx i) (kH (yx j) zcG)) (.ref p) σ H R:=by
 erw[zbO,kH,yx,zcG]
 first
 | exact⟨_,_,rfl,h,rfl,_,_,rfl,_,_,rfl,rfl,k⟩
 | exact⟨_,_,rfl,.inr h,rfl,_,_,rfl,_,_,rfl,rfl,k⟩
theorem EnsA.app(hf:EnsA K H fs us):∀{es:List Ent} {vs:List V},EnsA K H es vs->EnsA K H (es ++ fs) (vs ++ us)
 | [],vs,h=>by
  erw[EnsA]at h
  subst h;exact hf
 | e::es,vs,h=>by
  erw[EnsA]at h
  let#[x,r,rfl,hx,hr]:=h
  erw[bu,EnsA]
  exact#[x,r ++ us,rfl,hx,hf.app hr]
abbrev MkS(P:sJ)(w:sP)(K:sr)(mg:sB->Option sv)(base:sU)(CO CR CW CT CH:su):Prop:=DMk P w K mg base (CXx P w) 5 CH ["self","order","rules"] (qN K CO CR CW CT CH)
def zck{Q:su->Hp->Prop}{CO CR CW CT CH o a:su}(ho:OrdAt CO CR CW H o k l ns)(hG:OG l ns k)(hA:LsA K H a (ps.map dR))(hin:InL l ps)(hf:va k l ns ps 0=AL)(q:∀(y qa:su) (H':Hp),Same H H'->zaf K CH H' y o qa ps->Q y H'):∀x dx,H x=AL->H dx=AL->dx≠x->qN K CO CR CW CT CH [.ref x,.ref o,.ref a] (upd (upd H dx (.own x)) x (.ins CH dx [])) (λv H'=>v=.non/\Q x H') E0:=by
 intro x dx hx hdx hne;let#[xs,hX,hI]:=hA;have sd:=zd (o:=.own x) hdx
 have k1:Same H (upd (upd H dx (.own x)) x (.ins CH dx [])):=λb' o' e=>by
  rw[zq (zM e hx)];exact sd _ _ e
 refine#[x,dx,o,a,k,l,ns,ps,xs,rfl,zb,ho.same k1,hG,k1 _ _ hX,Iss.same k1 _ _ hI,hin,(λi e=>by rw[hf]at e;cases e),λZ q1 H'' kp hx' hq' hqn=>#[rfl,?_]];have k3:Same H H'':=λb' o' e=>kp b' o' (λz=>by rw[z,hx]at e;cases e) (k1 _ _ e);exact q x q1 H'' k3 #[dx,xs,hx',hq',Iss.same k3 _ _ hI]
def BG.inL(h:BG k l ns bs):InL l (zc bs):=λp hp=>by
 let#[e,he,rfl]:=AT.mp hp;have b:=h.e e he;exact#[aL b.a ∅,aL b.b ∅,b.ma,b.mb]
def BG.fault(h:BG k l ns bs):va k l ns (zc bs) 0=AL:=qf λm p e=>by
 let#[e',he,rfl]:=AT.mp (ac e);exact h.lt e' he
def VB(K:sr)(CO CR CW CH:su):Sp:=λvs H Q Z=>∃(o a:su) (k:Nat) (l:()) (ns:List Int) (bs:List Ent),vs=[.ref o,.ref a]/\OrdAt CO CR CW H o k l ns/\OG l ns k/\EnsL K H a bs/\BG k l ns bs/\∀(y qa:su) (H':Hp),Same H H'->zaf K CH H' y o qa (zc bs)->Q (.ref y) H'
def YF:sQz 2 ["order","entries"] vS:=by nofun
def YQ{f CO CR CW CT CH:su}(B:Bt mg)(TS:zdF K mg CH)(MS:MkS P w K mg base CO CR CW CT CH)(F:("system_by"^^^vS))(gQ:(1<<<"pairs_of") ["entries"] [] (wD K)):(7&&&["order","entries"]) (VB K CO CR CW CH):=by
 exists F.ok YF
 ·let#[o,a,k,l,ns,bs,rfl,ho,hG,hA,hB,q]:=h;refine#[_,(zg (zl (zgM xe0 MS hr rfl TS.g (za (pv 0) (za (cl0 gQ hr .nil rfl (za (pv 1) ze)) ze))))),?_];have s16:=zS;ac_rfl;refine wc hA.is (by have:=hB.n;lia) λD H' Z s' hL=>?_;exact zck (ho.same s') hG hL hB.inL hB.fault λy qa H'' s'' hy=>q y qa H'' (s'.trans s'') hy
end in def fE(i:Nat)(p:zC):Ent:=(p.1,p.2,[((i:Int),(0:Int),AM)])
end in def fEs(rs:List zC):Nat->List Ent
 | 0=>[]
 | n+1=>fEs rs n ++ ((rs[n]?).map (fE n)).toList
def Kj(h:rs[n]? = AK p):fEs rs (n+1)=fEs rs n ++ [fE n p]:=by show fEs rs n ++ ((rs[n]?).map (fE n)).toList=_;rw[h];rfl
theorem QM(rs:List zC):∀n,(fEs rs n).length<=n
 | 0=>ao _
 | n+1=>by
  have:=QM rs n;show (fEs rs n ++ ((rs[n]?).map (fE n)).toList).length<=_;rw[ak]
  cases rs[n]? with
  | none=>simp;lia
  | some p=>simp;lia
theorem jf : ∀{n:Nat} {e:Ent},e ∈ fEs rs n->∃i p,i<n/\rs[i]? = AK p/\e=fE i p
 | 0,e,h=>(nomatch h)
 | n+1,e,h=>by
  have h':e ∈ fEs rs n ++ ((rs[n]?).map (fE n)).toList:=h;rcases AV.mp h' with h | h
  ·let#[i,p,hi,hp,he]:=jf h;exact#[i,p,⋯,hp,he]
  ·cases hn:rs[n]? with
   | none=>rw[hn]at h;simp at h
   | some p =>
    rw[hn]at h;exact#[n,p,⋯,hn,by simpa using h]
def VG(K:sr):Sp:=λvs H Q Z=>∃(a:su) (rs:List zC),vs=[.ref a]/\LsA K H a (rs.map dR)/\rs.length<=20/\∀(D:su) (H':Hp),Same H H'->H D=AL->EnsM K H' D (fEs rs rs.length)->Q (.ref D) H'
def qH:sQz 1 ["pacts"] yO:=by nofun
def qD(B:Bt mg)(F:("first_entries"^^^yO)):(1&&&["pacts"]) (VG K):=by
 exists F.ok qH
 ·let#[a,rs,rfl,hA,hrl,q]:=h;refine#[_,(zg (zl (yy (g:=zbO K 2 (kH (yx 0) (kH (yx 1) zcG))) (own:=["number","pact"]) (caps:=[]) (ix:=[]) (tt:=y4) (te:=(Um (zI (tOp (ud K) (zW 1) (tC (.int 0))) (zI (tOp (ud K) (zW 1) (tC (.int 1))) (zI (zeZ (zI (Um (zI (zW 0) (zI (tC (.int 0)) (zI (tC (.bl AM)) xb)))) xb)) xb))))) rfl (zH (sc:=zi yO) rfl (!0) (!0) (!0) rfl (!0) (!0) rfl) (xH rfl B.enum (za (pv 0) ze)) (λZ Z Z Z Z Z=>qr (n:=2) rfl (ye (zr (i:=0) (show List.Nodup [_,_] by decide) rfl (.inl rfl)) (ye (zr (i:=1) (show List.Nodup [_,_] by decide) rfl (.inl rfl)) vb))) (λZ Z Z Z Z Z=>z7) (λZ Z Z Z Z Z=>(zN (za (!-1) (za (!-1) (za (y6 (za (zN (za (pv 0) (za zf (za yC ze)))) ze)) ze)))))))),?_];have s16:=zS;have s16:=zS;let#[xs,hX,hI]:=id hA;have hxl:=hI.len;rw[aa]at hxl;ac_rfl;rw[zax];ac_rfl;refine#[#[_,SqL.of hX],λD hD=>CompEL.by (xs:=xs) (λi AR H'=>Same H H'/\H' D=AK (.lst AR)/\AR.length<=i/\EnsA K (kF D H') (fEs rs i) AR) #[zd hD,zb,ao _,rfl] (λi AR H' Z h=>SqL.of (h.1 _ _ hX)) ?_ ?_]
  ·rintro i x AR H' p hx ⟨hs,hH,hal,hEn⟩ hp;have hil:=(AS.mp hx).1;let#[r,pr,hri,rfl,hqr]:=hI.getR hx;have u1:=zd (o:=HO.tup [.int (i:Nat),.ref pr]) hp;have hq:=zo (hs.trans u1) hqr;refine zd1 (SqT.of zb) ?_
   erw[y4]
   rfl'
   refine#[zaw,_,hq,_,rfl,_,hq,_,rfl,⋯,λp1 hp1=>#[⋯,λp2 hp2=>#[⋯,λp3 hp3=>?_]]];have u2:=zd (o:=HO.tup [.int (i:Nat),.int 0,.bl AM]) hp1;have u3:=zd (o:=HO.lst [.ref p1]) hp2;have u4:=zd (o:=HO.tup [.str (tx r.1),.str (tx r.2),.ref p2]) hp3;have u:=u1.trans (u2.trans (u3.trans u4));have hD4:=u _ _ hH;have hp2D:p2≠D:=λz=>by rw[z,u2 _ _ (u1 _ _ hH)]at hp2;cases hp2
   refine#[hD4,⋯,CNx.mk hil #[zu (hs.trans u) hD,zb,by rw[ak];erw[aC,bg];lia,?_]];rw[Kj hri];refine (hEn.same ((vh u).trans xz)).snoc (EnA.same ?_ xz);refine EnA.new (e:=fE i r) hD4 zb #[_,u4 _ _ zb,?_] hp2D;show Iss K _ [dSt ((i:Int),(0:Int),AM)] _;exact zbM (WO (SqT.of (u4 _ _ (u3 _ _ zb))))
  ·rintro AR H' ⟨hs,hH,hal,hEn⟩;rw[hxl]at hEn;exact q D H' hs hD #[AR,hH,hEn.same wQ]
end in def kn(es:List Ent):Bool:=decide (12<es.length) || es.any λe=>decide (10<max e.1.length e.2.1.length)
structure TMc(mg:sB->Option sv):Prop where
 u:∃t,mg "MOST_USES_completing" = AK (.int 40 t)
 e:∃t,mg "MOST_ENTRIES" = AK (.int 12 t)
 d:∃t,mg "MOST_SIDE_completing" = AK (.int 10 t)
 p:∃t,mg "MOST_PEAKS" = AK (.int 8 t)
def Ym(K:sr):Sp:=λvs H Q Z=>∃(a:su) (es:List Ent),vs=[.ref a]/\EnsL K H a es/\es.length<64/\(∀e ∈ es,e.1.length<=10000/\e.2.1.length<=10000)/\∀H',Same H H'->Q (.bl (kn es)) H'
def Xc:sQz 1 ["entries"] wE:=by nofun
def Xe(B:Bt mg)(hany:zg2 mg)(TM:TMc mg)(F:("is_beyond"^^^wE)):(1&&&["entries"]) (Ym K):=by
 let#[#[t9,g9],#[t8,g8]]:=And.intro TM.e TM.d
 exists F.ok Xc
 ·let#[a,es,rfl,hA,hl,hE,q]:=h
  refine#[_,(zh (zJ (zt VD (zE B.len (pv 0)) (yJ (v:=.int 12) rfl g9 #[t9,rfl]) (zv _)) (zg (zl yC))
    zp) (zg (zl (yR (zfy rfl) rfl hany PyProof.Rows.boot_any (za (yy (own:=["entry"]) (caps:=[]) (ix:=[]) (tt:=y4) (te:=(tOp zel (tCB KT (zI (tCB (Xt K) (zI (tOp (ud K) (zW 0) (tC (.int 0))) xb)) (zI (tCB (Xt K) (zI (tOp (ud K) (zW 0) (tC (.int 1))) xb)) xb))) (tC (.int 10)))) rfl (zH (sc:=zi wE) rfl (!0) (!0) (!0) rfl (!0) (!0) rfl) (zX (pv 0)) (λZ Z Z Z Z Z=>zr (i:=0) (show List.Nodup [_] by decide) rfl (.inl rfl)) (λZ Z Z Z Z Z=>z7) (λZ Z Z Z Z Z=>(yf VD (yR (Vj rfl) rfl B.max uF (za (zE B.len (!-0)) (za (zE B.len (!-0)) ze))) (yJ (v:=.int 10) rfl g8 #[t8,rfl]) (zv _)))) ze))))),?_]
  have s16:=zS;have s16:=zS;let#[xs,hX,hEn]:=id hA;have hxl:=hEn.len;change H'=H/\¬ 12<es.length/\σ=[!!a]
  ·ac_rfl;refine#[_,.inl #[_,hX,rfl],z8 (λh=>?_) λh=>by lia]
   have e:kn es=AM:=by
    unfold kn;rw[u9 ⋯,Bool.true_or]
   rw[<- e];exact q H (Same.refl _)
  rintro σ H1 ⟨rfl,h12,rfl⟩:_;right;ac_rfl;refine#[#[_,hX],λD hD=>CompL.by (xs:=xs) (λi AR H'=>Same H1 H'/\H' D=AK (.lst AR)/\AR=((es.take i).map λe=>decide (10<max e.1.length e.2.1.length)).map V.bl) #[zd hD,zb,rfl] (λi AR H' Z h=>h.1.seq hX) ?_ ?_]
  ·refine nm4 ?_;rintro i x AR H' hx ⟨hs,hH,rfl⟩:_;have hil:=(AS.mp hx).1;let#[e,p,s,he,rfl,hp,_]:=hEn.get hx;have hq:=zo hs hp;have hb:=hE e (ac he);right
   erw[y4]
   rfl'
   refine#[yq,_,hq,_,rfl,_,#[by rw[zR];lia,rfl],_,hq,_,rfl,_,#[by rw[zR];lia,rfl],hH,by rw[aa,aa,aH];lia,CNx.mk hil #[zu hs hD,zb,?_]];rw[zO he,aq,aq,zR,zR];congr 1;show [V.bl _]=[V.bl _];congr 2;refine decide_eq_decide.mpr ?_;split <;> lia
  ·rintro AR H' ⟨hs,hH,rfl⟩;rw[hxl,aK]at hH;refine#[D,_,rfl,SqL.of hH,?_]
   have e:(es.map λe=>decide (10<max e.1.length e.2.1.length)).any id=kn es:=by
    unfold kn;rw[v9 h12,Bool.false_or,e8];rfl
   rw[e];exact q H' hs
def Xs(h:kn es=AN):es.length<=12/\∀e ∈ es,e.1.length<=10/\e.2.1.length<=10:=by unfold kn at h;rw[Bool.or_eq_false_iff]at h;refine#[by have:=of_decide_eq_false h.1;lia,λe he=>?_];have:=List.any_eq_false.mp h.2 e he;have h2:¬ 10<max e.1.length e.2.1.length:=λz=>this (u9 z);lia
def zbz(K:sr)(CO CR CW T:su):Sp:=λvs H Q Z=>∃(o a:su) (k:Nat) (l:()) (ns:List Int) (es:List Ent),vs=[.ref o,.ref a]/\OrdAt CO CR CW H o k l ns/\OG l ns k/\EnsL K H a es/\es.length<64/\(∀e ∈ es,EB l e)/\TabOk H T lp lq /\
 (∀(bs:List Ent) (D:su) (H':Hp),uO k l ns 20 es (AK bs)->BG k l ns bs->kn bs=AN->SamT T H H'->TabOk H' T lp lq->EnsM K H' D bs->Q (.ref D) H')/\((uO k l ns 20 es AL\/∃bs,uO k l ns 20 es (AK bs)/\kn bs=AM)->∀H',SamT T H H'->TabOk H' T lp lq->Q .non H')
structure zgp(K:sr)(CF:su):Prop where
 s:dk K (.ref CF) (.ref CF)=AK AM
def mw:sQz 2 ["order","entries","slim"] y9:=by nofun
def qh{f CO CR CW TB CF:su}(B:Bt mg)(TFx:zcQ K mg CF)(TSb:zgp K CF)(F:("thinned_within"^^^y9))(rF:(7>>>"thinned") ["order","entries"] [] (QG K CO CR CW TB CF))(rh:(1<<<"is_beyond") ["entries"] [] (Ym K)):(8&&&["order","entries"]) (zbz K CO CR CW TB):=by
 exists F.ok mw
 ·let#[o,a,k,l,ns,es,rfl,ho,hG,hA,hz,hE,hTab,q1,q2]:=h
  refine#[_,(zh (zad (i:=2) (th:=(zbA (tC .non))) mw.nd rfl (.inl rfl) (.inl rfl) #[rfl,rfl] (clX rF hr .nil rfl (za (pv 0) (za (pv 1) ze))) rfl TFx.g TFx.xi.ok (λe=>(zg (zl yb)))) (zg (zl (xE (ym (cl0 rh hr .nil rfl (za (pv 2) ze)) (λZ=>rfl)) yb (pv 2))))),?_]
  have s16:=zS;have s16:=zS;change SamT TB H H'/\TabOk H' TB lp lq/\∃(bs:List Ent) (D:su),uO k l ns 20 es (AK bs)/\BG k l ns bs/\EnsM K H' D bs/\σ=[!!o,!!a,!!D]
  ·erw[zaI]
   ac_rfl;exact#[o,a,k,l,ns,es,rfl,ho,hG,hA,hz,hE,hTab,λbs D H' h1 h2 h3 h4 h5=>#[h3,h4,bs,h1,h2,D,h5,rfl],λh H' h3 h4=>#[CF,rfl,TSb.s,λx hx=>q2 (.inl h) _ (h3.trans (SamT.of (zd hx))) (h4.same (zd hx))]]
  rintro σ H1 ⟨s1,hT1,bs,D,hTh,hB,hM,rfl⟩:_;right;ac_rfl;exact#[D,bs,rfl,hM.l,hB.n,λe he=>#[aL (hB.e e he).a ∅,aL (hB.e e he).b ∅],λH' s'=>#[_,rfl,z8 (λh=>q2 (.inr #[bs,hTh,h]) H' (s1.trans (SamT.of s')) (hT1.same s')) λh=>q1 bs D H' hTh hB (by simpa using h) (s1.trans (SamT.of s')) (hT1.same s') (hM.same s')]]
def qS(w:())(k:Int)(o n:()):(yS w k o n).length<=w.length+n.length:=by unfold yS;rw[ak,ak,aH,aZ,Nat.add_right_comm];exact Nat.add_le_add_right (zgK _ _ _) _
def BG.ok(h:BG k l ns bs)(hl:bs.length<=30):kK (zc bs):=by refine#[by unfold zc;rw[aa];exact hl,λr hr=>?_];let#[e,he,rfl]:=AT.mp hr;exact#[aL (h.e e he).a ∅,aL (h.e e he).b ∅]
def ze9(hok:∀r ∈ ps,r.1.length<=60/\r.2.length<=60)(ht:t ∈ ovA ps ps.length):(pkA ps t).length<=180/\(pkB ps t).length<=180:=by
 let#[i1,i2,i3,i4]:=jm ht;obtain⟨r,hr⟩:∃r,ps[t.1]? = AK r:=#[_,af i1];obtain⟨r2,hr2⟩:∃r,ps[t.2.1]? = AK r:=#[_,af i2];have l1:=um hr;have l2:=um hr2;have d1:ps.getD t.1 ([],[])=r:=by rw[ae,hr];rfl
 have d2:ps.getD t.2.1 ([],[])=r2:=by rw[ae,hr2];rfl
 rw[l1]at i3;have b1:=hok r (ac hr);have b2:=hok r2 (ac hr2);have hp:=uM r.1 r2.1 t.2.2 ⋯;have p1:=qS (yv r.1 r2.1 t.2.2) 0 r.1 r.2;have p2:=qS (yv r.1 r2.1 t.2.2) (t.2.2:Nat) r2.1 r2.2;unfold pkA pkB;rw[l1,l2,d1,d2];lia
def ze5(hN:NeL ps)(hok:∀r ∈ ps,r.1.length<=60/\r.2.length<=60):zgN ps 40:=by
 refine#[∅,λt ht=>?_];let#[h1,h2]:=ze9 hok ht
 have key:∀(v:()),v.length<=180->∀j,j<=40->(wAt ps v j).length<=10000:=λv hv j hj=>by
  have:=jM (l:=v) hN (λp hp=>(hok p hp).2) j;have h3:j * 60<=40 * 60:=fP hj (ao _);lia
 exact#[key _ h1,key _ h2]
def zaU(K:sr)(CO CR CW:su):Sp:=λvs H Q Z=>∃(o a:su) (k:Nat) (l:()) (ns:List Int) (bs:List Ent),vs=[.ref o,.ref a]/\OrdAt CO CR CW H o k l ns/\OG l ns k/\EnsL K H a bs/\BG k l ns bs/\bs.length<=30/\(ovA (zc bs) (zc bs).length).length<=4000 /\
 ((∀t ∈ ovA (zc bs) (zc bs).length,OkG (zc bs) 40 t)->∀D H',Same H H'->LsA K H' D ((unG (zc bs) 40).map d3)->Q (.ref D) H')/\(∀t ∈ ovA (zc bs) (zc bs).length,¬ OkG (zc bs) 40 t->∀H',Same H H'->Q .non H')
def jn:sQz 2 ["order","entries"] xM:=by nofun
def jy{f CO CR CW CF CH:su}(B:Bt mg)(TFx:zcQ K mg CF)(TSb:zgp K CF)(TM:TMc mg)(F:("unmet_within"^^^xM))(rR:(7>>>"unmet") ["system","most"] [] (uz K CH CF))(DD_unmet:(7>>>"unmet") ["system","most"] [.int 4000 oy] (uz K CH CF))(rj:(7<<<"system_by") ["order","entries"] [] (VB K CO CR CW CH)):(9&&&["order","entries"]) (zaU K CO CR CW):=by
 let#[t9,g9]:=TM.u
 exists F.ok jn
 ·let#[o,a,k,l,ns,bs,rfl,ho,hG,hA,hB,hbl,hol,q1,q2]:=h;refine#[_,(zg (WK (th:=(zbA (tC .non))) #[rfl,rfl] (clX rR hr .nil rfl (za (cl0 rj hr .nil rfl (za (pv 0) (za (pv 1) ze))) (za (yJ (v:=.int 40) rfl g9 #[t9,rfl]) ze))) rfl TFx.g TFx.xi.ok (λe=>(zg (zl yb))))),?_];have s16:=zS;have s16:=zS
  erw[Jw]
  ac_rfl
  have hsd:∀r ∈ zc bs,r.1.length<=60/\r.2.length<=60:=λr hr=>by
   let#[e,he,rfl]:=AT.mp hr;exact#[(hB.e e he).a,(hB.e e he).b]
  exact#[o,a,k,l,ns,bs,rfl,ho,hG,hA,hB,λy qa H' s' hy=>#[y,o,qa,zc bs,40,rfl,hy,hB.ne hG,hB.ok hbl,hol,ze5 (hB.ne hG) hsd,λh D H'' s'' Z hL=>q1 h D H'' (s'.trans s'') hL,λt ht h H'' s''=>#[CF,rfl,TSb.s,λx hx=>q2 t ht h _ (s'.trans (s''.trans (zd hx)))]]]
end in def jK(es:List Ent)(t:N3):Ent:=(pkA (zc es) t,pkB (zc es) t,byL es [((t.1:Int),(0:Int),AN),((t.2.1:Int),(t.2.2:Int),AM)])
def ZF(K:sr):Sp:=λvs H Q Z=>∃(a t:su) (es:List Ent) (tr:N3),vs=[.ref a,.ref t]/\EnsL K H a es/\SqT K H t [.int (tr.1:Nat),.int (tr.2.1:Nat),.int (tr.2.2:Nat)]/\tr ∈ ovA (zc es) (zc es).length/\kK (zc es)/\(∀e ∈ es,e.2.2.length<=600)/\∀(p s:su) (H':Hp),Same H H'->H' p=AK (.tup [.str (tx (jK es tr).1),.str (tx (jK es tr).2.1),.ref s])->LsA K H' s ((jK es tr).2.2.map dSt)->H s=AL->Q (.ref p) H'
def mY:sQz 2 ["entries","overlap","sides","steps"] uU:=by nofun
def Xl(B:Bt mg)(F:("entry_of"^^^uU))(pX:(4<<<"peak") ["rules","overlap"] [] (Zw K))(iH:(2<<<"by_pacts") ["entries","steps"] [] (Uu K))(gQ:(1<<<"pairs_of") ["entries"] [] (wD K)):(5&&&["entries","overlap"]) (ZF K):=by
 exists F.ok mY
 ·let#[a,t,es,tr,rfl,hA,ht,htr,hok,hst,q]:=h
  refine#[_,(zh (zB 2 mY.nd (cl0 pX hr .nil rfl (za (cl0 gQ hr .nil rfl (za (pv 0) ze)) (za (pv 1) ze)))) (zh (zB 3 mY.nd (cl0 iH hr .nil rfl (za (pv 0) (za (y6 (za (zN (za (!-1) (za zf (za yC ze)))) (za (zN (za (!-1) (za (!-1) (za yC ze)))) ze))) ze)))) (zg (zl (zN (za (!-2) (za (!-2) (za (pv 3) ze)))))))),?_]
  have s16:=zS;have s16:=zS;have hlp:(zc es).length=es.length:=by unfold zc;rw[aa]
  let#[i1,i2,i3,i4]:=jm htr;obtain⟨r,hr1⟩:∃r,(zc es)[tr.1]? = AK r:=#[_,af i1];obtain⟨r2,hr2⟩:∃r,(zc es)[tr.2.1]? = AK r:=#[_,af i2];have l1:=um hr1;have l2:=um hr2;have d1:(zc es).getD tr.1 ([],[])=r:=by rw[ae,hr1];rfl
  have d2:(zc es).getD tr.2.1 ([],[])=r2:=by rw[ae,hr2];rfl
  have eA:pkA (zc es) tr=yS (yv r.1 r2.1 tr.2.2) 0 r.1 r.2:=by unfold pkA;rw[l1,l2,d1]
  have eB:pkB (zc es) tr=yS (yv r.1 r2.1 tr.2.2) (tr.2.2:Nat) r2.1 r2.2:=by unfold pkB;rw[l1,l2,d2]
  rw[l1]at i3;rw[l1,l2]at i4;change Same H H'/\∃p:su,(∃x,H' p=AK (.tup [x,.str (tx (pkA (zc es) tr)),.str (tx (pkB (zc es) tr))]))/\σ=[!!a,!!t,!!p,AL]
  ·rfl'
   refine wc hA.is (by have:=hok.1;lia) λD H1 Z s1 hL=>?_;exact WV hL.is (zo s1 ht) hok hr1 hr2 ⋯ i4 λp H' Z s' hp=>#[s1.trans s',p,#[_,by rw[eA,eB];exact hp],rfl]
  rintro σ H1 ⟨s1,p,⟨x,hp⟩,rfl⟩:_;right;change Same H1 H'/\∃S:su,H S=AL/\LsA K H' S ((jK es tr).2.2.map dSt)/\σ=[!!a,!!t,!!p,!!S]
  ·have ht1:=zo s1 ht
   rfl'
   refine#[_,ht1,_,rfl,⋯,λp1 hp1=>?_];have u1:=zd (o:=HO.tup [.int (tr.1:Nat),.int 0,.bl AN]) hp1;refine#[_,zo u1 ht1,_,rfl,_,zo u1 ht1,_,rfl,⋯,λp2 hp2=>#[⋯,λp3 hp3=>?_]];have u2:=zd (o:=HO.tup [.int (tr.2.1:Nat),.int (tr.2.2:Nat),.bl AM]) hp2;have u3:=zd (o:=HO.lst [.ref p1,.ref p2]) hp3;have u:=u1.trans (u2.trans u3);refine W4 (us:=[((tr.1:Int),(0:Int),AN),((tr.2.1:Int),(tr.2.2:Int),AM)]) (hA.same (s1.trans u)).is (LsA.is #[_,zb,?_]) (by simp) hst (λv hv=>?_) λD H' hDn s' hL=>#[u.trans s',D,(s1.trans u).free hDn,hL,rfl]
   ·erw[am,aA,Iss]
    exact#[_,_,rfl,WO (SqT.of (u3 _ _ (u2 _ _ zb))),_,_,rfl,WO (SqT.of (u3 _ _ zb)),rfl]
   ·erw[dn,cL,or_false]at hv
    rcases hv with rfl | rfl
    ·exact#[by simp,by show (tr.1:Int)<_;lia]
    ·exact#[by simp,by show (tr.2.1:Int)<_;lia]
  rintro σ H2 ⟨s2,S,hSn,hS,rfl⟩:_;right
  rfl'
  exact#[_,SqT.of (s2 _ _ hp),_,rfl,_,SqT.of (s2 _ _ hp),_,rfl,⋯,λp' hp'=>q p' S _ (s1.trans (s2.trans (zd hp'))) zb (hS.same (zd hp')) hSn]
def KP(h:¬ ke e):¬ ke (yg k l ns e):=by
 unfold yg;split
 ·exact h
 ·unfold ke at h ⊢;rw[yh];show ¬ (240<e.2.2.length\/60<e.2.1.length\/60<e.1.length);lia
theorem VO(h:xf k l ns bs es r):(∀e ∈ bs,¬ ke e)->∀fs,r=AK fs->∀e ∈ fs,¬ ke e:=by
 induction h with
 | nil bs=>exact λh fs e=>by cases e;exact h
 | same _ _ _ _ ih=>exact ih
 | new _ _ _ h4 _ ih =>
  intro h;refine ih λe he=>?_;rcases AV.mp he with he | he
  ·exact h e he
  ·rw[AW.mp he];exact KP h4
 | far _ _ _ _=>exact λZ fs e=>by cases e
 | stuck _=>exact λZ fs e=>by cases e
theorem jg(h:uO k l ns n es r):∀fs,r=AK fs->∀e ∈ fs,¬ ke e:=by
 induction h with
 | out es=>exact λfs e=>by cases e
 | bad _ _=>exact λfs e=>by cases e
 | done _ h2 _=>exact λfs e=>by cases e;exact VO h2 (λe he=>(nomatch he)) _ rfl
 | more _ _ _ _ ih=>exact ih
def JM(h:∀e ∈ es,e.2.2.length<=M)(u:Stp):(XV es u).length<=M:=by
 have hg:(es.getD u.1.toNat ([],[],[])).2.2.length<=M:=by
  rw[ae]
  cases e:es[u.1.toNat]? with
  | none=>exact aD _
  | some x=>exact h x (ac e)
 unfold XV;rw[Yy];split
 ·exact hg
 ·rw[yh];exact hg
inductive Cpl(k:Nat)(l:())(ns:List Int):Nat->List Ent->List Ent->Bool->List Ent->Prop where
 | out (kept fresh:List Ent):Cpl k l ns 0 kept fresh AN kept
 | slim {n:Nat} {kept fresh:List Ent} (h:uO k l ns 20 fresh AL\/∃bs,uO k l ns 20 fresh (AK bs)/\kn bs=AM):Cpl k l ns (n+1) kept fresh AN kept
 | far {n:Nat} {kept fresh bs:List Ent} {t:N3} (h:uO k l ns 20 fresh (AK bs)) (hb:kn bs=AN) (ht:t ∈ ovA (zc bs) (zc bs).length) (ho:¬ OkG (zc bs) 40 t):Cpl k l ns (n+1) kept fresh AN bs
 | whole {n:Nat} {kept fresh bs:List Ent} (h:uO k l ns 20 fresh (AK bs)) (hb:kn bs=AN) (ho:∀t ∈ ovA (zc bs) (zc bs).length,OkG (zc bs) 40 t) (hu:unG (zc bs) 40=[]):Cpl k l ns (n+1) kept fresh AM bs
 | more {n:Nat} {kept fresh bs es:List Ent} {w:Bool} (h:uO k l ns 20 fresh (AK bs)) (hb:kn bs=AN) (ho:∀t ∈ ovA (zc bs) (zc bs).length,OkG (zc bs) 40 t) (hu:unG (zc bs) 40≠[]) (r:Cpl k l ns n bs (bs ++ ((unG (zc bs) 40).take 8).map (jK bs)) w es):Cpl k l ns (n+1) kept fresh w es
def zee(hl:ps.length<=12)(h:∀r ∈ ps,r.1.length<=10):(ovA ps ps.length).length<=4000:=by
 have lfl:∀i,(lf ps i).length<=10:=λi=>by
  cases e:ps[i]? with
  | none=>unfold lf;rw[ae,e];exact aD _
  | some r=>rw[um e];exact h r (ac e)
 have oI:∀i m,(ovI ps i m).length<=m * 10:=λi m=>by
  induction m with
  | zero=>exact aD _
  | succ m ih =>
   rw[ja,ak];have h1:=qT ps i m (lf ps i).length;have h2:=lfl i;lia
 have oA:∀m,(ovA ps m).length<=m * 120:=λm=>by
  induction m with
  | zero=>exact aD _
  | succ m ih =>
   rw[Z1,ak];have h1:=oI m ps.length;lia
 have:=oA ps.length;lia
def zgt{l:()}(hin:∀r ∈ ps,(∀c ∈ r.1,c ∈ l)/\∀c ∈ r.2,c ∈ l)(h10:∀r ∈ ps,r.1.length<=10/\r.2.length<=10)(ht:t ∈ ovA ps ps.length):((pkA ps t).length<=40/\∀c ∈ pkA ps t,c ∈ l)/\(pkB ps t).length<=40/\∀c ∈ pkB ps t,c ∈ l:=by
 let#[i1,i2,i3,i4]:=jm ht;obtain⟨r,hr⟩:∃r,ps[t.1]? = AK r:=#[_,af i1];obtain⟨r2,hr2⟩:∃r,ps[t.2.1]? = AK r:=#[_,af i2];have l1:=um hr;have l2:=um hr2;have d1:ps.getD t.1 ([],[])=r:=by rw[ae,hr];rfl
 have d2:ps.getD t.2.1 ([],[])=r2:=by rw[ae,hr2];rfl
 rw[l1]at i3;have b1:=h10 r (ac hr);have b2:=h10 r2 (ac hr2);have n1:=hin r (ac hr);have n2:=hin r2 (ac hr2);have hp:=uM r.1 r2.1 t.2.2 ⋯;have p1:=qS (yv r.1 r2.1 t.2.2) 0 r.1 r.2;have p2:=qS (yv r.1 r2.1 t.2.2) (t.2.2:Nat) r2.1 r2.2
 have hw:∀c ∈ yv r.1 r2.1 t.2.2,c ∈ l:=λc hc=>by
  unfold yv at hc;rcases AV.mp hc with h | h
  ·exact n1.1 c h
  ·exact n2.1 c (di h)
 have put:∀(k:Int) (o n:()),(∀c ∈ n,c ∈ l)->∀c ∈ yS (yv r.1 r2.1 t.2.2) k o n,c ∈ l:=λk o n hn c hc=>by
  unfold yS at hc;rcases AV.mp hc with hc | hc
  ·rcases AV.mp hc with hc | hc
   ·exact hw c (bJ hc)
   ·exact hn c hc
  ·exact hw c (di hc)
 unfold pkA pkB;rw[l1,l2,d1,d2];exact#[#[⋯,put _ _ _ n1.2],⋯,put _ _ _ n2.2]
def Jz(hB:BG k l ns bs)(hb:kn bs=AN)(hs:∀e ∈ bs,e.2.2.length<=240)(ht:t ∈ ovA (zc bs) (zc bs).length):EB l (jK bs t):=by
 let#[b1,b2]:=Xs hb
 let#[h1,h2]:=zgt (l:=l) (ps:=zc bs) (λr hr=>by
  let#[e,he,rfl]:=AT.mp hr
  exact#[(hB.e e he).ma,(hB.e e he).mb]) (λr hr=>by
  let#[e,he,rfl]:=AT.mp hr
  exact b2 e he) ht
 refine#[aL h1.1 ∅,aL h2.1 ∅,?_,h1.2,h2.2];show (byL bs [((t.1:Int),(0:Int),AN),((t.2.1:Int),(t.2.2:Int),AM)]).length<=600;unfold byL;rw[eV,eV,List.flatMap_nil,bc,ak];have o1:=JM hs ((t.1:Int),(0:Int),AN);have o2:=JM hs ((t.2.1:Int),(t.2.2:Int),AM);lia
def EnsM.samT(h:EnsM K H a es)(s:SamT T H H')(hT:H T=AK (.tbl ps)):EnsM K H' a es:=by let#[xs,h1,h2]:=h;exact#[xs,s.at hT h1 (λZ z=>by cases z),EnsA.samT s hT h2]
def zgh(K:sr)(T:su)(H:Hp)(k:Nat)(l:())(ns:List Int)(rs:List zC)(m n:Nat)(H':Hp)(Dk Df:su):Prop:=∃kept fresh:List Ent,SamT T H H'/\TabOk H' T lp lq/\EnsM K H' Dk kept/\EnsL K H' Df fresh/\fresh.length<64/\(∀e ∈ fresh,EB l e)/\BG k l ns kept/\∀w es,Cpl k l ns n kept fresh w es->Cpl k l ns m [] (fEs rs rs.length) w es
def zbv(K:sr)(CO CR CW T:su):Sp:=λvs H Q Z=>∃(o a:su) (k:Nat) (l:()) (ns:List Int) (rs:List zC) (m:Nat),vs=[.ref o,.ref a,.int (m:Nat)]/\OrdAt CO CR CW H o k l ns/\OG l ns k/\LsA K H a (rs.map dR)/\rs.length<=20/\InL l rs/\(∀r ∈ rs,r.1.length<=60/\r.2.length<=60)/\m<=1000/\TabOk H T lp lq/\∀(w:Bool) (es:List Ent) (p D:su) (H':Hp),Cpl k l ns (m+1) [] (fEs rs rs.length) w es->BG k l ns es->SamT T H H'->TabOk H' T lp lq->H' p=AK (.tup [.bl w,.ref D])->EnsM K H' D es->Q (.ref p) H'
def gU:sQz 3 ["order","pacts","rounds","kept","fresh","turn","slim","lacking"] ww:=by nofun
def Xh{f CO CR CW TB:su}(B:Bt mg)(TM:TMc mg)(F:("completed"^^^ww))(oR:(1<<<"first_entries") ["pacts"] [] (VG K))(oz:(8<<<"thinned_within") ["order","entries"] [] (zbz K CO CR CW TB))(pi:(9<<<"unmet_within") ["order","entries"] [] (zaU K CO CR CW))(rA:(5<<<"entry_of") ["entries","overlap"] [] (ZF K)):(10&&&["order","pacts","rounds"]) (zbv K CO CR CW TB):=by
 let#[t9,g9]:=TM.p
 exists F.ok gU
 ·let#[o,a,k,l,ns,rs,m,rfl,ho,hG,hA,hrl,hin,h60,hm,hTab,q]:=h
  refine#[_,(zh (yT (i:=3) gU.nd rfl (Or.inr rfl) (y6 ze)) (zh (zB 4 gU.nd (cl0 oR hr .nil rfl (za (pv 1) ze))) (zh (zZ p9 rfl (zV rfl B.range (za (zD yz (pv 2) zf) ze)) (zr (i:=5) gU.nd rfl (.inl rfl)) (zh (zB 6 gU.nd (cl0 oz hr .nil rfl (za (pv 0) (za (pv 4) ze)))) (zh (zJ (zt op_isN' (pv 6) yb (zv _)) (zg (zl (zN (za yC (za (pv 3) ze)))))
     zp) (zh (yT (i:=3) gU.nd rfl (Or.inr rfl) (pv 6)) (zh (zB 7 gU.nd (cl0 pi hr .nil rfl (za (pv 0) (za (pv 3) ze)))) (zh (zJ (zt op_isN' (pv 7) yb (zv _)) (zg (zl (zN (za yC (za (pv 3) ze)))))
     zp) (zh (zJ (zt yW (zE B.len (pv 7)) zf (zv _)) (zg (zl (zN (za yC (za (pv 3) ze)))))
     zp) (zg (zB 4 gU.nd (zD qb (pv 3) (yy (own:=["overlap"]) (caps:=["kept"]) (ix:=[3]) (tt:=y4) (te:=(vE (ZF K) [] E0 (zI (zW 1) (zI (zW 0) xb)))) rfl (zH (sc:=zi ww) rfl (!0) (!0) (!0) rfl (!0) (!0) rfl) (zX (zY uR (pv 7) yG (z6 (yJ (v:=.int 8) rfl g9 #[t9,rfl])))) (λZ Z Z Z Z Z=>zr (i:=0) (show List.Nodup [_,_] by decide) rfl (.inl rfl)) (λZ Z Z Z Z Z=>z7) (λZ Z Z Z Z Z=>(cl0 rA hr .nil rfl (za (pv 1) (za (pv 0) ze))))))))))))))) (zg (zl (zN (za yC (za (pv 3) ze)))))))),?_]
  have s16:=zS;have s16:=zS;have hTt:=hTab;let#[tp,htp,_]:=hTt;change Same H H'/\∃Dk:su,H' Dk=AK (.lst [])/\σ=[!!o,!!a,-~~~m,!!Dk,AL,AL,AL,AL]
  ·ac_rfl;exact#[⋯,λp hp=>#[zd hp,zb]]
  rintro σ H1 ⟨s1,Dk0,hDk0,rfl⟩:_
  have hE0:∀e ∈ fEs rs rs.length,EB l e:=λe he=>by
   let#[i,p,hi,hp,rfl]:=jf he;have h1:=h60 p (ac hp);have h2:=hin p (ac hp);exact#[h1.1,h1.2,by show ([((i:Int),(0:Int),AM)]:List Stp).length<=600;simp,h2.2.2.1,h2.2.2.2]
  right;change ∃Df:su,zgh K TB H k l ns rs (m+1) (m+1) H' Dk0 Df/\σ=[!!o,!!a,-~~~m,!!Dk0,!!Df,AL,AL,AL]
  ·ac_rfl;exact#[a,rs,rfl,hA.same s1,hrl,λDf H' s' Z hM=>#[Df,#[[],fEs rs rs.length,SamT.of (s1.trans s'),hTab.same (s1.trans s'),#[[],s' _ _ hDk0,rfl],hM.l,by have:=QM rs rs.length;lia,hE0,#[by simp,λe he=>(nomatch he),λe he=>(nomatch he)],λw es h=>h],rfl]]
  rintro σ H2 ⟨Df0,hC0,rfl⟩:_;right;change ∃(Dk Df:su) (v5 v6 v7:Option V),zgh K TB H k l ns rs (m+1) 0 H' Dk Df/\σ=[!!o,!!a,-~~~m,!!Dk,!!Df,v5,v6,v7]
  ·ac_rfl;refine#[⋯,⋯,ForR.by (λi σ H'=>∃(Dk Df:su) (v5 v6 v7:Option V),zgh K TB H k l ns rs (m+1) (m+1 - i) H' Dk Df/\σ=[!!o,!!a,-~~~m,!!Dk,!!Df,v5,v6,v7]) #[Dk0,Df0,AL,AL,AL,hC0,rfl] ?_ ?_]
   ·refine nm3 ?_;rintro i σ H' hi ⟨Dk,Df,v5,v6,v7,⟨kept,fresh,sT,hT,hK,hF,hfl,hfE,hB,hcp⟩,rfl⟩:_;have hi':i<m+1:=⋯;have en:m+1 - i=(m+1 - (i+1))+1:=⋯;rw[en]at hcp;have hTt:=hT;let#[tq,htq,_]:=hTt;have ho':=ho.samT sT htp;right
    erw[yx,aU,aT]
    refine zj (λσ' G=>SamT TB H' G/\TabOk G TB lp lq/\(((uO k l ns 20 fresh AL\/∃bs,uO k l ns 20 fresh (AK bs)/\kn bs=AM)/\σ'=[!!o,!!a,-~~~m,!!Dk,!!Df,AK (.int (0+(i:Int))),AK (.non),v7])\/∃(bs:List Ent) (D:su),uO k l ns 20 fresh (AK bs)/\BG k l ns bs/\kn bs=AN/\EnsM K G D bs/\σ'=[!!o,!!a,-~~~m,!!Dk,!!Df,AK (.int (0+(i:Int))),!!D,v7])) ?_ ?_
    ·ac_rfl;exact#[o,Df,k,l,ns,fresh,rfl,ho',hG,hF,hfl,hfE,hT,λbs D G h1 h2 h3 h4 h5 h6=>#[h4,h5,.inr #[bs,h1,h2,h3,D,h6,rfl]],λh G h4 h5=>#[h4,h5,.inl #[h,rfl]]]
    rintro σ' G1 ⟨g1,hT1,hcase⟩:_;have hK1:=hK.samT g1 htq;right;refine zj (λσ' G=>Same G1 G/\∃(bs:List Ent) (D:su),uO k l ns 20 fresh (AK bs)/\BG k l ns bs/\kn bs=AN/\EnsM K G D bs/\σ'=[!!o,!!a,-~~~m,!!Dk,!!Df,AK (.int (0+(i:Int))),!!D,v7]) ?_ ?_
    ·rcases hcase with ⟨hno,rfl⟩ | ⟨bs,D,h1,h2,h3,h4,rfl⟩
     ·ac_rfl;exact#[⋯,λp hp=>q AN kept p Dk _ (hcp _ _ (.slim hno)) hB (sT.trans (g1.trans (SamT.of (zd hp)))) (hT1.same (zd hp)) zb (hK1.same (zd hp))]
     ·ac_rfl;exact#[Same.refl _,bs,h1,h2,h3,h4]
    rintro σ' G2 ⟨s2,bs,D,hTh,hBb,hbey,hD,rfl⟩:_;clear hcase;right;refine zj (λσ' G=>G=G2/\σ'=[!!o,!!a,-~~~m,!!D,!!Df,AK (.int (0+(i:Int))),!!D,v7]) ?_ ?_
    ·ac_rfl
    rintro σ' G3 ⟨rfl,rfl⟩:_;have sT3:SamT TB H G3:=sT.trans (g1.trans (SamT.of s2));have hT3:=hT1.same s2;have ho3:=ho.samT sT3 htp;let#[b12,b10]:=Xs hbey;have hpl:(zc bs).length=bs.length:=by unfold zc;rw[aa]
    have hol:=zee (ps:=zc bs) ⋯ λr hr=>by
     let#[e,he,rfl]:=AT.mp hr;exact (b10 e he).1
    have hnear:∀e ∈ bs,e.2.2.length<=240:=λe he=>by
     have:=jg hTh bs rfl e he;unfold ke at this;lia
    right;refine zj (λσ' G=>Same G3 G/\(((∃t ∈ ovA (zc bs) (zc bs).length,¬ OkG (zc bs) 40 t)/\σ'=[!!o,!!a,-~~~m,!!D,!!Df,AK (.int (0+(i:Int))),!!D,AK (.non)])\/∃L:su,(∀t ∈ ovA (zc bs) (zc bs).length,OkG (zc bs) 40 t)/\LsA K G L ((unG (zc bs) 40).map d3)/\σ'=[!!o,!!a,-~~~m,!!D,!!Df,AK (.int (0+(i:Int))),!!D,!!L])) ?_ ?_
    ·ac_rfl;exact#[o,D,k,l,ns,bs,rfl,ho3,hG,hD.l,hBb,⋯,hol,λh L G s' hL=>#[s',.inr #[h,L,hL,rfl]],λt ht h G s'=>#[s',.inl #[#[t,ht,h],rfl]]]
    rintro σ' G4 ⟨s4,hcase⟩:_;right;refine zj (λσ' G=>Same G3 G/\∃L:su,(∀t ∈ ovA (zc bs) (zc bs).length,OkG (zc bs) 40 t)/\LsA K G L ((unG (zc bs) 40).map d3)/\σ'=[!!o,!!a,-~~~m,!!D,!!Df,AK (.int (0+(i:Int))),!!D,!!L]) ?_ ?_
    ·rcases hcase with ⟨⟨t,ht,hno⟩,rfl⟩ | ⟨L,h1,h2,rfl⟩
     ·ac_rfl;exact#[⋯,λp hp=>q AN bs p D _ (hcp _ _ (.far hTh hbey ht hno)) hBb (sT3.trans (SamT.of (s4.trans (zd hp)))) (hT3.same (s4.trans (zd hp))) zb (hD.same (s4.trans (zd hp)))]
     ·ac_rfl;exact#[s4,h1,h2]
    rintro σ' G5 ⟨s5,L,hok,hL,rfl⟩:_;clear hcase;right;refine zj (λσ' G=>G=G5/\unG (zc bs) 40≠[]/\σ'=[!!o,!!a,-~~~m,!!D,!!Df,AK (.int (0+(i:Int))),!!D,!!L]) ?_ ?_
    ·ac_rfl;let#[xs,hX,hI]:=id hL;have hxl:=hI.len;rw[aa]at hxl;refine#[_,.inl #[_,SqL.of hX,rfl],z8 (λh=>#[⋯,λp hp=>q AM bs p D _ (hcp _ _ (.whole hTh hbey hok (List.length_eq_zero_iff.mp ⋯))) hBb (sT3.trans (SamT.of (s5.trans (zd hp)))) (hT3.same (s5.trans (zd hp))) zb (hD.same (s5.trans (zd hp)))]) λh z=>h ?_];rw[z]at hxl;show ((xs.length:Nat):Int)=0;rw[hxl];rfl
    rintro σ' G6 ⟨rfl,hne,rfl⟩:_;right;ac_rfl;let#[xs,hX,hI]:=id hL;have hxl:=hI.len;rw[aa]at hxl;have hct:Vv xs AL (AK 8)=xs.take 8:=qw xs (k:=8) ∅;refine#[_,SqL.of hX,λp hp=>?_];rw[hct];have u1:=zd (o:=HO.lst (xs.take 8)) hp;have hS7:(upd G6 p (.lst (xs.take 8))) p=AK (.lst (xs.take 8)):=zb;have hX7:=Iss.same u1 _ _ hI;have hD7:=hD.same (s5.trans u1);refine#[#[_,SqL.of hS7],λE1 hE1=>?_];generalize upd G6 p (.lst (xs.take 8))=G7 at *;refine CompL.by (xs:=xs.take 8) (λj AR H'=>Same G7 H'/\H' E1=AK (.lst AR)/\AR.length<=j/\EnsA K (kF E1 H') (((unG (zc bs) 40).take j).map (jK bs)) AR) #[zd hE1,zb,ao _,rfl] (λj AR H' Z h=>SqL.of (h.1 _ _ hS7)) ?_ ?_
    ·refine nm4 ?_;rintro j x AR H' hx ⟨hs,hH,hal,hEn⟩:_;have hjl:=(AS.mp hx).1;have hj8:j<8:=by rw[aH]at hjl;lia
     rw[cK hj8]at hx;let#[t,pt,ht,rfl,hpt]:=hX7.get3 hx;have htm:=(Ba.mp (ac ht)).1;right
     erw[y4]
     rfl'
     refine#[yq,D,pt,bs,t,rfl,(hD7.same hs).l,zo hs hpt,htm,hBb.ok ⋯,λe he=>(hBb.e e he).s,λp' s' H5 h1 h2 h3 h4=>?_];have hH5:=h1 _ _ hH;have hsE:s'≠E1:=λz=>by rw[z,hH]at h4;cases h4
     refine#[hH5,⋯,CNx.mk hjl #[zu (hs.trans h1) hE1,zb,by rw[ak];erw[aC,bg];lia,?_]];rw[zO ht,aq];exact (hEn.same ((vh h1).trans xz)).snoc ((EnA.new (e:=jK bs t) hH5 h2 h3 hsE).same xz)
    ·rintro AR H' ⟨hs,hH,hal,hEn⟩
     have hEn':EnsA K H' (((unG (zc bs) 40).take 8).map (jK bs)) AR:=by
      have h1:=hEn.same wQ;rw[aH,hxl]at h1
      have e:(unG (zc bs) 40).take (min 8 (unG (zc bs) 40).length)=(unG (zc bs) 40).take 8:=by
       rw[<- fV,aK]
      rw[e]at h1;exact h1
     have hal8:AR.length<=8:=by rw[aH]at hal;lia
     let#[xk,hxk,hek]:=hD7.same hs;have hkl:=hek.len;refine#[E1,rfl,xk,hxk,AR,hH,⋯,λp2 hp2=>#[D,p2,#[bs,_,sT3.trans (SamT.of (s5.trans (u1.trans (hs.trans (zd hp2))))),hT3.same (s5.trans (u1.trans (hs.trans (zd hp2)))),#[xk,zd hp2 _ _ hxk,hek.same (zd hp2)],#[xk ++ AR,SqL.of zb,(hEn'.same (zd hp2)).app (hek.same (zd hp2))],?_,λe he=>?_,hBb,λw es h=>hcp w es (.more hTh hbey hok hne h)],rfl,rfl]]
     ·rw[ak,aa,aH];lia
     ·rcases AV.mp he with he | he
      ·exact hBb.e e he
      ·let#[t,ht,rfl]:=AT.mp he;exact Jz hBb hbey hnear (Ba.mp (bJ ht)).1
   ·rintro σ H' ⟨Dk,Df,v5,v6,v7,hC,rfl⟩;rw[show ((m:Int)+1).toNat=m+1 by lia,ef]at hC;exact#[Dk,Df,hC,_,_,_,rfl]
  rintro σ H3 ⟨Dk,Df,v5,v6,v7,⟨kept,fresh,sT,hT,hK,hF,hfl,hfE,hB,hcp⟩,rfl⟩:_;right;ac_rfl;exact#[⋯,λp hp=>q AN kept p Dk _ (hcp _ _ (.out kept fresh)) hB (sT.trans (SamT.of (zd hp))) (hT.same (zd hp)) zb (hK.same (zd hp))]
def ThinL.pairs(h:ThinL k l ns zs)(hp:zc bs=zc zs)(hE:∀e ∈ bs,EB l e):ThinL k l ns bs:=by
 have key:∀(i:Nat) (a:Ent),bs[i]? = AK a->∃z,zs[i]? = AK z/\z.1=a.1/\z.2.1=a.2.1:=λi a ha=>by
  have h1:(zc bs)[i]? = AK (a.1,a.2.1):=by unfold zc;rw[au,ha];rfl
  rw[hp]at h1;unfold zc at h1;rw[au]at h1;let#[z,hz,e]:=AZ.mp h1;exact#[z,hz,(Prod.ext_iff.mp e).1,(Prod.ext_iff.mp e).2]
 refine#[#[hE,λe he=>?_],λi j a b ha hb hij=>?_,λi j a b ha hb hij=>?_,λi j a b ha hb=>?_]
 ·let#[i,hi]:=Bh.mp he;let#[z,hz,e1,e2]:=key i e hi;rw[<- e1,<- e2];exact h.rl.lt z (ac hz)
 all_goals
  let#[x,hx,e1,e2]:=key i a ha;let#[y,hy,f1,f2]:=key j b hb;rw[<- f1]
 ·rw[<- e1];exact h.up i j x y hx hy hij
 ·rw[<- e1];exact h.no1 i j x y hx hy hij
 ·rw[<- e2];exact h.no2 i j x y hx hy
def Zx{w:()}{i:Nat}(hr:ps[i]? = AK r)(h:zw w q (sdl r f).1=AM):yD ps w ((i:Int),q,f)=AK (yS w q (sdl r f).1 (sdl r f).2):=by
 have hi:=(AS.mp hr).1
 have e:ps.getD ((i:Int),q,f).1.toNat ([],[])=r:=by
  show ps.getD ((i:Int)).toNat ([],[])=r;rw[aE,ae,hr];rfl
 rw[y3 (show 0<=((i:Int),q,f).1/\((i:Int),q,f).1<ps.length by constructor <;> simp <;> lia),e,w6 h]
def Kv(h:e ∈ fEs rs n):EOk rs e:=by
 let#[i,p,hi,hp,rfl]:=jf h;show yl rs p.1 [((i:Int),(0:Int),AM)]=AK p.2
 have hs:zw p.1 0 (sdl p AM).1=AM:=by
  show zw p.1 0 p.1=AM;refine u9 #[⋯,⋯,?_];show (p.1.drop 0).take p.1.length=p.1;rw[dF,aK]
 erw[yl,Zx hp hs,bZ]
 show AK (yS p.1 0 p.1 p.2)=AK p.2;congr 1;unfold yS;show p.1.take 0 ++ p.2 ++ p.1.drop (0+p.1.length)=p.2;rw[bA,bR,bo ⋯,bc]
def zc2(hb:∀e ∈ bs,EOk rs e)(ht:t ∈ ovA (zc bs) (zc bs).length):EOk rs (jK bs t):=by
 let#[i1,i2,i3,i4]:=jm ht;obtain⟨r,hr⟩:∃r,(zc bs)[t.1]? = AK r:=#[_,af i1];obtain⟨r2,hr2⟩:∃r,(zc bs)[t.2.1]? = AK r:=#[_,af i2];have l1:=um hr;have l2:=um hr2;have d1:(zc bs).getD t.1 ([],[])=r:=by rw[ae,hr];rfl
 have d2:(zc bs).getD t.2.1 ([],[])=r2:=by rw[ae,hr2];rfl
 rw[l1]at i3;rw[l1,l2]at i4;have eA:pkA (zc bs) t=yS (yv r.1 r2.1 t.2.2) 0 r.1 r.2:=by unfold pkA;rw[l1,l2,d1]
 have eB:pkB (zc bs) t=yS (yv r.1 r2.1 t.2.2) (t.2.2:Nat) r2.1 r2.2:=by unfold pkB;rw[l1,l2,d2]
 refine jH hb ?_;show yl (zc bs) (pkA (zc bs) t) [((t.1:Int),(0:Int),AN),((t.2.1:Int),(t.2.2:Int),AM)]=AK (pkB (zc bs) t);let#[b1,b2]:=VC r.2 (kT r.1 r2.1 t.2.2);rw[eA,eB];have h1:=Zx (f:=AN) (q:=0) hr (w:=yS (yv r.1 r2.1 t.2.2) 0 r.1 r.2) b1;have h2:=Zx (f:=AM) (q:=(t.2.2:Int)) hr2 (w:=yv r.1 r2.1 t.2.2) (jW ⋯ i4)
 have h1':yD (zc bs) (yS (yv r.1 r2.1 t.2.2) 0 r.1 r.2) ((t.1:Int),(0:Int),AN)=AK (yv r.1 r2.1 t.2.2):=by
  rw[h1];congr 1
 have h2':yD (zc bs) (yv r.1 r2.1 t.2.2) ((t.2.1:Int),(t.2.2:Int),AM)=AK (yS (yv r.1 r2.1 t.2.2) (t.2.2:Nat) r2.1 r2.2):=h2
 erw[yl,h1',h2',bZ]
def UC(h:uO k l ns 20 es (AK bs))(hb:kn bs=AN)(hz:ThinL k l ns zs)(hp:zc bs=zc zs):BG k l ns bs:=by
 let#[b1,_]:=Xs hb
 have key:∀e ∈ bs,∃z ∈ zs,z.1=e.1/\z.2.1=e.2.1:=λe he=>by
  have:(e.1,e.2.1) ∈ zc zs:=by rw[<- hp];exact AT.mpr #[e,he,rfl]
  let#[z,hz,e2]:=AT.mp this;injection e2 with h1 h2;exact#[z,hz,h1,h2]
 refine#[⋯,λe he=>?_,λe he=>?_]
 ·let#[z,hzm,h1,h2]:=key e he;have hE:=hz.rl.e z hzm;have hn:=jg h bs rfl e he;unfold ke at hn;exact#[⋯,⋯,⋯,by rw[<- h1];exact hE.ma,by rw[<- h2];exact hE.mb]
 ·let#[z,hzm,h1,h2]:=key e he;rw[<- h1,<- h2];exact hz.rl.lt z hzm
def Gd(rs:List zC)(k:Nat)(l:())(ns:List Int)(es:List Ent):Prop:=(∀e ∈ es,EOk rs e)/\(es=[]\/(ThinL k l ns es/\kn es=AN/\BG k l ns es))
def X9(G:OG l ns k)(h:uO k l ns 20 es (AK bs))(hb:kn bs=AN)(he:∀e ∈ es,EB l e)(ho:∀e ∈ es,EOk rs e):Gd rs k l ns bs:=by let#[h1,zs,hz,hp]:=Vm (rs:=rs) G h bs rfl he ho;have hB:=UC h hb hz hp;exact#[h1,.inr #[hz.pairs hp hB.e,hb,hB]]
theorem zeh(G:OG l ns k){kept fresh es:List Ent}{w:Bool}(h:Cpl k l ns n kept fresh w es):(∀e ∈ fresh,EB l e)->(∀e ∈ fresh,EOk rs e)->Gd rs k l ns kept->Gd rs k l ns es:=by
 induction h with
 | out kept fresh=>exact λZ Z h=>h
 | slim _=>exact λZ Z h=>h
 | far h hb _ _=>exact λhe ho Z=>X9 G h hb he ho
 | whole h hb _ _=>exact λhe ho Z=>X9 G h hb he ho
 | @more n kept fresh bs es w h hb ho' hu r ih =>
  intro he ho _;have hg:=X9 (rs:=rs) G h hb he ho
  have hB:BG k l ns bs:=by
   let#[h1,zs,hz,hp]:=Vm (rs:=rs) G h bs rfl he ho;exact UC h hb hz hp
  have hnear:∀e ∈ bs,e.2.2.length<=240:=λe hm=>by
   have:=jg h bs rfl e hm;unfold ke at this;lia
  refine ih (λe hm=>?_) (λe hm=>?_) hg
  ·rcases AV.mp hm with hm | hm
   ·exact hB.e e hm
   ·let#[t,ht,rfl]:=AT.mp hm;exact Jz hB hb hnear (Ba.mp (bJ ht)).1
  ·rcases AV.mp hm with hm | hm
   ·exact hg.1 e hm
   ·let#[t,ht,rfl]:=AT.mp hm;exact zc2 hg.1 (Ba.mp (bJ ht)).1
def Rw(ps:List zC)(u v:()):Prop:=∃p,p ∈ ps/\∃a b,u=a ++ p.1 ++ b/\v=a ++ p.2 ++ b
inductive Rws(ps:List zC):()->()->Prop where
 | nil {u:()}:Rws ps u u
 | cons {u v w:()} (h:Rw ps u v) (h2:Rws ps v w):Rws ps u w
def Rw.ctx(h:Rw ps u v)(c d:()):Rw ps (c ++ u ++ d) (c ++ v ++ d):=by let#[p,hp,a,b,rfl,rfl]:=h;exact#[p,hp,c ++ a,b ++ d,by erw[aV],by erw[aV]]
theorem Rws.ctx(h:Rws ps u v)(c d:()):Rws ps (c ++ u ++ d) (c ++ v ++ d):=by
 induction h with
 | nil=>exact .nil
 | cons s _ ih=>exact .cons (s.ctx c d) ih
section
variable{k:Nat}{l:()}{ws:List Int}{ps:List zC}
end in def mu(k:Nat)(l:())(ws:List Int)(Ws:List (()))(v:()):Nat:=Ws.countP λy=>zP k l ws y v
end
section
variable{k:Nat}{l:()}{ws:List Int}{es fs:List Ent}
end
def WN(K:sr):List V->Hp->VK->Prop:=λxs H Q=>∃p ys,xs=[.ref p]/\(SqL K H p ys\/SqT K H p ys)/\∀l,H l=AL->Q (.ref l) (upd H l (.lst ys))
structure TabAt(H:Hp)(t:su)(rs:List su)(tab:List (List Int)):Prop where
 top:H t=AK (.lst (rs.map V.ref))
 len:rs.length=tab.length
 row:∀(i:Nat) (r:su) (x:List Int),rs[i]? = AK r->tab[i]? = AK x->H r=AK (.lst (x.map V.int))
def TabAt.same{H H':Hp}{t:su}{rs:List su}{tab:List (List Int)}(h:TabAt H t rs tab)(e:Same H H'):TabAt H' t rs tab:=#[e _ _ h.top,h.len,λi r x h1 h2=>e _ _ (h.row i r x h1 h2)]
end in abbrev zeg(x:List Int):L3.D:=.lst (x.map L3.D.int)
theorem JW : ∀{rs:List su} {tab:List (List Int)},rs.length=tab.length->(∀(i:Nat) (r:su) (x:List Int),rs[i]? = AK r->tab[i]? = AK x->H r=AK (.lst (x.map V.int)))->Iss K H (tab.map zeg) (rs.map V.ref)
 | [],[],_,_=>by erw[aA,Iss]
 | r::rs,x::tab,hl,h=>by
  erw[am,Iss]
  refine#[_,_,rfl,?_,JW (by simpa using hl) λi r' x' h1 h2=>h (i+1) r' x' h1 h2]
  erw[zeg,Is]
  exact#[r,_,rfl,SqL.of (h 0 r x rfl rfl),Iss.ints x]
def TabAt.is(h:TabAt H t rs tab):Is K H (.lst (tab.map zeg)) (.ref t):=by
 erw[Is]
 exact#[t,_,rfl,SqL.of h.top,JW h.len h.row]
def zbE(tab:List (List Int)):vI (tab.map zeg)<=1:=Wu λd h=>by
 let#[r,_,rfl]:=AT.mp h
 erw[zeg,dpD,ql]
 lia
structure xv(l:())(tab:List (List Int)):Prop where
 lo:1<=tab.length
 hi:tab.length<=8
 wd:∀x ∈ tab,x.length=l.length
 rm:∀x ∈ tab,∀n ∈ x,0<=n/\n<(tab.length:Int)
def TabAt.get(h:TabAt H t rs tab)(h0:0<=i)(h1:i<(tab.length:Int)):∃r x,atI (rs.map V.ref) i=AK (.ref r)/\tab[i.toNat]? = AK x/\H r=AK (.lst (x.map V.int)):=by have hl:=h.len;let#[v,e1,e2]:=j2 (xs:=rs.map V.ref) h0 (by rw[aa];lia);rw[au]at e2;let#[r,hr,rfl]:=AZ.mp e2;have hx:tab[i.toNat]? = AK (tab[i.toNat]'⋯):=af ⋯;exact#[r,_,e1,hx,h.row _ _ _ hr hx]
def VN{D:su}(hg:g=yx 0)(h:TabAt H t rs tab)(hb:tab.length<=1000)(hD:H D=AL)(q:∀(rs':List su) (H':Hp),Same H H'->TabAt H' D rs' tab->(∀r ∈ D::rs',H r=AL)->D ∉ rs'->Q (.ref D) H') :
  CompL K t g y4 (tCB (WN K) (zI (zW 0) xb)) 1 [] σ H Q D:=by
 have s16:=zS;have hl:=h.len;subst hg;refine CompL.by (xs:=rs.map V.ref) (λi AR H'=>∃rs':List su,AR=rs'.map V.ref/\rs'.length=i/\Same H H'/\H' D=AK (.lst AR)/\(∀r ∈ rs',H r=AL/\r≠D)/\∀(j:Nat) (r:su) (x:List Int),rs'[j]? = AK r->tab[j]? = AK x->H' r=AK (.lst (x.map V.int))) #[[],rfl,rfl,zd hD,zb,λr h=>(nomatch h),λj r x h=>by simp at h] (λi AR H' Z h'=>by let#[_,_,_,hs,_]:=h';exact SqL.of (hs _ _ h.top)) ?_ ?_
 ·refine nm4 ?_;rintro i v AR H' hv ⟨rs',rfl,hi,hs,hH,hf,hr⟩:_;rw[au]at hv;let#[r,hr0,rfl]:=AZ.mp hv;have hil:=(AS.mp hr0).1;have hx:tab[i]? = AK (tab[i]'⋯):=af ⋯;right;generalize tab[i]'⋯=x at hx;have hrow:=hs _ _ (h.row i r x hr0 hx)
  erw[y4]
  rfl'
  erw[WN]
  rfl'
  refine#[yq,_,.inl (SqL.of hrow),λp hp=>#[zd hp _ _ hH,by rw[aa];lia,CNx.mk (by rw[aa];lia) #[rs' ++ [p],by rw[aq];rfl,by rw[ak,hi];rfl,zu (hs.trans (zd hp)) hD,zb,?_,?_]]]
  ·intro r' hr';rcases AV.mp hr' with h' | h'
   ·exact hf r' h'
   ·rw[AW.mp h'];refine#[?_,λe=>by rw[e]at hp;rw[hp]at hH;cases hH]
    cases e:H p with
    | none=>rfl
    | some o=>have:=hs _ _ e;rw[hp]at this;cases this
  ·intro j r' x' h1 h2;by_cases hj:j<i
   ·rw[bQ ⋯]at h1;have hm:=hf r' (ac h1);rw[zq hm.2];exact zd hp _ _ (hr j r' x' h1 h2)
   ·rw[bG ⋯]at h1
    have hj0:j=i:=by
     have:=(AS.mp h1).1;simp at this;lia
    subst hj0;rw[hi,ef]at h1;cases h1;rw[hx]at h2;cases h2;rw[zq (λe=>by rw[e]at hp;rw[hp]at hH;cases hH)];exact zb
 ·rintro AR H' ⟨rs',rfl,hi,hs,hH,hf,hr⟩;rw[aa]at hi
  exact q rs' H' hs #[hH,⋯,hr] (λr hr'=>by
   rcases AU.mp hr' with rfl | h'
   ·exact hD
   ·exact (hf r h').1) λh'=>(hf D h').2 rfl
def UN{D:su}(hg:g=yx 0)(h:TabAt H t rs tab)(hb:tab.length<=1000)(hD:H D=AL)(q:∀(rs':List su) (H':Hp),Same H H'->TabAt H' D rs' tab->(∀r ∈ D::rs',H r=AL)->Q (.ref D) H') :
  CompL K t g y4 (tCB (WN K) (zI (zW 0) xb)) 1 [] σ H Q D :=
 VN hg h hb hD λrs' H' s' t' f' Z=>q rs' H' s' t' f'
structure zfa(K:sr)(mg:sB->Option sv)(C:su):Prop where
 xi:XI K C
 ini:ah K (.ref C) "__init__" = AK (AK (.builtin "ValueError.__init__"))
 g:mg "NoWorld" = AK (.ref C)
 most:∃t,mg "MOST_ROOMS" = AK (.int 8 t)
def jL:Sp:=λvs H Q Z=>∃(l:()) (a:su) (rs:List su) (tab:List (List Int)),vs=[.str (tx l),.ref a]/\l.length<=6/\TabAt H a rs tab/\xv l tab/\∀(t:su) (rs':List su) (H':Hp),Same H H'->TabAt H' t rs' tab->(∀r ∈ t::rs',H r=AL)->Q (.ref t) H'
def mZ:sQz 2 ["letters","table","row","room"] vD:=by nofun
def XO(B:Bt mg)(TNw:zfa K mg CQ)(F:("table_of"^^^vD)):(1|||["letters","table"]) jL:=by
 let#[t6,g6]:=TNw.most
 exists Fun.okX F mZ,0
 ·let#[l,a,rs,tab,rfl,hl6,hT,hG,q]:=h
  refine#[_,(zh (zJ (yd (qV wF wF zf (zE B.len (pv 1)) (yJ (v:=.int 8) rfl g6 #[t6,rfl]))) (zg (yk hx rfl TNw.xi.toXC TNw.ini rfl TNw.g (za zQ ze)))
    zp) (zh (zZ PassesOwn.leaving rfl (zX (pv 1)) (zr (i:=2) mZ.nd rfl (.inl rfl)) (zG (zJ (zt qG (zE B.len (pv 2)) (zE B.len (pv 0)) (zv _)) (zg (yk hx rfl TNw.xi.toXC TNw.ini rfl TNw.g (za zQ ze)))
     zp) (zg (zZ PassesOwn.leaving rfl (zX (pv 2)) (zr (i:=3) mZ.nd rfl (.inl rfl)) (zg (zJ (yd (qV wF JU zf (pv 3) (zE B.len (pv 1)))) (zg (yk hx rfl TNw.xi.toXC TNw.ini rfl TNw.g (za zQ ze)))
      zp)))))) (zg (zl (yy (own:=["row"]) (caps:=[]) (ix:=[]) (tt:=y4) (te:=(tCB (WN K) (zI (zW 0) xb))) rfl (zH (sc:=zi vD) rfl (!0) (!0) (!0) rfl (!0) (!0) rfl) (zX (pv 1)) (λZ Z Z Z Z Z=>zr (i:=0) (show List.Nodup [_] by decide) rfl (.inl rfl)) (λZ Z Z Z Z Z=>z7) (λZ Z Z Z Z Z=>(vg xF rfl B.list PySem.Pv.boot_list (za (pv 0) ze)))))))),?_]
  have s16:=zS;have hlen:=hT.len;have hlo:=hG.lo;have hhi:=hG.hi;change H'=H/\σ=[~~~l,!!a,AL,AL]
  ·ac_rfl;exact#[_,.inl #[_,SqL.of hT.top,rfl],z8 (λZ=>z8 (λh=>w4 (by rw[aa];lia) h) λZ=>trivial) λh=>w4 (by rw[aa];lia) h]
  rintro σ H1 ⟨rfl,rfl⟩:_;right;change H'=H1/\∃v2 v3,σ=[~~~l,!!a,v2,v3]
  ·ac_rfl;refine#[#[_,SqL.of hT.top],ForL.by (xs:=rs.map V.ref) (λi σ H'=>H'=H1/\∃v2 v3,σ=[~~~l,!!a,v2,v3]) #[rfl,AL,AL,rfl] (λi σ H' Z h=>by rw[h.1];exact SqL.of hT.top) ?_ λσ H' h=>h];refine nm4 ?_;rintro i y σ H' hy ⟨rfl,v2,v3,rfl⟩:_;rw[au]at hy;let#[r,hr,rfl]:=AZ.mp hy;have hil:=(AS.mp hr).1;have hx:tab[i]? = AK (tab[i]'⋯):=af ⋯;right;generalize tab[i]'⋯=x at hx;have hrow:=hT.row i r x hr hx;have hmx:=ac hx;have hw:=hG.wd x hmx;ac_rfl;refine#[_,.inl #[_,SqL.of hrow,rfl],⋯,z8 (λh=>w4 (by rw[aa];lia) h) λZ=>#[#[_,SqL.of hrow],ForL.by (xs:=x.map V.int) (λi σ H''=>H''=H'/\∃v2 v3,σ=[~~~l,!!a,v2,v3]) #[rfl,_,_,rfl] (λi σ H'' Z h=>by rw[h.1];exact SqL.of hrow) ?_ λσ H' h=>h]];refine nm4 ?_;rintro j y σ H'' hy ⟨rfl,v2,v3,rfl⟩:_;rw[au]at hy;let#[n,hn,rfl]:=AZ.mp hy;let#[n1,n2]:=hG.rm x hmx n (ac hn);right;ac_rfl;exact z8 (λZ=>#[_,.inl #[_,SqL.of hT.top,rfl],z8 (λh=>w4 (by rw[aa];lia) h) λZ=>trivial]) λh=>w4 n1 h
  rintro σ H2 ⟨rfl,v2,v3,rfl⟩:_;right;ac_rfl;exact#[#[_,SqL.of hT.top],λD hD=>UN rfl hT ⋯ hD λrs' H' s' t' f'=>q D rs' H' s' t' f']
structure zaG(K:sr)(mg:sB->Option sv)(CV:su):Prop where
 cl:Cls K CV
 g:mg "World" = AK (.ref CV)
 nl:NoAttr K CV "letters"
 nt:NoAttr K CV "table"
def WorAt(CV:su)(H:Hp)(o:su)(l:())(t:su)(rs:List su)(tab:List (List Int)):Prop:=∃dx,H o=AK (.ins CV dx [("letters",.str (tx l)),("table",.ref t)])/\TabAt H t rs tab
def WorAt.same{CV:su}{H H':Hp}{o t:su}{l:()}{rs:List su}{tab:List (List Int)}(h:WorAt CV H o l t rs tab)(e:Same H H'):WorAt CV H' o l t rs tab:=by let#[dx,h1,h2]:=h;exact#[dx,e _ _ h1,h2.same e]
def TabAt.updI(hp:H p=AK (.ins C dx fs))(h:TabAt H t rs tab):TabAt (upd H p (.ins C dx gs)) t rs tab:=by
 refine#[?_,h.len,λi r x h1 h2=>?_]
 ·rw[zq (λe=>by have:=h.top;rw[e,hp]at this;cases this)];exact h.top
 ·have h3:=h.row i r x h1 h2;rw[zq (λe=>by rw[e,hp]at h3;cases h3)];exact h3
def uh(CV:su):Sp:=λvs H Q Z=>∃(x dx a:su) (l:()) (rs:List su) (tab:List (List Int)),vs=[.ref x,.str (tx l),.ref a]/\jJ l=AM/\TabAt H a rs tab/\xv l tab/\H x=AK (.ins CV dx []) /\
 ∀(t:su) (rs':List su) (H':Hp),(∀b o,b≠x->H b=AK o->H' b=AK o)->(∀r ∈ t::rs',H r=AL)->WorAt CV H' x l t rs' tab->Q .non H'
def Zl:sQz 3 ["self","letters","table"] vo:=by nofun
def ZR(B:Bt mg)(CLw:zaG K mg CV)(F:Fun K "__init__" "World.__init__" vo f fd)(my:(2>>>"letters_of") ["text"] [] (wn C))(rB:(1>>>"table_of") ["letters","table"] [] jL):(4|||["self","letters","table"]) (uh CV):=by
 exists Fun.okX F Zl,0
 ·let#[x,dx,a,l,rs,tab,rfl,hg,hT,hG,hX,q]:=h
  refine#[_,(zh (Yl (pv 0) (clP hx my hr .nil rfl (za (pv 1) ze)) rfl) (zg (Yl (pv 0) (clP hx rB hr .nil rfl (za (pv 1) (za (pv 2) ze))) rfl))),?_]
  have s16:=zS;have hg':=u6 hg;change H'=upd H x (.ins CV dx [("letters",.str (tx l))])/\σ=[!!x,~~~l,!!a]
  ·ac_rfl;exact#[l,rfl,⋯,λZ=>#[_,_,_,hX,CLw.cl,CLw.nl,∅,rfl],λe=>by rw[hg]at e;cases e]
  rintro σ H1 ⟨rfl,rfl⟩:_;right;ac_rfl;refine#[l,a,rs,tab,rfl,⋯,hT.updI hX,hG,λt rs' H' s' t' f'=>?_];have hX2:=s' _ _ (zb (H:=H) (a:=x) (o:=.ins CV dx [("letters",.str (tx l))]))
  have fr:∀r ∈ t::rs',H r=AL/\r≠x:=λr hr'=>by
   have h1:=f' r hr';have h2:r≠x:=λe=>by rw[e,zb]at h1;cases h1
   rw[zq h2]at h1;exact#[h1,h2]
  exact#[_,_,_,hX2,CLw.cl,CLw.nt,by show 1<1000;decide,q t rs' _ (λb o hb e=>by rw[zq hb];exact s' _ _ (by rw[zq hb];exact e)) (λr hr'=>(fr r hr').1) #[dx,zb,t'.updI hX2]]
theorem QB{R:su->Hp->Prop}(hg:jJ l=AM)(hT:TabAt H a rs tab)(hG:xv l tab)(q:∀(x t:su) (rs':List su) (H':Hp),Same H H'->H x=AL->(∀r ∈ t::rs',H r=AL)->WorAt CV H' x l t rs' tab->R x H') :
  ∀x dx,H x=AL->H dx=AL->dx≠x->uh CV [.ref x,.str (tx l),.ref a] (upd (upd H dx (.own x)) x (.ins CV dx [])) (λv H2=>v=.non/\R x H2) E:=by
 intro x dx hx hdx hne;have sd:=zd (o:=.own x) hdx;have hx1:(upd H dx (.own x)) x=AL:=by rw[zq hne.symm];exact hx
 have sx:=sd.trans (zd (o:=.ins CV dx []) hx1);refine#[x,dx,a,l,rs,tab,rfl,hg,hT.same sx,hG,zb,λt rs' H' k f hc=>#[rfl,q x t rs' H' (λb o e=>k b o (zM e hx) (sx b o e)) hx (λr hr=>?_) hc]]
 cases e:H r with
 | none=>rfl
 | some o=>have:=sx _ _ e;rw[f r hr]at this;cases this
def qY(CV:su):Sp:=λvs H Q Z=>∃(o t:su) (l:()) (rs:List su) (tab:List (List Int)),vs=[.ref o]/\WorAt CV H o l t rs tab/\Q (.int (tab.length:Nat)) H
def ky:sQz 1 ["self"] wC:=by nofun
def kB(B:Bt mg)(CLw:zaG K mg CV)(F:Fun K "rooms" "World.rooms" wC f fd):(1&&&["self"]) (qY CV):=by
 exists F.ok ky
 ·let#[o,t,l,rs,tab,rfl,hW,q]:=h;refine#[_,(zg (zl (zE B.len (j3 (pv 0) rfl)))),?_];have s16:=zS
  rfl'
  let#[dx,ho,hT]:=hW;exact#[_,_,_,ho,CLw.cl,CLw.nt,_,rfl,_,.inl #[_,SqL.of hT.top,rfl],by rw[aa,hT.len];exact q]
def Qw(h:WorAt CV H o l t rs tab)(q:Q (.int (tab.length:Nat)) H):qY CV [.ref o] H Q E:=#[o,t,l,rs,tab,rfl,h,q]
end in def Wb(l:())(tab:List (List Int))(r:Int)(c:Nat):Int:=(tab.getD r.toNat []).getD (l.idxOf c) 0
end in def ue(l:())(tab:List (List Int))(r:Int)(w:()):Int:=w.foldl (Wb l tab) r
def zap(hG:xv l tab)(h0:0<=r)(h1:r<(tab.length:Int))(hc:c ∈ l):0<=Wb l tab r c/\Wb l tab r c<(tab.length:Int):=by have hx:tab[r.toNat]? = AK (tab[r.toNat]'⋯):=af ⋯;generalize tab[r.toNat]'⋯=x at hx;have hm:=ac hx;have hi:=bL hc;rw[<- hG.wd x hm]at hi;have hn:x[l.idxOf c]? = AK x[l.idxOf c]:=af hi;unfold Wb;rw[ae (l:=tab),hx,fq,ae,hn,fq];exact hG.rm x hm _ (ac hn)
theorem ZL(hG:xv l tab):∀{w:()} {r:Int},0<=r->r<(tab.length:Int)->(∀c ∈ w,c ∈ l)->0<=ue l tab r w/\ue l tab r w<(tab.length:Int)
 | [],r,h0,h1,_=>#[h0,h1]
 | c::w,r,h0,h1,hw=>by
  let#[a,b]:=zap hG h0 h1 (hw c (by simp));exact ZL hG (w:=w) a b λx hx=>hw x (by simp [hx])
def Yn{w:()}(h:w[i]? = AK c):ue l tab r (w.take (i+1))=Wb l tab (ue l tab r (w.take i)) c:=by unfold ue;rw[zO h,List.foldl_append];rfl
def zaV(hG:xv l tab){x:List Int}(hx:tab[r.toNat]? = AK x){c:Nat}(hc:c ∈ l):atI (x.map V.int) ((l.idxOf c:Nat):Int)=AK (.int (Wb l tab r c)):=by have hm:=ac hx;have hi:=bL hc;rw[<- hG.wd x hm]at hi;have hn:x[l.idxOf c]? = AK x[l.idxOf c]:=af hi;refine wz ?_;unfold Wb;rw[au,hn,ae (l:=tab),hx,fq,ae,hn];rfl
def jj(CV:su):Sp:=λvs H Q Z=>∃(o t:su) (l:()) (rs:List su) (tab:List (List Int)) (r:Int) (w:()),vs=[.ref o,.int r,.str (tx w)]/\WorAt CV H o l t rs tab/\xv l tab/\0<=r/\r<(tab.length:Int)/\(∀c ∈ w,c ∈ l)/\Q (.int (ue l tab r w)) H
def mB:sQz 3 ["self","room","word","letter"] vW:=by nofun
def YV(B:Bt mg)(CLw:zaG K mg CV)(F:Fun K "led" "World.led" vW f fd):(1&&&["self","room","word"]) (jj CV):=by
 exists F.ok mB
 ·let#[o,t,l,rs,tab,r,w,rfl,hW,hG,h0,h1,hw,q]:=h
  refine#[_,(zG (zZ p9 rfl (YC (pv 2)) (zr (i:=3) mB.nd rfl (.inl rfl)) (zg (zB 1 mB.nd (zk ix_list (zk ix_list (j3 (pv 0) rfl) (pv 1)) (wL bz fL fM JV (j3 (pv 0) rfl) (za (pv 3) ze)))))) (zg (zl (pv 1)))),?_]
  have s16:=zS
  rfl'
  let#[dx,ho,hT]:=hW;refine ForS.by (λi σ H'=>H'=H/\∃v3,σ=[!!o,AK (.int (ue l tab r (w.take i))),~~~w,v3]) #[rfl,AL,rfl] ?_ ?_
  ·refine nm4 ?_;rintro i c σ H' hc ⟨rfl,v3,rfl⟩:_;have hcl:=hw c (ac hc);let#[a,b]:=ZL hG (w:=w.take i) h0 h1 λx hx=>hw x (bJ hx);let#[r',x,e1,e2,e3]:=hT.get a b;right;ac_rfl;exact#[_,_,_,ho,CLw.cl,CLw.nt,_,rfl,_,rfl,_,SqL.of hT.top,_,e1,_,_,_,ho,CLw.cl,CLw.nl,_,rfl,trivial,_,rfl,_,Vp hcl,_,rfl,_,SqL.of e3,by rw[Yn hc];exact zaV hG e2 hcl]
  ·rintro σ H' ⟨rfl,v3,rfl⟩
   rfl'
   rw[aK];exact q
def qQ{w:()}(h:WorAt CV H o l t rs tab)(hG:xv l tab)(h0:0<=r)(h1:r<(tab.length:Int))(hw:∀c ∈ w,c ∈ l)(q:Q (.int (ue l tab r w)) H):jj CV [.ref o,.int r,.str (tx w)] H Q E:=#[o,t,l,rs,tab,r,w,rfl,h,hG,h0,h1,hw,q]
end in def vc(l:())(tab:List (List Int))(u v:()):Option Nat:=(aJ tab.length).find? λr=>decide (ue l tab (r:Int) u≠ue l tab (r:Int) v)
end in def vO:Option Nat->V
 | none=>.non
 | some r=>.int (r:Nat)
def Y4{r:Nat}(h1:r<tab.length)(h2:ue l tab (r:Int) u≠ue l tab (r:Int) v)(h3:∀j:Nat,j<r->ue l tab (j:Int) u=ue l tab (j:Int) v):vc l tab u v=AK r:=by unfold vc;rw[List.find?_eq_some_iff_getElem];refine#[by simpa using h2,r,by simpa using h1,by simp,λj hj=>?_];simpa using h3 j hj
def YZ(h:∀j:Nat,j<tab.length->ue l tab (j:Int) u=ue l tab (j:Int) v):vc l tab u v=AL:=by unfold vc;rw[gu];intro j hj;simpa using h j (by simpa using hj)
def vB(CV:su):Sp:=λvs H Q Z=>∃(o t:su) (l:()) (rs:List su) (tab:List (List Int)) (u v:()),vs=[.ref o,.str (tx u),.str (tx v)]/\WorAt CV H o l t rs tab/\xv l tab/\(∀c ∈ u,c ∈ l)/\(∀c ∈ v,c ∈ l)/\Q (vO (vc l tab u v)) H
def Xr(h:WorAt CV H o l t rs tab)(hG:xv l tab)(hu:∀c ∈ u,c ∈ l)(hv:∀c ∈ v,c ∈ l)(q:Q (vO (vc l tab u v)) H):vB CV [.ref o,.str (tx u),.str (tx v)] H Q E:=#[o,t,l,rs,tab,u,v,rfl,h,hG,hu,hv,q]
def mS:sQz 3 ["self","one","other","room"] xV:=by nofun
def jI(B:Bt mg)(CL:zaG K mg CV)(F:Fun K "parted" "World.parted" xV f fd)(M_world_rooms:DM P w K mg base CX0 1 CV "rooms" ["self"] (qY CV))(M_world_led:DM P w K mg base CX0 1 CV "led" ["self","room","word"] (jj CV)):(2&&&["self","one","other"]) (vB CV):=by
 exists F.ok mS
 ·let#[o,t,l,rs,tab,u,v,rfl,hW,hG,hu,hv,q]:=h
  refine#[_,(zG (zZ p9 rfl (zV rfl B.range (za (me0 M_world_rooms CL.cl hr (pv 0)) ze)) (zr (i:=3) mS.nd rfl (.inl rfl)) (zg (zJ (zt qG (me1 M_world_led CL.cl hr (pv 0) (za (pv 3) (za (pv 1) ze))) (me1 M_world_led CL.cl hr (pv 0) (za (pv 3) (za (pv 2) ze))) (zv _)) (zg (zl (pv 3)))
     zp))) (zg (zl yb))),?_]
  have s16:=zS
  rfl'
  let#[dx,ho,hT]:=id hW;have hhi:=hG.hi;refine#[_,_,ho,rfl,Qw hW ?_];refine#[_,rfl,⋯,⋯,ForR.by (λi σ H'=>H'=H/\(∀j:Nat,j<i->ue l tab (j:Int) u=ue l tab (j:Int) v)/\∃v3,σ=[!!o,~~~u,~~~v,v3]) #[rfl,λj h=>w4 h (bI j),AL,rfl] ?_ ?_]
  ·refine nm3 ?_;rintro i σ H' hi ⟨rfl,hb,v3,rfl⟩:_;have hi':i<tab.length:=⋯;have e0:(0:Int)+(i:Int)=(i:Int):=⋯;right;ac_rfl;refine#[_,_,ho,rfl,qQ hW hG ⋯ ⋯ hu #[_,_,ho,rfl,qQ hW hG ⋯ ⋯ hv ?_]];rw[e0];ac_rfl;refine z8 (λh=>?_) λh j hj=>?_
   ·rw[Y4 hi' h hb]at q;exact q
   ·by_cases hj':j<i
    ·exact hb j hj'
    ·have:j=i:=⋯;rw[this];exact Decidable.not_not.mp h
  ·rintro σ H' ⟨rfl,hb,v3,rfl⟩;ac_rfl;rw[YZ λj hj=>hb j ⋯]at q;exact q
end in def wG(l:())(tab:List (List Int)):List zC->Nat->Option (Nat × Nat)
 | [],_=>AL
 | p::ps,i=>match vc l tab p.1 p.2 with
  | some r=>AK (i,r)
  | none=>wG l tab ps (i+1)
theorem k7 : ∀{ps:List zC} {i k:Nat} {p:zC},ps[i]? = AK p->(∀(j:Nat) (q:zC),j<i->ps[j]? = AK q->vc l tab q.1 q.2=AL)->∀r,vc l tab p.1 p.2=AK r->wG l tab ps k=AK (k+i,r)
 | q::ps,0,k,p,h,_,r,hr=>by
  cases h
  erw[wG,hr,ft]
 | q::ps,i+1,k,p,h,hb,r,hr=>by
  have h0:=hb 0 q ⋯ rfl
  erw[wG,h0]
  rw[k7 (ps:=ps) (i:=i) (k:=k+1) h (λj q' hj e=>hb (j+1) q' ⋯ e) r hr];congr 2;lia
theorem Zb : ∀{ps:List zC} {k:Nat},(∀(j:Nat) (q:zC),ps[j]? = AK q->vc l tab q.1 q.2=AL)->wG l tab ps k=AL
 | [],_,_=>rfl
 | q::ps,k,hb=>by
  erw[wG,hb 0 q rfl]
  exact Zb λj q' e=>hb (j+1) q' e
def uX(K:sr)(CV:su):Sp:=λvs H Q Z=>∃(o t a:su) (l:()) (rs:List su) (tab:List (List Int)) (ps:List zC),vs=[.ref o,.ref a]/\LsA K H a (ps.map dR)/\WorAt CV H o l t rs tab/\xv l tab/\(∀p ∈ ps,(∀c ∈ p.1,c ∈ l)/\∀c ∈ p.2,c ∈ l) /\
 (wG l tab ps 0=AL->∀H',Same H H'->Q .non H')/\∀i r,wG l tab ps 0=AK (i,r)->∀p H',Same H H'->H' p=AK (.tup [.int (i:Nat),.int (r:Nat)])->Q (.ref p) H'
def iA:sQz 2 ["self","pacts","number","pact","room"] xQ:=by nofun
def jT(B:Bt mg)(CL:zaG K mg CV)(F:Fun K "broken" "World.broken" xQ f fd)(M_world_parted:DM P w K mg base CX0 2 CV "parted" ["self","one","other"] (vB CV)):(3&&&["self","pacts"]) (uX K CV):=by
 exists F.ok iA
 ·let#[o,t,a,l,rs,tab,ps,rfl,hA,hW,hG,hp,q1,q2]:=h
  refine#[_,(zG (zZ p9 rfl (xH rfl B.enum (za (pv 1) ze)) (qr (n:=2) rfl (ye (zr (i:=2) iA.nd rfl (.inl rfl)) (ye (zr (i:=3) iA.nd rfl (.inl rfl)) vb))) (zG (zB 4 iA.nd (me1 M_world_parted CL.cl hr (pv 0) (za (!-3) (za (!-3) ze)))) (zg (zJ (zt op_notN' (pv 4) yb (zv _)) (zg (zl (zN (za (pv 2) (za (pv 4) ze)))))
     zp)))) (zg (zl yb))),?_]
  have s16:=zS
  rfl'
  let#[xs,hX,hI]:=id hA;have hXL:=hI.len;rw[aa]at hXL;refine#[#[_,SqL.of hX],ForEL.by (xs:=xs) (λi σ H'=>Same H H'/\(∀(j:Nat) (p:zC),j<i->ps[j]? = AK p->vc l tab p.1 p.2=AL)/\∃v2 v3 v4,σ=[!!o,!!a,v2,v3,v4]) #[Same.refl _,λj p h=>w4 h (bI j),_,_,_,rfl] ?_ ?_ ?_]
  ·rintro i σ H' _ ⟨hs,_⟩;exact SqL.of (hs _ _ hX)
  ·rintro i x σ H' p hx ⟨hs,hb,v2,v3,v4,rfl⟩ hpn;let#[r,pr,hri,rfl,hqr]:=hI.getR hx;have hm:=hp r (ac hri);have s2:=hs.trans (zd (o:=.tup [.int (i:Nat),.ref pr]) hpn);have hW2:=hW.same s2;let#[dx,ho,_]:=id hW2;have hq2:=zo s2 hqr;ac_rfl;refine#[_,SqT.of zb,rfl,_,_,rfl,_,_,rfl,rfl,_,_,ho,rfl,_,rfl,_,hq2,_,rfl,_,rfl,_,hq2,_,rfl,Xr hW2 hG hm.1 hm.2 ?_]
   cases e:vc l tab r.1 r.2 with
   | none =>
    erw[vO]
    ac_rfl;refine#[s2,λj p' hj hp'=>?_];by_cases hj':j<i
    ·exact hb j p' hj' hp'
    ·have:j=i:=⋯;rw[this,hri]at hp';cases hp';exact e
   | some z =>
    erw[vO]
    ac_rfl;have hbr:=k7 (k:=0) hri hb z e;rw[d9]at hbr;exact#[⋯,λp3 hp3=>q2 i z hbr p3 _ (s2.trans (zd hp3)) zb]
  ·rintro σ H' ⟨hs,hb,v2,v3,v4,rfl⟩;ac_rfl;exact q1 (Zb λj p' e=>hb j p' (by have:=(AS.mp e).1;lia) e) H' hs
structure K3(K:sr)(mg:sB->Option sv)(CM:su):Prop where
 xi:XI K CM
 ini:ah K (.ref CM) "__init__" = AK (AK (.builtin "ValueError.__init__"))
 g:mg "TooMany" = AK (.ref CM)
 most:∃t,mg "MOST_TABLES" = AK (.int 1000 t)
def zfY(h1:n<=8)(h2:k<=6):n * k<=48:=fP h1 h2
def qW:Sp:=λvs H Q Z=>∃(l:()) (n:Nat),vs=[.str (tx l),.int (n:Nat)]/\l.length<=6/\n<=8/\Q (.int ((n ^ (n * l.length):Nat):Int)) H
def YW(h1:l.length<=6)(h2:n<=8)(q:Q (.int ((n ^ (n * l.length):Nat):Int)) H):qW [.str (tx l),.int (n:Nat)] H Q E:=#[l,n,rfl,h1,h2,q]
def zab(n i:Nat):((n ^ i:Nat):Int) * (n:Int)=((n ^ (i+1):Nat):Int):=by rw[Nat.pow_succ,eg]
def iI:sQz 2 ["letters","rooms","count","cell"] wv:=by nofun
def kD(B:Bt mg)(F:("table_count"^^^wv)):(1&&&["letters","rooms"]) qW:=by
 exists F.ok iI
 ·let#[l,n,rfl,h1,h2,q]:=h
  refine#[_,(zG (zB 2 iI.nd zf) (zG (zZ p9 rfl (zV rfl B.range (za (zD X6 (pv 1) (zE B.len (pv 0))) ze)) (zr (i:=3) iI.nd rfl (.inl rfl)) (zg (zB 2 iI.nd (zD X6 (pv 2) (pv 1))))) (zg (zl (pv 2))))),?_]
  have s16:=zS
  rfl'
  have hm:=zfY h2 h1;have em:((n:Int) * (l.length:Int))=((n * l.length:Nat):Int):=by rw[eg]
  refine#[⋯,.inl #[⋯,⋯],?_];rw[em];refine#[⋯,⋯,ForR.by (λi σ H'=>H'=H/\∃v3,σ=[~~~l,-~~~n,AK (.int ((n ^ i:Nat):Int)),v3]) #[rfl,_,rfl] ?_ ?_]
  ·refine nm3 ?_;rintro i σ H' hi ⟨rfl,v3,rfl⟩:_;right
   rfl'
   exact#[.inr #[⋯,⋯],zab n i]
  ·rintro σ H' ⟨rfl,v3,rfl⟩
   rfl'
   rw[aE];exact q
def ux:Sp:=λvs H Q Z=>∃(l:()) (n:Nat),vs=[.str (tx l),.int (n:Nat)]/\l.length<=6/\n<=8/\Q (.bl (decide (n ^ (n * l.length)<=1000))) H
def Zc(h1:l.length<=6)(h2:n<=8)(q:Q (.bl (decide (n ^ (n * l.length)<=1000))) H):ux [.str (tx l),.int (n:Nat)] H Q E:=#[l,n,rfl,h1,h2,q]
def KZ(a:Nat):decide ((a:Int)<=1000)=decide (a<=1000):=by
 by_cases h:a<=1000
 ·rw[u9 h,u9 ⋯]
 ·rw[v9 h,v9 ⋯]
def qE:sQz 2 ["letters","rooms"] xm:=by nofun
def qJ(B:Bt mg)(TM:K3 K mg CM)(F:("tables_within"^^^xm))(lV:(1<<<"table_count") ["letters","rooms"] [] qW):(2&&&["letters","rooms"]) ux:=by
 let#[t9,g9]:=TM.most
 exists F.ok qE
 ·let#[l,n,rfl,h1,h2,q]:=h;refine#[_,(zg (zl (yf wF (cl0 lV hr .nil rfl (za (pv 0) (za (pv 1) ze))) (yJ (v:=.int 1000) rfl g9 #[t9,rfl]) (zv _)))),?_];have s16:=zS
  rfl'
  refine YW h1 h2 ?_
  rfl'
  rw[KZ];exact q
end in def jX(n N i:Nat):Int:=((N / n ^ i % n:Nat):Int)
end in def J3(n k N r:Nat):List Int:=(aJ k).map λj=>jX n N (n * k - 1 - (r * k+j))
end in def xW(n k N:Nat):List (List Int):=(aJ n).map λr=>J3 n k N r
def zcH(h:1<=n):0<=jX n N i/\jX n N i<(n:Int):=by have:=Nat.mod_lt (N / n ^ i) (show 0<n by lia);unfold jX;lia
def uT(n k N:Nat):(xW n k N).length=n:=by simp [xW]
def qU(N:Nat)(h1:1<=n)(h8:n<=8):xv l (xW n l.length N):=by
 refine#[by rw[uT];exact h1,by rw[uT];exact h8,λx hx=>?_,λx hx z hz=>?_]
 ·let#[r,_,rfl]:=AT.mp hx;simp [J3]
 ·let#[r,_,rfl]:=AT.mp hx;let#[j,_,rfl]:=AT.mp hz;rw[uT];exact zcH h1
def Xu(hr:r<n):((((aJ (n * k)).map (jX n N)).reverse).drop (r * k)).take k=J3 n k N r:=by
 have hb:r * k+k<=n * k:=by
  have:=cI k (show r+1<=n by lia);rw[fN,eJ]at this;exact this
 apply List.ext_getElem?;intro j;by_cases hj:j<k
 ·rw[cK hj,List.getElem?_drop,bq (by simp;lia),au,eF (by simp;lia),J3,au,eF hj];simp
 ·rw[ci (by simp [aH];lia),ci (by simp [J3];lia)]
def JQ(n N i:Nat):N / n ^ i / n=N / n ^ (i+1):=by rw[Nat.div_div_eq_div_mul,Nat.pow_succ]
def vT:Sp:=λvs H Q Z=>∃(l:()) (n N:Nat),vs=[.str (tx l),.int (n:Nat),.int (N:Nat)]/\1<=l.length/\l.length<=6/\1<=n/\n<=8/\∀(t:su) (rs:List su) (H':Hp),Same H H'->TabAt H' t rs (xW n l.length N)->(∀r ∈ t::rs,H r=AL)->Q (.ref t) H'
def YK(h1:1<=l.length)(h2:l.length<=6)(h3:1<=n)(h4:n<=8)(q:∀(t:su) (rs:List su) (H':Hp),Same H H'->TabAt H' t rs (xW n l.length N)->(∀r ∈ t::rs,H r=AL)->Q (.ref t) H'):vT [.str (tx l),.int (n:Nat),.int (N:Nat)] H Q E:=#[l,n,N,rfl,h1,h2,h3,h4,q]
def zdd(h1:1<=n)(h2:1<=k):(p7 0 ((n * k:Nat):Int) (k:Int)).toNat=n:=by
 have hp:0<n * k:=Nat.mul_pos h1 h2;unfold p7;rw[w6 ⋯,w6 ⋯];have e:(((n * k:Nat):Int) - 0 - 1)=((n * k - 1:Nat):Int):=⋯
 have e2:(n * k - 1) / k=n - 1:=by
  obtain⟨m,rfl⟩:∃m,n=m+1:=#[n - 1,⋯];rw[fN,eJ,show m * k+k - 1=(k - 1)+m * k by lia,Nat.add_mul_div_right _ _ ⋯,Nat.div_eq_of_lt ⋯];lia
 rw[e,<- Int.natCast_ediv,e2];lia
def UQ{D:su}(hg:g=yx 0)(hte:te=tSl (zez K) (zW 1) (Yw (zW 0)) (Yw (tOp ZI (zW 0) (tCB (Xt K) (zI (zW 2) xb)))))(hi:uf σ 1 ix=[AL,!!c,~~~l])(hc:H c=AK (.lst ((((aJ (n * l.length)).map (jX n N)).reverse).map V.int)))(h1:1<=l.length)(h2:l.length<=6)(h3:1<=n)(h4:n<=8)(hD:H D=AL)(q:∀(rs:List su) (H':Hp),Same H H'->TabAt H' D rs (xW n l.length N)->(∀r ∈ D::rs,H r=AL)->Q (.ref D) H'):CompK 0 (l.length:Nat) n g y4 te 1 ix σ H Q D:=by
 have s16:=zS;have hmm:=zfY h4 h2;subst hg hte;refine CompK.by (λi AR H'=>∃rs:List su,AR=rs.map V.ref/\rs.length=i/\Same H H'/\H' D=AK (.lst AR)/\(∀r ∈ rs,H r=AL/\r≠D)/\∀(j:Nat) (r:su),rs[j]? = AK r->H' r=AK (.lst ((J3 n l.length N j).map V.int))) #[[],rfl,rfl,zd hD,zb,λr h=>(nomatch h),λj r h=>by simp at h] ?_ ?_
 ·refine nm3 ?_;rintro i AR H' hin ⟨rs,rfl,hrl,hs,hH,hf,hr⟩:_;have hc':=hs _ _ hc;have ei:(0:Int)+(i:Int) * (l.length:Int)=((i * l.length:Nat):Int):=by rw[Int.zero_add,eg]
  right;dsimp only;rw[ei];have hil:i * l.length<=48:=aL (cI _ (by lia:i<=n)) hmm
  erw[y4,yx,hi]
  rfl'
  refine#[yq,⋯,_,SqL.of hc',λp hp=>?_];rw[UR _ ⋯ ⋯];have e1:(((i * l.length:Nat):Int)).toNat=i * l.length:=aE _;have e2:(((i * l.length:Nat):Int)+(l.length:Int) - ((i * l.length:Nat):Int)).toNat=l.length:=⋯;rw[e1,e2,Xu hin];have hpD:p≠D:=λe=>by rw[e]at hp;rw[hp]at hH;cases hH
  refine#[zd hp _ _ hH,by rw[aa];lia,CNx.mk hin #[rs ++ [p],by rw[aq];rfl,by rw[ak,hrl];rfl,zu (hs.trans (zd hp)) hD,zb,λr' hr'=>?_,λj r' h1=>?_]]
  ·rcases AV.mp hr' with h' | h'
   ·exact hf r' h'
   ·rw[AW.mp h'];refine#[?_,hpD]
    cases e:H p with
    | none=>rfl
    | some o=>have:=hs _ _ e;rw[hp]at this;cases this
  ·by_cases hj:j<i
   ·rw[bQ ⋯]at h1;rw[zq (hf r' (ac h1)).2];exact zd hp _ _ (hr j r' h1)
   ·rw[bG ⋯]at h1
    have hj0:j=i:=by
     have:=(AS.mp h1).1;simp at this;lia
    subst hj0;rw[hrl,ef]at h1;cases h1;rw[zq hpD];exact zb
 ·rintro AR H' ⟨rs,rfl,hrl,hs,hH,hf,hr⟩
  refine q rs H' hs #[hH,by rw[uT,hrl],λi r x h1 h2=>?_] λr hr'=>by
   rcases AU.mp hr' with rfl | h'
   ·exact hD
   ·exact (hf r h').1
  rw[hr i r h1];unfold xW at h2;rw[au]at h2;let#[z,hz,rfl]:=AZ.mp h2;have:=(AS.mp hz).2;simp at this;rw[this]
def lS:sQz 3 ["letters","rooms","number","cells","cell"] vv:=by nofun
def X1(B:Bt mg)(F:("table_at"^^^vv)):(1&&&["letters","rooms","number"]) vT:=by
 exists F.ok lS
 ·let#[l,n,N,rfl,h1,h2,h3,h4,q]:=h
  refine#[_,(zh (yT (i:=3) lS.nd rfl (Or.inr rfl) (y6 ze)) (zh (zZ p9 rfl (zV rfl B.range (za (zD X6 (pv 1) (zE B.len (pv 0))) ze)) (zr (i:=4) lS.nd rfl (.inl rfl)) (zG (xt (wL bh bC bD yP (pv 3) (za (zD xp (pv 2) (pv 1)) ze))) (zg (zB 2 lS.nd (zD vm (pv 2) (pv 1)))))) (zh (xt (zex bh PySem.F.slot_list_reverse PySem.F.type_list_reverse VV (pv 3))) (zg (zl (yy (own:=["start"]) (caps:=["cells","letters"]) (ix:=[3,0]) (tt:=y4) (te:=(tSl (zez K) (zW 1) (Yw (zW 0)) (Yw (tOp ZI (zW 0) (tCB (Xt K) (zI (zW 2) xb)))))) rfl (zH (sc:=zi vv) rfl (!0) (!0) (!0) rfl (!0) (!0) rfl) (QR rfl B.range (za zf (za (zE B.len (pv 3)) (za (zE B.len (pv 0)) ze)))) (λZ Z Z Z Z Z=>zr (i:=0) (show List.Nodup [_,_,_] by decide) rfl (.inl rfl)) (λZ Z Z Z Z Z=>z7) (λZ Z Z Z Z Z=>(zY zaF (pv 1) (z6 (pv 0)) (z6 (zD qb (pv 0) (zE B.len (pv 2)))))))))))),?_]
  have s16:=zS;have hm:=zfY h4 h2;have em:((n:Int) * (l.length:Int))=((n * l.length:Nat):Int):=by rw[eg]
  change ∃c,H c=AL/\Same H H'/\H' c=AK (.lst [])/\σ=[~~~l,-~~~n,-~~~N,!!c,AL]
  ·rfl'
   exact#[⋯,λc hc=>#[c,hc,zd hc,zb,rfl]]
  rintro σ H1 ⟨c,hcn,s1,hc,rfl⟩:_;right;change ∃v2 v4,Same H H'/\H' c=AK (.lst (((aJ (n * l.length)).map (jX n N)).map V.int))/\σ=[~~~l,-~~~n,v2,!!c,v4]
  ·rfl'
   refine#[⋯,.inl #[⋯,⋯],?_];rw[em];refine#[⋯,⋯,ForR.by (λi σ H'=>∃v4,Same H H'/\H' c=AK (.lst (((aJ i).map (jX n N)).map V.int))/\σ=[~~~l,-~~~n,AK (.int ((N / n ^ i:Nat):Int)),!!c,v4]) #[_,s1,hc,by rw[Nat.pow_zero,Nat.div_one]] ?_ ?_]
   ·refine nm3 ?_;rintro i σ H' hi ⟨v4,hs,hc',rfl⟩:_;rw[aE]at hi;right
    rfl'
    refine#[.inl #[_,SqL.of hc'],⋯,_,hc',by erw[aa,bF];lia,#[⋯,⋯],?_];refine#[zu hs hcn,?_,?_]
    ·rw[zb,cy,aq,aq,<- Int.natCast_emod];rfl
    ·rw[<- Int.natCast_ediv,JQ]
   ·rintro σ H' ⟨v4,hs,hc',rfl⟩;rw[aE]at hc';exact#[hs,hc',_,_,rfl]
  rintro σ H2 ⟨v2,v4,s2,hc2,rfl⟩:_;right;change Same H H'/\H' c=AK (.lst ((((aJ (n * l.length)).map (jX n N)).reverse).map V.int))/\σ=[~~~l,-~~~n,v2,!!c,v4]
  ·rfl'
   erw[WG]
   rfl'
   refine#[.inl #[_,SqL.of hc2],_,hc2,zu s2 hcn,?_];rw[zb,dh]
  rintro σ H3 ⟨s3,hc3,rfl⟩:_;right
  erw[zbA,zdH]
  rfl'
  refine#[_,.inl #[_,SqL.of hc3,rfl],⋯,∅,∅,⋯,by erw[aa,br,bF];lia,⋯,⋯,λD hD=>?_]
  have en:(p7 0 (((gA V.int ((gA (jX n N) (aJ (n * l.length))).reverse)).length:Nat):Int) (l.length:Nat)).toNat=n:=by
   rw[aa,br,aa,bF];exact zdd h3 h1
  rw[en]
  exact UQ rfl rfl rfl hc3 h1 h2 h3 h4 hD λrs H' s' hT hf=>q D rs H' (s3.trans s') hT λr hr'=>by
   cases e:H r with
   | none=>rfl
   | some o=>have:=s3 _ _ e;rw[hf r hr']at this;cases this
end in def yX(l:())(tab:List (List Int))(ps:List zC)(u v:()):Bool:=decide (ue l tab 0 u≠ue l tab 0 v) && (wG l tab ps 0).isNone
abbrev zdl(l:())(u:()):Prop:=∀c ∈ u,c ∈ l
abbrev InP(l:())(ps:List zC):Prop:=∀p ∈ ps,(∀c ∈ p.1,c ∈ l)/\∀c ∈ p.2,c ∈ l
def ZY(K:sr)(CV:su):Sp:=λvs H Q Z=>∃(o t a:su) (l:()) (rs:List su) (tab:List (List Int)) (ps:List zC) (u v:()),vs=[.ref o,.ref a,.str (tx u),.str (tx v)]/\LsA K H a (ps.map dR)/\WorAt CV H o l t rs tab/\xv l tab/\InP l ps/\zdl l u/\zdl l v/\∀H',Same H H'->Q (.bl (yX l tab ps u v)) H'
def JZ(h1:LsA K H a (ps.map dR))(h2:WorAt CV H o l t rs tab)(h3:xv l tab)(h4:InP l ps)(h5:zdl l u)(h6:zdl l v)(q:∀H',Same H H'->Q (.bl (yX l tab ps u v)) H'):ZY K CV [.ref o,.ref a,.str (tx u),.str (tx v)] H Q E:=#[o,t,a,l,rs,tab,ps,u,v,rfl,h1,h2,h3,h4,h5,h6,q]
def kr:sQz 4 ["world","pacts","one","other"] wy:=by nofun
def kA(B:Bt mg)(CL:zaG K mg CV)(F:("tells_apart"^^^wy))(M_world_led:DM P w K mg base CX0 1 CV "led" ["self","room","word"] (jj CV))(M_world_broken:DM P w K mg base CX0 3 CV "broken" ["self","pacts"] (uX K CV)):(4&&&["world","pacts","one","other"]) (ZY K CV):=by
 exists F.ok kr
 ·let#[o,t,a,l,rs,tab,ps,u,v,rfl,hA,hW,hG,hp,hu,hv,q]:=h
  refine#[_,(zG (zJ (zt yW (me1 M_world_led CL.cl hr (pv 0) (za zf (za (pv 2) ze))) (me1 M_world_led CL.cl hr (pv 0) (za zf (za (pv 3) ze))) (zv _)) (zg (zl yC))
    zp) (zg (zl (yf op_isN' (me1 M_world_broken CL.cl hr (pv 0) (za (pv 1) ze)) yb (zv _))))),?_]
  have s16:=zS
  rfl'
  let#[dx,ho,hT]:=id hW;have hlo:=hG.lo;refine#[_,_,ho,rfl,qQ hW hG ⋯ ⋯ hu #[_,_,ho,rfl,qQ hW hG ⋯ ⋯ hv ?_]]
  rfl'
  refine z8 (λh=>?_) λh=>?_
  ·have e:yX l tab ps u v=AN:=by
    unfold yX;rw[v9 (λg=>g h)];rfl
   rw[e]at q;exact q _ (Same.refl _)
  ·have e:yX l tab ps u v=(wG l tab ps 0).isNone:=by
    unfold yX;rw[u9 h,gh]
   rw[e]at q;refine#[_,_,ho,rfl,o,t,a,l,rs,tab,ps,rfl,hA,hW,hG,hp,λhb H' s'=>?_,λi r hb p H' s' hp'=>?_]
   ·rw[hb]at q;exact q H' s'
   ·rw[hb]at q;exact q H' s'
def Ear(l:())(ps:List zC)(u v:())(n N:Nat):Prop:=∀n' N':Nat,1<=n'->N'<n' ^ (n' * l.length)->(n'<n\/n'=n/\N'<N)->yX l (xW n' l.length N') ps u v=AN
def Kw : Ear l ps u v 1 0:=λn' N' h1 Z h=>by lia
def Kz(h:Ear l ps u v n N)(hf:yX l (xW n l.length N) ps u v=AN):Ear l ps u v n (N+1):=λn' N' h1 h2 h3=>by
 rcases h3 with h3 | ⟨rfl,h3⟩
 ·exact h n' N' h1 h2 (.inl h3)
 ·by_cases e:N'=N
  ·rw[e];exact hf
  ·exact h n' N' h1 h2 (.inr #[rfl,⋯])
def zc0(h:Ear l ps u v n (n ^ (n * l.length))):Ear l ps u v (n+1) 0:=λn' N' h1 h2 h3=>by
 rcases d8 n' n with h4 | h4
 ·exact h n' N' h1 h2 (.inl h4)
 ·have e:n'=n:=⋯;subst e;exact h n' N' h1 h2 (.inr #[rfl,h2])
def KW(h1:1<=n)(h:n<=m):n ^ (n * k)<=m ^ (m * k):=aL (Nat.pow_le_pow_left h _) (Nat.pow_le_pow_right ⋯ (cI k h))
def Vk(K:sr)(CM:su):Sp:=λvs H Q E=>∃(a:su) (l:()) (ps:List zC) (u v:()) (m:Nat),vs=[.str (tx l),.ref a,.str (tx u),.str (tx v),.int (m:Nat)]/\jJ l=AM/\LsA K H a (ps.map dR)/\InP l ps/\zdl l u/\zdl l v/\m<=8/\(1000<m ^ (m * l.length)->E (.ref CM) AL H) /\
 (m ^ (m * l.length)<=1000->Ear l ps u v (m+1) 0->∀H',Same H H'->Q .non H') /\
 (m ^ (m * l.length)<=1000->∀n N:Nat,1<=n->n<=m->N<n ^ (n * l.length)->yX l (xW n l.length N) ps u v=AM->Ear l ps u v n N->∀(t:su) (rs:List su) (H':Hp),Same H H'->TabAt H' t rs (xW n l.length N)->(∀r ∈ t::rs,H r=AL)->Q (.ref t) H')
def iJ:sQz 5 ["letters","pacts","one","other","most","rooms","number","table"] wo:=by nofun
def kJ(B:Bt mg)(TM:K3 K mg CM)(CL:zaG K mg CV)(F:("world_apart"^^^wo))(iY:(2<<<"tables_within") ["letters","rooms"] [] ux)(lV:(1<<<"table_count") ["letters","rooms"] [] qW)(rD:(1<<<"table_at") ["letters","rooms","number"] [] vT)(pH:(4<<<"tells_apart") ["world","pacts","one","other"] [] (ZY K CV))(M_world_init:DMk P w K mg base (CXx P w) 4 CV ["self","letters","table"] (uh CV)):(6|||["letters","pacts","one","other","most"]) (Vk K CM):=by
 exists Fun.okX F iJ,0
 ·let#[a,l,ps,u,v,m,rfl,hg,hA,hp,hu,hv,m8,q1,q2,q3]:=h
  refine#[_,(zh (zJ (yd (ym (cl0 iY hr .nil rfl (za (pv 0) (za (pv 4) ze))) (λZ=>rfl))) (zg (yk hx rfl TM.xi.toXC TM.ini rfl TM.g (za zQ ze)))
    zp) (zh (zZ PassesOwn.leaving rfl (Yr rfl B.range (za zf (za (zD qb (pv 4) zf) ze))) (zr (i:=5) iJ.nd rfl (.inl rfl)) (zg (zZ PassesOwn.leaving rfl (zV rfl B.range (za (cl0 lV hr .nil rfl (za (pv 0) (za (pv 5) ze))) ze)) (zr (i:=6) iJ.nd rfl (.inl rfl)) (zh (zB 7 iJ.nd (cl0 rD hr .nil rfl (za (pv 0) (za (pv 5) (za (pv 6) ze))))) (zg (zJ (ym (cl0 pH hr .nil rfl (za (zgM hx M_world_init hr rfl CL.g (za (pv 0) (za (pv 7) ze))) (za (pv 1) (za (pv 2) (za (pv 3) ze))))) (λZ=>rfl)) (zg (zl (pv 7)))
      zp)))))) (zg (zl yb)))),?_]
  have s16:=zS;let#[l1,l6,_,_]:=u6 hg;change H'=H/\m ^ (m * l.length)<=1000/\σ=[~~~l,!!a,~~~u,~~~v,-~~~m,AL,AL,AL]
  ·rfl'
   refine Zc ⋯ m8 #[_,rfl,?_];by_cases hw:m ^ (m * l.length)<=1000
   ·rw[u9 hw]
    rfl'
    exact hw
   ·rw[v9 hw]
    rfl'
    exact#[⋯,q1 ⋯]
  rintro σ H1 ⟨rfl,hw,rfl⟩:_;right;change Same H1 H'/\Ear l ps u v (m+1) 0/\∃v5 v6 v7,σ=[~~~l,!!a,~~~u,~~~v,-~~~m,v5,v6,v7]
  ·rfl'
   refine#[⋯,⋯,⋯,⋯,ForR.by (λi σ H'=>Same H1 H'/\Ear l ps u v (i+1) 0/\∃v5 v6 v7,σ=[~~~l,!!a,~~~u,~~~v,-~~~m,v5,v6,v7]) #[Same.refl _,Kw,_,_,_,rfl] ?_ ?_]
   ·refine nm3 ?_;rintro i σ H' hi ⟨hs,hE,v5,v6,v7,rfl⟩:_;have him:i+1<=m:=⋯;have e0:(1:Int)+(i:Int)=((i+1:Nat):Int):=⋯;have hpw:=KW (k:=l.length) ⋯ him;right;dsimp only;rw[e0]
    rfl'
    refine YW ⋯ ⋯ ?_;refine#[_,rfl,⋯,⋯,ForR.by (λj σ H'=>Same H1 H'/\Ear l ps u v (i+1) j/\∃v6 v7,σ=[~~~l,!!a,~~~u,~~~v,-~~~m,AK (.int ((i+1:Nat):Int)),v6,v7]) #[hs,hE,_,_,rfl] ?_ ?_]
    ·refine nm3 ?_;rintro j σ H'' hj ⟨hs2,hE2,v6,v7,rfl⟩:_;rw[aE]at hj;have e1:(0:Int)+(j:Int)=(j:Int):=⋯;right;dsimp only;rw[e1]
     erw[yx,aU,aT]
     refine zj (λσ G=>∃(t:su) (rs:List su),Same H1 G/\TabAt G t rs (xW (i+1) l.length j)/\(∀r ∈ t::rs,H1 r=AL)/\σ=[~~~l,!!a,~~~u,~~~v,-~~~m,AK (.int ((i+1:Nat):Int)),AK (.int (j:Int)),!!t]) ?_ ?_
     ·rfl'
      exact YK l1 ⋯ ⋯ ⋯ λt rs G sG hT hf=>#[hs2.trans sG,t,rs,hT,(λr hr=>by
       cases e:H1 r with
       | none=>rfl
       | some o=>have:=hs2 _ _ e;rw[hf r hr]at this;cases this),rfl]
     rintro σ G ⟨t,rs,sG,hT,hf,rfl⟩:_;have hG:=qU (l:=l) j (show 1<=i+1 by lia) ⋯;right
     rfl'
     refine QB hg hT hG λx t' rs' H' s' Z Z hW=>JZ ((hA.same sG).same s') hW hG hp hu hv λH'' s''=>#[_,rfl,?_];have sA:=sG.trans (s'.trans s'')
     cases hfit:yX l (xW (i+1) l.length j) ps u v with
     | true =>
      rfl'
      exact q3 hw (i+1) j ⋯ him hj hfit hE2 t rs H'' sA (hT.same (s'.trans s'')) hf
     | false =>
      rfl'
      exact#[sA,Kz hE2 hfit]
    ·rintro σ H'' ⟨hs2,hE2,v6,v7,rfl⟩;rw[aE]at hE2;exact#[hs2,zc0 hE2,_,_,_,rfl]
   ·rintro σ H' ⟨hs,hE,v5,v6,v7,rfl⟩;exact#[hs,by rw[show (((m:Nat):Int)+1 - 1).toNat=m by lia]at hE;exact hE,_,_,_,rfl]
  rintro σ H2 ⟨s2,hE,v5,v6,v7,rfl⟩:_;right
  rfl'
  exact q2 hw hE H2 s2
structure TMj(mg:sB->Option sv):Prop where
 u:∃t,mg "MOST_USES_judging" = AK (.int 40 t)
 s:∃t,mg "MOST_STEPS_judging" = AK (.int 2000 t)
def zdP(K:sr):Sp:=λvs H Q Z=>∃(a:su) (k:Nat) (l:()) (ns:List Int) (bs:List Ent) (w:()),vs=[.ref a,.str (tx w)]/\OG l ns k/\EnsL K H a bs/\BG k l ns bs/\w.length<=60 /\
 (∀(i:Nat) (p S:su) (H':Hp),EndsAt (zc bs) w i->Same H H'->H' p=AK (.tup [.ref S,.str (tx (wAt (zc bs) w i))])->LsA K H' S ((stS (sAt (zc bs) w i)).map dSt)->Q (.ref p) H')/\((∀i,¬ EndsAt (zc bs) w i)->∀H',Same H H'->Q .non H')
def kz:sQz 2 ["entries","word"] wk:=by nofun
def kC(B:Bt mg)(TFx:zcQ K mg CF)(TSb:zgp K CF)(TM:TMj mg)(F:("gone_within"^^^wk))(nc:(4>>>"gone") ["rules","word","most"] [] (xR K CF))(DD_gone:(4>>>"gone") ["rules","word","most"] [.int 4000 ng] (xR K CF))(gQ:(1<<<"pairs_of") ["entries"] [] (wD K)):(5&&&["entries","word"]) (zdP K):=by
 let#[t9,g9]:=TM.u
 exists F.ok kz
 ·let#[a,k,l,ns,bs,w,rfl,hG,hA,hB,hw,q1,q2]:=h;refine#[_,(zg (WK (th:=(zbA (tC .non))) #[rfl,rfl] (clX nc hr .nil rfl (za (cl0 gQ hr .nil rfl (za (pv 0) ze)) (za (pv 1) (za (yJ (v:=.int 40) rfl g9 #[t9,rfl]) ze)))) rfl TFx.g TFx.xi.ok (λe=>(zg (zl yb))))),?_];have s16:=zS;have s16:=zS;have hpl:=xq bs;have hbl:=hB.n
  erw[Jw]
  ac_rfl;exact wc hA.is ⋯ λD H1 Z s1 hL=>qi hL (hB.ne hG) ⋯ hB.le hw (λi p S H' hi s' hp hS Z=>q1 i p S H' hi (s1.trans s') hp (by rw[US]at hS;exact hS)) λhno H' s'=>#[CF,rfl,TSb.s,λx hx=>q2 hno _ ((s1.trans s').trans (zd hx))]
def GwV(K:sr)(ps:List zC)(w:())(H:Hp)(v:V):Prop:=(v=.non/\∀i,¬ EndsAt ps w i)\/∃(i:Nat) (p S:su),v=.ref p/\EndsAt ps w i/\H p=AK (.tup [.ref S,.str (tx (wAt ps w i))])/\LsA K H S ((stS (sAt ps w i)).map dSt)
def GwV.same{ps:List zC}{w:()}{H H':Hp}{v:V}(h:GwV K ps w H v)(s:Same H H'):GwV K ps w H' v:=by
 rcases h with h | ⟨i,p,S,h1,h2,h3,h4⟩
 ·exact .inl h
 ·exact .inr #[i,p,S,h1,h2,s _ _ h3,h4.same s]
end in abbrev jZ(bs:List Ent)(u v:())(i j:Nat):List Stp:=byL bs (stS (sAt (zc bs) u i) ++ yE (stS (sAt (zc bs) v j)))
def NoR(bs:List Ent)(b:Bool)(u v:()):Prop:=(∀i,¬ EndsAt (zc bs) u i)\/(∀j,¬ EndsAt (zc bs) v j)\/∃i j,EndsAt (zc bs) u i/\EndsAt (zc bs) v j/\((wAt (zc bs) u i≠wAt (zc bs) v j/\b=AN)\/(wAt (zc bs) u i=wAt (zc bs) v j/\2000<(jZ bs u v i j).length))
def zbr(K:sr):Sp:=λvs H Q Z=>∃(a:su) (k:Nat) (l:()) (ns:List Int) (bs:List Ent) (b:Bool) (u v:()),vs=[.bl b,.ref a,.str (tx u),.str (tx v)]/\OG l ns k/\EnsL K H a bs/\BG k l ns bs/\u.length<=60/\v.length<=60/\(NoR bs b u v->∀H',Same H H'->Q .non H') /\
 (∀(i j:Nat) (p:su) (H':Hp),b=AM->EndsAt (zc bs) u i->EndsAt (zc bs) v j->wAt (zc bs) u i≠wAt (zc bs) v j->Same H H'->H' p=AK (.tup [.str "forms",.ref a,.str (tx (wAt (zc bs) u i)),.str (tx (wAt (zc bs) v j))])->Q (.ref p) H') /\
 ∀(i j:Nat) (p S:su) (H':Hp),EndsAt (zc bs) u i->EndsAt (zc bs) v j->wAt (zc bs) u i=wAt (zc bs) v j->Same H H'->H' p=AK (.tup [.str "alike",.ref S])->LsA K H' S ((jZ bs u v i j).map dSt)->(jZ bs u v i j).length<=2000->Q (.ref p) H'
def ij:sQz 4 ["whole","kept","one","other","ahead","behind","steps"] yU:=by nofun
def uw(B:Bt mg)(TM:TMj mg)(F:("judged_by_roads"^^^yU))(nG:(5<<<"gone_within") ["entries","word"] [] (zdP K))(iH:(2<<<"by_pacts") ["entries","steps"] [] (Uu K))(mz:(1<<<"back") ["steps"] [] (uW K)):(6&&&["whole","kept","one","other"]) (zbr K):=by
 let#[t9,g9]:=TM.s
 exists F.ok ij
 ·let#[a,k,l,ns,bs,b,u,v,rfl,hG,hA,hB,hu,hv,q1,q3,q2]:=h
  refine#[_,(zh (zB 4 ij.nd (cl0 nG hr .nil rfl (za (pv 1) (za (pv 2) ze)))) (zh (zB 5 ij.nd (cl0 nG hr .nil rfl (za (pv 1) (za (pv 3) ze)))) (zh (zJ (PW.pt (vF (zt op_isN' (pv 4) yb (zv _)) (wH (zt op_isN' (pv 5) yb (zv _))))) (zg (zl yb))
    zp) (zh (zJ (zt qG (!-4) (!-5) (zv _)) (zg (zl (xE (ym (pv 0) (λZ=>rfl)) (zN (za zQ (za (pv 1) (za (!-4) (za (!-5) ze))))) yb)))
    zp) (zh (zB 6 ij.nd (cl0 iH hr .nil rfl (za (pv 1) (za (zD jl (!-4) (cl0 mz hr .nil rfl (za (!-5) ze))) ze)))) (zg (zl (xE (zt wF (zE B.len (pv 6)) (yJ (v:=.int 2000) rfl g9 #[t9,rfl]) (zv _)) (zN (za zQ (za (pv 6) ze))) yb)))))))),?_]
  have s16:=zS;have s16:=zS;have hbl:=hB.n;have hpl:=xq bs;have hst:∀e ∈ bs,e.2.2.length<=600:=λe he=>(hB.e e he).s;change Same H H'/\∃v4,GwV K (zc bs) u H' v4/\σ=[AK (.bl b),!!a,~~~u,~~~v,AK (v4),AL,AL]
  ·rfl'
   exact#[a,k,l,ns,bs,u,rfl,hG,hA,hB,hu,λi p S H' h1 s' h2 h3=>#[s',.inr #[i,p,S,rfl,h1,h2,h3]],λhno H' s'=>#[s',.inl #[rfl,hno]]]
  rintro σ H1 ⟨s1,v4,hv4,rfl⟩:_;right;change Same H1 H'/\∃v5,GwV K (zc bs) v H' v5/\σ=[AK (.bl b),!!a,~~~u,~~~v,AK (v4),AK (v5),AL]
  ·rfl'
   exact#[a,k,l,ns,bs,v,rfl,hG,hA.same s1,hB,hv,λi p S H' h1 s' h2 h3=>#[s',.inr #[i,p,S,rfl,h1,h2,h3]],λhno H' s'=>#[s',.inl #[rfl,hno]]]
  rintro σ H2 ⟨s2,v5,hv5,rfl⟩:_;have s12:=s1.trans s2;have hv4':=hv4.same s2;right;change H'=H2/\v4≠.non/\v5≠.non/\σ=[AK (.bl b),!!a,~~~u,~~~v,AK (v4),AK (v5),AL]
  ·rfl'
   refine z8 (λh=>?_) λh=>z8 (λh'=>?_) λh'=>#[h,h']
   ·rcases hv4' with ⟨_,hno⟩ | ⟨i,p,S,e,_⟩
    ·exact q1 (.inl hno) _ s12
    ·rw[e]at h;cases h
   ·rcases hv5 with ⟨_,hno⟩ | ⟨i,p,S,e,_⟩
    ·exact q1 (.inr (.inl hno)) _ s12
    ·rw[e]at h';cases h'
  rintro σ H3 ⟨rfl,n4,n5,rfl⟩:_;let#[i,p1,S1,rfl,hi,hp1,hS1]:=hv4'.resolve_left λz=>n4 z.1;let#[j,p2,S2,rfl,hj,hp2,hS2]:=hv5.resolve_left λz=>n5 z.1;right;change H'=H3/\wAt (zc bs) u i=wAt (zc bs) v j/\σ=[AK (.bl b),!!a,~~~u,~~~v,!!p1,!!p2,AL]
  ·rfl'
   refine#[_,SqT.of hp1,_,rfl,_,SqT.of hp2,_,rfl,rfl,z8 (λh=>z8 (λhb'=>#[_,SqT.of hp1,_,rfl,_,SqT.of hp2,_,rfl,⋯,λp hp=>q3 i j p _ hb' hi hj (λz=>h (by rw[z])) (s12.trans (zd hp)) zb]) λhb'=>q1 (.inr (.inr #[i,j,hi,hj,.inl #[λz=>h (by rw[z]),by simpa using hb']])) _ s12) λh=>?_];have:=Classical.not_not.mp h;injection this with this;exact vP this
  rintro σ H4 ⟨rfl,he,rfl⟩:_;have him:=hi.most;have hjm:=hj.most;have hl1:(stS (sAt (zc bs) u i)).length=i:=by rw[xJ,xn]
  have hl2:(stS (sAt (zc bs) v j)).length=j:=by rw[xJ,xn]
  right;change Same H4 H'/\∃S:su,LsA K H' S ((jZ bs u v i j).map dSt)/\σ=[AK (.bl b),!!a,~~~u,~~~v,!!p1,!!p2,!!S]
  ·rfl'
   refine#[_,SqT.of hp1,_,rfl,_,SqT.of hp2,_,rfl,jb hS2.is ⋯ λB1 G1 Z t1 hB1=>?_];let#[c1,hc1,ic1]:=hS1.same t1;let#[c2,hc2,ic2]:=id hB1;have n1:=ic1.len;have n2:=ic2.len;rw[aa]at n1 n2;rw[yh]at n2;refine#[S1,rfl,B1,rfl,c1,hc1,c2,hc2,⋯,λp hp=>?_];have sp:=zd (o:=.lst (c1 ++ c2)) hp;refine W4 (Is.same (s12.trans (t1.trans sp)) _ _ hA.is) (LsA.is #[_,zb,by rw[aq];exact Iss.append (Iss.same sp _ _ ic1) (Iss.same sp _ _ ic2)]) (by rw[ak,yh];lia) hst (λx hx=>?_) λD H' Z s' hL=>#[t1.trans (sp.trans s'),D,hL,rfl];rw[<- hpl];rcases AV.mp hx with h | h
   ·exact W3 hi.live x h
   ·exact Qe (W3 hj.live) x h
  rintro σ H5 ⟨s5,S,hS,rfl⟩:_;let#[xs,hX,hI]:=id hS;have hxl:=hI.len;rw[aa]at hxl;right
  rfl'
  exact#[_,.inl #[_,SqL.of hX,rfl],z8 (λhn=>#[⋯,λp hp=>q2 i j p S _ hi hj he ((s12.trans s5).trans (zd hp)) zb (hS.same (zd hp)) ⋯]) λhn=>q1 (.inr (.inr #[i,j,hi,hj,.inr #[he,⋯]])) _ (s12.trans s5)]
def QF(hE:∀e ∈ bs,EOk rs e)(hi:EndsAt (zc bs) u i)(hj:EndsAt (zc bs) v j)(he:wAt (zc bs) u i=wAt (zc bs) v j):yl rs u (jZ bs u v i j)=AK v:=by refine jH hE ?_;rw[xA,uL hi.live,he];exact wP (uL hj.live)
def ze2(h:∀p ∈ rs,p.1.length<=60/\p.2.length<=60/\(∀c ∈ p.1,c ∈ l)/\∀c ∈ p.2,c ∈ l):∀e ∈ fEs rs rs.length,EB l e:=λe he=>by
 let#[i,p,hi,hp,rfl]:=jf he;let#[g1,g2,g3,g4]:=h p (ac hp);exact#[g1,g2,by show ([((i:Int),(0:Int),AM)]:List Stp).length<=600;simp,g3,g4]
def zaZ(K:sr):Sp:=λvs H Q Z=>∃(a:su) (l:()) (ps:List zC) (u v:()) (m:Nat),vs=[.str (tx l),.ref a,.str (tx u),.str (tx v),.int (m:Nat)]/\jJ l=AM/\LsA K H a (ps.map dR)/\InP l ps/\(∀c ∈ u,c ∈ l)/\(∀c ∈ v,c ∈ l)/\m<=8/\m ^ (m * l.length)<=1000/\(Ear l ps u v (m+1) 0->∀(p:su) (H':Hp),Same H H'->H' p=AK (.tup [.str "open"])->Q (.ref p) H') /\
 ∀(n N:Nat) (p t:su) (rs:List su) (H':Hp),1<=n->n<=m->N<n ^ (n * l.length)->yX l (xW n l.length N) ps u v=AM->Ear l ps u v n N->Same H H'->H' p=AK (.tup [.str "world",.ref t])->TabAt H' t rs (xW n l.length N)->Q (.ref p) H'
def JwV(l:())(ps:List zC)(u v:())(m:Nat)(H:Hp)(x:V):Prop:=(x=.non/\Ear l ps u v (m+1) 0)\/∃(n N:Nat) (t:su) (rs:List su),x=.ref t/\1<=n/\n<=m/\N<n ^ (n * l.length)/\yX l (xW n l.length N) ps u v=AM/\Ear l ps u v n N/\TabAt H t rs (xW n l.length N)
def ly:sQz 5 ["letters","pacts","one","other","most","table"] yN:=by nofun
def vX(B:Bt mg)(F:("judged_by_worlds"^^^yN))(pJ:(6>>>"world_apart") ["letters","pacts","one","other","most"] [] (Vk K CM)):(7&&&["letters","pacts","one","other","most"]) (zaZ K):=by
 exists F.ok ly
 ·let#[a,l,ps,u,v,m,rfl,hg,hA,hp,hu,hv,m8,hm,q1,q2]:=h
  refine#[_,(zh (zB 5 ly.nd (clP xe0 pJ hr .nil rfl (za (pv 0) (za (pv 1) (za (pv 2) (za (pv 3) (za (pv 4) ze))))))) (zg (zl (xE (zt op_isN' (pv 5) yb (zv _)) (zN (za zQ ze)) (zN (za zQ (za (pv 5) ze))))))),?_]
  have s16:=zS;have s16:=zS;change Same H H'/\∃x,JwV l ps u v m H' x/\σ=[~~~l,!!a,~~~u,~~~v,-~~~m,AK (x)]
  ·rfl'
   exact#[a,l,ps,u,v,m,rfl,hg,hA,hp,hu,hv,m8,λh=>by lia,λZ h H' s'=>#[s',.inl #[rfl,h]],λZ n N h1 h2 h3 h4 h5 t rs H' s' h6 Z=>#[s',.inr #[n,N,t,rs,rfl,h1,h2,h3,h4,h5,h6]]]
  rintro σ H1 ⟨s1,x,hx,rfl⟩:_;right;rcases hx with ⟨rfl,hE⟩ | ⟨n,N,t,rs,rfl,h1,h2,h3,h4,h5,h6⟩
  ·rfl'
   exact#[⋯,λp hp=>q1 hE p _ (s1.trans (zd hp)) zb]
  ·rfl'
   exact#[⋯,λp hp=>q2 n N p t rs _ h1 h2 h3 h4 h5 (s1.trans (zd hp)) zb (h6.same (zd hp))]
inductive JOut(K:sr)(H:Hp)(k:Nat)(l:())(ns:List Int)(rs:List zC)(u v:())(r m:Nat)(p:su):Prop where
 | alike (w:Bool) (es:List Ent) (i j:Nat) (S:su) (hc:Cpl k l ns (r+1) [] (fEs rs rs.length) w es) (hb:BG k l ns es) (hi:EndsAt (zc es) u i) (hj:EndsAt (zc es) v j) (he:wAt (zc es) u i=wAt (zc es) v j) (hl:(jZ es u v i j).length<=2000) (hp:H p=AK (.tup [.str "alike",.ref S])) (hS:LsA K H S ((jZ es u v i j).map dSt))
 | forms (es:List Ent) (i j:Nat) (D:su) (hc:Cpl k l ns (r+1) [] (fEs rs rs.length) AM es) (hb:BG k l ns es) (hi:EndsAt (zc es) u i) (hj:EndsAt (zc es) v j) (hn:wAt (zc es) u i≠wAt (zc es) v j) (hp:H p=AK (.tup [.str "forms",.ref D,.str (tx (wAt (zc es) u i)),.str (tx (wAt (zc es) v j))])) (hD:EnsM K H D es)
 | world (w:Bool) (es:List Ent) (n N:Nat) (t:su) (ts:List su) (hc:Cpl k l ns (r+1) [] (fEs rs rs.length) w es) (hb:BG k l ns es) (hno:NoR es w u v) (h1:1<=n) (h2:n<=m) (h3:N<n ^ (n * l.length)) (h4:yX l (xW n l.length N) rs u v=AM) (h5:Ear l rs u v n N) (hp:H p=AK (.tup [.str "world",.ref t])) (ht:TabAt H t ts (xW n l.length N))
 | open_ (w:Bool) (es:List Ent) (hc:Cpl k l ns (r+1) [] (fEs rs rs.length) w es) (hb:BG k l ns es) (hno:NoR es w u v) (h5:Ear l rs u v (m+1) 0) (hp:H p=AK (.tup [.str "open"]))
def zeF(K:sr)(CO CR CW TB:su):Sp:=λvs H Q Z=>∃(o a:su) (k:Nat) (l:()) (ns:List Int) (rs:List zC) (u v:()) (r m:Nat),vs=[.ref o,.ref a,.str (tx u),.str (tx v),.int (r:Nat),.int (m:Nat)]/\OrdAt CO CR CW H o k l ns/\OG l ns k/\LsA K H a (rs.map dR)/\rs.length<=20/\(∀p ∈ rs,p.1.length<=60/\p.2.length<=60/\(∀c ∈ p.1,c ∈ l)/\∀c ∈ p.2,c ∈ l)/\u.length<=60/\v.length<=60/\(∀c ∈ u,c ∈ l)/\(∀c ∈ v,c ∈ l)/\r<=1000/\m<=8/\m ^ (m * l.length)<=1000/\TabOk H TB lp lq /\
 ∀(p:su) (H':Hp),SamT TB H H'->TabOk H' TB lp lq->JOut K H' k l ns rs u v r m p->Q (.ref p) H'
def JrV(K:sr)(H:Hp)(es:List Ent)(w:Bool)(u v:())(D:su)(x:V):Prop:=(x=.non/\NoR es w u v)\/∃p:su,x=.ref p/\((∃i j,w=AM/\EndsAt (zc es) u i/\EndsAt (zc es) v j/\wAt (zc es) u i≠wAt (zc es) v j/\H p=AK (.tup [.str "forms",.ref D,.str (tx (wAt (zc es) u i)),.str (tx (wAt (zc es) v j))]))\/∃i j S,EndsAt (zc es) u i/\EndsAt (zc es) v j/\wAt (zc es) u i=wAt (zc es) v j/\(jZ es u v i j).length<=2000/\H p=AK (.tup [.str "alike",.ref S])/\LsA K H S ((jZ es u v i j).map dSt))
def nO:sQz 6 ["order","pacts","one","other","rounds","most","outcome","answer"] ZA:=by nofun
def Qc{f CO CR CW TB CM:su}(B:Bt mg)(TO:TOrd K mg CO CR CW)(TM:K3 K mg CM)(F:("judged"^^^ZA))(rn:(10<<<"completed") ["order","pacts","rounds"] [] (zbv K CO CR CW TB))(ol:(6<<<"judged_by_roads") ["whole","kept","one","other"] [] (zbr K))(iY:(2<<<"tables_within") ["letters","rooms"] [] ux)(nP:(7<<<"judged_by_worlds") ["letters","pacts","one","other","most"] [] (zaZ K)):(11|||["order","pacts","one","other","rounds","most"]) (zeF K CO CR CW TB):=by
 exists Fun.okX F nO,0
 ·let#[o,a,k,l,ns,rs,u,v,r,m,rfl,ho,hG,hA,hrl,hrs,hul,hvl,hu,hv,hr',hm8,hm,hTab,q]:=h
  refine#[_,(zh (zJ (yd (ym (cl0 iY hr .nil rfl (za (j3 (pv 0) rfl) (za (pv 5) ze))) (λZ=>rfl))) (zg (yk hx rfl TM.xi.toXC TM.ini rfl TM.g (za zQ ze)))
    zp) (zh (zB 6 nO.nd (cl0 rn hr .nil rfl (za (pv 0) (za (pv 1) (za (pv 4) ze))))) (zh (zB 7 nO.nd (cl0 ol hr .nil rfl (za (!-6) (za (!-6) (za (pv 2) (za (pv 3) ze)))))) (zh (zJ (zt op_isN' (pv 7) yb (zv _)) (zg (zl (cl0 nP hr .nil rfl (za (j3 (pv 0) rfl) (za (pv 1) (za (pv 2) (za (pv 3) (za (pv 5) ze))))))))
    zp) (zg (zl (pv 7))))))),?_]
  have s16:=zS;have s16:=zS;let#[l1,l6,lsm,lnd]:=u6 hG.g;let#[C,dy,fs,hf,ho1,_,hlk]:=ho.fam
  have hC:Cls K C/\NoAttr K C "letters":=by
   rcases hf with rfl | rfl | rfl
   ·exact#[TO.cO,TO.lO]
   ·exact#[TO.cR,TO.lR]
   ·exact#[TO.cW,TO.lW]
  change H'=H/\σ=[!!o,!!a,~~~u,~~~v,-~~~r,-~~~m,AL,AL]
  ·rfl'
   refine#[_,_,_,ho1,hC.1,hC.2,_,hlk,Zc l6 hm8 ?_];rw[u9 hm];exact#[AM,rfl,Yi rfl]
  rintro σ H1 ⟨rfl,rfl⟩:_;right;change SamT TB H1 H'/\TabOk H' TB lp lq/\∃(w:Bool) (es:List Ent) (p D:su),Cpl k l ns (r+1) [] (fEs rs rs.length) w es/\BG k l ns es/\H' p=AK (.tup [.bl w,.ref D])/\EnsM K H' D es/\σ=[!!o,!!a,~~~u,~~~v,-~~~r,-~~~m,!!p,AL]
  ·rfl'
   exact#[o,a,k,l,ns,rs,r,rfl,ho,hG,hA,hrl,λp hp=>#[by have:=hrs p hp;lia,by have:=hrs p hp;lia,(hrs p hp).2.2],λp hp=>#[(hrs p hp).1,(hrs p hp).2.1],hr',hTab,λw es p D H' h1 h2 h3 h3' h4 h5=>#[h3,h3',w,es,h1,h2,p,D,h4,h5,rfl]]
  rintro σ H2 ⟨s2,hT2,w,es,p,D,hCp,hB,hp,hD,rfl⟩:_;let#[tbl,htb,_]:=id hTab;right;change Same H2 H'/\∃v7,JrV K H' es w u v D v7/\σ=[!!o,!!a,~~~u,~~~v,-~~~r,-~~~m,!!p,AK (v7)]
  ·rfl'
   exact#[_,SqT.of hp,_,rfl,_,SqT.of hp,_,rfl,D,k,l,ns,es,w,u,v,rfl,hG,hD.l,hB,hul,hvl,λhno H' s'=>#[s',.inl #[rfl,hno]],λi j p H' hw hi hj hn s' h1=>#[s',.inr #[p,rfl,.inl #[i,j,hw,hi,hj,hn,h1]]],λi j p S H' hi hj hij s' h1 h2 h3=>#[s',.inr #[p,rfl,.inr #[i,j,S,hi,hj,hij,h3,h1,h2]]]]
  rintro σ H3 ⟨s3,v7,hv7,rfl⟩:_;have sT:=s2.trans (SamT.of s3);have hT3:=hT2.same s3;have hA3:=hA.samT sT htb;right;rcases hv7 with ⟨rfl,hno⟩ | ⟨p',rfl,hv7⟩
  ·refine jz (λZ Z=>False) ?_ λZ Z h=>h.elim
   rfl'
   exact#[_,_,_,sT.at htb ho1 (λZ z=>by cases z),hC.1,hC.2,_,hlk,a,l,rs,u,v,m,rfl,hG.g,hA3,λp hp=>(hrs p hp).2.2,hu,hv,hm8,hm,λhE p H' s' h=>q p H' (sT.trans (SamT.of s')) (hT3.same s') (.open_ w es hCp hB hno hE h),λn N p t ts H' h1 h2 h3 h4 h5 s' h6 h7=>q p H' (sT.trans (SamT.of s')) (hT3.same s') (.world w es n N t ts hCp hB hno h1 h2 h3 h4 h5 h6 h7)]
  ·change H'=H3/\σ=[!!o,!!a,~~~u,~~~v,-~~~r,-~~~m,!!p,!!p']
   ·rfl'
   rintro σ H4 ⟨rfl,rfl⟩:_;right
   rfl'
   refine q p' _ sT hT3 ?_;rcases hv7 with ⟨i,j,rfl,hi,hj,hn,h1⟩ | ⟨i,j,S,hi,hj,he,hl,h1,h2⟩
   ·exact .forms es i j D hCp hB hi hj hn h1 (hD.same s3)
   ·exact .alike w es i j S hCp hB hi hj he hl h1 h2
structure KXs(K:sr):Prop where
 ss:aS K (.type "str") (.type "str")=AK AM
def Q9(K:sr):Sp:=λvs H Q Z=>∃(a:su) (es:List Ent),vs=[.ref a]/\Is K H (.lst (es.map dE)) (.ref a)/\Q (.bl AM) H
def oS:sQz 1 ["_law_found","_law_entry"] jh:=by nofun
def Uc(B:Bt mg)(T:TLs K)(TX:KXs K)(F:("_law_entries"^^^jh))(pj:(2<<<"_law_steps") ["_law_found"] [] (ZX K)):(3&&&["_law_found"]) (Q9 K):=by
 exists F.ok oS
 ·let#[a,es,rfl,hA,q]:=h
  refine#[_,(zh (zJ (yd (ym (yI rfl B.isi (pv 0) rfl B.list PySem.Pv.boot_list) (λZ=>rfl))) (zg (zl yC))
    zp) (zh (zZ p9 rfl (zX (pv 0)) (zr (i:=1) oS.nd rfl (.inl rfl)) (zh (zJ (PW.pt (vF (yd (ym (yI rfl B.isi (pv 1) rfl B.tuple PySem.Pv.boot_tuple) (λZ=>rfl))) (vF (zt qG (zE B.len (pv 1)) zf (zv _)) (wH (yd (ym (cl0 pj hr .nil rfl (za (!-1) ze)) (λZ=>rfl))))))) (zg (zl yC))
     zp) (zg (zJ (PW.pt (vF (yd (ym (yI rfl B.isi (!-1) rfl B.str PySem.Pv.boot_str) (λZ=>rfl))) (wH (yd (ym (yI rfl B.isi (!-1) rfl B.str PySem.Pv.boot_str) (λZ=>rfl)))))) (zg (zl yC))
     zp)))) (zg (zl yC)))),?_]
  have s16:=zS
  erw[Is]at hA
  let#[_,xs,e,hX,hI]:=hA;cases e;change H'=H/\σ=[!!a,AL]
  ·rfl'
   exact#[_,.inr (.inr (.inl #[_,_,rfl,rfl,hX])),AM,T.ll,Yi trivial]
  rintro σ H1 ⟨rfl,rfl⟩:_;right;change H'=H1/\∃v1,σ=[!!a,v1]
  ·rfl'
   refine#[#[_,hX],ForL.by (xs:=xs) (λi σ H'=>H'=H1/\∃v1,σ=[!!a,v1]) #[rfl,_,rfl] (λi σ H' Z h=>by rw[h.1];exact hX) ?_ λσ H' h=>h];refine nm4 ?_;rintro i x σ H' hx ⟨rfl,v1,rfl⟩:_;let#[e,pe,se,hei,rfl,hqe,hse]:=W6 hI hx;right
   erw[yx,aU,aT]
   refine zj (λσ H''=>H''=H'/\σ=[!!a,!!pe]) ?_ ?_
   ·rfl'
    exact#[_,.inr (.inr (.inr #[_,_,rfl,rfl,hqe])),AM,T.tt,Yi #[_,.inr #[_,hqe,rfl],z8 (λh=>w4 rfl h) λZ=>#[_,hqe,_,rfl,se,e.2.2,rfl,hse,AM,rfl,Yi rfl]]]
   rintro σ G ⟨rfl,rfl⟩:_;right
   rfl'
   exact#[_,hqe,_,rfl,_,.inl (.str _),AM,TX.ss,Yi #[_,hqe,_,rfl,_,.inl (.str _),AM,TX.ss,Yi trivial]]
  rintro σ H2 ⟨rfl,v1,rfl⟩:_;right
  rfl'
  exact q
def JA(K:sr):Sp:=λvs H Q Z=>∃(t:su) (rs:List su) (tab:List (List Int)) (l:()),vs=[.ref t,.int (l.length:Nat)]/\TabAt H t rs tab/\xv l tab/\l.length<=6/\∀H',Same H H'->Q (.bl AM) H'
def zdc(h1:TabAt H t rs tab)(h2:xv l tab)(h3:l.length<=6)(q:∀H',Same H H'->Q (.bl AM) H'):JA K [.ref t,.int (l.length:Nat)] H Q E:=#[t,rs,tab,l,rfl,h1,h2,h3,q]
def ou:sQz 2 ["_law_table","_law_many","_law_row"] vx:=by nofun
def Xk(B:Bt mg)(T:TLs K)(F:("_law_table_ok"^^^vx))(og:(1<<<"_law_whole") ["_law_found"] [] ur):(2&&&["_law_table","_law_many"]) (JA K):=by
 exists F.ok ou
 ·let#[t,rs,tab,l,rfl,hT,hG,l6,q]:=h
  refine#[_,(zh (zJ (PW.pt (vF (yd (ym (yI rfl B.isi (pv 0) rfl B.list PySem.Pv.boot_list) (λZ=>rfl))) (wH (zt Xy (zE B.len (pv 0)) zf (zv _))))) (zg (zl yC))
    zp) (zh (zZ p9 rfl (zX (pv 0)) (zr (i:=2) ou.nd rfl (.inl rfl)) (zh (zJ (PW.pt (vF (yd (ym (yI rfl B.isi (pv 2) rfl B.list PySem.Pv.boot_list) (λZ=>rfl))) (wH (zt qG (zE B.len (pv 2)) (pv 1) (zv _))))) (zg (zl yC))
     zp) (zg (zJ (yd (ym (yR (zey rfl) rfl B.all fX (za (yy (own:=["_law_room"]) (caps:=["_law_table"]) (ix:=[0]) (tt:=y4) (te:=(QL (vE ur [] E0 (zI (zW 0) xb)) (kW zfd zfg (tC (.int 0)) (zW 0) (tCB (Xt K) (zI (zW 1) xb))))) rfl (zH (sc:=zi vx) rfl (!0) (!0) (!0) rfl (!0) (!0) rfl) (zX (pv 2)) (λZ Z Z Z Z Z=>zr (i:=0) (show List.Nodup [_,_] by decide) rfl (.inl rfl)) (λZ Z Z Z Z Z=>z7) (λZ Z Z Z Z Z=>(jG (cl0 og hr .nil rfl (za (pv 0) ze)) (jE (Vy wF JU zf (pv 0) (zE B.len (pv 1))))))) ze)) (λZ=>rfl))) (zg (zl yC))
     zp)))) (zg (zl yC)))),?_]
  have s16:=zS;have s16:=zS;have hlo:=hG.lo;have hhi:=hG.hi;have hln:=hT.len;change H'=H/\σ=[!!t,AK (.int (l.length:Nat)),AL]
  ·rfl'
   exact#[_,.inr (.inr (.inl #[_,_,rfl,rfl,SqL.of hT.top])),AM,T.ll,Yi #[_,.inl #[_,SqL.of hT.top,rfl],z8 (λh=>by rw[aa]at h;lia) λZ=>trivial]]
  rintro σ H1 ⟨rfl,rfl⟩:_;right;change Same H1 H'/\∃v2,σ=[!!t,AK (.int (l.length:Nat)),v2]
  ·rfl'
   refine#[#[_,SqL.of hT.top],ForL.by (xs:=rs.map V.ref) (λi σ H'=>Same H1 H'/\∃v2,σ=[!!t,AK (.int (l.length:Nat)),v2]) #[Same.refl _,_,rfl] (λi σ H' Z h=>SqL.of (h.1 _ _ hT.top)) ?_ λσ H' h=>h];refine nm4 ?_;rintro i x σ H' hx ⟨hs,v2,rfl⟩:_;rw[au]at hx;let#[r,hr,rfl]:=AZ.mp hx;have hil:=(AS.mp hr).1;have hy:tab[i]? = AK (tab[i]'⋯):=af ⋯;right;generalize tab[i]'⋯=y at hy;have hym:=ac hy;have hR:=hs _ _ (hT.row i r y hr hy)
   erw[yx,aU,aT]
   refine zj (λσ G=>G=H'/\σ=[!!t,AK (.int (l.length:Nat)),!!r]) ?_ ?_
   ·rfl'
    exact#[_,.inr (.inr (.inl #[_,_,rfl,rfl,SqL.of hR])),AM,T.ll,Yi #[_,.inl #[_,SqL.of hR,rfl],z8 (λh=>w4 (by rw[aa,hG.wd y hym]) h) λZ=>trivial]]
   rintro σ H2 ⟨rfl,rfl⟩:_;right
   rfl'
   refine#[#[_,SqL.of hR],λD hD=>CompL.by (xs:=y.map V.int) (λi AR G=>Same H2 G/\G D=AK (.lst AR)/\AR=aM i (V.bl AM)) #[zd hD,zb,rfl] (λi AR G Z h=>SqL.of (h.1 _ _ hR)) ?_ ?_]
   ·refine nm4 ?_;rintro n x AR G hx ⟨hs2,hH,rfl⟩:_;rw[au]at hx;let#[z,hz,rfl]:=AZ.mp hx;have hzl:=(AS.mp hz).1;have hzb:=hG.rm y hym z (ac hz);have hyl:=hG.wd y hym;right
    erw[y4]
    rfl'
    have ht2:=hs2 _ _ (hs _ _ hT.top);refine#[yq,jd #[AM,rfl,zfL (z8 (λZ=>#[_,.inl #[_,SqL.of ht2,rfl],hH,by rw[bE];lia,CNx.mk (by rw[aa];exact hzl) #[zu hs2 hD,zb,?_]]) λh=>w4 hzb.1 h)]];rw[aa,u9 ⋯,dj]
   ·rintro AR G ⟨hs2,hH,rfl⟩;refine#[D,aM y.length AM,rfl,?_,?_]
    ·rw[eM,aa]at *;exact SqL.of hH
    ·have e:(aM y.length AM).all id=AM:=by simp
     rw[e];exact#[AM,rfl,Yi (hs.trans hs2)]
  rintro σ H2 ⟨s2,v2,rfl⟩:_;right
  rfl'
  exact q _ s2
structure TAn(K:sr):Prop where
 tt:aS K (.type "tuple") (.type "tuple")=AK AM
 ss:aS K (.type "str") (.type "str")=AK AM
inductive zgW(K:sr)(H:Hp)(l:())(p:su):Prop where
 | open_ (h:H p=AK (.tup [.str "open"]))
 | alike (S:su) (ss:List Stp) (h:H p=AK (.tup [.str "alike",.ref S])) (hS:LsA K H S (ss.map dSt))
 | forms (D:su) (es:List Ent) (f g:()) (h:H p=AK (.tup [.str "forms",.ref D,.str (tx f),.str (tx g)])) (hD:EnsM K H D es)
 | world (t:su) (ts:List su) (tab:List (List Int)) (h:H p=AK (.tup [.str "world",.ref t])) (ht:TabAt H t ts tab) (hG:xv l tab)
theorem JOut.ans(h:JOut K H k l ns rs u v r m p)(hm:m<=8):zgW K H l p:=by
 cases h with
 | alike w es i j S hc hb hi hj he hl hp hS=>exact .alike S _ hp hS
 | forms es i j D hc hb hi hj hn hp hD=>exact .forms D es _ _ hp hD
 | world w es n N t ts hc hb hno h1 h2 h3 h4 h5 hp ht=>exact .world t ts _ hp ht (qU N h1 ⋯)
 | open_ w es hc hb hno h5 hp=>exact .open_ hp
def U8(K:sr):Sp:=λvs H Q Z=>∃(p:su) (l:()),vs=[.ref p,.int (l.length:Nat)]/\l.length<=6/\zgW K H l p/\∀H',Same H H'->Q (.bl AM) H'
def UX:sQz 2 ["_law_found","_law_many"] Ye:=by nofun
def JO(B:Bt mg)(T:TAn K)(F:("_law_answer"^^^Ye))(pj:(2<<<"_law_steps") ["_law_found"] [] (ZX K))(rE:(2<<<"_law_table_ok") ["_law_table","_law_many"] [] (JA K))(rG:(3<<<"_law_entries") ["_law_found"] [] (Q9 K)):(4&&&["_law_found","_law_many"]) (U8 K):=by
 exists F.ok UX
 ·let#[p,l,rfl,l6,hA,q]:=h
  refine#[_,(zh (zJ (PW.pt (vF (yd (ym (yI rfl B.isi (pv 0) rfl B.tuple PySem.Pv.boot_tuple) (λZ=>rfl))) (vF (zt JU (zE B.len (pv 0)) zf (zv _)) (wH (yd (ym (yI rfl B.isi (!-0) rfl B.str PySem.Pv.boot_str) (λZ=>rfl))))))) (zg (zl yC))
    zp) (zh (zJ (zt yW (!-0) zQ (zv _)) (zg (zl (jG (yf yW (zE B.len (pv 0)) zf (zv _)) (jE (cl0 pj hr .nil rfl (za (!-0) ze))))))
    zp) (zh (zJ (zt yW (!-0) zQ (zv _)) (zh (zJ (PW.pt (vF (zt qG (zE B.len (pv 0)) zf (zv _)) (wH (yd (ym (cl0 rG hr .nil rfl (za (!-0) ze)) (λZ=>rfl)))))) (zg (zl yC))
     zp) (zg (zl (jG (yI rfl B.isi (!-0) rfl B.str PySem.Pv.boot_str) (jE (yI rfl B.isi (!-0) rfl B.str PySem.Pv.boot_str))))))
    zp) (zh (zJ (zt yW (!-0) zQ (zv _)) (zg (zl (jG (yf yW (zE B.len (pv 0)) zf (zv _)) (jE (cl0 rE hr .nil rfl (za (!-0) (za (pv 1) ze)))))))
    zp) (zg (zl (yf (Vr (wm hr)) (pv 0) (zN (za zQ ze)) (zv _)))))))),?_]
  have s16:=zS;have s16:=zS;change H'=H/\σ=[!!p,AK (.int (l.length:Nat))]
  ·rfl'
   have key:∀(a:sB) (xs:List V),H p=AK (.tup (.str a::xs))->∃x,TyX K H (.ref p) x/\∃x_1,aS K x (.type "tuple")=AK x_1/\if x_1=AN then Q (.bl AN) H else ∃x,((∃xs,SqL K H p xs/\x=xs.length)\/∃xs,SqT K H p xs/\x=xs.length)/\if (x:Int)<1 then Q (.bl AN) H else ∃xs,SqT K H p xs/\∃v,atI xs 0=AK v/\∃x,TyX K H v x/\∃x_2,aS K x (.type "str")=AK x_2/\if x_2=AN then Q (.bl AN) H else True:=λa xs h =>
    #[_,.inr (.inr (.inr #[_,_,rfl,rfl,SqT.of h])),AM,T.tt,Yi #[_,.inr #[_,SqT.of h,rfl],z8 (λz=>by rw[aC]at z;lia) λZ=>#[_,SqT.of h,.str a,wz (j:=0) rfl,_,.inl (.str _),AM,T.ss,Yi trivial]]]
   cases hA with
   | open_ h=>exact key _ _ h
   | alike S ss h hS=>exact key _ _ h
   | forms D es f g h hD=>exact key _ _ h
   | world t ts tab h ht hG=>exact key _ _ h
  rintro σ H1 ⟨rfl,rfl⟩:_;have skip:∀{a b:sB} {xs:List V} {A:Prop} {B:Prop},H1 p=AK (.tup (.str a::xs))->a≠b->B->∃xs,SqT K H1 p xs/\∃v,atI xs 0=AK v/\J4 v (.str b)=AM/\if v=.str b then A else B:=λ{a b xs A B} h hne hB=>#[_,SqT.of h,.str a,wz (j:=0) rfl,rfl,z8 (λz=>w4 (V.str.inj z) hne) λZ=>hB];right
  cases hA with
  | alike S ss h hS =>
   refine jz (λZ Z=>False) ?_ λZ Z h=>h.elim
   rfl'
   exact#[_,SqT.of h,_,rfl,rfl,z8 (λZ=>#[_,.inr #[_,SqT.of h,rfl],z8 (λZ=>#[_,SqT.of h,_,rfl,S,ss,rfl,hS.is,q _ (Same.refl _)]) λz=>w4 rfl z]) λz=>w4 rfl z]
  | forms D es f g h hD =>
   change H'=H1/\σ=[!!p,AK (.int (l.length:Nat))]
   ·rfl'
    exact skip h ∅ trivial
   rintro σ H2 ⟨rfl,rfl⟩:_;right;refine jz (λZ Z=>False) ?_ λZ Z h=>h.elim
   rfl'
   refine#[_,SqT.of h,_,rfl,rfl,z8 (λZ=>?_) λz=>w4 rfl z];change H'=H2/\σ=[!!p,AK (.int (l.length:Nat))]
   ·rfl'
    exact#[_,.inr #[_,SqT.of h,rfl],z8 (λz=>w4 rfl z) λZ=>#[_,SqT.of h,_,rfl,D,es,rfl,hD.l.is,AM,rfl,Yi rfl]]
   rintro σ H3 ⟨rfl,rfl⟩:_;right
   rfl'
   exact#[_,SqT.of h,_,rfl,_,.inl (.str _),AM,T.ss,zfL #[_,SqT.of h,_,rfl,_,.inl (.str _),AM,T.ss,q _ (Same.refl _)]]
  | world t ts tab h ht hG =>
   change H'=H1/\σ=[!!p,AK (.int (l.length:Nat))]
   ·rfl'
    exact skip h ∅ trivial
   rintro σ H2 ⟨rfl,rfl⟩:_;right;change H'=H2/\σ=[!!p,AK (.int (l.length:Nat))]
   ·rfl'
    exact skip h ∅ trivial
   rintro σ H3 ⟨rfl,rfl⟩:_;right;refine jz (λZ Z=>False) ?_ λZ Z h=>h.elim
   rfl'
   exact#[_,SqT.of h,_,rfl,rfl,z8 (λZ=>#[_,.inr #[_,SqT.of h,rfl],z8 (λZ=>#[_,SqT.of h,_,rfl,zdc ht hG l6 q]) λz=>w4 rfl z]) λz=>w4 rfl z]
  | open_ h =>
   change H'=H1/\σ=[!!p,AK (.int (l.length:Nat))]
   ·rfl'
    exact skip h ∅ trivial
   rintro σ H2 ⟨rfl,rfl⟩:_;right;change H'=H2/\σ=[!!p,AK (.int (l.length:Nat))]
   ·rfl'
    exact skip h ∅ trivial
   rintro σ H3 ⟨rfl,rfl⟩:_;right;change H'=H3/\σ=[!!p,AK (.int (l.length:Nat))]
   ·rfl'
    exact skip h ∅ trivial
   rintro σ H4 ⟨rfl,rfl⟩:_;right
   rfl'
   refine#[⋯,λp1 hp1=>Z4 (l:=[.str "open"]) (m:=[.str "open"]) (.inr #[?_,?_]) ∅ ?_]
   ·erw[Is,Iss]
    exact#[_,_,rfl,SqT.of (zd hp1 _ _ h),_,_,rfl,rfl,rfl]
   ·erw[Is,Iss]
    exact#[_,_,rfl,SqT.of zb,_,_,rfl,rfl,rfl]
   ·rw[y8];exact q _ (zd hp1)
end in def lgR(p:zC):zC:=if p.1.length<p.2.length then (p.2,p.1)else p
theorem YT(rs:List zC):∀n,n<=rs.length->zc (fEs rs n)=rs.take n
 | 0,_=>by simp [fEs,zc]
 | n+1,h=>by
  have ih:=YT rs n ⋯;have e:rs[n]? = AK (rs[n]'⋯):=af ⋯;rw[zO e,<- ih]
  erw[fEs,zc,aq]
  congr 1;rw[e];rfl
theorem Ky(hs:∀p ∈ ps,p.2.length<p.1.length){w:()}:∀{i:Nat},Yd ps w i->(wAt ps w i).length+i<=w.length
 | 0,_=>ao _
 | i+1,h=>by
  have ih:=Ky hs (i:=i) λj hj=>h j ⋯
  cases e:zF (wAt ps w i) ps with
  | none=>exact w4 e (h i ⋯)
  | some u =>
   let#[p,h1,h2]:=z5 e;let#[e1,_]:=yo h2;rw[yZ e];unfold qO yS;rw[yu h1];have e2:=congrArg dP e1;have:=hs p (ac h1)
   erw[ak]at e2 ⊢
   lia
theorem vC{w:()}(h:EndsAt ps w i):goJ ps 40 w=AK i:=by
 cases e:goJ ps 40 w with
 | none=>exact w4 h.end_ (Vb e i h.most)
 | some j =>
  let#[_,h2,h3]:=Ya e;rw[uJ h2 h3 h.live h.end_]
def AtF(v:())(ps:List zC)(i:Nat)(x y:Int):Prop:=∃r,FirstN v ps 0 v.length i r/\((r=AL/\x=(v.length:Int)+1)\/∃j n:Nat,r=AK (j,n)/\j<i/\n<v.length/\x=(n:Int)/\y=(j:Int))
def st_of{q:Nat}:zw v (q:Int) o=AM ↔ q+o.length<=v.length/\(v.drop q).take o.length=o:=by unfold zw;rw[decide_eq_true_eq,aE];exact#[λh=>#[⋯,h.2.2],λh=>#[⋯,⋯,h.2]]
set_option tactic.hygienic true in
def AtF.next(h:AtF v ps i x y)(hr:ps[i]? = AK r)(hne:r.1≠[])(hz:zfC v r.1 z):(z<0->AtF v ps (i+1) x y)/\(0<=z->if z<x\/(z=x/\(i:Int)<y)then AtF v ps (i+1) z (i:Int)else AtF v ps (i+1) x y):=by
 let#[r0,hF,hx]:=h
 have lift:FirstN v ps 0 v.length (i+1) r0->AtF v ps (i+1) x y:=λhF'=>by
  refine#[r0,hF',?_];rcases hx with hx | ⟨j,n,h1,h2,h3⟩
  ·exact .inl hx
  ·exact .inr #[j,n,h1,⋯,h3]
 have hpos:0<r.1.length:=Be.mpr hne;rcases hz with ⟨rfl,hz⟩ | ⟨q,rfl,h1,h2⟩
 ·refine#[λZ=>lift (hF.keep hr λq Z Z=>?_),λh=>by lia];rw[Bool.eq_false_iff];exact λh=>hz q (st_of.mp h)
 ·refine#[λh=>by lia,λZ=>?_]
  have fst:∀q':Nat,0<=q'->q'<q->zw v (q':Int) r.1=AN:=λq' Z hq=>by
   rw[Bool.eq_false_iff];exact λh=>h2 q' hq (st_of.mp h)
  split
  ·rename_i hlt
   have hqx:(q:Int)<x:=by
    rcases hlt with h | ⟨h,hy⟩
    ·exact h
    ·rcases hx with ⟨_,rfl⟩ | ⟨j,n,_,hj,_,_,rfl⟩
     ·lia
     ·lia
   refine#[AK (i,q),hF.take hr (aD _) ?_ (st_of.mpr h1) fst,.inr #[i,q,rfl,⋯,⋯,rfl,rfl]];rcases hx with ⟨rfl,rfl⟩ | ⟨j,n,rfl,_,_,rfl,_⟩
   ·show q<v.length;lia
   ·show q<n;lia
  ·rename_i hlt;refine lift (hF.keep hr λq' Z hq=>fst q' (aD _) ?_);rcases hx with ⟨rfl,rfl⟩ | ⟨j,n,rfl,_,_,rfl,_⟩
   ·exact w4 (.inl ⋯) hlt
   ·have:q'<n:=hq;have:¬ (q:Int)<(n:Int):=λh=>hlt (.inl h);lia
theorem zaM(hs:∀p ∈ ps,p.2.length<=p.1.length){w:()}:∀{i:Nat},Yd ps w i->(wAt ps w i).length<=w.length
 | 0,_=>ao _
 | i+1,h=>by
  have ih:=zaM hs (i:=i) λj hj=>h j ⋯
  cases e:zF (wAt ps w i) ps with
  | none=>exact w4 e (h i ⋯)
  | some u =>
   let#[p,h1,h2]:=z5 e;let#[e1,_]:=yo h2;rw[yZ e];unfold qO yS;rw[yu h1];have e2:=congrArg dP e1;have:=hs p (ac h1)
   erw[ak]at e2 ⊢
   lia
structure ShP(ps:List zC):Prop where
 ne:NeL ps
 sh:∀p ∈ ps,p.2.length<=p.1.length
 ms:∃μ:()->Nat,∀p ∈ ps,∀a b:(),μ (a ++ p.2 ++ b)+2<=μ (a ++ p.1 ++ b)
 s:∀p ∈ ps,p.1.length<=60
 n:ps.length<=1000
def jN(K:sr):Sp:=λvs H Q Z=>∃(a:su) (ps:List zC) (w:()),vs=[.ref a,.str (tx w)]/\LsA K H a (ps.map dR)/\ShP ps/\w.length<=100/\∀(i:Nat) (H':Hp),Same H H'->Yd ps w i->zF (wAt ps w i) ps=AL->Q (.str (tx (wAt ps w i))) H'
structure HMn(mg:sB->Option sv):Prop where
 m:mg "min" = AL
def iK:sQz 2 ["_law_rules","_law_word_here","_law_first","_law_number","_law_rule","_law_at","_law_behind"] UO:=by nofun
def zch(B:Bt mg)(HM:HMn mg)(F:("_law_form"^^^UO)):(1&&&["_law_rules","_law_word_here"]) (jN K):=by
 exists F.ok iK
 ·let#[a,ps,w,rfl,hA,hP,hwl,q]:=h
  refine#[_,(zg (uI p9 (ym yC (λZ=>rfl)) (zh (zB 2 iK.nd (zN (za (zD yz (zE B.len (pv 1)) zf) (za zf ze)))) (zh (zZ p9 rfl (xH rfl B.enum (za (pv 0) ze)) (qr (n:=2) rfl (ye (zr (i:=3) iK.nd rfl (.inl rfl)) (ye (zr (i:=4) iK.nd rfl (.inl rfl)) vb))) (zh (zB 5 iK.nd (wL bz dc de zcF (pv 1) (za (!-4) ze))) (zg (zJ (zt op_ge' (pv 5) zf (zv _)) (zg (zB 2 iK.nd (yR (zdX rfl (wm hr)) rfl HM.m PyProof.Rows.boot_min (za (pv 2) (za (zN (za (pv 5) (za (pv 3) ze))) ze)))))
      zp)))) (zh (zJ (zt UG (!-2) (zE B.len (pv 1)) (zv _)) (zg (zl (pv 1)))
     zp) (zh (zB 4 iK.nd (zk ix_list (pv 0) (!-2))) (zh (zB 6 iK.nd (zY xY (pv 1) (z6 (zD yz (!-2) (zE B.len (!-4)))) yG)) (zg (zB 1 iK.nd (zD zL (zD zL (zY xY (pv 1) yG (z6 (!-2))) (!-4)) (pv 6))))))))))),?_]
  have s16:=zS;let#[xs,hX,hI]:=id hA;have hxl:=hI.len;rw[aa]at hxl;have hpn:=hP.n;let#[μ,hμ]:=hP.ms;unfold YB;refine#[λm σ H'=>Same H H'/\∃(k:Nat) (v2 v3 v4 v5 v6:Option V),(m=μ (wAt ps w k)/\Yd ps w k)/\σ=[!!a,AK (.str (tx (wAt ps w k))),v2,v3,v4,v5,v6],#[_,Same.refl _,0,AL,AL,AL,AL,AL,#[rfl,λi hi=>w4 hi (bI i)],rfl],?_];rintro m σ H1 ⟨s1,k,v2,v3,v4,v5,v6,⟨rfl,hk⟩,rfl⟩;have hvl:=zaM hP.sh hk
  rfl'
  refine#[λσ' H''=>Same H H''/\∃(u:Nat × Nat) (v2 v3 v4 v5 v6:Option V),zF (wAt ps w k) ps=AK u/\σ'=[!!a,AK (.str (tx (qO (wAt ps w k) ps u))),v2,v3,v4,v5,v6],?_,?_]
  ·rintro σ' H'' ⟨s2,u,v2,v3,v4,v5,v6,h,rfl⟩
   have hk1:Yd ps w (k+1):=λi hi=>by
    by_cases e:i=k
    ·rw[e,h];intro z;cases z
    ·exact hk i ⋯
   have e:=yZ h
   have m1:μ (wAt ps w (k+1))<μ (wAt ps w k):=by
    let#[p,h1,h2]:=z5 h;let#[e1,_]:=yo h2;rw[e];unfold qO yS;rw[yu h1];have:=hμ p (ac h1) ((wAt ps w k).take ((u.2:Int)).toNat) ((wAt ps w k).drop (((u.2:Int)).toNat+p.1.length));rw[e1]at this;lia
   exact#[_,m1,s2,k+1,rfl,hk1,v2,v3,v4,v5,v6,by rw[e]]
  generalize hv:wAt ps w k=v at hvl;change Same H H'/\∃q:su,H' q=AK (.tup [.int ((v.length:Int)+1),.int 0])/\σ=[!!a,~~~v,!!q,v3,v4,v5,v6]
  ·rfl'
   exact#[⋯,⋯,λp hp=>#[s1.trans (zd hp),zb]]
  rintro σ H2 ⟨s2,q0,hq0,rfl⟩:_;right;change Same H H'/\∃(q0:su) (x y:Int),H' q0=AK (.tup [.int x,.int y])/\AtF v ps ps.length x y/\∃v3 v4 v5:Option V,σ=[!!a,~~~v,!!q0,v3,v4,v5,v6]
  ·rfl'
   refine#[#[_,SqL.of (s2 _ _ hX)],ForEL.by (xs:=xs) (λi σ H'=>Same H H'/\∃(q0:su) (x y:Int),H' q0=AK (.tup [.int x,.int y])/\AtF v ps i x y/\∃v3 v4 v5:Option V,σ=[!!a,~~~v,!!q0,v3,v4,v5,v6]) #[s2,q0,_,_,hq0,#[AL,.inl #[rfl,λj q h=>w4 h (bI _)],.inl #[rfl,rfl]],v3,v4,v5,rfl] (λi σ H' Z h=>SqL.of (h.1 _ _ hX)) ?_ ?_]
   ·rintro i x σ H3 p3 hx ⟨s3,q0,x0,y0,hq0,hat,v3,v4,v5,rfl⟩ hp3;have hi:=(AS.mp hx).1;let#[r,p,hr,rfl,hsq]:=hI.getR hx;have sp3:=zd (o:=.tup [.int (i:Nat),.ref p]) hp3;have s4:=s3.trans sp3;have hq4:=sp3 _ _ hq0;have hsq4:=zo s4 hsq
    rfl'
    refine#[_,SqT.of zb,rfl,_,_,rfl,_,_,rfl,rfl,?_];generalize upd H3 p3 (.tup [.int (i:Nat),.ref p])=H4 at s4 hq4 hsq4;change H'=H4/\∃z:Int,zfC v r.1 z/\σ=[!!a,~~~v,!!q0,-~~~i,!!p,~~~!z,v6]
    ·rfl'
     exact#[_,hsq4,_,rfl,v,r.1,rfl,rfl,λz hz=>#[rfl,z,hz,rfl]]
    rintro σ H5 ⟨rfl,z,hz,rfl⟩:_;have hnx:=hat.next hr (hP.ne r (ac hr)) hz;right
    rfl'
    refine z8 (λh0=>#[⋯,λp5 hp5=>?_]) λh0=>#[s4,q0,x0,y0,hq4,hnx.1 ⋯,rfl];have sp5:=zd (o:=.tup [.int z,.int (i:Nat)]) hp5;refine#[q0,p5,x0,y0,z,(i:Nat),rfl,SqT.of (sp5 _ _ hq4),SqT.of zb,s4.trans sp5,?_];have hy:=hnx.2 h0;by_cases g:z<x0\/(z=x0/\(i:Int)<y0)
    ·rw[w6 g]at hy ⊢;exact#[p5,_,_,zb,hy,rfl]
    ·rw[w9 g]at hy ⊢;exact#[q0,_,_,sp5 _ _ hq4,hy,rfl]
   ·rintro σ H' ⟨s',q0,x,y,h1,h2,v3,v4,v5,rfl⟩;exact#[s',q0,x,y,h1,by rw[<- hxl];exact h2,v3,v4,v5,rfl]
  rintro σ H3 ⟨s3,q0,x,y,hq0,⟨r0,hF,hat⟩,v3,v4,v5,rfl⟩:_;have hfu:=ZK hF;right;change H'=H3/\(∃(n j:Nat) (p:zC),x=(n:Int)/\y=(j:Int)/\ps[j]? = AK p/\zw v (n:Int) p.1=AM/\zF v ps=AK (j,n))/\σ=[!!a,~~~v,!!q0,v3,v4,v5,v6]
  ·rfl'
   refine#[_,SqT.of hq0,_,rfl,⋯,_,rfl,z8 (λhg=>?_) λhg=>?_]
   ·rcases hat with ⟨rfl,_⟩ | ⟨j,n,_,_,hn,rfl,_⟩
    ·rw[<- hv]at hfu ⊢;exact q k H3 s3 hk hfu.symm
    ·lia
   ·let#[j,n,rfl,_,_,h1,h2]:=hat.resolve_left λh=>hg (by have:=h.2;lia);let#[p,g1,g2]:=z5 hfu.symm;exact#[n,h1,j,h2,p,g1,g2,hfu.symm]
  rintro σ H4 ⟨rfl,⟨n,j,r,rfl,rfl,hr,hst,hfu⟩,rfl⟩:_;let#[hn1,hn2]:=st_of.mp hst;have hrm:=ac hr;have hrl:=hP.s r hrm;have hrs:=hP.sh r hrm
  obtain⟨x3,hx3,hsq3⟩:∃p3:su,xs[j]? = AK (.ref p3)/\SqT K H4 p3 [.str (tx r.1),.str (tx r.2)]:=by
   have hj:=(AS.mp hr).1;have hx:xs[j]? = AK (xs[j]'⋯):=af ⋯;let#[r',p,hr',e,hsq]:=hI.getR hx;rw[hr]at hr';cases hr';exact#[p,by rw[hx,e],zo s3 hsq]
  right;change H'=H4/\σ=[!!a,~~~v,!!q0,v3,!!x3,v5,v6]
  ·rfl'
   exact#[_,SqT.of hq0,_,rfl,_,rfl,_,SqL.of (s3 _ _ hX),wz hx3]
  rintro σ H5 ⟨rfl,rfl⟩:_;right;change H'=H5/\σ=[!!a,~~~v,!!q0,v3,!!x3,v5,AK (.str (tx (v.drop (n+r.1.length))))]
  ·rfl'
   refine#[_,SqT.of hq0,_,rfl,_,hsq3,_,rfl,_,#[by rw[zR];lia,rfl],_,rfl,⋯,?_];rw[zR,<- Int.natCast_add,wA v (cD _),aE]
  rintro σ H6 ⟨rfl,rfl⟩:_;right
  rfl'
  have e:v.take n ++ r.2 ++ v.drop (n+r.1.length)=qO v ps (j,n):=by
   unfold qO yS;rw[yu hr];rfl
  refine#[_,SqT.of hq0,_,rfl,_,rfl,⋯,_,hsq3,_,rfl,_,rfl,?_,?_,s3,_,hfu,?_]
  all_goals erw[zR,xZ,qw v (cD _),aE,ak,aH,aZ]
  ·lia
  ·lia
  ·rw[e]
def Alk(rs rs':List zC):Prop:=rs'.length=rs.length/\∀g:zC->zC,(∀p ∈ rs,g (p.2,p.1)=g p)->(rs'.map g).Perm (rs.map g)
def Alk.snoc(h:Alk rs rs')(e:r'=r\/r'=(r.2,r.1)):Alk (rs ++ [r]) (rs' ++ [r']):=by
 refine#[by rw[ak,ak,h.1];rfl,λg hg=>?_];rw[aq,aq]
 have e':g r'=g r:=by
  rcases e with rfl | rfl
  ·rfl
  ·exact hg r (aG _ ay)
 rw[am,am,e'];exact (h.2 g λp hp=>hg p (bH _ hp)).append_right _
def Alk.perm(h:Alk rs rs1)(e:rs2.Perm rs1):Alk rs rs2:=#[e.length_eq.trans h.1,λg hg=>(e.map g).trans (h.2 g hg)]
theorem Iss.drop : ∀(n:Nat) {l:List L3.D} {vs:List V},Iss K H l vs->Iss K H (l.drop n) (vs.drop n)
 | 0,_,_,h=>h
 | n+1,[],vs,h=>by
  erw[Iss]at h
  subst h
  erw[List.drop_nil,Iss]
 | n+1,d::l,vs,h=>by
  erw[Iss]at h
  let#[v,r,rfl,_,h2]:=h;exact Iss.drop n h2
theorem Iss.take : ∀(n:Nat) {l:List L3.D} {vs:List V},Iss K H l vs->Iss K H (l.take n) (vs.take n)
 | 0,_,_,_=>by erw[bA,Iss]
 | n+1,[],vs,h=>by
  erw[Iss]at h
  subst h
  erw[List.take_nil,Iss]
 | n+1,d::l,vs,h=>by
  erw[Iss]at h
  let#[v,r,rfl,h1,h2]:=h
  erw[dq,Iss]
  exact#[v,_,rfl,h1,Iss.take n h2]
theorem Iss.rev : ∀{l:List L3.D} {vs:List V},Iss K H l vs->Iss K H l.reverse vs.reverse
 | [],vs,h=>by
  erw[Iss]at h
  subst h
  erw[List.reverse_nil,Iss]
 | d::l,vs,h=>by
  erw[Iss]at h
  let#[v,r,rfl,h1,h2]:=h;rw[dL,dL];exact Iss.append (Iss.rev h2) (by erw[Iss];exact#[v,[],rfl,h1,rfl])
def Xa(K:sr):Sp:=λvs H Q Z=>∃(a:su) (c:Int) (rs:List zC),vs=[.ref a,.int c]/\kh c/\LsA K H a (rs.map dR)/\rs.length<=20/\∀(D:su) (H':Hp) (rs':List zC),Same H H'->LsA K H' D (rs'.map dR)->Alk rs rs'->Q (.ref D) H'
def lT:sQz 2 ["_law_pacts","_law_cell_here","_law_at"] ut:=by nofun
def Ja(B:Bt mg)(F:("_law_turned"^^^ut))(lA:(1<<<"_law_mixed") ["_law_cell_here","_law_turn"] [] wB):(2&&&["_law_pacts","_law_cell_here"]) (Xa K):=by
 exists F.ok lT
 ·let#[a,c,rs,rfl,hc,hA,hrl,q]:=h
  refine#[_,(zh (yT (i:=0) lT.nd rfl (Or.inr rfl) (yy (g:=zbO K 2 (kH (yx 0) (kH (yx 1) zcG))) (own:=["_law_k","_law_pact"]) (caps:=["_law_cell_here"]) (ix:=[1]) (tt:=y4) (te:=(tIf (Wf (tOp rEq (tOp (rI (λZ j=>0<j) λi j=>.int (i % j)) (vE wB [] E0 (zI (zW 2) (zI (tOp ZI (tC (.int 11)) (zW 0)) xb))) (tC (.int 2))) (tC (.int 0)))) (zW 1) (Um (zI (tOp (ud K) (zW 1) (tC (.int 1))) (zI (tOp (ud K) (zW 1) (tC (.int 0))) xb))))) rfl (zH (sc:=zi ut) rfl (!0) (!0) (!0) rfl (!0) (!0) rfl) (xH rfl B.enum (za (pv 0) ze)) (λZ Z Z Z Z Z=>qr (n:=2) rfl (ye (zr (i:=0) (show List.Nodup [_,_,_] by decide) rfl (.inl rfl)) (ye (zr (i:=1) (show List.Nodup [_,_,_] by decide) rfl (.inl rfl)) vb))) (λZ Z Z Z Z Z=>z7) (λZ Z Z Z Z Z=>(xE (zt yW (zD xp (cl0 lA hr .nil rfl (za (pv 2) (za (zD qb zf (pv 0)) ze))) zf) zf (zv _)) (pv 1) (zN (za (!-1) (za (!-1) ze))))))) (zh (zB 2 lT.nd (zD xp (cl0 lA hr .nil rfl (za (pv 1) (za zf ze))) (yR (Vj rfl) rfl B.max uF (za zf (za (zE B.len (pv 0)) ze))))) (zh (yT (i:=0) lT.nd rfl (Or.inr rfl) (zD jl (zY uR (pv 0) (z6 (pv 2)) yG) (zY uR (pv 0) yG (z6 (pv 2))))) (zh (zJ (zt yW (zD xp (cl0 lA hr .nil rfl (za (pv 1) (za zf ze))) zf) zf (zv _)) (zg (yT (i:=0) lT.nd rfl (Or.inr rfl) (yy (own:=["_law_k"]) (caps:=["_law_pacts"]) (ix:=[0]) (tt:=y4) (te:=(tOp (zdk K) (zW 1) (tOp (rI0 λi j=>.int (i - j)) (tOp (rI0 λi j=>.int (i - j)) (tCB (Xt K) (zI (zW 1) xb)) (tC (.int 1))) (zW 0)))) rfl (zH (sc:=zi ut) rfl (!0) (!0) (!0) rfl (!0) (!0) rfl) (zV rfl B.range (za (zE B.len (pv 0)) ze)) (λZ Z Z Z Z Z=>zr (i:=0) (show List.Nodup [_,_] by decide) rfl (.inl rfl)) (λZ Z Z Z Z Z=>z7) (λZ Z Z Z Z Z=>(zk ix_list (pv 1) (zD xD (zD xD (zE B.len (pv 1)) zf) (pv 0)))))))
    zp) (zg (zl (pv 0))))))),?_]
  have s16:=zS;let#[xs,hX,hI]:=id hA;have hxl:=hI.len;rw[aa]at hxl;change Same H H'/\∃D:su,(∃rs1:List zC,LsA K H' D (rs1.map dR)/\Alk rs rs1)/\σ=[!!D,~~~!c,AL]
  ·rfl'
   rw[zax]
   rfl'
   refine#[#[_,SqL.of hX],λD hD=>CompEL.by (xs:=xs) (λi AR H'=>Same H H'/\H' D=AK (.lst AR)/\∃rs1:List zC,Iss K H' (rs1.map dR) AR/\Alk (rs.take i) rs1) #[zd hD,zb,[],by erw[aA,Iss],rfl,λZ Z=>.refl _] (λi AR H' Z h=>SqL.of (h.1 _ _ hX)) ?_ ?_]
   ·rintro i x AR H' p hx ⟨hs,hH,rs1,hIs,hAk⟩ hp;have hil:=(AS.mp hx).1;let#[r,pr,hri,rfl,hqr]:=hI.getR hx;have u1:=zd (o:=HO.tup [.int (i:Nat),.ref pr]) hp;have hq:=zo (hs.trans u1) hqr;have hal:=hIs.len;rw[aa,hAk.1,aH]at hal;have et:rs.take (i+1)=rs.take i ++ [r]:=zO hri;refine zd1 (SqT.of zb) ?_
    erw[y4]
    have hs1:=hs.trans u1;have hH1:=u1 _ _ hH;have hI1:=Iss.same u1 _ _ hIs;generalize upd H' p (.tup [.int (i:Nat),.ref pr])=H1 at hq hs1 hH1 hI1
    rfl'
    refine#[zaw,wU hc ⋯ ⋯ λz Z=>#[z,rfl,∅,z8 (λZ=>#[hH1,⋯,CNx.mk hil #[zu hs1 hD,zb,rs1 ++ [r],?_,by rw[et];exact hAk.snoc (.inl rfl)]]) λZ=>#[_,hq,_,rfl,_,hq,_,rfl,⋯,λp2 hp2=>#[zd hp2 _ _ hH1,⋯,CNx.mk hil #[zu (hs1.trans (zd hp2)) hD,zb,rs1 ++ [(r.2,r.1)],?_,by rw[et];exact hAk.snoc (.inr rfl)]]]]]
    ·rw[aq];let#[ys,hY,hJ]:=LsA.snoc hH1 hI1 (wu rs1) (qe r) (vZ hq);rw[zb]at hY;cases hY;exact hJ
    ·rw[aq];have u2:=zd (o:=HO.tup [.str (tx r.2),.str (tx r.1)]) hp2;let#[ys,hY,hJ]:=LsA.snoc (u2 _ _ hH1) (Iss.same u2 _ _ hI1) (wu rs1) (qe (r.2,r.1)) (vZ (SqT.of zb));rw[zb]at hY;cases hY;exact hJ
   ·rintro AR H' ⟨hs,hH,rs1,hIs,hAk⟩;rw[hxl,aK]at hAk;exact#[hs,D,#[rs1,#[AR,hH,hIs],hAk],rfl]
  rintro σ H1 ⟨s1,D,⟨rs1,hL1,hAk⟩,rfl⟩:_;let#[x1,hX1,hI1]:=id hL1;have hx1l:=hI1.len;have ha1:=hAk.1;rw[aa]at hx1l;right;change H'=H1/\∃n:Nat,n<=x1.length/\σ=[!!D,~~~!c,-~~~n]
  ·rfl'
   refine wU hc ∅ ∅ λz hz=>#[_,.inl #[_,SqL.of hX1,rfl],z,rfl,by split <;> lia,rfl,?_];by_cases g:(x1.length:Int) > 1
   ·have m0:=cz z (b:=(x1.length:Int)) ⋯;have m1:=cp z (b:=(x1.length:Int)) ⋯;rw[w6 g];exact#[(z % (x1.length:Int)).toNat,⋯,⋯]
   ·rw[w9 g];exact#[0,aD _,⋯]
  rintro σ H1 ⟨rfl,n,hn,rfl⟩:_;right;change Same H H'/\∃D:su,(∃rs1:List zC,LsA K H' D (rs1.map dR)/\Alk rs rs1)/\σ=[!!D,~~~!c,-~~~n]
  ·rfl'
   have e1:Vv x1 (AK (n:Int)) AL=x1.drop n:=wA x1 (cD n);have e2:Vv x1 AL (AK (n:Int))=x1.take n:=qw x1 (cD n);refine#[_,SqL.of hX1,?_]
   erw[e1]
   refine λp hp=>#[_,SqL.of (zd hp _ _ hX1),?_]
   erw[e2]
   intro p1 hp1;refine#[_,zd hp1 _ _ zb,_,zb,by rw[aZ,aH];lia,λp2 hp2=>?_];have ss:=(zd (o:=.lst (x1.drop n)) hp).trans ((zd (o:=.lst (x1.take n)) hp1).trans (zd (o:=.lst (x1.drop n ++ x1.take n)) hp2));refine#[s1.trans ss,rs1.drop n ++ rs1.take n,#[_,zb,?_],hAk.perm ?_]
   ·rw[aq,cQ,cP];exact Iss.same ss _ _ (Iss.append (Iss.drop n hI1) (Iss.take n hI1))
   ·exact List.perm_append_comm.trans (.of_eq (cf n rs1))
  rintro σ H2 ⟨s2,D2,⟨rs2,hL2,hAk2⟩,rfl⟩:_;let#[x2,hX2,hI2]:=id hL2;have hx2l:=hI2.len;have ha2:=hAk2.1;rw[aa]at hx2l;right;change Same H H'/\∃D:su,(∃rs1:List zC,LsA K H' D (rs1.map dR)/\Alk rs rs1)/\σ=[!!D,~~~!c,-~~~n]
  ·rfl'
   refine wU hc ∅ ∅ λz hz=>#[z,rfl,∅,z8 (λZ=>#[_,.inl #[_,SqL.of hX2,rfl],⋯,⋯,λJ hJ=>CompR.by (λi AR H'=>Same H2 H'/\H' J=AK (.lst AR)/\AR=x2.reverse.take i) #[zd hJ,zb,rfl] ?_ ?_]) λZ=>#[s2,rs2,hL2,hAk2]]
   ·refine nm3 ?_;rintro i AR H' hi ⟨hs,hH,rfl⟩:_;rw[aE]at hi
    have hr:x2.reverse[i]? = AK (x2[x2.length - 1 - i]'⋯):=by
     rw[bq hi,af ⋯]
    right
    erw[y4]
    rfl'
    refine#[yq,_,.inl #[_,SqL.of (hs _ _ hX2),rfl],_,SqL.of (hs _ _ hX2),x2[x2.length - 1 - i]'⋯,?_,hH,by rw[aH,br];lia,CNx.mk (by rw[aE];exact hi) #[zu hs hJ,zb,?_]]
    ·rw[show (x2.length:Int) - 1 - (0+(i:Int))=((x2.length - 1 - i:Nat):Int) by lia];exact wz (af ⋯)
    ·rw[zO hr]
   ·rintro AR H' ⟨hs,hH,rfl⟩;rw[aE,<- br,aK]at hH;refine#[s2.trans hs,J,#[rs2.reverse,#[_,hH,?_],hAk2.perm (List.reverse_perm rs2)],rfl];rw[dh];exact Iss.same hs _ _ (Iss.rev hI2)
  rintro σ H3 ⟨s3,D3,⟨rs3,hL3,hAk3⟩,rfl⟩:_;right
  rfl'
  exact q D3 H3 rs3 s3 hL3 hAk3
theorem Xn:∀ws:List (()),Str.join (tx []) (ws.map tx)=tx ws.flatten
 | []=>rfl
 | [w]=>by
  show tx w=_;simp
 | w::v::r=>by
  have ih:=Xn (v::r);show tx w ++ tx [] ++ Str.join (tx []) ((v::r).map tx)=_;rw[ih,xZ,xZ];simp
def W5{ws:List (())}(h:ws.flatten.length<=100000):JoinOk (tx []) (ws.map tx)=AM:=by
 have s16:=zS
 have hf:∀(l:List (())) (n:Nat),(l.map tx).foldl (λa y=>a+y.length+0) n=n+l.flatten.length:=λl=>by
  induction l with
  | nil=>intro n;rfl
  | cons c r ih =>
   intro n;rw[am,List.foldl_cons,ih,zR,dM,ak];lia
 have e:JoinOk (tx []) (ws.map tx)=!PySem.Builtin.Str.tooLong ((ws.map tx).foldl (λa y=>a+y.length+0) 0):=by
  unfold JoinOk;rw[List.foldl_toArray];rfl
 rw[e,hf];unfold PySem.Builtin.Str.tooLong;rw[dN,decide_eq_false_iff_not];lia
end in def dK3(k:Nat)(l:())(r:zC):List L3.D:=[.int (r.1.length:Nat),.lst ((w8 k l r.1).map L3.D.int),dR r]
end in def wa(k:Nat)(l:())(rs:List zC)(d:{r // r ∈ rs}):KeyFam {r // r ∈ rs}:=#[λa=>dK3 k l a.1,λa b=>rankF.lt (vQ k l [] a.1.1) (vQ k l [] b.1.1),AM,d]
theorem K8(h:eqD x1 y1=AM->eqD x2 y2=AN):wN (x1::x2::r) (y1::y2::r')=wN [x1,x2] [y1,y2]:=by
 cases e:eqD x1 y1 with
 | false=>erw[wN,e,bf,if_false]
 | true=>erw[wN,e,h e,bf,if_false]
theorem Ze{rs:List zC}(h:(rs.map (·.1)).Nodup)(ha:a ∈ rs)(hb:b ∈ rs)(e:a.1=b.1):a=b:=by
 induction rs with
 | nil=>cases ha
 | cons c rs ih =>
  rw[am,List.nodup_cons]at h;rcases AU.mp ha with e1 | ha'
  ·rcases AU.mp hb with e2 | hb'
   ·rw[e1,e2]
   ·exact w4 (AT.mpr #[b,hb',by rw[<- e1];exact e.symm]) h.1
  ·rcases AU.mp hb with e2 | hb'
   ·exact w4 (AT.mpr #[a,ha',by rw[<- e2];exact e]) h.1
   ·exact ih h.2 ha' hb'
def Ve(hu:∀c ∈ u,c ∈ l)(hv:∀c ∈ v,c ∈ l)(h:u≠v):eqD (.lst ((w8 k l u).map L3.D.int)) (.lst ((w8 k l v).map L3.D.int))=AN:=by
 erw[eqD]
 rw[j9];exact v9 λe=>h (Zr hu hv e)
def Vg(hk:k≠2)(hn:(rs.map (·.1)).Nodup)(hl:∀r ∈ rs,∀c ∈ r.1,c ∈ l):(wa k l rs d).OkF where
 w:=#[λa b h=>rankF_ok.w.asym _ _ h,λa b c h1 h2=>rankF_ok.w.ntr _ _ _ h1 h2]
 eq:=λa b=>by
  by_cases e:a.1.1=b.1.1
  ·obtain rfl:a=b:=Subtype.ext (Ze hn a.2 b.2 e)
   have h1:(wa k l rs d).lt a a=AN:=by
    cases h:(wa k l rs d).lt a a with
    | false=>rfl
    | true=>exact (rankF_ok.w.asym _ _ h).symm.trans h |>.symm
   rw[h1]
   erw[wa,dK3,wN,uK,if_true]
  ·have h:=rankF_ok.eq (vQ k l [] a.1.1) (vQ k l [] b.1.1);have w1:∀u:(),zx k l [] u=(u.length:Int):=λu=>by unfold zx;rw[w9 hk]
   erw[wa]
   rw[<- h];unfold dK3;rw[K8 λZ=>Ve (hl _ a.2) (hl _ b.2) e]
   erw[rankF,vQ,w1]
 ok:=λa b=>by
  by_cases e:a.1.1=b.1.1
  ·obtain rfl:a=b:=Subtype.ext (Ze hn a.2 b.2 e)
   erw[wa,dK3,okF,uK,if_true]
  ·erw[wa,dK3,okF,Ve (hl _ a.2) (hl _ b.2) e,bf,if_false,okD]
   split
   ·exact uG _ _
   ·trivial
 dp:=λa=>by erw[wa,dK3,dR,dpD,vI,ql];decide
 sh:=λa=>#[_,_,rfl,.inl #[rfl,_,rfl]]
theorem Uv{β:Type}{f:β->L3.D}{g:β->V}:∀{ys:List β},(∀y ∈ ys,Is K H (f y) (g y))->Iss K H (ys.map f) (ys.map g)
 | [],_=>by erw[aA,Iss]
 | y::ys,h=>by
  erw[am,Iss]
  exact#[_,_,rfl,h y ay,Uv λz hz=>h z (ar _ hz)]
theorem JD{β:Type}{f:β->L3.D}:∀{bs:List β} {xs:List V},Iss K H (bs.map f) xs->∀y ∈ bs.zip xs,Is K H (f y.1) y.2
 | [],xs,_,y,hy=>by cases hy
 | b::bs,xs,h,y,hy=>by
  erw[am,Iss]at h
  let#[x,r,rfl,h1,h2]:=h;rcases AU.mp hy with rfl | hy
  ·exact h1
  ·exact JD h2 y hy
def zeH(k:Nat)(l:())(rs rs':List zC):Prop:=rs'.Perm rs/\rs'.Pairwise λa b=>rankF.lt (vQ k l [] b.1) (vQ k l [] a.1)=AN
def Wa(hk:k≠2)(hn:(rs.map (·.1)).Nodup)(hl:∀r ∈ rs,∀c ∈ r.1,c ∈ l)(hI:Iss K H (rs.attach.map λa=>.tup ((wa k l rs d).dec a)) xs) :
  ∃rs':List zC,zeH k l rs rs'/\Iss K H (rs'.map λr=>.tup (dK3 k l r)) ((srt (λp q=>(wa k l rs d).lt p.1 q.1) ((wa k l rs d).d0,V.non) (rs.attach.zip xs)).map (·.2)):=by
 have W:=(Vg (d:=d) hk hn hl).w;let#[p1,p2]:=WZ (lt:=λ(p q:{r // r ∈ rs} × V)=>(wa k l rs d).lt p.1 q.1) #[λa b=>W.asym _ _,λa b c=>W.ntr _ _ _] ((wa k l rs d).d0,V.non) (rs.attach.zip xs);generalize srt (λ(p q:{r // r ∈ rs} × V)=>(wa k l rs d).lt p.1 q.1) ((wa k l rs d).d0,V.non) (rs.attach.zip xs)=ys at p1 p2;refine#[ys.map λy=>y.1.1,#[?_,?_],?_]
 ·have h1:=(p1.map (·.1)).map Subtype.val;have hlen:=hI.len;rw[aa]at hlen;rw[fk ⋯,List.attach_map_subtype_val,aY]at h1;exact h1
 ·exact Bc.mpr p2
 ·rw[aY];exact Uv λy hy=>JD hI y (p1.mem_iff.mp hy)
end in def hid(H:Hp)(R:su):Hp:=λb=>if b=R then AL else H b
def vJ(h:b≠R):hid H R b=H b:=w9 h
def Vf : Same (hid H R) H:=λb o h=>by
 by_cases e:b=R
 ·rw[e,hid,w6 rfl]at h;cases h
 ·rw[vJ e]at h;exact h
def Jl : hid (upd H R o) R=hid H R:=funext λb=>by
 by_cases e:b=R
 ·rw[e,hid,hid,w6 rfl,w6 rfl]
 ·rw[vJ e,vJ e,zq e]
def K9(s:Same H H')(hR:H R=AL):Same H (hid H' R):=λb o h=>by
 rw[vJ (zM h hR)];exact s b o h
def ZD(s:Same H H'):Same (hid H R) (hid H' R):=λb o h=>by
 by_cases e:b=R
 ·rw[e,hid,w6 rfl]at h;cases h
 ·rw[vJ e]at h ⊢;exact s b o h
def Z3(K:sr):Sp:=λvs H Q Z=>∃(a:su) (rs:List zC) (b:Bool) (l:()),vs=[.ref a,.bl b,.str (tx l)]/\LsA K H a (rs.map dR)/\rs≠[]/\rs.length<=12/\(rs.map (·.1)).Nodup/\(∀r ∈ rs,r.1.length<=10/\∀c ∈ r.1,c ∈ l)/\jJ l=AM/\∀(D:su) (H':Hp) (rs':List zC),Same H H'->LsA K H' D (rs'.map dR)->zeH (if b=AM then 1 else 0) l rs rs'->Q (.ref D) H'
def mC:sQz 3 ["_law_pairs","_law_right_here","_law_letters_here","_law_ranks","_law_pair","_law_seen"] qc:=by nofun
def zak(B:Bt mg)(hsorted:Jq mg)(F:("_law_sided"^^^qc)):(3&&&["_law_pairs","_law_right_here","_law_letters_here"]) (Z3 K):=by
 exists F.ok mC
 ·let#[a,rs,b,l,rfl,hA,hne,hrl,hn,hl,hg,q]:=h
  refine#[_,(zh (zB 3 mC.nd (y6 ze)) (zh (zZ p9 rfl (zX (pv 0)) (zr (i:=4) mC.nd rfl (.inl rfl)) (zh (yT (i:=5) mC.nd rfl (Or.inr rfl) (!-4)) (zh (zJ (ym (pv 1) (λZ=>rfl)) (zg (yT (i:=5) mC.nd rfl (Or.inr rfl) (wL bz fY fZ zaB zQ (za (yy (own:=["_law_k"]) (caps:=["_law_seen"]) (ix:=[5]) (tt:=y4) (te:=(tOp za5 (zW 1) (tOp (rI0 λi j=>.int (i - j)) (tOp (rI0 λi j=>.int (i - j)) (tCB (Xt K) (zI (zW 1) xb)) (tC (.int 1))) (zW 0)))) rfl (zH (sc:=zi qc) rfl (!0) (!0) (!0) rfl (!0) (!0) rfl) (zV rfl B.range (za (zE B.len (pv 5)) ze)) (λZ Z Z Z Z Z=>zr (i:=0) (show List.Nodup [_,_] by decide) rfl (.inl rfl)) (λZ Z Z Z Z Z=>z7) (λZ Z Z Z Z Z=>(zk wJ (pv 1) (zD xD (zD xD (zE B.len (pv 1)) zf) (pv 0))))) ze))))
     zp) (zg (xt (wL bh bC bD yP (pv 3) (za (zN (za (zE B.len (pv 5)) (za (yy (own:=["_law_sign"]) (caps:=["_law_letters_here"]) (ix:=[2]) (tt:=y4) (te:=(tBM K "str" zas (zW 1) (zI (zW 0) xb))) rfl (zH (sc:=zi qc) rfl (!0) (!0) (!0) rfl (!0) (!0) rfl) (YC (pv 5)) (λZ Z Z Z Z Z=>zr (i:=0) (show List.Nodup [_,_] by decide) rfl (.inl rfl)) (λZ Z Z Z Z Z=>z7) (λZ Z Z Z Z Z=>(wL bz dc de zby (pv 1) (za (pv 0) ze)))) (za (pv 4) ze)))) ze))))))) (zg (zl (yy (own:=["_law_rank"]) (caps:=[]) (ix:=[]) (tt:=y4) (te:=(tOp (ud K) (zW 0) (tC (.int 2)))) rfl (zH (sc:=zi qc) rfl (!0) (!0) (!0) rfl (!0) (!0) rfl) (zX (yR (zdi (k:=0) (hr.mono ∅)) rfl hsorted fm (za (pv 3) ze))) (λZ Z Z Z Z Z=>zr (i:=0) (show List.Nodup [_] by decide) rfl (.inl rfl)) (λZ Z Z Z Z Z=>z7) (λZ Z Z Z Z Z=>(!-0))))))),?_]
  have s16:=zS;let#[xs,hX,hI]:=id hA;have hxl:=hI.len;rw[aa]at hxl;obtain⟨k,hk⟩:∃k:Nat,(if b=AM then 1 else 0)=k:=#[_,rfl];rw[hk]at q;change Same H H'/\∃(R:su),H R=AL/\H' R=AK (.lst [])/\σ=[!!a,AK (.bl b),~~~l,!!R,AL,AL]
  ·rfl'
   exact#[aD _,λR hR=>#[zd hR,R,hR,zb,rfl]]
  rintro σ H1 ⟨s1,R,hR,hR1,rfl⟩:_;right;change Same H H'/\∃v4 v5:Option V,LsA K H' R (rs.map λr=>.tup (dK3 k l r))/\σ=[!!a,AK (.bl b),~~~l,!!R,v4,v5]
  ·rfl'
   refine#[#[_,SqL.of (s1 _ _ hX)],ForL.by (xs:=xs) (λi σ H'=>Same H H'/\∃(v4 v5:Option V) (ys:List V),H' R=AK (.lst ys)/\Iss K (hid H' R) ((rs.take i).map λr=>.tup (dK3 k l r)) ys/\σ=[!!a,AK (.bl b),~~~l,!!R,v4,v5]) #[s1,AL,AL,[],hR1,by erw[bA,aA,Iss],rfl] (λi σ H' Z h=>SqL.of (h.1 _ _ hX)) ?_ ?_]
   ·refine nm4 ?_;rintro i x σ H2 hx ⟨s2,v4,v5,ys,hY,hJ,rfl⟩:_;have hil:=(AS.mp hx).1;let#[r,pr,hri,rfl,hqr]:=hI.getR hx;have hrm:=ac hri;let#[hr10,hrc]:=hl r hrm;have hq2:=zo s2 hqr;have hyl:=hJ.len;rw[aa,aH]at hyl;right
    erw[yx,aU,aT]
    change H'=H2/\σ=[!!a,AK (.bl b),~~~l,!!R,!!pr,AK (.str (tx r.1))]
    ·rfl'
     exact#[_,hq2,rfl]
    rintro σ H3 ⟨rfl,rfl⟩:_;right;change Same H3 H'/\σ=[!!a,AK (.bl b),~~~l,!!R,!!pr,AK (.str (tx (yA k r.1)))]
    ·rfl'
     refine z8 (λhb=>#[⋯,⋯,⋯,λD hD=>CompR.by (λi AR H'=>Same H3 H'/\H' D=AK (.lst AR)/\AR=(((r.1.reverse.take i).map λc=>[c]).map tx).map V.str) #[zd hD,zb,rfl] ?_ ?_]) λhb=>#[Same.refl _,?_]
     ·refine nm3 ?_;rintro i AR H' hi ⟨hs,hH,rfl⟩:_;rw[aE]at hi
      have hr:r.1.reverse[i]? = AK (r.1[r.1.length - 1 - i]'⋯):=by
       rw[bq hi,af ⋯]
      have ha:atI r.1 ((r.1.length:Int) - 1 - (0+(i:Int)))=AK (r.1[r.1.length - 1 - i]'⋯):=by
       rw[show (r.1.length:Int) - 1 - (0+(i:Int))=((r.1.length - 1 - i:Nat):Int) by lia];exact wz (af ⋯)
      right
      erw[y4]
      rfl'
      refine#[yq,⋯,⋯,_,ha,hH,by erw[aa,aH,br];lia,CNx.mk (by rw[aE];exact hi) #[zu hs hD,zb,?_]];rw[zO hr,aq,aq,aq];rfl
     ·rintro AR H' ⟨hs,hH,rfl⟩;rw[aE,<- br,aK]at hH
      have hfl:(r.1.reverse.map λc=>[c]).flatten=r.1.reverse:=by
       induction r.1.reverse with
       | nil=>rfl
       | cons a r ih=>rw[am,dM,ih];rfl
      refine#[tx [],D,(r.1.reverse.map λc=>[c]).map tx,rfl,rfl,SqL.of hH,W5 (by rw[hfl,br];lia),?_];have e:Txt.join (tx []) ((r.1.reverse.map λc=>[c]).map tx)=Str.join (tx []) ((r.1.reverse.map λc=>[c]).map tx):=StrLaws.glued_eq_join _ _;rw[e,Xn,hfl];refine#[hs,?_];rw[<- hk,w6 hb];rfl
     ·rw[<- hk,w9 hb];rfl
    rintro σ H4 ⟨s4,rfl⟩:_;have hsl:(yA k r.1).length=r.1.length:=by unfold yA;split <;> erw[br]
    have hsm:∀c ∈ yA k r.1,c ∈ l:=λc hc=>hrc c (by
     unfold yA at hc;split at hc
     ·exact Bb.mp hc
     ·exact hc)
    right
    rfl'
    refine#[.inl #[_,SqL.of (s4 _ _ hY)],⋯,λD hD=>CompS.by (l:=yA k r.1) (λi AR H'=>Same H4 H'/\H' D=AK (.lst AR)/\AR=(qC l ((yA k r.1).take i)).map V.int) #[zd hD,zb,rfl] ?_ ?_]
    ·refine nm4 ?_;rintro i c AR H' hc ⟨hs,hH,rfl⟩:_;have hci:=(AS.mp hc).1;have hcl:=hsm c (ac hc);right
     erw[y4]
     rfl'
     rw[Vp hcl];refine#[yq,hH,by rw[aa];unfold qC;rw[aa,aH];lia,CNx.mk hci #[zu hs hD,zb,?_]];unfold qC;rw[zO hc,aq,aq];rfl
    ·rintro AR H' ⟨hs,hH,rfl⟩;rw[aK]at hH;have hR':=hs _ _ (s4 _ _ hY);refine#[⋯,λp hp=>?_];have up:=zd (o:=HO.tup [.int ((yA k r.1).length:Nat),.ref D,.ref pr]) hp;have hDR:D≠R:=λe=>by rw[e,s4 _ _ hY]at hD;cases hD
     have hpR:p≠R:=λe=>by rw[e,hR']at hp;cases hp
     have s5:=(s2.trans s4).trans (hs.trans up);refine#[ys,up _ _ hR',⋯,zu s5 hR,_,_,ys ++ [.ref p],zb,?_,rfl,rfl];rw[Jl,zO hri,aq];refine Iss.append (Iss.same (ZD (s4.trans (hs.trans up))) _ _ hJ) ?_
     erw[am,aA,Iss,dK3,Is]
     refine#[_,_,rfl,#[p,_,rfl,SqT.of ((vJ hpR).trans zb),_,_,rfl,by rw[hsl],_,_,rfl,#[D,_,rfl,SqL.of ((vJ hDR).trans (up _ _ hH)),Iss.ints _],_,_,rfl,vZ (zo (K9 s5 hR) hqr),rfl],rfl]
   ·rintro σ H2 ⟨s2,v4,v5,ys,hY,hJ,rfl⟩;rw[hxl,aK]at hJ;exact#[s2,#[ys,hY,Iss.same Vf _ _ hJ],v4,v5,rfl]
  rintro σ H2 ⟨s2,v4,v5,⟨ys,hY,hJ⟩,rfl⟩:_;right
  rfl'
  obtain⟨r0,hr0⟩:∃r0,r0 ∈ rs:=by
   cases rs with
   | nil=>exact w4 rfl hne
   | cons r0 _=>exact#[r0,ay]
  have hk2:k≠2:=by rw[<- hk];split <;> decide
  have hJ':Iss K H2 (rs.attach.map λa=>.tup ((wa k l rs #[r0,hr0]).dec a)) ys:=by
   rw[show (rs.attach.map λa=>L3.D.tup ((wa k l rs #[r0,hr0]).dec a))=rs.map λr=>.tup (dK3 k l r)from List.attach_map_val (f:=λr=>L3.D.tup (dK3 k l r))];exact hJ
  have hyl:=hJ.len;rw[aa]at hyl;let#[rs',hS,hO]:=Wa hk2 hn (λr hr=>(hl r hr).2) hJ';refine#[R,ys,_,wa k l rs #[r0,hr0],rs.attach,rfl,SqL.of hY,⋯,Vg hk2 hn λr hr=>(hl r hr).2,hJ',λD hD=>#[D,rfl,#[_,SqL.of zb],λJ hJn=>?_]];generalize (srt (λ(p q:{r // r ∈ rs} × V)=>(wa k l rs #[r0,hr0]).lt p.1 q.1) ((wa k l rs #[r0,hr0]).d0,V.non) (rs.attach.zip ys)).map (·.2)=zs at *;have uD:=zd (o:=HO.lst zs) hD;have hzl:=hO.len;have hpl:=hS.1.length_eq;rw[aa]at hzl;refine CompL.by (xs:=zs) (λi AR H'=>Same (upd H2 D (.lst zs)) H'/\H' J=AK (.lst AR)/\Iss K H' ((rs'.take i).map dR) AR) #[zd hJn,zb,by erw[bA,aA,Iss]] (λi AR H' Z h=>SqL.of (h.1 _ _ zb)) ?_ ?_
  ·refine nm4 ?_;rintro i x AR H' hx ⟨hs,hH,hIs⟩:_;have hil:=(AS.mp hx).1;let#[dd,e,hi]:=hO.get hx;rw[au,af ⋯]at e;obtain rfl:=Option.some.inj e;have ht:rs'[i]? = AK (rs'[i]'⋯):=af ⋯;right;generalize rs'[i]'⋯=r at *
   erw[dK3,Is,Iss]at hi
   let#[p,us,rfl,hq,u1,t1,rfl,rfl,u2,t2,rfl,_,u3,t3,rfl,h3,rfl]:=hi;have hal:=hIs.len;rw[aa,aH]at hal;have hs2:=uD.trans hs
   erw[y4]
   rfl'
   refine#[yq,_,zo hs2 hq,_,rfl,hH,⋯,CNx.mk hil #[zu hs hJn,zb,?_]];rw[zO ht,aq];let#[ws,hW,hV]:=LsA.snoc hH hIs (wu _) (qe r) (Is.same hs2 _ _ h3);rw[zb]at hW;cases hW;exact hV
  ·rintro AR H' ⟨hs,hH,hIs⟩;rw[hzl,aK]at hIs;exact q J H' rs' (s2.trans (uD.trans hs)) #[AR,hH,hIs] hS
end in def Y8(k:Nat)(l:())(ns:List Int)(a b:zC):Bool:=if a.1=b.1 then zP k l ns a.2 b.2 else zP k l ns a.1 b.1
end in def qK(k:Nat)(l:())(ns:List Int)(p:zC):zC:=if zP k l ns p.2 p.1=AM then p else (p.2,p.1)
end in def zdC(k:Nat)(l:())(ns:List Int)(p:zC):List zC->List zC
 | []=>[p]
 | q::r=>if Y8 k l ns q p=AM then q::zdC k l ns p r else p::q::r
end in def zaL(k:Nat)(l:())(ns:List Int)(ps:List zC):List zC:=ps.foldr (zdC k l ns) []
end in def VY(k:Nat)(l:())(ns:List Int)(ps zs:List zC):Bool:=zs.isPerm ps && decide (zs.Pairwise λa b=>Y8 k l ns b a=AN) && zs.all λa=>zs.all λb=>Y8 k l ns a b || Y8 k l ns b a || decide (a=b)
end in def km(k:Nat)(l:())(ns:List Int)(ps:List zC):List zC:=(ps.filter λp=>!decide (p.1=p.2)).map (qK k l ns)
end in def wK(k:Nat)(l:())(ns:List Int)(B:Nat):List zC->Nat->List zC->Option (List zC × Nat)
 | bs,C,[]=>AK (bs,C)
 | bs,C,e::es=>match goJ bs 40 e.1,goJ bs 40 e.2 with
  | some i,AK j=>if wAt bs e.1 i=wAt bs e.2 j then wK k l ns B bs C es else
    if i * C+B+j * C<=240/\(wAt bs e.1 i).length<=60/\(wAt bs e.2 j).length<=60 then wK k l ns B (bs ++ [qK k l ns (wAt bs e.1 i,wAt bs e.2 j)]) (max C (i * C+B+j * C)) es else AL
  | _,_=>AL
end in def kE(k:Nat)(l:())(ns:List Int):Nat->List zC->Nat->Option (List zC × Nat)
 | 0,_,_=>AL
 | n+1,es,B =>
  if VY k l ns (km k l ns es) (zaL k l ns (km k l ns es))=AM then
   match wK k l ns B [] 0 (zaL k l ns (km k l ns es))with
   | none=>AL
   | some (bs,C)=>if bs=zaL k l ns (km k l ns es)then AK (bs,C)else kE k l ns n bs C
  else AL
end in def zdn(ps:List zC):Bool:=decide (12<ps.length) || ps.any λe=>decide (10<max e.1.length e.2.length)
end in def okP(ps:List zC):Bool:=(ovA ps ps.length).all λt=>(goJ ps 40 (pkA ps t)).isSome && (goJ ps 40 (pkB ps t)).isSome
end in def Ul(k:Nat)(l:())(ns:List Int):Nat->List zC->Nat->List zC->Nat->Option (Bool × List zC × Nat)
 | 0,kept,c,_,_=>AK (AN,kept,c)
 | n+1,_,_,fresh,B=>match kE k l ns 20 fresh B with
  | none=>AL
  | some (bs,C)=>if zdn bs=AN/\okP bs=AM then
    if unG bs 40=[]then AK (AM,bs,C)else Ul k l ns n bs C (bs ++ ((unG bs 40).take 8).map λt=>(pkA bs t,pkB bs t)) (2 * C+C)
   else AL
def Z9(k:Nat)(l:())(ns:List Int)(e:Ent):((yg k l ns e).1,(yg k l ns e).2.1)=qK k l ns (e.1,e.2.1)/\(yg k l ns e).2.2.length=e.2.2.length:=by
 unfold yg qK;split
 ·exact#[rfl,rfl]
 ·exact#[rfl,yh _]
theorem jO(h:∀e ∈ es,e.2.2.length<=C):∀us:List Stp,(byL es us).length<=us.length * C
 | []=>aD _
 | u::us=>by
  have ih:=jO h us;unfold byL at ih ⊢;rw[eV,ak,aC,d6]
  have h1:(es.getD u.1.toNat ([],[],[])).2.2.length<=C:=by
   rw[ae]
   cases e:es[u.1.toNat]? with
   | none=>exact aD _
   | some x=>exact h x (ac e)
  have h2:(XV es u).length<=C:=by
   unfold XV;rw[Yy];split
   ·exact h1
   ·rw[yh];exact h1
  lia
def zaz{w:()}(h:goJ ps 40 w=AK i):EndsAt ps w i:=by let#[h1,h2,h3]:=Ya h;exact#[h2,h3,h1]
set_option tactic.hygienic true in
theorem XW(h:xf k l ns bs es r):∀{C:Nat} {x:List zC × Nat},(∀e ∈ bs,e.2.2.length<=C)->(∀e ∈ es,e.2.2.length<=B)->wK k l ns B (zc bs) C (zc es)=AK x->∃zs,r=AK zs/\zc zs=x.1/\∀e ∈ zs,e.2.2.length<=x.2:=by
 induction h with
 | nil bs =>
  intro C x hC hB hx;cases hx;exact#[bs,rfl,rfl,hC]
 | @same bs es e i j r h1 h2 h3 h4 ih =>
  intro C x hC hB hx;have e1:=vC h1;have e2:=vC h2
  erw[zc,am]at hx
  unfold wK at hx;rw[show (bs.map λe=>(e.1,e.2.1))=zc bs from rfl]at hx
  erw[e1,e2,h3,if_true]at hx
  exact ih hC (λy hy=>hB y (ar _ hy)) hx
 | @new bs es e i j r h1 h2 h3 h4 h5 ih =>
  intro C x hC hB hx;have e1:=vC h1;have e2:=vC h2
  erw[zc,am]at hx
  unfold wK at hx;rw[show (bs.map λe=>(e.1,e.2.1))=zc bs from rfl]at hx
  erw[e1,e2,w9 h3]at hx
  split at hx
  ·rename_i hg;refine ih (C:=max C (i * C+B+j * C)) (λy hy=>?_) (λy hy=>hB y (ar _ hy)) ?_
   ·rcases AV.mp hy with hy | hy
    ·exact aL (hC y hy) (Nat.le_max_left _ _)
    ·rw[AW.mp hy,(Z9 k l ns _).2];refine aL ?_ (Nat.le_max_right _ _);have g1:=jO hC (yE (stS (sAt (zc bs) e.1 i)));have g2:=jO hC (stS (sAt (zc bs) e.2.1 j));have g3:=hB e ay;rw[yh,xJ,xn]at g1;rw[xJ,xn]at g2;unfold yM
     erw[ak]
     lia
   ·rw[<- hx];congr 1;show (bs ++ [_]).map _=_;rw[aq];congr 1;exact congrArg (λp=>[p]) (Z9 k l ns _).1
  ·cases hx
 | @far bs es e i j h1 h2 h3 h4 =>
  intro C x hC hB hx;have e1:=vC h1;have e2:=vC h2
  erw[zc,am]at hx
  unfold wK at hx;rw[show (bs.map λe=>(e.1,e.2.1))=zc bs from rfl]at hx
  erw[e1,e2,w9 h3]at hx
  split at hx
  ·rename_i hg;exfalso;have g1:=jO hC (yE (stS (sAt (zc bs) e.1 i)));have g2:=jO hC (stS (sAt (zc bs) e.2.1 j));have g3:=hB e ay;rw[yh,xJ,xn]at g1;rw[xJ,xn]at g2;unfold ke yM at h4
   erw[ak]at h4
   lia
  ·cases hx
 | @stuck bs es e h =>
  intro C x hC hB hx
  erw[zc,am]at hx
  unfold wK at hx;rw[show (bs.map λe=>(e.1,e.2.1))=zc bs from rfl]at hx;split at hx
  ·rename_i i j e1 e2;rcases h with h | h
   ·exact w4 (zaz e1) (h i)
   ·exact w4 (zaz e2) (h j)
  ·cases hx
def Wi(hf:(km k l ns (zc es)).Perm (km k l ns fr))(h:Lined k l ns es zs)(hk:VY k l ns (km k l ns fr) ys=AM):zc zs=ys/\∀B,(∀e ∈ es,e.2.2.length<=B)->∀e ∈ zs,e.2.2.length<=B:=by
 have raw:zc (qL k l ns es)=km k l ns (zc es):=by
  unfold qL km zc;rw[aY,List.filter_map,aY];exact aW λe Z=>(Z9 k l ns e).1
 unfold VY at hk;rw[aQ,aQ]at hk;let#[#[h1,h2],h3]:=hk
 have hp:(zc zs).Perm ys:=by
  refine (h.perm.map λe:Ent=>(e.1,e.2.1)).trans ?_;show (zc (qL k l ns es)).Perm ys;rw[raw];exact hf.trans (Bf.mp h1).symm
 refine#[List.Perm.eq_of_pairwise (le:=λa b:zC=>Y8 k l ns b a=AN) (λa b ha hb g1 g2=>?_) (Bc.mpr h.srt) (u6 h2) hp,λB hB e he=>?_]
 ·have:=AX.mp (AX.mp h3 a (hp.mem_iff.mp ha)) b hb;rw[g1,g2]at this;simpa using this
 ·let#[y,hy,rfl]:=AT.mp (h.perm.mem_iff.mp he);rw[(Z9 k l ns y).2];exact hB y (Ba.mp hy).1
set_option tactic.hygienic true in
theorem Xg(h:uO k l ns n es r):∀{B:Nat} {fr:List zC} {x:List zC × Nat},(km k l ns (zc es)).Perm (km k l ns fr)->(∀e ∈ es,e.2.2.length<=B)->kE k l ns n fr B=AK x->∃zs,r=AK zs/\zc zs=x.1/\∀e ∈ zs,e.2.2.length<=x.2:=by
 induction h with
 | out es=>intro B fr x hf hB hx;cases hx
 | bad h1 h2 =>
  intro B fr x hf hB hx;unfold kE at hx;split at hx
  ·rename_i hk;let#[e1,e2]:=Wi hf h1 hk;rw[<- e1]at hx;split at hx
   ·cases hx
   ·rename_i bs C hb;let#[zs,e,_]:=XW h2 (λe he=>nomatch he) (e2 B hB) hb;cases e
  ·cases hx
 | done h1 h2 h3 =>
  intro B fr x hf hB hx;unfold kE at hx;split at hx
  ·rename_i hk;let#[e1,e2]:=Wi hf h1 hk;rw[<- e1]at hx;split at hx
   ·cases hx
   ·rename_i bs C hb;let#[zs,e,g1,g2]:=XW h2 (λe he=>nomatch he) (e2 B hB) hb;cases e;simp only at g1 g2;rw[<- g1,w6 h3]at hx;cases hx;exact#[_,rfl,rfl,g2]
  ·cases hx
 | more h1 h2 h3 h4 ih =>
  intro B fr x hf hB hx;unfold kE at hx;split at hx
  ·rename_i hk;let#[e1,e2]:=Wi hf h1 hk;rw[<- e1]at hx;split at hx
   ·cases hx
   ·rename_i bs C hb;let#[zs,e,g1,g2]:=XW h2 (λe he=>nomatch he) (e2 B hB) hb;cases e;simp only at g1 g2;rw[<- g1,w9 h3]at hx;exact ih (.refl _) g2 hx
  ·cases hx
set_option tactic.hygienic true in
theorem zfV{kept fresh es:List Ent}{w:Bool}(h:Cpl k l ns n kept fresh w es):∀{B c:Nat} {fr:List zC} {x:Bool × List zC × Nat},(km k l ns (zc fresh)).Perm (km k l ns fr)->(∀e ∈ kept,e.2.2.length<=c)->(∀e ∈ fresh,e.2.2.length<=B)->Ul k l ns n (zc kept) c fr B=AK x->w=x.1/\zc es=x.2.1/\∀e ∈ es,e.2.2.length<=x.2.2:=by
 have bey:∀bs:List Ent,zdn (zc bs)=kn bs:=λbs=>by
  unfold zdn kn;rw[xq];unfold zc;rw[e8];rfl
 induction h with
 | out kept fresh=>intro B c fr x hf hK hB hx;cases hx;exact#[rfl,rfl,hK]
 | @slim n kept fresh h =>
  intro B c fr x hf hK hB hx;unfold Ul at hx;split at hx
  ·cases hx
  ·rename_i bs C ht;rcases h with h | ⟨zs,h,hb⟩
   ·let#[zs,e,_]:=Xg h hf hB ht;cases e
   ·let#[zs',e,g1,_]:=Xg h hf hB ht;cases e;simp only at g1;rw[<- g1,bey,hb,w9 (λz=>nomatch z.1)]at hx;cases hx
 | @far n kept fresh bs t h hb ht ho =>
  intro B c fr x hf hK hB hx;unfold Ul at hx;split at hx
  ·cases hx
  ·rename_i bs' C hth;let#[zs',e,g1,_]:=Xg h hf hB hth;cases e;simp only at g1;rw[<- g1]at hx;split at hx
   ·rename_i hg;have:=AX.mp hg.2 t ht;rw[aQ]at this;exact w4 this ho
   ·cases hx
 | @whole n kept fresh bs h hb ho hu =>
  intro B c fr x hf hK hB hx;unfold Ul at hx;split at hx
  ·cases hx
  ·rename_i bs' C hth;let#[zs',e,g1,g2]:=Xg h hf hB hth;cases e;simp only at g1 g2;rw[<- g1,w6 hu]at hx;split at hx
   ·cases hx;exact#[rfl,rfl,g2]
   ·cases hx
 | @more n kept fresh bs es w h hb ho hu r ih =>
  intro B c fr x hf hK hB hx;unfold Ul at hx;split at hx
  ·cases hx
  ·rename_i bs' C hth;let#[zs',e,g1,g2]:=Xg h hf hB hth;cases e;simp only at g1 g2;rw[<- g1,w9 hu]at hx;split at hx
   ·refine ih (B:=2 * C+C) (c:=C) (.refl _) g2 (λe he=>?_) ?_
    ·rcases AV.mp he with he | he
     ·have:=g2 e he;lia
     ·let#[t,ht,rfl]:=AT.mp he;have:=jO g2 [((t.1:Int),(0:Int),AN),((t.2.1:Int),(t.2.2:Int),AM)]
      erw[aC,bg]at this
      unfold jK;simp only;lia
    ·rw[<- hx];congr 1;unfold zc;rw[aq,aY];rfl
   ·cases hx
section
variable{f:Nat->Nat}
end in def mp(f:Nat->Nat)(p:zC):zC:=(p.1.map f,p.2.map f)
theorem wI(hf:∀a b,f a=f b->a=b):∀{u v:()},u.map f=v.map f ↔ u=v
 | [],[]=>#[λZ=>rfl,λZ=>rfl]
 | [],b::v=>#[(nomatch ·),(nomatch ·)]
 | a::u,[]=>#[(nomatch ·),(nomatch ·)]
 | a::u,b::v=>by
  rw[am,am,List.cons.injEq,List.cons.injEq,wI hf];exact#[λh=>#[hf _ _ h.1,h.2],λh=>#[by rw[h.1],h.2]]
def zaJ(hf:∀a b,f a=f b->a=b):mp f p=mp f q ↔ p=q:=by unfold mp;rw[Prod.mk.injEq,wI hf,wI hf];exact#[λh=>Prod.ext h.1 h.2,λh=>#[by rw[h],by rw[h]]]
theorem Jg(hf:∀a b,f a=f b->a=b):∀{u v:List zC},u.map (mp f)=v.map (mp f) ↔ u=v
 | [],[]=>#[λZ=>rfl,λZ=>rfl]
 | [],b::v=>#[(nomatch ·),(nomatch ·)]
 | a::u,[]=>#[(nomatch ·),(nomatch ·)]
 | a::u,b::v=>by
  rw[am,am,List.cons.injEq,List.cons.injEq,Jg hf,zaJ hf]
def zco(ps:List zC)(n:Nat):(ps.map (mp f)).getD n ([],[])=mp f (ps.getD n ([],[])):=by rw[ae,ae,au];cases ps[n]? <;> rfl
def zhh(hf:∀a b,f a=f b->a=b)(w p:())(q:Int):zw (w.map f) q (p.map f)=zw w q p:=by unfold zw;rw[aa,aa,<- cQ,<- cP];exact decide_eq_decide.mpr #[λh=>#[h.1,h.2.1,(wI hf).mp h.2.2],λh=>#[h.1,h.2.1,(wI hf).mpr h.2.2]]
def Zg(hf:∀a b,f a=f b->a=b)(w:())(ps:List zC):zF (w.map f) (ps.map (mp f))=zF w ps:=by
 have e:∀q,stJ (w.map f) (ps.map (mp f)) q=stJ w ps q:=λq=>funext λj=>by
  unfold stJ;rw[au]
  cases ps[j]? with
  | none=>rfl
  | some p=>exact zhh hf _ _ _
 unfold zF xw qM
 erw[e,aa]
def zcb(w o n:())(k:Int):yS (w.map f) k (o.map f) (n.map f)=(yS w k o n).map f:=by unfold yS;rw[aq,aq,cP,cQ,aa]
theorem V9(hf:∀a b,f a=f b->a=b)(ps:List zC)(w:()):∀j,wAt (ps.map (mp f)) (w.map f) j=(wAt ps w j).map f
 | 0=>rfl
 | j+1=>by
  show Xv _ (wAt _ _ j)=(Xv _ _).map f;rw[V9 hf ps w j];unfold Xv;rw[Zg hf]
  cases zF (wAt ps w j) ps with
  | none=>rfl
  | some u =>
   show qO _ _ u=(qO _ _ u).map f;unfold qO Yv;rw[zco];exact zcb _ _ _ _
def Kg(hf:∀a b,f a=f b->a=b)(ps:List zC)(m:Nat)(w:()):goJ (ps.map (mp f)) m (w.map f)=goJ ps m w:=by
 unfold goJ
 erw[V9 hf,Zg hf]
def zgF(ps:List zC)(i:Nat):lf (ps.map (mp f)) i=(lf ps i).map f:=by unfold lf;rw[zco];rfl
def zgO(hf:∀a b,f a=f b->a=b)(ps:List zC)(m:Nat):ovA (ps.map (mp f)) m=ovA ps m:=by unfold ovA ovI YR xy;simp only[zgF,aa,<- cQ,<- cP,wI hf]
def zdp(ps:List zC)(t:N3):pkA (ps.map (mp f)) t=(pkA ps t).map f/\pkB (ps.map (mp f)) t=(pkB ps t).map f:=by unfold pkA pkB yv;simp only[zgF,zco,aa,<- cQ,<- aq];exact#[zcb _ _ _ _,zcb _ _ _ _]
def zfW(hf:∀a b,f a=f b->a=b)(ps:List zC):unG (ps.map (mp f)) 40=unG ps 40/\okP (ps.map (mp f))=okP ps/\zdn (ps.map (mp f))=zdn ps:=by
 refine#[?_,?_,?_]
 ·unfold unG Km zfl
  erw[zgO hf,aa,(zdp ps _).1,(zdp ps _).2,Kg hf,V9 hf,wI hf]
 ·unfold okP
  erw[zgO hf,aa,(zdp ps _).1,(zdp ps _).2,Kg hf]
 ·unfold zdn mp;rw[aa,e8]
  erw[Function.comp_def,aa]
theorem zeL(hf:∀a b,f a=f b->a=b)(l:())(c:Nat):(l.map f).idxOf (f c)=l.idxOf c:=by
 induction l with
 | nil=>rfl
 | cons a l ih =>
  rw[am,fG,fG,ih];by_cases e:a=c
  ·subst e;simp
  ·rw[beq_eq_false_iff_ne.mpr λh=>e (hf _ _ h),beq_eq_false_iff_ne.mpr e]
def UY(hf:∀a b,f a=f b->a=b)(hk:k≠2)(u v:()):zP k (l.map f) ns (u.map f) (v.map f)=zP k l ns' u v:=by
 have r:∀w:(),w8 k (l.map f) (w.map f)=w8 k l w:=λw=>by
  unfold w8 yA qC;split
  ·rw[<- dh,aY];exact aW λc Z=>by erw[Function.comp_def,zeL hf]
  ·rw[aY];exact aW λc Z=>by erw[Function.comp_def,zeL hf]
 unfold zP zx
 erw[w9 hk,aa,r]
end
section
variable{f:Nat->Nat}{k:Nat}{l:()}{ns ns':List Int}
def Xq(hf:∀a b,f a=f b->a=b)(hk:k≠2)(p q:zC):Y8 k (l.map f) ns (mp f p) (mp f q)=Y8 k l ns' p q:=by
 unfold Y8 mp
 erw[wI hf,UY (ns':=ns') hf hk]
def Q4(hf:∀a b,f a=f b->a=b)(hk:k≠2)(p:zC):qK k (l.map f) ns (mp f p)=mp f (qK k l ns' p):=by unfold qK;rw[show zP k (l.map f) ns (mp f p).2 (mp f p).1=zP k l ns' p.2 p.1 from UY hf hk _ _];split <;> rfl
def ze0(hf:∀a b,f a=f b->a=b)(hk:k≠2)(ps:List zC):km k (l.map f) ns (ps.map (mp f))=(km k l ns' ps).map (mp f):=by
 unfold km;rw[List.filter_map,aY,aY]
 have e:((λp:zC=>!decide (p.1=p.2)) ∘ mp f)=λp=>!decide (p.1=p.2):=funext λp=>by
  erw[Function.comp_def,mp,wI hf]
 rw[e];exact aW λp Z=>Q4 hf hk p
theorem zeS(hf:∀a b,f a=f b->a=b)(hk:k≠2)(p:zC):∀r:List zC,zdC k (l.map f) ns (mp f p) (r.map (mp f))=(zdC k l ns' p r).map (mp f)
 | []=>rfl
 | q::r=>by
  rw[am];unfold zdC;rw[Xq (ns':=ns') hf hk,zeS hf hk p r];split <;> rfl
theorem zfP(hf:∀a b,f a=f b->a=b)(hk:k≠2)(ps:List zC):zaL k (l.map f) ns (ps.map (mp f))=(zaL k l ns' ps).map (mp f):=by
 unfold zaL
 induction ps with
 | nil=>rfl
 | cons p ps ih=>rw[am,List.foldr_cons,List.foldr_cons,ih,zeS hf hk]
def zbX(hf:∀a b,f a=f b->a=b)(hk:k≠2)(h:VY k l ns' ps zs=AM):VY k (l.map f) ns (ps.map (mp f)) (zs.map (mp f))=AM:=by
 unfold VY at h ⊢;rw[aQ,aQ]at h ⊢;let#[#[h1,h2],h3]:=h;refine#[#[Bf.mpr ((Bf.mp h1).map _),u9 (Bc.mpr ((u6 h2).imp λ{a b} g=>?_))],?_]
 ·rw[Xq (ns':=ns') hf hk];exact g
 ·rw[eZ];refine AX.mpr λa ha=>?_
  erw[Function.comp_def,eZ]
  refine AX.mpr λb hb=>?_;have:=AX.mp (AX.mp h3 a ha) b hb
  erw[Xq (ns':=ns') hf hk,zaJ hf]
  exact this
theorem Wm(hf:∀a b,f a=f b->a=b)(hk:k≠2):∀(es bs:List zC) (C:Nat),wK k (l.map f) ns B (bs.map (mp f)) C (es.map (mp f))=(wK k l ns' B bs C es).map λx=>(x.1.map (mp f),x.2)
 | [],bs,C=>rfl
 | e::es,bs,C=>by
  rw[am];unfold wK;rw[show (mp f e).1=e.1.map f from rfl,show (mp f e).2=e.2.map f from rfl,Kg hf,Kg hf]
  cases goJ bs 40 e.1 with
  | none=>rfl
  | some i =>
   cases goJ bs 40 e.2 with
   | none=>rfl
   | some j =>
    erw[V9 hf,wI hf,aa]
    split
    ·exact Wm hf hk es bs C
    ·split
     ·have e1:qK k (l.map f) ns ((wAt bs e.1 i).map f,(wAt bs e.2 j).map f)=mp f (qK k l ns' (wAt bs e.1 i,wAt bs e.2 j)):=Q4 hf hk (wAt bs e.1 i,wAt bs e.2 j);rw[e1,show bs.map (mp f) ++ [mp f (qK k l ns' (wAt bs e.1 i,wAt bs e.2 j))]=(bs ++ [qK k l ns' (wAt bs e.1 i,wAt bs e.2 j)]).map (mp f) by rw[aq];rfl];exact Wm hf hk es _ _
     ·rfl
set_option tactic.hygienic true in
theorem zbB(hf:∀a b,f a=f b->a=b)(hk:k≠2):∀(n:Nat) (es:List zC) (B:Nat) {x:List zC × Nat},kE k l ns' n es B=AK x->kE k (l.map f) ns n (es.map (mp f)) B=AK (x.1.map (mp f),x.2)
 | 0,es,B,x,h=>by cases h
 | n+1,es,B,x,h=>by
  unfold kE at h ⊢;rw[ze0 (ns':=ns') hf hk,zfP (ns':=ns') hf hk];split at h
  ·rename_i hs;rw[w6 (zbX hf hk hs)];have hb:=Wm (ns:=ns) (ns':=ns') (l:=l) (B:=B) hf hk (zaL k l ns' (km k l ns' es)) [] 0;rw[aA]at hb;rw[hb]
   cases e:wK k l ns' B [] 0 (zaL k l ns' (km k l ns' es))with
   | none=>rw[e]at h;cases h
   | some y =>
    rw[e]at h
    erw[fF]at h ⊢
    erw[Jg hf]
    split at h
    ·rename_i g;rw[w6 g];cases h;rfl
    ·rename_i g;rw[w9 g];exact zbB hf hk n y.1 y.2 h
  ·cases h
set_option tactic.hygienic true in
theorem zeR(hf:∀a b,f a=f b->a=b)(hk:k≠2):∀(n:Nat) (kept:List zC) (c:Nat) (es:List zC) (B:Nat) {x:Bool × List zC × Nat},Ul k l ns' n kept c es B=AK x->Ul k (l.map f) ns n (kept.map (mp f)) c (es.map (mp f)) B=AK (x.1,x.2.1.map (mp f),x.2.2)
 | 0,kept,c,es,B,x,h=>by cases h;rfl
 | n+1,kept,c,es,B,x,h=>by
  unfold Ul at h ⊢
  cases e:kE k l ns' 20 es B with
  | none=>rw[e]at h;cases h
  | some y =>
   rw[e]at h;rw[zbB (ns:=ns) hf hk 20 es B e];simp only at h ⊢;rw[(zfW hf y.1).1,(zfW hf y.1).2.1,(zfW hf y.1).2.2];split at h
   ·rename_i g;rw[w6 g];split at h
    ·rename_i g2;rw[w6 g2];cases h;rfl
    ·rename_i g2;rw[w9 g2];have:=zeR hf hk n _ _ _ _ h;rw[aq,aY]at this
     erw[(zdp y.1 _).1,(zdp y.1 _).2]
     exact this
   ·cases h
end
end in def we(a b n:Nat):():=(aJ n).map λi=>if i % 2=0 then a else b
end in def yc(t:Nat)(q:Bool):():=(aM t (if q=AM then [1,0]else [0,1])).flatten
end in def ub(t:Nat)(q:Bool):List zC:=[([0,0],[]),([1,1],[]),(yc t q,[])]
end in def qX(k t r:Nat)(q:Bool):List zC :=
 if r=0 then ub t q
 else if r<t then [([0,0],[]),([1,1],[]),(we 0 1 (2 * t - r),we 1 0 r),(we 1 0 (2 * t - r),we 0 1 r)]
 else if t=1 then [([1],[0]),([0,0],[])]
 else if k=1/\t % 2=0 then [([0,0],[]),([1,1],[]),(we 0 1 t,we 1 0 t)]
 else [([0,0],[]),([1,1],[]),(we 1 0 t,we 0 1 t)]
end in def okI(k t r:Nat)(q:Bool):Bool:=match Ul k [0,1] [] (r+1) [] 0 (ub t q) 1 with
 | none=>AN
 | some x=>decide (x.2.2<=3 ^ min r t) && x.1 == decide (t<=r) && x.2.1.isPerm (qX k t r q) && decide (x.2.1.Pairwise λa b=>zP k [0,1] [] b.1 a.1=AN) && decide (((qX k t r q).map Prod.fst).Nodup) && (qX k t r q).all λp=>p.1.all λc=>decide (c<2)
def UI:∀t ∈ [1,2,3,4],∀r ∈ [0,1,2,3,4,5],∀k ∈ [0,1],∀q ∈ [AM,AN],okI k t r q=AM:=by symm
end in def nm2(x y n:Nat):Nat:=if n=0 then x else if n=1 then y else n+x+y+1
def Wp(h:x≠y)(a b:Nat)(e:nm2 x y a=nm2 x y b):a=b:=by unfold nm2 at e;split at e <;> split at e <;> (try split at e) <;> (try split at e) <;> lia
def Wl{zs rs:List zC}(hl:∀r ∈ rs,∀c ∈ r.1,c ∈ l)(hn:(rs.map Prod.fst).Nodup)(hp:zs.Perm rs)(h1:zs.Pairwise λa b=>rankF.lt (vQ k l [] b.1) (vQ k l [] a.1)=AN)(h2:rs.Pairwise λa b=>rankF.lt (vQ k l [] b.1) (vQ k l [] a.1)=AN):zs=rs:=by
 refine List.Perm.eq_of_pairwise (le:=λa b:zC=>rankF.lt (vQ k l [] b.1) (vQ k l [] a.1)=AN) (λa b ha hb h1 h2=>?_) h1 h2 hp;have ha':=hp.mem_iff.mp ha;refine Ze hn ha' hb ((zbo (k:=k) (ns:=[]) (hl a ha') (hl b hb)).mp ?_);by_cases e:vQ k l [] a.1=vQ k l [] b.1
 ·exact e
 ·have:=jD e;rw[h1,h2]at this;cases this
def Qk(hk:k≠2)(u v:()):zP k l ns u v=rankF.lt (vQ k l [] u) (vQ k l [] v):=by
 unfold zP
 erw[rankF,vQ,zx,w9 hk]
def za1(hk:k≠2)(h:∀p ∈ rs,p.1.length≠p.2.length):km k l ns rs=rs.map lgR:=by
 unfold km
 rw[List.filter_eq_self.mpr λp hp=>by
  erw[dN,decide_eq_false_iff_not]
  exact λe=>h p hp (by rw[e])]
 refine aW λp hp=>?_;have:=h p hp;unfold qK lgR zP zx
 erw[w9 hk]
 by_cases g:p.1.length<p.2.length
 ·rw[w6 g,w9];rw[w9 ⋯]
  erw[decide_eq_true_eq]
  lia
 ·rw[w9 g,w6];rw[w9 ⋯]
  erw[decide_eq_true_eq]
  lia
def zaO(hs:∀p ∈ rs,p.2.length<p.1.length)(h:Alk rs rs'):(rs'.map lgR).Perm rs/\∀p ∈ rs',p.1.length≠p.2.length:=by
 have e:rs.map lgR=rs:=by
  refine (aW λp hp=>?_).trans (gx _);unfold lgR;have:=hs p hp;rw[w9 ⋯];rfl
 have hp:=h.2 lgR λp hp=>by
  unfold lgR;have:=hs p hp;simp only;rw[w6 ⋯,w9 ⋯]
 rw[e]at hp;refine#[hp,λp hm g=>?_];have:=hs _ (hp.mem_iff.mp (AT.mpr #[p,hm,rfl]));unfold lgR at this;rw[w9 ⋯]at this;lia
theorem zcm{q w:Bool}(hxy:x≠y)(hk:k ∈ [0,1])(ht:t ∈ [1,2,3,4])(hr:r ∈ [0,1,2,3,4,5])(hA:Alk ((ub t q).map (mp (nm2 x y))) rs')(hC:Cpl k [x,y] ns (r+1) [] (fEs rs' rs'.length) w es):(w=decide (t<=r)/\(∀e ∈ es,e.2.2.length<=3 ^ min r t)/\∃ps0:List zC,ps0.Perm (qX k t r q)/\zc es=ps0.map (mp (nm2 x y)))/\∀due,due.Perm ((qX k t r q).map (mp (nm2 x y)))->(due.Pairwise λa b=>rankF.lt (vQ k [x,y] [] b.1) (vQ k [x,y] [] a.1)=AN)->zc es=due:=by
 have hf:=Wp hxy
 have hk2:k≠2:=by
  rcases AU.mp hk with rfl | hk
  ·decide
  ·rw[AW.mp hk];decide
 have hl:[x,y]=[0,1].map (nm2 x y):=rfl;have ok:=UI t ht r hr k hk q (by cases q <;> decide);unfold okI at ok
 cases e:Ul k [0,1] [] (r+1) [] 0 (ub t q) 1 with
 | none=>rw[e]at ok;cases ok
 | some z =>
  rw[e]at ok
  erw[aQ]at ok
  let#[#[#[#[#[o6,o1],o2],o3],o4],o5]:=ok
  have hb:∀p ∈ (ub t q).map (mp (nm2 x y)),p.2.length<p.1.length:=λp hp=>by
   let#[p0,hp0,rfl]:=AT.mp hp;unfold mp
   erw[aa]
   have:∀t ∈ [1,2,3,4],∀q ∈ [AM,AN],∀p ∈ ub t q,p.2.length<p.1.length:=∅;exact this t ht q (by cases q <;> decide) p0 hp0
  let#[hp,hne]:=zaO hb hA;have e2:=zeR (ns:=ns) hf hk2 (r+1) [] 0 (ub t q) 1 e;rw[aA,<- hl]at e2
  have raw:(km k [x,y] ns (zc (fEs rs' rs'.length))).Perm (km k [x,y] ns ((ub t q).map (mp (nm2 x y)))):=by
   rw[YT _ _ (ao _),aK,za1 hk2 hne,za1 hk2 λp hp=>cr (hb p hp)];refine hp.trans (.of_eq ?_);refine ((aW λp hp=>?_).trans (gx _)).symm;unfold lgR;have:=hb p hp;rw[w9 ⋯];rfl
  let#[hw,hpe,hst]:=zfV hC raw (λe he=>nomatch he) (λe he=>by
   let#[i,p,hi,hp,rfl]:=jf he
   exact ao _) e2
  simp only at hw hpe hst;refine#[#[hw.trans (by simpa using o1),λe he=>aL (hst e he) (u6 o6),z.2.1,Bf.mp o2,hpe],λdue hd hs=>hpe.trans ?_];have hperm:(z.2.1.map (mp (nm2 x y))).Perm due:=((Bf.mp o2).map _).trans hd.symm;refine Wl (k:=k) (l:=[x,y]) (λp hp c hc=>?_) ?_ hperm ?_ hs
  ·let#[p0,hp0,rfl]:=AT.mp (hd.mem_iff.mp hp);let#[c0,hc0,rfl]:=AT.mp hc;have:=u6 (AX.mp (AX.mp o5 p0 hp0) c0 hc0);rw[hl];exact AT.mpr #[c0,by match c0,this with | 0,_=>decide | 1,_=>decide,rfl]
  ·refine ((hd.map Prod.fst).nodup_iff).mpr ?_;rw[aY];have:(Prod.fst ∘ mp (nm2 x y):zC->())=(gA (nm2 x y)) ∘ Prod.fst:=rfl;rw[this,<- aY];exact Bc.mpr ((u6 o4).imp λ{a b} h g=>h ((wI hf).mp g))
  ·refine Bc.mpr ((u6 o3).imp λ{a b} h=>?_);rw[<- Qk (ns:=[]) hk2,hl,show zP k ([0,1].map (nm2 x y)) [] (mp (nm2 x y) b).1 (mp (nm2 x y) a).1=zP k [0,1] [] b.1 a.1 from UY hf hk2 _ _];exact h
end in def ivc(u v:Nat):()->Nat
 | []=>0
 | c::w=>(if c=u then w.count v else 0)+ivc u v w
theorem Uq(u v:Nat)(b:()):∀a:(),ivc u v (a ++ b)=ivc u v a+ivc u v b+a.count u * b.count v
 | []=>by simp [ivc]
 | c::a=>by
  rw[bu,ivc,ivc,Uq u v b a,eU,cF];by_cases e:c=u
  ·rw[w6 e,w6 e,w6 (beq_iff_eq.mpr e),fN,eJ];lia
  ·rw[w9 e,w9 e,w9 (λh=>e (beq_iff_eq.mp h)),ft];lia
theorem zbu(h:u≠v):∀w:(),ivc u v w<=w.count u * w.count v
 | []=>ao _
 | c::w=>by
  have ih:=zbu h w;rw[ivc,cF,cF];by_cases e:c=u
  ·rw[w6 e,w6 (beq_iff_eq.mpr e),w9 (λz=>h (e.symm.trans (beq_iff_eq.mp z)))]
   erw[ft,fN,eJ]
   lia
  ·rw[w9 e,w9 (λz=>e (beq_iff_eq.mp z))]
   erw[ft,d9]
   exact aL ih (bX _ (e9 _ _))
end in def nuI(A B C u v:Nat)(w:()):Nat:=A * w.length+B * w.count 1+C * ivc u v w
def Jt(h1:C=0\/(q.count u<=p.count u/\q.count v<=p.count v))(h2:nuI A B C u v q+2<=nuI A B C u v p)(a b:()):nuI A B C u v (a ++ q ++ b)+2<=nuI A B C u v (a ++ p ++ b):=by
 unfold nuI at h2 ⊢
 erw[ak,eU,Uq,Nat.mul_add]
 rcases h1 with rfl | ⟨g1,g2⟩
 ·erw[Nat.zero_mul]at h2 ⊢
  lia
 ·have m1:=bX C (bX (a.count u) g2);have m2:=bX C (cI (b.count v) (Nat.add_le_add_left g1 (a.count u)));lia
theorem Qt{μ:()->Nat}(hs:∀p ∈ ps,∀a b:(),μ (a ++ p.2 ++ b)+2<=μ (a ++ p.1 ++ b)){w:()}:∀{i:Nat},Yd ps w i->μ (wAt ps w i)+2 * i<=μ w
 | 0,_=>ao _
 | i+1,h=>by
  have ih:=Qt hs (i:=i) λj hj=>h j ⋯
  cases e:zF (wAt ps w i) ps with
  | none=>exact w4 e (h i ⋯)
  | some u =>
   let#[p,h1,h2]:=z5 e;let#[e1,_]:=yo h2;rw[yZ e];unfold qO yS;rw[yu h1];have:=hs p (ac h1) ((wAt ps w i).take ((u.2:Int)).toNat) ((wAt ps w i).drop (((u.2:Int)).toNat+p.1.length));rw[e1]at this;lia
def zdv{μ:()->Nat}(hs:∀p ∈ ps,∀a b:(),μ (a ++ p.2 ++ b)+2<=μ (a ++ p.1 ++ b)){w:()}(hw:μ w<=80):∃i,EndsAt ps w i/\2 * i<=μ w:=by
 rcases Q8 ps w with ⟨i,h⟩ | ⟨h1,h2⟩
 ·have:=Qt hs h.live;exact#[i,h,⋯]
 ·have:=Qt hs (w:=w) (i:=41) λi hi=>by
   by_cases e:i=40
   ·rw[e];exact h2
   ·exact h1 i ⋯
  lia
end in def qx(k t r:Nat):Nat × Nat × Nat × Nat × Nat :=
 if r<t then (1,0,0,1,0)
 else if t=1 then (2,2,0,1,0)
 else if t=3 then (1,2,0,1,0)
 else if k=1 then (1,0,if t=2 then 2 else 1,0,1)
 else (1,0,if t=2 then 2 else 1,1,0)
end in def muI(k t r:Nat)(w:()):Nat:=nuI (qx k t r).1 (qx k t r).2.1 (qx k t r).2.2.1 (qx k t r).2.2.2.1 (qx k t r).2.2.2.2 w
def zaD:∀t ∈ [1,2,3,4],∀r ∈ [0,1,2,3,4,5],∀k ∈ [0,1],∀q ∈ [AM,AN],∀p ∈ qX k t r q,((qx k t r).2.2.1=0\/(p.2.count (qx k t r).2.2.2.1<=p.1.count (qx k t r).2.2.2.1/\p.2.count (qx k t r).2.2.2.2<=p.1.count (qx k t r).2.2.2.2))/\muI k t r p.2+2<=muI k t r p.1:=by symm
def XJ:∀t ∈ [1,2,3,4],∀r ∈ [0,1,2,3,4,5],∀k ∈ [0,1],(qx k t r).2.2.2.1≠(qx k t r).2.2.2.2/\((qx k t r).1 * 8+(qx k t r).2.1 * 8+(qx k t r).2.2.1 * 16) * 3 ^ min r t<=2000/\(qx k t r).1 * 8+(qx k t r).2.1 * 8+(qx k t r).2.2.1 * 16<=80:=by symm
theorem kX(h:u≠v):∀w:(),w.count u+w.count v<=w.length
 | []=>ao _
 | c::w=>by
  have ih:=kX h w;rw[cF,cF,aC];by_cases e:c=u
  ·rw[w6 (beq_iff_eq.mpr e),w9 (λz=>h (e.symm.trans (beq_iff_eq.mp z)))];lia
  ·rw[w9 (λz=>e (beq_iff_eq.mp z))];split <;> lia
def zfw(hk:k ∈ [0,1])(ht:t ∈ [1,2,3,4])(hr:r ∈ [0,1,2,3,4,5]){w:()}(h8:w.length<=8):muI k t r w<=(qx k t r).1 * 8+(qx k t r).2.1 * 8+(qx k t r).2.2.1 * 16:=by let#[hn,_]:=XJ t ht r hr k hk;unfold muI nuI;have c1:w.count 1<=8:=aL List.count_le_length h8;have c2:=kX hn w;have c3:=zbu hn w;have fin:∀a ∈ aJ 9,∀b ∈ aJ 9,a+b<=8->a * b<=16:=∅;have c4:=fin (w.count (qx k t r).2.2.2.1) (AY.mpr ⋯) (w.count (qx k t r).2.2.2.2) (AY.mpr ⋯) ⋯;exact fW (fW (bX _ h8) (bX _ c1)) (bX _ ⋯)
def Vc(a b n:Nat):we a b (n+1)=we a b n ++ [if n % 2=0 then a else b]:=by unfold we;rw[cy,aq];rfl
def zcO(f:Nat->Nat)(a b n:Nat):(we a b n).map f=we (f a) (f b) n:=by
 unfold we;rw[aY];refine aW λi Z=>?_
 erw[Function.comp_def]
 split <;> rfl
def xK:Sp:=λvs H Q Z=>∃a b n:Nat,vs=[.str (tx [a]),.str (tx [b]),.int (n:Nat)]/\n<=100/\Q (.str (tx (we a b n))) H
def qj(h:n<=100)(q:Q (.str (tx (we a b n))) H):xK [.str (tx [a]),.str (tx [b]),.int (n:Nat)] H Q E:=#[a,b,n,rfl,h,q]
def il:sQz 3 ["_law_one","_law_other","_law_size","_law_word_here","_law_k"] wq:=by nofun
def ko(B:Bt mg)(F:("_law_alternating"^^^wq)):(1&&&["_law_one","_law_other","_law_size"]) xK:=by
 exists F.ok il
 ·let#[a,b,n,rfl,hn,q]:=h
  refine#[_,(zG (zB 3 il.nd zQ) (zG (zZ p9 rfl (zV rfl B.range (za (pv 2) ze)) (zr (i:=4) il.nd rfl (.inl rfl)) (zg (zJ (zt yW (zD xp (pv 4) zf) zf (zv _)) (zg (zB 3 il.nd (zD zL (pv 3) (pv 0)))) (zg (zB 3 il.nd (zD zL (pv 3) (pv 1))))))) (zg (zl (pv 3))))),?_]
  have s16:=zS
  rfl'
  refine#[⋯,⋯,ForR.by (λi σ H'=>H'=H/\∃v4:Option V,σ=[AK (.str (tx [a])),AK (.str (tx [b])),-~~~n,AK (.str (tx (we a b i))),v4]) #[rfl,AL,rfl] ?_ ?_]
  ·refine nm3 ?_;rintro i σ H' hi ⟨rfl,v4,rfl⟩:_;right
   rfl'
   have hlen:(we a b i).length=i:=by unfold we;rw[aa,bF]
   refine#[∅,z8 (λh=>#[⋯,?_]) λh=>#[⋯,?_]]
   ·rw[Vc,w6 ⋯]
   ·rw[Vc,w9 ⋯]
  ·rintro σ H' ⟨rfl,v4,rfl⟩
   rfl'
   exact q
theorem J8{k t r x y:Nat}{q:Bool}(hxy:x≠y)(hk:k ∈ [0,1])(ht:t ∈ [1,2,3,4])(hr:r ∈ [0,1,2,3,4,5]):let ds:=(qX k t r q).map (mp (nm2 x y));ds≠[]/\ds.length<=12/\(ds.map Prod.fst).Nodup/\∀p ∈ ds,p.1.length<=10/\∀c ∈ p.1,c ∈ [x,y]:=by
 have hf:=Wp hxy;have ok:=UI t ht r hr k hk q (by cases q <;> decide);unfold okI at ok;have fin:∀t ∈ [1,2,3,4],∀r ∈ [0,1,2,3,4,5],∀k ∈ [0,1],∀q ∈ [AM,AN],(qX k t r q).length<=12/\(qX k t r q).length≠0/\∀p ∈ qX k t r q,p.1.length<=10:=by symm
 let#[g1,g2,g3]:=fin t ht r hr k hk q (by cases q <;> decide)
 cases e:Ul k [0,1] [] (r+1) [] 0 (ub t q) 1 with
 | none=>rw[e]at ok;cases ok
 | some z =>
  rw[e]at ok
  erw[aQ]at ok
  let#[#[_,o4],o5]:=ok;refine#[λh=>g2 (by rw[List.map_eq_nil_iff]at h;rw[h];rfl),by rw[aa];exact g1,?_,λp hp=>?_]
  ·rw[aY];have:(Prod.fst ∘ mp (nm2 x y):zC->())=(gA (nm2 x y)) ∘ Prod.fst:=rfl;rw[this,<- aY];exact Bc.mpr ((u6 o4).imp λ{a b} h g=>h ((wI hf).mp g))
  ·let#[p0,hp0,rfl]:=AT.mp hp;refine#[by unfold mp;rw[aa];exact g3 p0 hp0,λc hc=>?_];let#[c0,hc0,rfl]:=AT.mp hc;have:=u6 (AX.mp (AX.mp o5 p0 hp0) c0 hc0);exact show nm2 x y c0 ∈ [0,1].map (nm2 x y)from AT.mpr #[c0,by match c0,this with | 0,_=>decide | 1,_=>decide,rfl]
def vt(K:sr):Sp:=λvs H Q Z=>∃(t r x y:Nat) (q b:Bool),vs=[.int (t:Nat),.int (r:Nat),.str (tx [x,y]),.bl b,.str (tx ((yc t q).map (nm2 x y)))]/\x≠y/\jJ [x,y]=AM/\t ∈ [1,2,3,4]/\r ∈ [0,1,2,3,4,5]/\∀(D:su) (H':Hp) (rs:List zC),Same H H'->LsA K H' D (rs.map dR)->rs.Perm ((qX (if b=AM then 1 else 0) t r q).map (mp (nm2 x y)))->(rs.Pairwise λa c=>rankF.lt (vQ (if b=AM then 1 else 0) [x,y] [] c.1) (vQ (if b=AM then 1 else 0) [x,y] [] a.1)=AN)->Q (.ref D) H'
def gZ:sQz 5 ["_law_times","_law_rounds","_law_letters_here","_law_right_here","_law_third","_law_x","_law_y","_law_pairs","_law_last"] xT:=by nofun
def jS(B:Bt mg)(F:("_law_rules_behind"^^^xT))(pq:(3<<<"_law_sided") ["_law_pairs","_law_right_here","_law_letters_here"] [] (Z3 K))(ie:(1<<<"_law_alternating") ["_law_one","_law_other","_law_size"] [] xK):(4&&&["_law_times","_law_rounds","_law_letters_here","_law_right_here","_law_third"]) (vt K):=by
 exists F.ok gZ
 ·let#[t,r,x,y,q0,b,rfl,hxy,hg,ht,hr5,q]:=h
  refine#[_,(zh (zB 5 gZ.nd (zk wJ (pv 2) zf)) (zh (zB 6 gZ.nd (zk wJ (pv 2) zf)) (zh (zB 7 gZ.nd (y6 (za (zN (za (zD zL (pv 5) (pv 5)) (za zQ ze))) (za (zN (za (zD zL (pv 6) (pv 6)) (za zQ ze))) ze)))) (zh (zJ (zt yW (pv 1) zf (zv _)) (zg (zl (cl0 pq hr .nil rfl (za (zD jl (pv 7) (y6 (za (zN (za (pv 4) (za zQ ze))) ze))) (za (pv 3) (za (pv 2) ze))))))
    zp) (zh (zJ (zt Xy (pv 1) (pv 0) (zv _)) (zh (xt (wL bh bC bD yP (pv 7) (za (zN (za (cl0 ie hr .nil rfl (za (pv 5) (za (pv 6) (za (zD xD (zD uH zf (pv 0)) (pv 1)) ze)))) (za (cl0 ie hr .nil rfl (za (pv 6) (za (pv 5) (za (pv 1) ze)))) ze))) ze))) (zh (xt (wL bh bC bD yP (pv 7) (za (zN (za (cl0 ie hr .nil rfl (za (pv 6) (za (pv 5) (za (zD xD (zD uH zf (pv 0)) (pv 1)) ze)))) (za (cl0 ie hr .nil rfl (za (pv 5) (za (pv 6) (za (pv 1) ze)))) ze))) ze))) (zg (zl (cl0 pq hr .nil rfl (za (pv 7) (za (pv 3) (za (pv 2) ze))))))))
    zp) (zh (zJ (zt yW (pv 0) zf (zv _)) (zg (zl (y6 (za (zN (za (pv 6) (za (pv 5) ze))) (za (zN (za (zD zL (pv 5) (pv 5)) (za zQ ze))) ze)))))
    zp) (zh (zB 8 gZ.nd (zN (za (cl0 ie hr .nil rfl (za (pv 6) (za (pv 5) (za (pv 0) ze)))) (za (cl0 ie hr .nil rfl (za (pv 5) (za (pv 6) (za (pv 0) ze)))) ze)))) (zh (zJ (PW.pt (Jn (ym (pv 3) (λZ=>rfl)) (X4 (zt yW (zD xp (pv 0) zf) zf (zv _))))) (zg (zB 8 gZ.nd (zN (za (!-8) (za (!-8) ze)))))
    zp) (zg (zl (cl0 pq hr .nil rfl (za (zD jl (pv 7) (y6 (za (pv 8) ze))) (za (pv 3) (za (pv 2) ze)))))))))))))),?_]
  have s16:=zS;have ht4:1<=t/\t<=4:=by erw[dn,cL,or_false]at ht;lia
  have hr4:r<=5:=by erw[dn,cL,or_false]at hr5;lia
  change H'=H/\σ=[-~~~t,-~~~r,AK (.str (tx [x,y])),AK (.bl b),AK (.str (tx ((yc t q0).map (nm2 x y)))),AK (.str (tx [x])),AL,AL,AL]
  ·rfl'
   exact#[⋯,rfl]
  rintro σ H1 ⟨rfl,rfl⟩:_;right;change H'=H1/\σ=[-~~~t,-~~~r,AK (.str (tx [x,y])),AK (.bl b),AK (.str (tx ((yc t q0).map (nm2 x y)))),AK (.str (tx [x])),AK (.str (tx [y])),AL,AL]
  ·rfl'
   exact#[⋯,rfl]
  rintro σ H1 ⟨rfl,rfl⟩:_;obtain⟨k,hk⟩:∃k:Nat,(if b=AM then 1 else 0)=k:=#[_,rfl];rw[hk]at q;have hkm:k ∈ [0,1]:=by rw[<- hk];split <;> decide
  let#[d1,d2,d3,d4]:=J8 (q:=q0) hxy hkm ht hr5
  have fin:∀{a:su} {H':Hp} {rs:List zC},Same H1 H'->LsA K H' a (rs.map dR)->rs=(qX k t r q0).map (mp (nm2 x y))->Z3 K [.ref a,.bl b,.str (tx [x,y])] H' Q E0:=λ{a H' rs} s hL e=>by
   subst e;exact#[a,_,b,[x,y],rfl,hL,d1,d2,d3,d4,hg,λD H'' rs' s' hL' hS=>q D H'' rs' (s.trans s') hL' (by rw[hk]at hS;exact hS.1) (by rw[hk]at hS;exact hS.2)]
  right;change Same H1 H'/\∃D:su,H1 D=AL/\LsA K H' D ([([x,x],[]),([y,y],[])].map dR)/\σ=[-~~~t,-~~~r,AK (.str (tx [x,y])),AK (.bl b),AK (.str (tx ((yc t q0).map (nm2 x y)))),AK (.str (tx [x])),AK (.str (tx [y])),!!D,AL]
  ·rfl'
   refine#[⋯,⋯,λp hp=>#[⋯,⋯,λp1 hp1=>#[⋯,λD hD=>?_]]];have u1:=zd (o:=HO.tup [.str (tx [x,x]),.str (tx [])]) hp;have u2:=zd (o:=HO.tup [.str (tx [y,y]),.str (tx [])]) hp1;have u3:=zd (o:=HO.lst [.ref p,.ref p1]) hD;refine#[u1.trans (u2.trans u3),D,?_,#[_,zb,?_],rfl]
   ·cases e:H1 D with
    | none=>rfl
    | some o =>
     cases ((u1.trans u2) _ _ e).symm.trans hD
   ·erw[am,aA,Iss]
    exact#[_,_,rfl,vZ (SqT.of (u3 _ _ (u2 _ _ zb))),_,_,rfl,vZ (SqT.of (u3 _ _ zb)),rfl]
  rintro σ H2 ⟨s2,D,hD,hL,rfl⟩:_;let#[xs,hX,hI]:=id hL;have hxl:=hI.len;right;change 0<r/\H'=H2/\σ=[-~~~t,-~~~r,AK (.str (tx [x,y])),AK (.bl b),AK (.str (tx ((yc t q0).map (nm2 x y)))),AK (.str (tx [x])),AK (.str (tx [y])),!!D,AL]
  ·rfl'
   refine z8 (λh0=>#[⋯,λp hp=>#[⋯,λp1 hp1=>?_]]) λh0=>by lia
   have u1:=zd (o:=HO.tup [.str (tx ((yc t q0).map (nm2 x y))),.str (tx [])]) hp;have u2:=zd (o:=HO.lst [.ref p]) hp1;refine#[xs,(u1.trans u2) _ _ hX,[.ref p],zb,?_,λp2 hp2=>?_]
   ·erw[am,aA,aC,bg]at hxl ⊢
    lia
   ·have u3:=zd (o:=HO.lst (xs ++ [.ref p])) hp2;refine fin (rs:=[([x,x],[]),([y,y],[]),((yc t q0).map (nm2 x y),[])]) (s2.trans (u1.trans (u2.trans u3))) #[_,zb,?_] ?_
    ·have:=Iss.append (Iss.same (u1.trans (u2.trans u3)) _ _ hI) (show Iss K _ [dR ((yc t q0).map (nm2 x y),[])] [.ref p] by
      erw[Iss]
      exact#[_,_,rfl,vZ (SqT.of (u3 _ _ (u2 _ _ zb))),rfl])
     exact this
    ·have:r=0:=⋯;unfold qX;rw[w6 this];rfl
  rintro σ H2 ⟨hr0,rfl,rfl⟩:_;have mul2:CMul 2 (t:Int):=by unfold CMul;lia
  have al:=λa b n=>zcO (nm2 x y) a b n;right;change t<=r/\H'=H2/\σ=[-~~~t,-~~~r,AK (.str (tx [x,y])),AK (.bl b),AK (.str (tx ((yc t q0).map (nm2 x y)))),AK (.str (tx [x])),AK (.str (tx [y])),!!D,AL]
  ·rfl'
   refine z8 (λhlt=>?_) λhlt=>by lia
   change Same H1 H'/\LsA K H' D ([([x,x],[]),([y,y],[]),(we x y (2 * t - r),we y x r)].map dR)/\σ=[-~~~t,-~~~r,AK (.str (tx [x,y])),AK (.bl b),AK (.str (tx ((yc t q0).map (nm2 x y)))),AK (.str (tx [x])),AK (.str (tx [y])),!!D,AL]
   ·rfl'
    refine#[.inl #[_,SqL.of hX],mul2,?_];rw[show 2 * (t:Int) - (r:Int)=((2 * t - r:Nat):Int) by lia];refine qj ⋯ (qj ⋯ #[⋯,λp hp=>#[_,zd hp _ _ hX,by erw[am,aA,aC,bg]at hxl;lia,zu (s2.trans (zd hp)) hD,?_]]);have u1:=zd (o:=HO.tup [.str (tx (we x y (2 * t - r))),.str (tx (we y x r))]) hp;exact LsA.snoc (u1 _ _ hX) (Iss.same u1 _ _ hI) (wu [([x,x],[]),([y,y],[])]) (qe _) (vZ (SqT.of zb))
   rintro σ H3 ⟨s3,hL3,rfl⟩:_;right;change Same H1 H'/\LsA K H' D ([([x,x],[]),([y,y],[]),(we x y (2 * t - r),we y x r),(we y x (2 * t - r),we x y r)].map dR)/\σ=[-~~~t,-~~~r,AK (.str (tx [x,y])),AK (.bl b),AK (.str (tx ((yc t q0).map (nm2 x y)))),AK (.str (tx [x])),AK (.str (tx [y])),!!D,AL]
   ·rfl'
    let#[ys,hX3,hI3]:=id hL3;have hxl3:=hI3.len;refine#[.inl #[_,SqL.of hX3],mul2,?_];rw[show 2 * (t:Int) - (r:Int)=((2 * t - r:Nat):Int) by lia];refine qj ⋯ (qj ⋯ #[⋯,λp hp=>#[_,zd hp _ _ hX3,by erw[am,aA,aC,bg]at hxl3;lia,zu (s3.trans (zd hp)) hD,?_]]);have u1:=zd (o:=HO.tup [.str (tx (we y x (2 * t - r))),.str (tx (we x y r))]) hp;exact LsA.snoc (u1 _ _ hX3) (Iss.same u1 _ _ hI3) (wu [([x,x],[]),([y,y],[]),(we x y (2 * t - r),we y x r)]) (qe _) (vZ (SqT.of zb))
   rintro σ H4 ⟨s4,hL4,rfl⟩:_;right
   rfl'
   refine fin s4 hL4 ?_;unfold qX;rw[w9 ⋯,w6 ⋯]
   erw[am,aA,mp,al]
   rfl
  rintro σ H2 ⟨htr,rfl,rfl⟩:_;right;change t≠1/\H'=H2/\σ=[-~~~t,-~~~r,AK (.str (tx [x,y])),AK (.bl b),AK (.str (tx ((yc t q0).map (nm2 x y)))),AK (.str (tx [x])),AK (.str (tx [y])),!!D,AL]
  ·rfl'
   refine z8 (λh1=>?_) λh1=>by lia
   have t1:t=1:=⋯;subst t1;refine#[⋯,λp hp=>#[⋯,⋯,λp1 hp1=>#[⋯,λD' hD'=>?_]]];have u1:=zd (o:=HO.tup [.str (tx [y]),.str (tx [x])]) hp;have u2:=zd (o:=HO.tup [.str (tx [x,x]),.str (tx [])]) hp1;have u3:=zd (o:=HO.lst [.ref p,.ref p1]) hD';refine q D' _ [([y],[x]),([x,x],[])] (s2.trans (u1.trans (u2.trans u3))) #[_,zb,?_] ?_ ?_
   ·erw[am,aA,Iss]
    exact#[_,_,rfl,vZ (SqT.of (u3 _ _ (u2 _ _ zb))),_,_,rfl,vZ (SqT.of (u3 _ _ zb)),rfl]
   ·unfold qX;rw[w9 ⋯,w9 ⋯,w6 rfl];exact .of_eq rfl
   ·refine Bj.mpr #[λc hc=>?_,dH _ _];have hk2:k≠2:=by rw[<- hk];split <;> decide
    rw[AW.mp hc,<- Qk (ns:=[]) hk2];unfold zP zx
    erw[w9 hk2,aC,bg]
    rw[w9 ⋯];exact v9 ⋯
  rintro σ H2 ⟨ht1,rfl,rfl⟩:_;right;change Same H2 H'/\∃p:su,H' p=AK (.tup [.str (tx (we y x t)),.str (tx (we x y t))])/\σ=[-~~~t,-~~~r,AK (.str (tx [x,y])),AK (.bl b),AK (.str (tx ((yc t q0).map (nm2 x y)))),AK (.str (tx [x])),AK (.str (tx [y])),!!D,!!p]
  ·rfl'
   exact qj ⋯ (qj ⋯ #[⋯,λp hp=>#[zd hp,zb]])
  rintro σ H3 ⟨s3,p,hp3,rfl⟩:_;right;change Same H2 H'/\∃p:su,SqT K H' p (if k=1/\t % 2=0 then [.str (tx (we x y t)),.str (tx (we y x t))]else [.str (tx (we y x t)),.str (tx (we x y t))])/\σ=[-~~~t,-~~~r,AK (.str (tx [x,y])),AK (.bl b),AK (.str (tx ((yc t q0).map (nm2 x y)))),AK (.str (tx [x])),AK (.str (tx [y])),!!D,!!p]
  ·rfl'
   refine z8 (λhb=>#[∅,z8 (λh2=>#[_,SqT.of hp3,_,rfl,_,SqT.of hp3,_,rfl,⋯,λp' hp'=>#[s3.trans (zd hp'),?_]]) λh2=>#[s3,?_]]) λhb=>#[s3,?_]
   ·rw[w6 #[by rw[<- hk,w6 hb],⋯]];exact SqT.of zb
   ·rw[w9 (λh=>by lia)];exact SqT.of hp3
   ·rw[w9 (λh=>by rw[<- hk,w9 hb]at h;lia)];exact SqT.of hp3
  rintro σ H4 ⟨s4,p4,hp4,rfl⟩:_;right
  rfl'
  obtain⟨la,hla,hdu⟩:∃la:zC,SqT K H4 p4 [.str (tx la.1),.str (tx la.2)]/\[([x,x],[]),([y,y],[]),la]=(qX k t r q0).map (mp (nm2 x y)):=by
   unfold qX;rw[w9 ⋯,w9 ⋯,w9 ht1];by_cases g:k=1/\t % 2=0
   ·rw[w6 g]at hp4 ⊢;refine#[(we x y t,we y x t),hp4,?_]
    erw[am,aA,mp,al]
    rfl
   ·rw[w9 g]at hp4 ⊢;refine#[(we y x t,we x y t),hp4,?_]
    erw[am,aA,mp,al]
    rfl
  refine#[⋯,λp hp=>?_];have u1:=zd (o:=HO.lst [.ref p4]) hp;refine#[xs,u1 _ _ (s4 _ _ hX),[.ref p4],zb,?_,λp1 hp1=>?_]
  ·erw[am,aA,aC,bg]at hxl ⊢
   lia
  ·have u2:=zd (o:=HO.lst (xs ++ [.ref p4])) hp1;refine fin (rs:=[([x,x],[]),([y,y],[]),la]) (s2.trans (s4.trans (u1.trans u2))) #[_,zb,?_] hdu
   exact Iss.append (Iss.same (s4.trans (u1.trans u2)) _ _ hI) (show Iss K _ [dR la] [.ref p4] by
    erw[Iss]
    exact#[_,_,rfl,vZ (zo (u1.trans u2) hla),rfl])
end in def wg(k N:Nat):List Int:=((aJ (2 * k)).map (jX 2 N)).reverse
end in def atF(c:List Int):Nat->Int
 | 0=>-1
 | n+1=>if c[n]? = AK 1 then atF c n else (n:Int)
end in def nxC(c:List Int):List Int:=(aJ c.length).map λi:Nat=>if atF c c.length<(i:Int)then 0 else c.getD i 0
end in def okC(k N:Nat):Bool:=(wg k N).length == 2 * k && (wg k N).all (λz=>z == 0 || z == 1) && (if N+1<2 ^ (2 * k)then (wg k N).contains 0 && decide (0<=atF (wg k N) (2 * k)) && decide (atF (wg k N) (2 * k)<((2 * k:Nat):Int)) && (nxC (wg k N)).set (atF (wg k N) (2 * k)).toNat 1 == wg k (N+1)else !(wg k N).contains 0)
def okC_all:(∀N ∈ aJ 16,okC 2 N=AM)/\∀N ∈ aJ 64,okC 3 N=AM:=by symm
def TbsA(H:Hp)(D:su)(k N:Nat)(AR:List V):Prop:=H D=AK (.lst AR)/\AR.length=N/\∀(i:Nat) (v:V),AR[i]? = AK v->∃t rs,v=.ref t/\TabAt (hid H D) t rs (xW 2 k i)
def QI:Sp:=λvs H Q Z=>∃k:Nat,vs=[.int (k:Nat)]/\(k=2\/k=3)/\∀(D:su) (AR:List V) (H':Hp),Same H H'->TbsA H' D k (2 ^ (2 * k)) AR->Q (.ref D) H'
def TbsA.same{H H':Hp}{D:su}{k N:Nat}{AR:List V}(h:TbsA H D k N AR)(s:Same H H'):TbsA H' D k N AR:=#[s _ _ h.1,h.2.1,λi v hv=>let #[t,rs,e,ht]:=h.2.2 i v hv; #[t,rs,e,ht.same (ZD s)]]
theorem zg6(c:List Int):((c.map L3.D.int).any λe=>eqD e (.int 0))=c.contains 0:=by
 induction c with
 | nil=>rfl
 | cons z c ih =>
  rw[am,dX,ih,cU];congr 1
  erw[eqD]
  rw[cS]
  erw[beq_iff_eq]
  exact eq_comm
def zgG(H:Hp)(D:su)(k:Nat)(m:Nat)(σ:L2.St)(G:Hp):Prop:=Same H G/\∃(N:Nat) (AR:List V) (C:su) (v4:Option V),TbsA G D k N AR/\C≠D/\((m=2 ^ (2 * k) - N/\N<2 ^ (2 * k)/\G C=AK (.lst ((wg k N).map V.int))/\σ=[-~~~k,!!D,!!C,AK (.bl AM),v4])\/(m=0/\N=2 ^ (2 * k)/\σ=[-~~~k,!!D,!!C,AK (.bl AN),v4]))
def Qu{D:Yj}(W:Nat->L2.St->Hp->Prop)(h0:∃m,W m σ H)(h:∀m σ H,W m σ H->c σ H λb H1=>if b=AM then ∃N:L2.St->Hp->Prop,(∀σ' H',N σ' H'->∃m',m'<m/\W m' σ' H')/\tb { nx:=N,rt:=D.rt,bk:=D.nx,ct:=N } σ H1 else D.nx σ H1):YB c tb D σ H:=#[W,h0,h]
def im:sQz 1 ["_law_many","_law_tables_here","_law_cells","_law_going","_law_at"] uA:=by nofun
def U1(B:Bt mg)(F:("_law_tables"^^^uA)):(1&&&["_law_many"]) QI:=by
 exists F.ok im
 ·let#[k,rfl,hk,q]:=h
  refine#[_,(zh (zB 1 im.nd (y6 ze)) (zh (yT (i:=2) im.nd rfl (Or.inr rfl) (yy (own:=["_law_k"]) (caps:=[]) (ix:=[]) (tt:=y4) (te:=(tC (.int 0))) rfl (zH (sc:=zi uA) rfl (!0) (!0) (!0) rfl (!0) (!0) rfl) (zV rfl B.range (za (zD uH zf (pv 0)) ze)) (λZ Z Z Z Z Z=>zr (i:=0) (show List.Nodup [_] by decide) rfl (.inl rfl)) (λZ Z Z Z Z Z=>z7) (λZ Z Z Z Z Z=>zf))) (zh (zB 3 im.nd yC) (zh (uI p9 (ym (pv 3) (λZ=>rfl)) (zh (xt (wL bh bC bD yP (pv 1) (za (y6 (za (zY uR (pv 2) yG (z6 (pv 0))) (za (zY uR (pv 2) (z6 (pv 0)) yG) ze))) ze))) (zh (zB 3 im.nd (yf (zdz (wm hr)) zf (pv 2) (by with_unfolding_all rfl))) (zh (yT (i:=4) im.nd rfl (Or.inr rfl) (zD xD (zE B.len (pv 2)) zf)) (zh (uI p9 (PW.pt (Jn (zt op_ge' (pv 4) zf (zv _)) (X4 (zt yW (zk ix_list (pv 2) (pv 4)) zf (zv _))))) (zg (yT (i:=4) im.nd rfl (Or.inr rfl) (zD xD (pv 4) zf)))) (zh (yT (i:=2) im.nd rfl (Or.inr rfl) (yy (own:=["_law_k"]) (caps:=["_law_at","_law_cells"]) (ix:=[4,2]) (tt:=y4) (te:=(tIf (Wf (tOp zel (zW 0) (zW 1))) (tC (.int 0)) (tOp (rIx K) (zW 2) (zW 0)))) rfl (zH (sc:=zi uA) rfl (!0) (!0) (!0) rfl (!0) (!0) rfl) (zV rfl B.range (za (zE B.len (pv 2)) ze)) (λZ Z Z Z Z Z=>zr (i:=0) (show List.Nodup [_,_,_] by decide) rfl (.inl rfl)) (λZ Z Z Z Z Z=>z7) (λZ Z Z Z Z Z=>(xE (zt VD (pv 0) (pv 1) (zv _)) zf (zk zbm (pv 2) (pv 0)))))) (zg (zJ (ym (pv 3) (λZ=>rfl)) (zg (zbt zf (za3 (pv 2) (pv 4) zau (by intro _;rfl))))
     zp)))))))) (zg (zl (pv 1))))))),?_]
  have s16:=zS;have s16:=zS
  have ok:∀N,N<2 ^ (2 * k)->okC k N=AM:=λN hN=>by
   rcases hk with rfl | rfl
   ·exact okC_all.1 N (AY.mpr hN)
   ·exact okC_all.2 N (AY.mpr hN)
  have pw:2 ^ (2 * k)<=64:=by rcases hk with rfl | rfl <;> decide
  have pw0:0<2 ^ (2 * k):=by rcases hk with rfl | rfl <;> decide
  change ∃D:su,H D=AL/\H'=upd H D (.lst [])/\σ=[-~~~k,!!D,AL,AL,AL]
  ·rfl'
   exact#[⋯,λp hp=>#[p,hp,rfl,rfl]]
  rintro σ H1 ⟨D,hD,rfl,rfl⟩:_;right;change Same H H'/\TbsA H' D k 0 []/\∃C:su,C≠D/\H' C=AK (.lst ((wg k 0).map V.int))/\σ=[-~~~k,!!D,!!C,AL,AL]
  ·rfl'
   refine#[by unfold CMul;lia,⋯,⋯,λC hC=>CompR.by (λi AR H'=>Same (upd H D (.lst [])) H'/\H' C=AK (.lst AR)/\AR=aM i (V.int 0)) #[zd hC,zb,rfl] ?_ ?_]
   ·refine nm3 ?_;rintro i AR H' hi ⟨hs,hH,rfl⟩:_;right
    erw[y4]
    rfl'
    refine#[yq,hH,by rw[bE];lia,CNx.mk hi #[zu hs hC,zb,?_]];rw[dj]
   ·rintro AR H' ⟨hs,hH,rfl⟩;refine#[(zd hD).trans hs,#[hs _ _ zb,rfl,λi v h=>by simp at h],C,λe=>(by rw[e,zb]at hC;cases hC),?_,rfl];rw[hH];rcases hk with rfl | rfl <;> rfl
  rintro σ H2 ⟨s2,hT2,C,hCD,hC2,rfl⟩:_;right;change H'=H2/\σ=[-~~~k,!!D,!!C,AK (.bl AM),AL]
  ·rfl'
  rintro σ H2 ⟨rfl,rfl⟩:_;right;change Same H H'/\(∃AR,TbsA H' D k (2 ^ (2 * k)) AR)/\∃v2 v3 v4,σ=[-~~~k,!!D,v2,v3,v4]
  ·refine Qu (zgG H D k) #[_,s2,0,[],C,AL,hT2,hCD,.inl #[rfl,pw0,hC2,rfl]] ?_;rintro m σ G ⟨sG,N,AR,C,v4,⟨hD1,hD2,hD3⟩,hCD,⟨rfl,hN,hC,rfl⟩ | ⟨rfl,rfl,rfl⟩⟩
   ·rfl'
    have okN:=ok N hN;unfold okC at okN;rw[aQ,aQ]at okN;let#[#[o1,o2],o3]:=okN;have hcl:(wg k N).length=2 * k:=by simpa using o1
    refine#[λσ' G'=>∃m',m'<2 ^ (2 * k) - N/\zgG H D k m' σ' G',λZ Z h=>h,?_];refine zj (λσ G'=>Same H G'/\(∃acc',TbsA G' D k (N+1) acc')/\G' C=AK (.lst ((wg k N).map V.int))/\σ=[-~~~k,!!D,!!C,AK (.bl AM),v4]) ?_ ?_
    ·rfl'
     have e1:Vv ((wg k N).map V.int) AL (AK (k:Int))=(J3 2 k N 0).map V.int:=by
      rw[show Vv ((wg k N).map V.int) AL (AK (k:Int))=((wg k N).map V.int).take k from qw _ (cD _),<- cP];have h:=Xu (n:=2) (k:=k) (N:=N) (r:=0) ∅;rw[Nat.zero_mul,dF]at h;rw[<- h];rfl
     have e2:Vv ((wg k N).map V.int) (AK (k:Int)) AL=(J3 2 k N 1).map V.int:=by
      rw[show Vv ((wg k N).map V.int) (AK (k:Int)) AL=((wg k N).map V.int).drop k from wA _ (cD _),<- cQ];have h:=Xu (n:=2) (k:=k) (N:=N) (r:=1) ∅;rw[eJ,bn (by show ((wg k N).drop k).length<=k;rw[aZ,hcl];lia)]at h;rw[<- h];rfl
     refine#[.inl #[_,SqL.of hD1],_,SqL.of hC,λp1 hp1=>#[_,SqL.of (zd hp1 _ _ hC),λp2 hp2=>#[⋯,λp3 hp3=>?_]]];rw[e1]at hp2 hp3 ⊢;rw[e2]at hp3 ⊢;have u1:=zd (o:=HO.lst ((J3 2 k N 0).map V.int)) hp1;have u2:=zd (o:=HO.lst ((J3 2 k N 1).map V.int)) hp2;have u3:=zd (o:=HO.lst [V.ref p1,V.ref p2]) hp3;have u:=u1.trans (u2.trans u3);have n1:p1≠D:=λe=>by rw[e,hD1]at hp1;cases hp1
     have n2:p2≠D:=λe=>by rw[e,u1 _ _ hD1]at hp2;cases hp2
     have n3:p3≠D:=λe=>by rw[e,u2 _ _ (u1 _ _ hD1)]at hp3;cases hp3
     refine#[AR,u _ _ hD1,⋯,zu (sG.trans u) hD,#[AR ++ [.ref p3],zb,by rw[ak,hD2];rfl,λi v h=>?_],by rw[zq hCD];exact u _ _ hC];rw[Jl];by_cases hi:i<AR.length
     ·rw[bQ hi]at h;let#[t,rs,e,ht]:=hD3 i v h;exact#[t,rs,e,ht.same (ZD u)]
     ·have hil:=(AS.mp h).1;rw[ak]at hil;have ei:i=AR.length:=by erw[aC,bg]at hil;lia
      rw[ei,bG (ao _),ef]at h;cases h;rw[ei,hD2];refine#[p3,[p1,p2],rfl,#[(vJ n3).trans zb,rfl,λj r x hr hx=>?_]]
      match j,hr,hx with
      | 0,hr,hx =>
       cases hr;cases hx;exact (vJ n1).trans (u3 _ _ (u2 _ _ zb))
      | 1,hr,hx =>
       cases hr;cases hx;exact (vJ n2).trans (u3 _ _ zb)
      | j+2,hr,hx=>simp at hr
    rintro σ G1 ⟨s1,⟨acc',hT1⟩,hC1,rfl⟩:_;right;refine zj (λσ G'=>G'=G1/\σ=[-~~~k,!!D,!!C,AK (.bl (decide (N+1<2 ^ (2 * k)))),v4]) ?_ ?_
    ·rfl'
     refine#[C,(wg k N).map L3.D.int,.int 0,rfl,?_,rfl,by rw[ql];decide,rfl,congrArg V.bl ?_]
     ·erw[Is]
      exact#[C,_,rfl,SqL.of hC1,Iss.ints _]
     ·rw[w9 ∅,zg6];by_cases hlt:N+1<2 ^ (2 * k)
      ·rw[w6 hlt,aQ,aQ,aQ]at o3;rw[o3.1.1.1,u9 hlt]
      ·rw[w9 hlt]at o3;rw[v9 hlt];simpa using o3
    rintro σ G1 ⟨rfl,rfl⟩:_;right;refine zj (λσ G'=>G'=G1/\σ=[-~~~k,!!D,!!C,AK (.bl (decide (N+1<2 ^ (2 * k)))),AK (.int ((2 * k:Nat) - 1))]) ?_ ?_
    ·rfl'
     exact#[_,.inl #[_,SqL.of hC1,rfl],by rw[aa,hcl]]
    rintro σ G1 ⟨rfl,rfl⟩:_;right;refine zj (λσ G'=>G'=G1/\σ=[-~~~k,!!D,!!C,AK (.bl (decide (N+1<2 ^ (2 * k)))),AK (.int (atF (wg k N) (2 * k)))]) ?_ ?_
    ·refine Qu (λm σ G'=>G'=G1/\m<=2 * k/\atF (wg k N) m=atF (wg k N) (2 * k)/\σ=[-~~~k,!!D,!!C,AK (.bl (decide (N+1<2 ^ (2 * k)))),AK (.int ((m:Nat) - 1))]) #[2 * k,rfl,ao _,rfl,rfl] ?_;rintro m σ G' ⟨rfl,hm,hat,rfl⟩
     rfl'
     refine z8 (λh0=>?_) λh0=>?_
     ·obtain⟨j,rfl⟩:∃j,m=j+1:=#[m - 1,⋯];have hj:j<(wg k N).length:=⋯;have ej:(((j+1:Nat):Int)) - 1=((j:Nat):Int):=⋯;have hg:(wg k N)[j]? = AK (wg k N)[j]:=af hj
      erw[atF,hg]at hat
      rw[ej];refine#[_,SqL.of hC1,.int ((wg k N)[j]),wz (by rw[au,hg];rfl),rfl,z8 (λe=>#[λσ' G''=>G''=G'/\σ'=[-~~~k,!!D,!!C,AK (.bl (decide (N+1<2 ^ (2 * k)))),AK (.int ((j:Nat) - 1))],?_,rfl,rfl]) λe=>?_]
      ·rintro σ' G'' ⟨rfl,rfl⟩;rw[w6 (congrArg AK (V.int.inj e))]at hat;exact#[j,⋯,rfl,⋯,hat,rfl]
      ·rw[w9 λz=>e (congrArg V.int (Option.some.inj z))]at hat;exact hat
     ·have:m=0:=⋯;subst this;exact hat
    rintro σ G1 ⟨rfl,rfl⟩:_;right;refine zj (λσ G'=>Same G1 G'/\∃C',G1 C'=AL/\G' C'=AK (.lst ((nxC (wg k N)).map V.int))/\σ=[-~~~k,!!D,!!C',AK (.bl (decide (N+1<2 ^ (2 * k)))),AK (.int (atF (wg k N) (2 * k)))]) ?_ ?_
    ·rfl'
     refine#[_,.inl #[_,SqL.of hC1,rfl],⋯,by rw[aa,hcl];lia,λC' hC'=>CompR.by (λi AR H'=>Same G1 H'/\H' C'=AK (.lst AR)/\AR=((nxC (wg k N)).take i).map V.int) #[zd hC',zb,rfl] ?_ ?_]
     ·refine nm3 ?_;rintro i AR H' hi ⟨hs,hH,rfl⟩:_;rw[aa,hcl,aE]at hi;have hi':i<(wg k N).length:=⋯
      have hx:(nxC (wg k N))[i]? = AK (if atF (wg k N) (2 * k)<(i:Int)then 0 else (wg k N)[i]):=by
       unfold nxC;rw[au,af (by rw[bF];exact hi'),eL,hcl,fF,ae,af hi'];rfl
      have hal:(((nxC (wg k N)).take i).map V.int).length<sq:=by rw[aa,aH];lia
      have hlen:i<(((wg k N).map V.int).length:Int).toNat:=by rw[aa,hcl,aE];exact hi
      right
      erw[y4]
      rfl'
      refine#[yq,z8 (λhlt=>#[hH,hal,CNx.mk hlen #[zu hs hC',zb,?_]]) λhlt=>.inl #[_,SqL.of (hs _ _ hC1),.int ((wg k N)[i]),?_,hH,hal,CNx.mk hlen #[zu hs hC',zb,?_]]]
      ·rw[w6 ⋯]at hx;rw[zO hx,aq];rfl
      ·rw[show (0:Int)+(i:Int)=((i:Nat):Int) by lia];exact wz (by rw[au,af hi'];rfl)
      ·rw[w9 ⋯]at hx;rw[zO hx,aq];rfl
     ·rintro AR H' ⟨hs,hH,rfl⟩;refine#[hs,C',hC',?_,rfl];rw[hH,aa,aE,bn (by unfold nxC;rw[aa,bF];exact ao _)]
    rintro σ G2 ⟨g2,C',hC',hC2,rfl⟩:_;have hCD':C'≠D:=λe=>by rw[e,hT1.1]at hC';cases hC'
    right
    rfl'
    refine z8 (λhlt=>?_) λhlt=>?_
    ·unfold zfu
     rfl'
     rw[w6 hlt,aQ,aQ,aQ]at o3;let#[#[#[_,a0],a1],a2]:=o3;have a0':=u6 a0;have a1':=u6 a1;have hnl:((nxC (wg k N)).map V.int).length=2 * k:=by unfold nxC;rw[aa,aa,bF,hcl]
     refine#[C',_,_,(atF (wg k N) (2 * k)).toNat,rfl,rfl,hC2,?_,2 ^ (2 * k) - (N+1),⋯,s1.trans (zu g2 hC'),N+1,acc',C',_,hT1.same (zu g2 hC'),hCD',.inl #[rfl,hlt,?_,by rw[u9 hlt]]]
     ·unfold ixN;rw[hnl]
      erw[a0',if_true]
      rw[w6 ⋯]
     ·rw[zb,<- List.map_set,beq_iff_eq.mp a2]
    ·exact#[0,⋯,s1.trans g2,N+1,acc',C',_,hT1.same g2,hCD',.inr #[rfl,⋯,by rw[v9 hlt]]]
   ·rfl'
    exact#[sG,AR,hD1,hD2,hD3]
  rintro σ H3 ⟨s3,⟨AR,hT3⟩,v2,v3,v4,rfl⟩:_;right
  rfl'
  exact q D AR H3 s3 hT3
def Zt:Sp:=λvs H Q Z=>∃(t:su) (rs:List su) (tab:List (List Int)) (l:()) (r:Int) (w:()),vs=[.ref t,.str (tx l),.int r,.str (tx w)]/\TabAt H t rs tab/\xv l tab/\0<=r/\r<(tab.length:Int)/\(∀c ∈ w,c ∈ l)/\Q (.int (ue l tab r w)) H
def qR{w:()}(h:TabAt H t rs tab)(hG:xv l tab)(h0:0<=r)(h1:r<(tab.length:Int))(hw:∀c ∈ w,c ∈ l)(q:Q (.int (ue l tab r w)) H):Zt [.ref t,.str (tx l),.int r,.str (tx w)] H Q E:=#[t,rs,tab,l,r,w,rfl,h,hG,h0,h1,hw,q]
def pY:sQz 4 ["_law_table","_law_letters_here","_law_room","_law_word_here","_law_sign"] zc4:=by nofun
def zeq(B:Bt mg)(F:("_law_led"^^^zc4)):(1&&&["_law_table","_law_letters_here","_law_room","_law_word_here"]) Zt:=by
 exists F.ok pY
 ·let#[t,rs,tab,l,r,w,rfl,hT,hG,h0,h1,hw,q]:=h
  refine#[_,(zG (zZ p9 rfl (YC (pv 3)) (zr (i:=4) pY.nd rfl (.inl rfl)) (zg (zB 2 pY.nd (zk ix_list (zk ix_list (pv 0) (pv 2)) (wL bz dc de zby (pv 1) (za (pv 4) ze)))))) (zg (zl (pv 2)))),?_]
  have s16:=zS
  rfl'
  refine ForS.by (λi σ H'=>H'=H/\∃v4,σ=[!!t,~~~l,AK (.int (ue l tab r (w.take i))),~~~w,v4]) #[rfl,AL,rfl] ?_ ?_
  ·refine nm4 ?_;rintro i c σ H' hc ⟨rfl,v4,rfl⟩:_;have hcl:=hw c (ac hc);let#[a,b]:=ZL hG (w:=w.take i) h0 h1 λx hx=>hw x (bJ hx);let#[r',x,e1,e2,e3]:=hT.get a b;right
   rfl'
   refine#[_,SqL.of hT.top,_,e1,_,rfl,_,SqL.of e3,?_];rw[Vp hcl,Yn hc];exact zaV hG e2 hcl
  ·rintro σ H' ⟨rfl,v4,rfl⟩
   rfl'
   rw[aK];exact q
end in def qA(l:())(tab:List (List Int))(ps:List zC):Bool:=ps.all λp=>(vc l tab p.1 p.2).isNone
def holdsB_iff : qA l tab ps=AM ↔ ∀p ∈ ps,vc l tab p.1 p.2=AL:=by unfold qA;rw[List.all_eq_true];exact#[λh p hp=>Bl.mp (h p hp),λh p hp=>Bl.mpr (h p hp)]
def jk(K:sr):Sp:=λvs H Q Z=>∃(t a:su) (rs:List su) (tab:List (List Int)) (l:()) (ps:List zC),vs=[.ref t,.str (tx l),.ref a]/\TabAt H t rs tab/\xv l tab/\LsA K H a (ps.map dR)/\InP l ps/\Q (.bl (qA l tab ps)) H
def VU(h1:TabAt H t rs tab)(h2:xv l tab)(h3:LsA K H a (ps.map dR))(h4:InP l ps)(q:Q (.bl (qA l tab ps)) H):jk K [.ref t,.str (tx l),.ref a] H Q E:=#[t,a,rs,tab,l,ps,rfl,h1,h2,h3,h4,q]
def oB:sQz 3 ["_law_table","_law_letters_here","_law_pairs","_law_pair","_law_room"] X2:=by nofun
def K7(B:Bt mg)(F:("_law_holds"^^^X2))(oU:(1<<<"_law_led") ["_law_table","_law_letters_here","_law_room","_law_word_here"] [] Zt):(2&&&["_law_table","_law_letters_here","_law_pairs"]) (jk K):=by
 exists F.ok oB
 ·let#[t,a,rs,tab,l,ps,rfl,hT,hG,hA,hp,q]:=h
  refine#[_,(zh (zZ p9 rfl (zX (pv 2)) (zr (i:=3) oB.nd rfl (.inl rfl)) (zg (zZ p9 rfl (zV rfl B.range (za (zE B.len (pv 0)) ze)) (zr (i:=4) oB.nd rfl (.inl rfl)) (zg (zJ (zt qG (cl0 oU hr .nil rfl (za (pv 0) (za (pv 1) (za (pv 4) (za (!-3) ze))))) (cl0 oU hr .nil rfl (za (pv 0) (za (pv 1) (za (pv 4) (za (!-3) ze))))) (zv _)) (zg (zl yC))
      zp))))) (zg (zl yC))),?_]
  have s16:=zS;have s16:=zS;have hl:=hT.len;have hhi:=hG.hi;let#[xs,hX,hI]:=id hA;have hxl:=hI.len;rw[aa]at hxl;change H'=H/\(∀p ∈ ps,vc l tab p.1 p.2=AL)/\∃v3 v4,σ=[!!t,~~~l,!!a,v3,v4]
  ·rfl'
   refine#[#[_,SqL.of hX],ForL.by (xs:=xs) (λi σ H'=>H'=H/\(∀j p,j<i->ps[j]? = AK p->vc l tab p.1 p.2=AL)/\∃v3 v4,σ=[!!t,~~~l,!!a,v3,v4]) #[rfl,λj p h=>w4 h (bI j),_,_,rfl] (λi σ H' Z h=>by rw[h.1];exact SqL.of hX) ?_ λσ H' h=>?_]
   ·refine nm4 ?_;rintro i x σ H' hx ⟨rfl,hb,v3,v4,rfl⟩:_;let#[r,pr,hri,rfl,hqr]:=hI.getR hx;let#[r1,r2]:=hp r (ac hri);right
    erw[yx,aU,aT]
    rfl'
    refine#[_,.inl #[_,SqL.of hT.top,rfl],by rw[aa];lia,by rw[aa];lia,ForR.by (λn σ H''=>H''=H'/\(∀j:Nat,j<n->ue l tab (j:Int) r.1=ue l tab (j:Int) r.2)/\∃v4,σ=[!!t,~~~l,!!a,!!pr,v4]) #[rfl,λj h=>w4 h (bI j),_,rfl] ?_ λσ H'' h=>?_]
    ·refine nm3 ?_;rintro n σ H'' hn ⟨rfl,hc,v4,rfl⟩:_;rw[aa]at hn;have hn':n<tab.length:=⋯;have e0:(0:Int)+(n:Int)=(n:Int):=⋯;right
     erw[yx,aU,aT]
     rfl'
     refine#[_,hqr,_,rfl,qR hT hG ⋯ ⋯ r1 #[_,hqr,_,rfl,qR hT hG ⋯ ⋯ r2 ?_]];rw[e0]
     rfl'
     refine z8 (λh=>?_) λh j hj=>?_
     ·have:qA l tab ps=AN:=by
       cases e:qA l tab ps with
       | false=>rfl
       | true =>
        have:=holdsB_iff.mp e r (ac hri);rw[Y4 hn' h hc]at this;cases this
      rw[this]at q;exact q
     ·by_cases hj':j<n
      ·exact hc j hj'
      ·have:j=n:=⋯;rw[this];exact Decidable.not_not.mp h
    ·let#[rfl,hc,v4,rfl]:=h;rw[aa]at hc;refine#[rfl,λj p hj hpj=>?_,_,_,rfl];by_cases hj':j<i
     ·exact hb j p hj' hpj
     ·have:j=i:=⋯;subst this;rw[hri]at hpj;cases hpj;exact YZ λj hj=>hc j ⋯
   ·let#[rfl,hb,v3,v4,rfl]:=h;refine#[rfl,λp hp=>?_,v3,v4,rfl];let#[j,hj]:=Bh.mp hp;exact hb j p (by have:=(AS.mp hj).1;lia) hj
  rintro σ H1 ⟨rfl,hb,v3,v4,rfl⟩:_;right
  rfl'
  rw[holdsB_iff.mpr hb]at q;exact q
theorem vU : ∀{ps:List zC} {i:Nat},(wG l tab ps i).isNone=qA l tab ps
 | [],i=>rfl
 | p::ps,i=>by
  erw[wG,qA,eQ]
  cases h:vc l tab p.1 p.2 with
  | some r=>rfl
  | none=>exact vU (ps:=ps) (i:=i+1)
def zdx(K:sr):Sp:=λvs H Q Z=>∃(l:()) (a wd:su) (ps:List zC) (u v:()),vs=[.str (tx l),.ref a,.ref wd]/\(l.length=2\/l.length=3)/\LsA K H a (ps.map dR)/\InP l ps/\H wd=AK (.lst [.str (tx u),.str (tx v)])/\(∀c ∈ u,c ∈ l)/\(∀c ∈ v,c ∈ l)/\(∀(t:su) (rs:List su) (N:Nat) (H':Hp),Same H H'->N<2 ^ (2 * l.length)->yX l (xW 2 l.length N) ps u v=AM->(∀N',N'<N->yX l (xW 2 l.length N') ps u v=AN)->TabAt H' t rs (xW 2 l.length N)->Q (.ref t) H')/\((∀N,N<2 ^ (2 * l.length)->yX l (xW 2 l.length N) ps u v=AN)->∀H',Same H H'->Q .non H')
def lD:sQz 3 ["_law_letters_here","_law_pacts","_law_words","_law_table","_law_apart"] wl:=by nofun
def ku(B:Bt mg)(F:("_law_first_world"^^^wl))(rK:(1<<<"_law_tables") ["_law_many"] [] QI)(oU:(1<<<"_law_led") ["_law_table","_law_letters_here","_law_room","_law_word_here"] [] Zt)(rS:(2<<<"_law_holds") ["_law_table","_law_letters_here","_law_pairs"] [] (jk K)):(3&&&["_law_letters_here","_law_pacts","_law_words"]) (zdx K):=by
 exists F.ok lD
 ·let#[l,a,wd,ps,u,v,rfl,hl,hA,hin,hW,hu,hv,q1,q2]:=h
  refine#[_,(zh (zZ p9 rfl (zX (cl0 rK hr .nil rfl (za (zE B.len (pv 0)) ze))) (zr (i:=3) lD.nd rfl (.inl rfl)) (zh (zB 4 lD.nd (yf qG (cl0 oU hr .nil rfl (za (pv 3) (za (pv 0) (za zf (za (zk ix_list (pv 2) zf) ze))))) (cl0 oU hr .nil rfl (za (pv 3) (za (pv 0) (za zf (za (zk ix_list (pv 2) zf) ze))))) (zv _))) (zg (zJ (PW.pt (Jn (ym (pv 4) (λZ=>rfl)) (X4 (ym (cl0 rS hr .nil rfl (za (pv 3) (za (pv 0) (za (pv 1) ze)))) (λZ=>rfl))))) (zg (zl (pv 3)))
     zp)))) (zg (zl yb))),?_]
  have s16:=zS;have s16:=zS;change Same H H'/\(∀N,N<2 ^ (2 * l.length)->yX l (xW 2 l.length N) ps u v=AN)/\∃v3 v4,σ=[~~~l,!!a,!!wd,v3,v4]
  ·rfl'
   refine#[⋯,l.length,rfl,hl,λD AR H1 s1 hT=>#[D,rfl,#[_,SqL.of hT.1],ForL.by (xs:=AR) (λi σ H'=>H'=H1/\(∀N,N<i->yX l (xW 2 l.length N) ps u v=AN)/\∃v3 v4,σ=[~~~l,!!a,!!wd,v3,v4]) #[rfl,λN h=>w4 h (bI N),_,_,rfl] (λi σ H' Z h=>by rw[h.1];exact SqL.of hT.1) ?_ ?_]]
   ·refine nm4 ?_;rintro i x σ H' hx ⟨rfl,hb,v3,v4,rfl⟩:_;let#[t,rs,rfl,ht0]:=hT.2.2 i x hx;have ht:=ht0.same Vf;have hi:=(AS.mp hx).1;rw[hT.2.1]at hi;have hG:xv l (xW 2 l.length i):=qU i ∅ ∅;have hl2:(xW 2 l.length i).length=2:=uT 2 l.length i;have hW1:=s1 _ _ hW;right
    erw[yx,aU,aT]
    refine zj (λσ G=>G=H'/\σ=[~~~l,!!a,!!wd,!!t,AK (.bl (decide (ue l (xW 2 l.length i) 0 u≠ue l (xW 2 l.length i) 0 v)))]) ?_ ?_
    ·rfl'
     refine#[_,SqL.of hW1,_,rfl,qR ht hG ∅ (by rw[hl2];decide) hu #[_,SqL.of hW1,_,rfl,qR ht hG ∅ (by rw[hl2];decide) hv #[rfl,rfl,?_]]];by_cases e:ue l (xW 2 l.length i) 0 u=ue l (xW 2 l.length i) 0 v
     ·rw[u9 (congrArg V.int e),v9 λh=>h e];rfl
     ·rw[v9 λh=>e (V.int.inj h),u9 e];rfl
    rintro σ G ⟨rfl,rfl⟩:_;right
    rfl'
    have nxt:yX l (xW 2 l.length i) ps u v=AN->∀N,N<i+1->yX l (xW 2 l.length N) ps u v=AN:=λh N hN=>by
     by_cases e:N=i
     ·rw[e];exact h
     ·exact hb N ⋯
    refine z8 (λe=>VU ht hG (hA.same s1) hin #[_,rfl,z8 (λe2=>?_) λe2=>#[rfl,nxt ?_]]) λe=>nxt ?_
    ·refine q1 t rs i G s1 hi ?_ hb ht;unfold yX;rw[u9 e,vU,e2];rfl
    ·unfold yX;rw[vU,Bn.mpr e2,dD]
    ·unfold yX;rw[v9 e,Bool.false_and]
   ·rintro σ H' ⟨rfl,hb,v3,v4,rfl⟩;rw[hT.2.1]at hb;exact#[s1,hb,_,_,rfl]
  rintro σ H1 ⟨s1,hb,v3,v4,rfl⟩:_;right
  rfl'
  exact q2 hb H1 s1
theorem zaA : ∀{w:()},(∀z ∈ w,z ∈ [x,y])->∃w0:(),w=w0.map (nm2 x y)
 | [],_=>#[[],rfl]
 | z::w,h=>by
  let#[w0,rfl]:=zaA (w:=w) λc hc=>h c (ar _ hc);have:=h z ay
  erw[dn,cL,or_false]at this
  rcases this with rfl | rfl
  ·exact#[0::w0,rfl]
  ·exact#[1::w0,rfl]
def EndsAt.m(hf:∀a b,f a=f b->a=b){w:()}(h:EndsAt ps w i):EndsAt (ps.map (mp f)) (w.map f) i :=
 #[λj hj=>by rw[V9 hf,Zg hf];exact h.live j hj,by rw[V9 hf,Zg hf];exact h.end_,h.most]
def Vo(hxy:x≠y)(hk:k ∈ [0,1])(ht:t ∈ [1,2,3,4])(hr:r ∈ [0,1,2,3,4,5]){ps0:List zC}(hp:ps0.Perm (qX k t r q)){w:()}(h8:w.length<=8)(hw:∀z ∈ w,z ∈ [x,y]):∃i,EndsAt (ps0.map (mp (nm2 x y))) w i/\2 * i<=(qx k t r).1 * 8+(qx k t r).2.1 * 8+(qx k t r).2.2.1 * 16:=by
 let#[w0,rfl]:=zaA hw;rw[aa]at h8;have hm:=zfw hk ht hr h8;let#[_,_,h80]:=XJ t ht r hr k hk
 let#[i,hi,hb]:=zdv (ps:=ps0) (μ:=muI k t r) (λp hp' a b=>by
  let#[g1,g2]:=zaD t ht r hr k hk q (by cases q <;> decide) p (hp.mem_iff.mp hp')
  exact Jt g1 g2 a b) (w:=w0) ⋯
 exact#[i,hi.m (Wp hxy),⋯]
inductive J79(K:sr)(H:Hp)(l:())(ps rs:List zC)(u v:())(i j:Nat)(wh:Bool)(m:Nat)(p:su):Prop where
 | alike (S:su) (ss:List Stp) (he:wAt ps u i=wAt ps v j) (hp:H p=AK (.tup [.str "alike",.ref S])) (hS:LsA K H S (ss.map dSt)) (hl:ss.length<=2000) (hw:yl rs u ss=AK v)
 | forms (es:List Ent) (D:su) (hn:wAt ps u i≠wAt ps v j) (hw:wh=AM) (hps:zc es=ps) (hE:∀e ∈ es,EOk rs e/\EB l e) (hp:H p=AK (.tup [.str "forms",.ref D,.str (tx (wAt ps u i)),.str (tx (wAt ps v j))])) (hD:EnsM K H D es)
 | world (N:Nat) (t:su) (ts:List su) (hn:wAt ps u i≠wAt ps v j) (hw:wh=AN) (hm:m=2) (h3:N<2 ^ (2 * l.length)) (h4:yX l (xW 2 l.length N) rs u v=AM) (h5:∀N',N'<N->yX l (xW 2 l.length N') rs u v=AN) (hp:H p=AK (.tup [.str "world",.ref t])) (ht:TabAt H t ts (xW 2 l.length N))
 | open_ (hn:wAt ps u i≠wAt ps v j) (hw:wh=AN) (h5:m=2->∀N',N'<2 ^ (2 * l.length)->yX l (xW 2 l.length N') rs u v=AN) (hp:H p=AK (.tup [.str "open"]))
def U4{w:()}(hw:∀c ∈ w,c ∈ l):ue l (xW 1 l.length N) 0 w=0:=by have hG:xv l (xW 1 l.length N):=qU N ∅ ∅;have hl:(xW 1 l.length N).length=1:=uT 1 l.length N;let#[a,b]:=ZL hG (w:=w) (r:=0) ∅ (by rw[hl];decide) hw;rw[hl]at b;lia
theorem JOut.j79(h:JOut K H k [x,y] ns rs u v r m p)(hG:OG [x,y] ns k)(hxy:x≠y)(hk:k ∈ [0,1])(ht:t ∈ [1,2,3,4])(hr:r ∈ [0,1,2,3,4,5])(hA:Alk ((ub t q).map (mp (nm2 x y))) rs)(hb:∀p ∈ rs,p.1.length<=60/\p.2.length<=60/\(∀c ∈ p.1,c ∈ [x,y])/\∀c ∈ p.2,c ∈ [x,y])(hm:m=1\/m=2)(hu8:u.length<=8)(hv8:v.length<=8)(hu:∀c ∈ u,c ∈ [x,y])(hv:∀c ∈ v,c ∈ [x,y])(hd:ps.Perm ((qX k t r q).map (mp (nm2 x y))))(hs:ps.Pairwise λa b=>rankF.lt (vQ k [x,y] [] b.1) (vQ k [x,y] [] a.1)=AN):∃i j,EndsAt ps u i/\EndsAt ps v j/\J79 K H [x,y] ps rs u v i j (decide (t<=r)) m p:=by
 have core:∀{w:Bool} {es:List Ent},Cpl k [x,y] ns (r+1) [] (fEs rs rs.length) w es->w=decide (t<=r)/\zc es=ps/\(∀e ∈ es,EOk rs e/\EB [x,y] e)/\∃i j,EndsAt ps u i/\EndsAt ps v j/\(jZ es u v i j).length<=2000:=λ{w es} hC=>by
  let#[#[h1,h2,ps0,h3,h4],h5]:=zcm hxy hk ht hr hA hC;have e:=h5 ps hd hs;let#[gE,gor]:=zeh (rs:=rs) hG hC (ze2 hb) (λe he=>Kv he) #[λe h=>(nomatch h),.inl rfl];let#[i,hi,bi]:=Vo hxy hk ht hr h3 hu8 hu;let#[j,hj,bj]:=Vo hxy hk ht hr h3 hv8 hv;rw[<- h4,e]at hi hj;refine#[h1,e,λe he=>#[gE e he,?_],i,j,hi,hj,?_]
  ·rcases gor with rfl | ⟨_,_,hB⟩
   ·cases he
   ·exact hB.e e he
  ·let#[_,hM,_]:=XJ t ht r hr k hk;have hl:=jO h2 (stS (sAt (zc es) u i) ++ yE (stS (sAt (zc es) v j)));rw[ak,yh,xJ,xJ,xn,xn]at hl;exact aL hl (aL (cI _ ⋯) hM)
 have noR:∀{w:Bool} {es:List Ent},zc es=ps->NoR es w u v->(∃i j,EndsAt ps u i/\EndsAt ps v j/\(jZ es u v i j).length<=2000)->w=AN/\∃i j,EndsAt ps u i/\EndsAt ps v j/\wAt ps u i≠wAt ps v j:=λ{w es} e hno ⟨i,j,hi,hj,hl⟩=>by
  unfold NoR at hno;rw[e]at hno;rcases hno with h | h | ⟨i',j',hi',hj',h | h⟩
  ·exact w4 hi (h i)
  ·exact w4 hj (h j)
  ·exact#[h.2,i',j',hi',hj',h.1]
  ·rw[hi'.uniq hi,hj'.uniq hj]at h;lia
 cases h with
 | alike w es i j S hc hb' hi hj he hl hp hS =>
  let#[_,e,hE,_]:=core hc;have hw:=QF (λe he=>(hE e he).1) hi hj he;rw[e]at hi hj he;exact#[i,j,hi,hj,.alike S _ he hp hS hl hw]
 | forms es i j D hc hb' hi hj hn hp hD =>
  let#[h1,e,hE,_]:=core hc;rw[e]at hi hj hn hp;exact#[i,j,hi,hj,.forms es D hn h1.symm e hE hp hD]
 | world w es n N t ts hc hb' hno h1 h2 h3 h4 h5 hp ht' =>
  let#[g1,e,_,g4]:=core hc;let#[g5,i,j,hi,hj,hn]:=noR e hno g4
  have hn2:n=2:=by
   rcases (show n=1\/n=2 by lia)with rfl | rfl
   ·unfold yX at h4;rw[U4 hu,U4 hv]at h4;simp at h4
   ·rfl
  subst hn2;exact#[i,j,hi,hj,.world N t ts hn (g1.symm.trans g5) ⋯ h3 h4 (λN' h'=>h5 2 N' ∅ ⋯ (.inr #[rfl,h'])) hp ht']
 | open_ w es hc hb' hno h5 hp =>
  let#[g1,e,_,g4]:=core hc;let#[g5,i,j,hi,hj,hn]:=noR e hno g4;exact#[i,j,hi,hj,.open_ hn (g1.symm.trans g5) (λhm2 N' h'=>h5 2 N' ∅ h' (.inl ⋯)) hp]
def zbc(h:H p=AK (.lst [.str (tx x),.str (tx y)])):Is K H (.lst [.str (tx x),.str (tx y)]) (.ref p):=by
 erw[Is,Iss]
 exact#[_,_,rfl,SqL.of h,_,_,rfl,rfl,_,_,rfl,rfl,rfl]
def W7(K:sr):Sp:=λvs H Q Z=>∃(p ra pa wd:su) (l:()) (ps rs:List zC) (u v:()) (i j:Nat) (wh:Bool) (m:Nat),vs=[.ref p,.bl wh,.ref ra,.ref pa,.ref wd,.str (tx l),.int (m:Nat)]/\(l.length=2\/l.length=3)/\LsA K H ra (ps.map dR)/\ShP ps/\ps.length<=12/\LsA K H pa (rs.map dR)/\kK rs/\InP l rs/\H wd=AK (.lst [.str (tx u),.str (tx v)])/\(u.length<=8/\v.length<=8)/\(∀c ∈ u,c ∈ l)/\(∀c ∈ v,c ∈ l)/\EndsAt ps u i/\EndsAt ps v j/\J79 K H l ps rs u v i j wh m p/\∀H',Q (.bl AM) H'
def nj:sQz 7 ["_law_found","_law_whole_here","_law_rules","_law_pacts","_law_words","_law_letters_here","_law_most","_law_forms","_law_table"] qk:=by nofun
def KI(B:Bt mg)(F:("_law_right"^^^qk))(rZ:(1<<<"_law_form") ["_law_rules","_law_word_here"] [] (jN K))(pK:(3<<<"_law_first_world") ["_law_letters_here","_law_pacts","_law_words"] [] (zdx K))(rO:(2<<<"_law_end") ["_law_pacts","_law_word_here","_law_steps_here"] [] (WW K)):(4&&&["_law_found","_law_whole_here","_law_rules","_law_pacts","_law_words","_law_letters_here","_law_most"]) (W7 K):=by
 exists F.ok nj
 ·let#[p,ra,pa,wd,l,ps,rs,u,v,i,j,wh,m,rfl,hl,hR,hSh,hp12,hPa,hok,hin,hW,h88,hu,hv,hi,hj,hJ,q]:=h
  refine#[_,(zh (Xx (i:=7) nj.nd rfl (.inl rfl) (.inl rfl) (own:=["_law_word_here"]) (caps:=["_law_rules"]) (ix:=[2]) (tt:=y4) (te:=(vE (jN K) [] E0 (zI (zW 1) (zI (zW 0) xb)))) rfl (zH (sc:=zi qk) rfl (!0) (!0) (!0) rfl (!0) (!0) rfl) (zX (pv 4)) (λZ Z Z Z Z Z=>zr (i:=0) (show List.Nodup [_,_] by decide) rfl (.inl rfl)) (λZ Z Z Z Z Z=>z7) (λZ Z Z Z Z Z=>(cl0 rZ hr .nil rfl (za (pv 1) (za (pv 0) ze))))) (zh (zJ (zt yW (zk ix_list (pv 7) zf) (zk ix_list (pv 7) zf) (zv _)) (zg (zl (jG (yf yW (!-0) zQ (zv _)) (jE (yf yW (cl0 rO hr .nil rfl (za (pv 3) (za (zk ix_list (pv 4) zf) (za (!-0) ze)))) (zk ix_list (pv 4) zf) (zv _))))))
    zp) (zh (zJ (ym (pv 1) (λZ=>rfl)) (zh (zJ (PW.pt (vF (zt qG (!-0) zQ (zv _)) (wH (zt (zaT (wm hr)) (y6 (za (!-0) (za (!-0) ze))) (pv 7) (zv _))))) (zg (zl yC))
     zp) (zh (zJ (zt (zaT (wm hr)) (yy (own:=["_law_entry"]) (caps:=[]) (ix:=[]) (tt:=y4) (te:=(Um (zI (tOp (ud K) (zW 0) (tC (.int 0))) (zI (tOp (ud K) (zW 0) (tC (.int 1))) xb)))) rfl (zH (sc:=zi qk) rfl (!0) (!0) (!0) rfl (!0) (!0) rfl) (zX (!-0)) (λZ Z Z Z Z Z=>zr (i:=0) (show List.Nodup [_] by decide) rfl (.inl rfl)) (λZ Z Z Z Z Z=>z7) (λZ Z Z Z Z Z=>(zN (za (!-0) (za (!-0) ze))))) (pv 2) (zv _)) (zg (zl yC))
     zp) (zg (zl (yR (zey rfl) rfl B.all fX (za (yy (own:=["_law_entry"]) (caps:=["_law_pacts"]) (ix:=[3]) (tt:=y4) (te:=(tOp rEq (vE (WW K) [] E0 (zI (zW 1) (zI (tOp (ud K) (zW 0) (tC (.int 0))) (zI (tOp (ud K) (zW 0) (tC (.int 2))) xb)))) (tOp (ud K) (zW 0) (tC (.int 1))))) rfl (zH (sc:=zi qk) rfl (!0) (!0) (!0) rfl (!0) (!0) rfl) (zX (!-0)) (λZ Z Z Z Z Z=>zr (i:=0) (show List.Nodup [_,_] by decide) rfl (.inl rfl)) (λZ Z Z Z Z Z=>z7) (λZ Z Z Z Z Z=>(yf yW (cl0 rO hr .nil rfl (za (pv 1) (za (!-0) (za (!-0) ze)))) (!-0) (zv _)))) ze))))))
    zp) (zh (zB 8 nj.nd yb) (zh (zJ (zt yW (pv 6) zf (zv _)) (zg (zB 8 nj.nd (cl0 pK hr .nil rfl (za (pv 5) (za (pv 3) (za (pv 4) ze))))))
    zp) (zh (zJ (zt op_isN' (pv 8) yb (zv _)) (zg (zl (yf (Vr (wm hr)) (pv 0) (zN (za zQ ze)) (zv _))))
    zp) (zg (zl (jG (yf yW (!-0) zQ (zv _)) (jE (yf (Vr (wm hr)) (!-0) (pv 8) (zv _)))))))))))),?_]
  have s16:=zS;have s16:=zS;let#[u8,v8]:=h88
  have hmk:∀(G:Hp),Same H G->J79 K G l ps rs u v i j wh m p:=λG s=>by
   cases hJ with
   | alike S ss he hp hS hl hw=>exact .alike S ss he (s _ _ hp) (hS.same s) hl hw
   | forms es D hn hw hps hE hp hD=>exact .forms es D hn hw hps hE (s _ _ hp) (hD.same s)
   | world N t ts hn hw hm h3 h4 h5 hp ht=>exact .world N t ts hn hw hm h3 h4 h5 (s _ _ hp) (ht.same s)
   | open_ hn hw h5 hp=>exact .open_ hn hw h5 (s _ _ hp)
  change Same H H'/\∃F:su,H' F=AK (.lst [.str (tx (wAt ps u i)),.str (tx (wAt ps v j))])/\σ=[!!p,AK (.bl wh),!!ra,!!pa,!!wd,~~~l,-~~~m,!!F,AL]
  ·rfl'
   refine#[#[_,SqL.of hW],λD hD=>CompL.by (xs:=[.str (tx u),.str (tx v)]) (λn AR H'=>Same H H'/\H' D=AK (.lst AR)/\AR=[V.str (tx (wAt ps u i)),V.str (tx (wAt ps v j))].take n) #[zd hD,zb,rfl] (λn AR H' Z h=>SqL.of (h.1 _ _ hW)) ?_ ?_]
   ·refine nm4 ?_;rintro n x AR H' hx ⟨hs,hH,rfl⟩:_;have hn:=(AS.mp hx).1;right;rcases (show n=0\/n=1 by erw[aC,bg]at hn;lia)with rfl | rfl
    ·cases hx
     erw[y4]
     rfl'
     refine#[yq,ra,ps,u,rfl,hR.same hs,hSh,⋯,λi' H'' s'' hl' he'=>?_];rw[uJ hl' he' hi.live hi.end_];exact#[s'' _ _ hH,by show 0<sq;lia,CNx.mk hn #[zu (hs.trans s'') hD,zb,rfl]]
    ·cases hx
     erw[y4]
     rfl'
     refine#[yq,ra,ps,v,rfl,hR.same hs,hSh,⋯,λi' H'' s'' hl' he'=>?_];rw[uJ hl' he' hj.live hj.end_];exact#[s'' _ _ hH,by show 1<sq;lia,CNx.mk hn #[zu (hs.trans s'') hD,zb,rfl]]
   ·rintro AR H' ⟨hs,hH,rfl⟩;exact#[hs,D,hH,rfl]
  rintro σ H1 ⟨s1,F,hF,rfl⟩:_;have hPa1:=hPa.same s1;have hW1:=s1 _ _ hW;have hR1:=hR.same s1;right
  cases hmk H1 s1 with
  | alike S ss he hp hS hl' hw =>
   refine jz (λZ Z=>False) ?_ λZ Z h=>h.elim
   rfl'
   exact#[_,SqL.of hF,_,rfl,_,SqL.of hF,_,rfl,rfl,z8 (λZ=>#[_,SqT.of hp,_,rfl,rfl,z8 (λZ=>#[_,SqL.of hW1,_,rfl,_,SqT.of hp,_,rfl,QZ hPa1.is hok ⋯ hS.is hl' hw #[_,SqL.of hW1,_,rfl,rfl,by rw[u9 rfl];exact q _]]) λz=>w4 rfl z]) λh=>w4 (by rw[he]) h]
  | forms es D hn hw hps hE hp hD =>
   change H'=H1/\σ=[!!p,AK (.bl wh),!!ra,!!pa,!!wd,~~~l,-~~~m,!!F,AL]
   ·rfl'
    exact#[_,SqL.of hF,_,rfl,_,SqL.of hF,_,rfl,rfl,z8 (λh=>w4 (vP (V.str.inj h)) hn) λZ=>trivial]
   rintro σ H2 ⟨rfl,rfl⟩:_;right;refine jz (λZ Z=>False) ?_ λZ Z h=>h.elim
   rfl'
   rw[w6 hw];have hlen:es.length<=12:=by rw[<- xq,hps];exact hp12
   let#[xs,hX,hEn]:=id hD;have hxl:=hEn.len;change Same H2 H'/\σ=[!!p,AK (.bl wh),!!ra,!!pa,!!wd,~~~l,-~~~m,!!F,AL]
   ·rfl'
    refine#[_,SqT.of hp,_,rfl,rfl,z8 (λz=>w4 rfl z) λZ=>#[_,SqT.of hp,_,rfl,_,SqT.of hp,_,rfl,⋯,λL hL=>U0 (.inl #[zbc zb,zbc (zd hL _ _ hF)]) (by erw[vI,dpD];decide) #[_,rfl,z8 (λe=>by rw[y8]at e;cases e) λZ=>zd hL]]]
   rintro σ H3 ⟨s3,rfl⟩:_;right;change Same H3 H'/\σ=[!!p,AK (.bl wh),!!ra,!!pa,!!wd,~~~l,-~~~m,!!F,AL]
   ·rfl'
    refine#[_,SqT.of (s3 _ _ hp),_,rfl,D,rfl,#[_,SqL.of (s3 _ _ hX)],λJ hJ'=>CompL.by (xs:=xs) (λn AR H'=>Same H3 H'/\H' J=AK (.lst AR)/\Iss K H' (((zc es).take n).map dR) AR) #[zd hJ',zb,by erw[bA,aA,Iss]] (λn AR H' Z h=>SqL.of (h.1 _ _ (s3 _ _ hX))) ?_ ?_]
    ·refine nm4 ?_;rintro n x AR H' hx ⟨hs,hH,hIs⟩:_;have hi':=(AS.mp hx).1;let#[e,pe,se,hei,rfl,hqe,hse]:=hEn.get hx;have hm:(zc es)[n]? = AK (e.1,e.2.1):=by unfold zc;rw[au,hei];rfl
     have hal:=hIs.len;rw[aa,aH]at hal;have hq2:=zo (s3.trans hs) hqe;right
     erw[y4]
     rfl'
     refine#[yq,_,hq2,_,rfl,_,hq2,_,rfl,⋯,λp' hp'=>#[zd hp' _ _ hH,⋯,CNx.mk hi' #[zu (hs.trans (zd hp')) hJ',zb,?_]]];rw[zO hm,aq];exact jc hH hIs hp' zet (wu _) (by erw[ya,xx,and_self])
    ·rintro AR H' ⟨hs,hH,hIs⟩;have hpl:=xq es;rw[hxl,<- hpl,aK,hps]at hIs;exact U0 (.inl #[LsA.is #[AR,hH,hIs],(hR1.same (s3.trans hs)).is]) (bT (zbl _) ∅) #[_,rfl,z8 (λe=>by rw[y8]at e;cases e) λZ=>hs]
   rintro σ H4 ⟨s4,rfl⟩:_;have s24:=s3.trans s4;let#[xs2,hX2,hI2]:=hD.same s24;have hxl2:=hI2.len;have hP4:=hPa1.same s24;right
   rfl'
   refine#[_,SqT.of (s24 _ _ hp),_,rfl,D,rfl,#[_,SqL.of hX2],λJ hJ'=>CompL.by (xs:=xs2) (λn AR H'=>Same H4 H'/\H' J=AK (.lst AR)/\AR=(aM n AM).map V.bl) #[zd hJ',zb,rfl] (λn AR H' Z h=>SqL.of (h.1 _ _ hX2)) ?_ ?_]
   ·refine nm4 ?_;rintro n x0 AR H' hx ⟨hs,hH,rfl⟩:_;have hi':=(AS.mp hx).1;let#[e,pe,se,hei,rfl,hqe,hse]:=hI2.get hx;let#[hok',hEe]:=hE e (ac hei);have hq2:=zo hs hqe;right
    erw[y4]
    rfl'
    refine#[yq,_,hq2,_,rfl,_,hq2,_,rfl,QZ (hP4.same hs).is hok (by have:=hEe.a;lia) (hse.same hs).is (by have:=hEe.s;lia) hok' #[_,hq2,_,rfl,rfl,hH,by rw[aa,bE];lia,CNx.mk hi' #[zu hs hJ',zb,?_]]];rw[dj,aq];simp
   ·rintro AR H' ⟨hs,hH,rfl⟩;refine#[J,aM xs2.length AM,rfl,SqL.of hH,?_];have e:(aM xs2.length AM).all id=AM:=by simp
    rw[e];exact q _
  | world N t ts hn hw hm h3 h4 h5 hp ht =>
   change H'=H1/\σ=[!!p,AK (.bl wh),!!ra,!!pa,!!wd,~~~l,-~~~m,!!F,AL]
   ·rfl'
    exact#[_,SqL.of hF,_,rfl,_,SqL.of hF,_,rfl,rfl,z8 (λh=>w4 (vP (V.str.inj h)) hn) λZ=>trivial]
   rintro σ H2 ⟨rfl,rfl⟩:_;right;change H'=H2/\σ=[!!p,AK (.bl wh),!!ra,!!pa,!!wd,~~~l,-~~~m,!!F,AL]
   ·rfl'
    exact z8 (λh=>by rw[hw]at h;cases h) λZ=>trivial
   rintro σ H2 ⟨rfl,rfl⟩:_;right;change H'=H2/\σ=[!!p,AK (.bl wh),!!ra,!!pa,!!wd,~~~l,-~~~m,!!F,AK (.non)]
   ·rfl'
   rintro σ H2 ⟨rfl,rfl⟩:_;right;change Same H2 H'/\∃t' rs',TabAt H' t' rs' (xW 2 l.length N)/\σ=[!!p,AK (.bl wh),!!ra,!!pa,!!wd,~~~l,-~~~m,!!F,!!t']
   ·rfl'
    refine z8 (λZ=>#[l,pa,wd,rs,u,v,rfl,hl,hPa1,hin,hW1,hu,hv,λt' rs' N' H' s' g1 g2 g3 g4=>?_,λh=>?_]) λh=>w4 ⋯ h
    ·have eN:N'=N:=by
      rcases dO N' N with e | e | e
      ·rw[h5 N' e]at g2;cases g2
      ·exact e
      ·have:=g3 N e;rw[h4]at this;cases this
     rw[eN]at g4;exact#[s',t',#[rs',g4],rfl]
    ·have:=h N h3;rw[h4]at this;cases this
   rintro σ H3 ⟨s3,t',rs',ht',rfl⟩:_;right;change H'=H3/\σ=[!!p,AK (.bl wh),!!ra,!!pa,!!wd,~~~l,-~~~m,!!F,!!t']
   ·rfl'
   rintro σ H3 ⟨rfl,rfl⟩:_;right
   rfl'
   refine#[_,SqT.of (s3 _ _ hp),_,rfl,rfl,z8 (λZ=>#[_,SqT.of (s3 _ _ hp),_,rfl,Z4 (.inl #[(ht.same s3).is,ht'.is]) (bT (zbE _) ∅) ?_]) λz=>w4 rfl z];rw[y8];exact q _
  | open_ hn hw h5 hp =>
   change H'=H1/\σ=[!!p,AK (.bl wh),!!ra,!!pa,!!wd,~~~l,-~~~m,!!F,AL]
   ·rfl'
    exact#[_,SqL.of hF,_,rfl,_,SqL.of hF,_,rfl,rfl,z8 (λh=>w4 (vP (V.str.inj h)) hn) λZ=>trivial]
   rintro σ H2 ⟨rfl,rfl⟩:_;right;change H'=H2/\σ=[!!p,AK (.bl wh),!!ra,!!pa,!!wd,~~~l,-~~~m,!!F,AL]
   ·rfl'
    exact z8 (λh=>by rw[hw]at h;cases h) λZ=>trivial
   rintro σ H2 ⟨rfl,rfl⟩:_;right;change H'=H2/\σ=[!!p,AK (.bl wh),!!ra,!!pa,!!wd,~~~l,-~~~m,!!F,AK (.non)]
   ·rfl'
   rintro σ H2 ⟨rfl,rfl⟩:_;right;change Same H2 H'/\σ=[!!p,AK (.bl wh),!!ra,!!pa,!!wd,~~~l,-~~~m,!!F,AK (.non)]
   ·rfl'
    refine z8 (λhm=>#[l,pa,wd,rs,u,v,rfl,hl,hPa1,hin,hW1,hu,hv,λt' rs' N' H' s' g1 g2 Z Z=>?_,λZ H' s'=>#[s',rfl]]) λZ=>Same.refl _;have:=h5 ⋯ N' g1;rw[g2]at this;cases this
   rintro σ H3 ⟨s3,rfl⟩:_;right;refine jz (λZ Z=>False) ?_ λZ Z h=>h.elim
   rfl'
   refine#[⋯,λp1 hp1=>Z4 (l:=[.str "open"]) (m:=[.str "open"]) (.inr #[?_,?_]) ∅ ?_]
   ·erw[Is,Iss]
    exact#[_,_,rfl,SqT.of (zd hp1 _ _ (s3 _ _ hp)),_,_,rfl,rfl,rfl]
   ·erw[Is,Iss]
    exact#[_,_,rfl,SqT.of zb,_,_,rfl,rfl,rfl]
   ·rw[y8];exact q _
def zbI:∀t ∈ [1,2,3,4],∀r ∈ [0,1,2,3,4,5],∀k ∈ [0,1],∀q ∈ [AM,AN],(qX k t r q).length<=12/\∀p ∈ qX k t r q,0<p.1.length/\p.2.length<=p.1.length/\p.1.length<=60/\(∀c ∈ p.1,c<2)/\∀c ∈ p.2,c<2:=by symm
end in def nmB(x y z:Nat):Nat:=if z=x then 0 else if z=y then 1 else 2
theorem Us(h:x≠y){w:()}(hw:∀c ∈ w,c<2):(w.map (nm2 x y)).map (nmB x y)=w:=by
 rw[aY];refine (aW λc hc=>?_).trans (gx _);have:=hw c hc;unfold nmB nm2
 match c,this with
 | 0,_=>simp
 | 1,_=>simp [Ne.symm h]
def zcn(hxy:x≠y)(hk:k ∈ [0,1])(ht:t ∈ [1,2,3,4])(hr:r ∈ [0,1,2,3,4,5])(hp:ps.Perm ((qX k t r q).map (mp (nm2 x y)))):ShP ps/\ps.length<=12:=by
 let#[f1,f2]:=zbI t ht r hr k hk q (by cases q <;> decide)
 have of:∀p ∈ ps,∃p0 ∈ qX k t r q,p=mp (nm2 x y) p0:=λp h=>by
  let#[p0,h0,e]:=AT.mp (hp.mem_iff.mp h);exact#[p0,h0,e.symm]
 have hl:ps.length<=12:=by
  have:=hp.length_eq;rw[aa]at this;lia
 refine#[#[λp h=>?_,λp h=>?_,#[λw=>muI k t r (w.map (nmB x y)),λp h a b=>?_],λp h=>?_,⋯],hl]
 all_goals
  let#[p0,h0,rfl]:=of p h;let#[g1,g2,g3,g4,g5]:=f2 p0 h0
 ·intro e;have:=congrArg dP e
  erw[mp,aa,bg]at this
  lia
 ·erw[mp,aa]
  exact g2
 ·let#[m1,m2]:=zaD t ht r hr k hk q (by cases q <;> decide) p0 h0
  erw[mp,aq,Us hxy g4,Us hxy g5]
  exact Jt m1 m2 _ _
 ·erw[mp,aa]
  exact g3
def Jm :(yc t q).map (nm2 x y)=(aM t (if q=AM then [y,x]else [x,y])).flatten:=by unfold yc;rw[List.map_flatten,eM];cases q <;> rfl
theorem J79.same{H H':Hp}{l:()}{ps rs:List zC}{u v:()}{i j m:Nat}{wh:Bool}{p:su}(h:J79 K H l ps rs u v i j wh m p)(s:Same H H'):J79 K H' l ps rs u v i j wh m p:=by
 cases h with
 | alike S ss he hp hS hl hw=>exact .alike S ss he (s _ _ hp) (hS.same s) hl hw
 | forms es D hn hw hps hE hp hD=>exact .forms es D hn hw hps hE (s _ _ hp) (hD.same s)
 | world N t ts hn hw hm h3 h4 h5 hp ht=>exact .world N t ts hn hw hm h3 h4 h5 (s _ _ hp) (ht.same s)
 | open_ hn hw h5 hp=>exact .open_ hn hw h5 (s _ _ hp)
def WS(K:sr)(T:su):Sp:=λvs H Q Z=>∃(a:su) (ns:List Int),vs=[.ref a]/\SqL K H a (ns.map V.int)/\(∀z ∈ ns,kh z)/\H T=AK (.tbl #[])/\∀H',Q (.bl AM) H'
def gW:sQz 1 ["_law_script","_law_first","_law_letters_here","_law_right_here","_law_order","_law_times","_law_turn","_law_third","_law_pacts","_law_words","_law_rounds","_law_most","_law_found","_law_rules"] jR:=by nofun
def zej{f CO CR CW TB:su}(B:Bt mg)(T:TWS P w K mg base CO CR CW)(F:("law"^^^jR))(nQ:(1<<<"_law_cell") ["_law_script","_law_k"] [] (ZW K))(rH:(2<<<"_law_letters") ["_law_cell_here","_law_many"] [] u7)(rL:(2<<<"_law_turned") ["_law_pacts","_law_cell_here"] [] (Xa K))(rM:(11>>>"judged") ["order","pacts","one","other","rounds","most"] [] (zeF K CO CR CW TB))(pA:(4<<<"_law_rules_behind") ["_law_times","_law_rounds","_law_letters_here","_law_right_here","_law_third"] [] (vt K))(rT:(4<<<"_law_right") ["_law_found","_law_whole_here","_law_rules","_law_pacts","_law_words","_law_letters_here","_law_most"] [] (W7 K))(sf:(1<<<"_law_word") ["_law_number","_law_letters_here","_law_most"] [] Zn)(rN:(4<<<"_law_answer") ["_law_found","_law_many"] [] (U8 K))(lA:(1<<<"_law_mixed") ["_law_cell_here","_law_turn"] [] wB):(12&&&["_law_script"]) (WS K TB):=by
 exists F.ok gW
 ·let#[a,ns,rfl,hS,hB,hT,q]:=h
  refine#[_,(zh (zB 1 gW.nd (cl0 nQ hr .nil rfl (za (pv 0) (za zf ze)))) (zh (yT (i:=2) gW.nd rfl (Or.inr rfl) (cl0 rH hr .nil rfl (za (pv 1) (za zf ze)))) (zh (zB 3 gW.nd (yf yW (zD xp (pv 1) zf) zf (zv _))) (zh (zB 4 gW.nd (mkC T.mO hr rfl T.gO (za (pv 2) ze))) (zh (zJ (ym (pv 3) (λZ=>rfl)) (zg (zB 4 gW.nd (mkC T.mR hr rfl T.gR (za (pv 2) ze))))
    zp) (zh (zB 5 gW.nd (zD yz zf (zD xp (zD vm (pv 1) zf) zf))) (zh (yT (i:=6) gW.nd rfl (Or.inr rfl) (pv 2)) (zh (zJ (zt yW (zD xp (zD vm (pv 1) zf) zf) zf (zv _)) (zg (yT (i:=6) gW.nd rfl (Or.inr rfl) (zD zL (zk wJ (pv 2) zf) (zk wJ (pv 2) zf))))
    zp) (zh (zB 7 gW.nd (wL bz fY fZ zaB zQ (za (yy (own:=["_law_k"]) (caps:=["_law_turn"]) (ix:=[6]) (tt:=y4) (te:=(zW 1)) rfl (zH (sc:=zi jR) rfl (!0) (!0) (!0) rfl (!0) (!0) rfl) (zV rfl B.range (za (pv 5) ze)) (λZ Z Z Z Z Z=>zr (i:=0) (show List.Nodup [_,_] by decide) rfl (.inl rfl)) (λZ Z Z Z Z Z=>z7) (λZ Z Z Z Z Z=>(pv 1))) ze))) (zh (zB 8 gW.nd (y6 (za (zN (za (zD zL (zk wJ (pv 2) zf) (zk wJ (pv 2) zf)) (za zQ ze))) (za (zN (za (zD zL (zk wJ (pv 2) zf) (zk wJ (pv 2) zf)) (za zQ ze))) (za (zN (za (pv 7) (za zQ ze))) ze))))) (zh (zB 8 gW.nd (cl0 rL hr .nil rfl (za (pv 8) (za (cl0 nQ hr .nil rfl (za (pv 0) (za zf ze))) ze)))) (zh (Xx (i:=9) gW.nd rfl (.inl rfl) (.inl rfl) (own:=["_law_k"]) (caps:=["_law_script","_law_letters_here"]) (ix:=[0,2]) (tt:=y4) (te:=(vE Zn [] E0 (zI (vE wB [] E0 (zI (vE (ZW K) [] E0 (zI (zW 1) (zI (tOp ZI (tC (.int 2)) (zW 0)) xb))) (zI (tC (.int 4)) xb))) (zI (zW 2) (zI (tC (.int 8)) xb))))) rfl (zH (sc:=zi jR) rfl (!0) (!0) (!0) rfl (!0) (!0) rfl) (zV rfl B.range (za zf ze)) (λZ Z Z Z Z Z=>zr (i:=0) (show List.Nodup [_,_,_] by decide) rfl (.inl rfl)) (λZ Z Z Z Z Z=>z7) (λZ Z Z Z Z Z=>(cl0 sf hr .nil rfl (za (cl0 lA hr .nil rfl (za (cl0 nQ hr .nil rfl (za (pv 1) (za (zD qb zf (pv 0)) ze))) (za zf ze))) (za (pv 2) (za zf ze)))))) (zh (zB 10 gW.nd (zD xp (cl0 nQ hr .nil rfl (za (pv 0) (za zf ze))) zf)) (zh (zB 11 gW.nd (zD yz zf (zD xp (zD vm (cl0 nQ hr .nil rfl (za (pv 0) (za zf ze))) zf) zf))) (zh (zB 12 gW.nd (clP xe0 rM hr .nil rfl (za (pv 4) (za (vg xF rfl B.list PySem.Pv.boot_list (za (pv 8) ze)) (za (zk ix_list (pv 9) zf) (za (zk ix_list (pv 9) zf) (za (pv 10) (za (pv 11) ze)))))))) (zh (zJ (yd (ym (cl0 rN hr .nil rfl (za (pv 12) (za zf ze))) (λZ=>rfl))) (zg (zl yC))
    zp) (zh (zB 13 gW.nd (cl0 pA hr .nil rfl (za (pv 5) (za (pv 10) (za (pv 2) (za (pv 3) (za (pv 7) ze))))))) (zg (zl (cl0 rT hr .nil rfl (za (pv 12) (za (yf op_ge' (pv 10) (pv 5) (zv _)) (za (pv 13) (za (pv 8) (za (pv 9) (za (pv 2) (za (pv 11) ze))))))))))))))))))))))))))),?_]
  have s16:=zS;have s16:=zS;have hTab:TabOk H TB lp lq:=#[#[],hT,trivial,.inl rfl];change H'=H/\∃n:Int,kh n/\σ=[!!a,~~~!n,AL,AL,AL,AL,AL,AL,AL,AL,AL,AL,AL,AL]
  ·rfl'
   exact uC hS hB ∅ λc hc=>#[rfl,c,hc,rfl]
  rintro σ H0 ⟨rfl,n,hn,rfl⟩:_;right;change H'=H0/\∃x y:Nat,jJ [x,y]=AM/\x≠y/\σ=[!!a,~~~!n,AK (.str (tx [x,y])),AL,AL,AL,AL,AL,AL,AL,AL,AL,AL,AL]
  ·rfl'
   refine We hn ⋯ ⋯ λl hl hnd hs=>?_
   match l,hl,hnd,hs with
   | [x,y],hl,hnd,hs=>exact#[rfl,x,y,u9 #[by simp,by simp,hs,hnd],λe=>by rw[e]at hnd;simp at hnd,rfl]
  rintro σ H1 ⟨rfl,x,y,hg,hxy,rfl⟩:_;right;change H'=H1/\∃b:Bool,σ=[!!a,~~~!n,AK (.str (tx [x,y])),AK (.bl b),AL,AL,AL,AL,AL,AL,AL,AL,AL,AL]
  ·rfl'
   exact by decide
  rintro σ H1 ⟨rfl,b,rfl⟩:_
  have mk:∀{C x0 dx:su} {H:Hp},H x0=AL->H dx=AL->Same H (upd (upd (upd H dx (.own x0)) x0 (.ins C dx [])) x0 (.ins C dx [("letters",.str (tx [x,y]))])):=λ{C x0 dx H} hx hdx b o' e=>by
   rw[zq (zM e hx),zq (zM e hx)];exact zd hdx _ _ e
  right;change Same H1 H'/\∃o:su,OrdAt CO CR CW H' o 0 [x,y] ([x,y].map λZ=>1)/\σ=[!!a,~~~!n,AK (.str (tx [x,y])),AK (.bl b),!!o,AL,AL,AL,AL,AL,AL,AL,AL,AL]
  ·rfl'
   intro x0 dx hx hdx hne;exact#[x0,CO,dx,[x,y],rfl,hg,T.cO,T.lO,zb,rfl,mk hx hdx,dx,.inl #[rfl,zb]]
  rintro σ H2 ⟨s2,o0,ho0,rfl⟩:_;obtain⟨k,hk⟩:∃k:Nat,(if b=AM then 1 else 0)=k:=#[_,rfl];right;change Same H1 H'/\∃(o:su),OrdAt CO CR CW H' o k [x,y] ([x,y].map λZ=>1)/\σ=[!!a,~~~!n,AK (.str (tx [x,y])),AK (.bl b),!!o,AL,AL,AL,AL,AL,AL,AL,AL,AL]
  ·rfl'
   refine z8 (λhb=>?_) λhb=>#[s2,by rw[<- hk,w9 hb];exact ho0];intro x0 dx hx hdx hne;exact#[x0,CR,dx,[x,y],rfl,hg,T.cR,T.lR,zb,rfl,s2.trans (mk hx hdx),by rw[<- hk,w6 hb];exact#[dx,.inr #[rfl,zb]]]
  rintro σ H3 ⟨s3,o,ho,rfl⟩:_;have hkm:k ∈ [0,1]:=by rw[<- hk];split <;> decide
  have hG:OG [x,y] ([x,y].map λZ=>1) k:=#[hg,by rw[<- hk];split <;> decide,aa _,λz hz=>by let#[_,_,rfl]:=AT.mp hz;decide];have hS3:=s3.seq hS;right;change H'=H3/\∃t:Nat,(1<=t/\t<=4)/\σ=[!!a,~~~!n,AK (.str (tx [x,y])),AK (.bl b),!!o,-~~~t,AL,AL,AL,AL,AL,AL,AL,AL]
  ·rfl'
   have e0:=cz (n / 2) (b:=4) ∅;have e1:=cp (n / 2) (b:=4) ∅;exact#[#[∅,∅],∅,(1+n / 2 % 4).toNat,⋯,⋯]
  rintro σ H3 ⟨rfl,t,⟨t1,t4⟩,rfl⟩:_;have htm:t ∈ [1,2,3,4]:=by erw[dn,cL,or_false];lia
  right;change H'=H3/\σ=[!!a,~~~!n,AK (.str (tx [x,y])),AK (.bl b),!!o,-~~~t,AK (.str (tx [x,y])),AL,AL,AL,AL,AL,AL,AL]
  ·rfl'
  rintro σ H3 ⟨rfl,rfl⟩:_;right;change H'=H3/\∃q0:Bool,σ=[!!a,~~~!n,AK (.str (tx [x,y])),AK (.bl b),!!o,-~~~t,AK (.str (tx (if q0=AM then [y,x]else [x,y]))),AL,AL,AL,AL,AL,AL,AL]
  ·rfl'
   exact#[#[∅,∅],∅,z8 (λZ=>#[⋯,y,rfl,⋯,x,rfl,⋯,AM,rfl]) λZ=>#[AN,rfl]]
  rintro σ H3 ⟨rfl,q0,rfl⟩:_;right;change Same H3 H'/\σ=[!!a,~~~!n,AK (.str (tx [x,y])),AK (.bl b),!!o,-~~~t,AK (.str (tx (if q0=AM then [y,x]else [x,y]))),AK (.str (tx ((yc t q0).map (nm2 x y)))),AL,AL,AL,AL,AL,AL]
  ·rfl'
   refine#[⋯,⋯,λD hD=>CompR.by (λi AR H'=>Same H3 H'/\H' D=AK (.lst AR)/\AR=((aM i (if q0=AM then [y,x]else [x,y])).map tx).map V.str) #[zd hD,zb,rfl] ?_ ?_]
   ·refine nm3 ?_;rintro i AR H' hi ⟨hs,hH,rfl⟩:_;rw[aE]at hi;right
    erw[y4]
    rfl'
    refine#[yq,hH,by erw[aa,bE];lia,CNx.mk (by rw[aE];exact hi) #[zu hs hD,zb,?_]];rw[dj,aq,aq];rfl
   ·rintro AR H' ⟨hs,hH,rfl⟩;rw[aE]at hH
    have hfl:(aM t (if q0=AM then [y,x]else [x,y])).flatten.length<=100000:=by
     rw[List.length_flatten,eM,List.sum_replicate_nat];have:(if q0=AM then [y,x]else [x,y]).length=2:=by split <;> rfl
     rw[this];lia
    refine#[tx [],D,(aM t (if q0=AM then [y,x]else [x,y])).map tx,rfl,rfl,SqL.of hH,W5 hfl,?_];have e:Txt.join (tx []) ((aM t (if q0=AM then [y,x]else [x,y])).map tx)=Str.join (tx []) ((aM t (if q0=AM then [y,x]else [x,y])).map tx):=StrLaws.glued_eq_join _ _;rw[e,Xn,Jm];exact#[hs,rfl]
  rintro σ H4 ⟨s4,rfl⟩:_;right;change Same H4 H'/\∃D:su,LsA K H' D (((ub t q0).map (mp (nm2 x y))).map dR)/\σ=[!!a,~~~!n,AK (.str (tx [x,y])),AK (.bl b),!!o,-~~~t,AK (.str (tx (if q0=AM then [y,x]else [x,y]))),AK (.str (tx ((yc t q0).map (nm2 x y)))),!!D,AL,AL,AL,AL,AL]
  ·rfl'
   refine#[⋯,x,rfl,⋯,x,rfl,⋯,⋯,λp hp=>#[⋯,y,rfl,⋯,y,rfl,⋯,⋯,λp1 hp1=>#[⋯,λp2 hp2=>#[⋯,λD hD=>?_]]]];have u1:=zd (o:=HO.tup [.str (tx [x,x]),.str (tx [])]) hp;have u2:=zd (o:=HO.tup [.str (tx [y,y]),.str (tx [])]) hp1;have u3:=zd (o:=HO.tup [.str (tx ((yc t q0).map (nm2 x y))),.str (tx [])]) hp2;have u4:=zd (o:=HO.lst [.ref p,.ref p1,.ref p2]) hD;refine#[u1.trans (u2.trans (u3.trans u4)),_,zb,?_];show Iss K _ [dR ([x,x],[]),dR ([y,y],[]),dR ((yc t q0).map (nm2 x y),[])] _
   erw[Iss]
   exact#[_,_,rfl,vZ (SqT.of (u4 _ _ (u3 _ _ (u2 _ _ zb)))),_,_,rfl,vZ (SqT.of (u4 _ _ (u3 _ _ zb))),_,_,rfl,vZ (SqT.of (u4 _ _ zb)),rfl]
  rintro σ H5 ⟨s5,D0,hD0,rfl⟩:_;have sE:=s4.trans s5;right;change Same H5 H'/\∃pa:su,(∃rs',LsA K H' pa (rs'.map dR)/\Alk ((ub t q0).map (mp (nm2 x y))) rs')/\σ=[!!a,~~~!n,AK (.str (tx [x,y])),AK (.bl b),!!o,-~~~t,AK (.str (tx (if q0=AM then [y,x]else [x,y]))),AK (.str (tx ((yc t q0).map (nm2 x y)))),!!pa,AL,AL,AL,AL,AL]
  ·rfl'
   exact uC (sE.seq hS3) hB ∅ λc hc=>#[D0,c,_,rfl,hc,hD0,by simp [ub],λD H' rs' s' hL hA=>#[s',D,#[rs',hL,hA],rfl]]
  rintro σ H6 ⟨s6,pa,⟨rs',hPa,hA⟩,rfl⟩:_;have hb0:∀t ∈ [1,2,3,4],∀q ∈ [AM,AN],∀p ∈ ub t q,p.2.length<p.1.length/\p.1.length<=8/\(∀c ∈ p.1,c<2)/\p.2=[]:=∅
  have hb:∀p ∈ (ub t q0).map (mp (nm2 x y)),p.2.length<p.1.length/\p.1.length<=8/\(∀c ∈ p.1,c ∈ [x,y])/\p.2=[]:=λp hp=>by
   let#[p0,hp0,rfl]:=AT.mp hp;let#[g1,g2,g3,g4]:=hb0 t htm q0 (by cases q0 <;> decide) p0 hp0;unfold mp;refine#[by erw[aa];exact g1,by erw[aa];exact g2,λc hc=>?_,by erw[g4,aA]];let#[c0,hc0,rfl]:=AT.mp hc;have:=g3 c0 hc0;exact show nm2 x y c0 ∈ [0,1].map (nm2 x y)from AT.mpr #[c0,by match c0,this with | 0,_=>decide | 1,_=>decide,rfl]
  have hAp:=(zaO (λp hp=>(hb p hp).1) hA).1;have hrl:rs'.length=3:=by rw[hA.1,aa];rfl
  have hrs:∀p ∈ rs',p.1.length<=8/\p.2.length<=8/\(∀c ∈ p.1,c ∈ [x,y])/\∀c ∈ p.2,c ∈ [x,y]:=λp hp=>by
   have h:=hb _ (hAp.mem_iff.mp (AT.mpr #[p,hp,rfl]));unfold lgR at h;by_cases g:p.1.length<p.2.length
   ·rw[w6 g]at h;simp only at h;exact#[⋯,h.2.1,by rw[h.2.2.2];exact λc hc=>(nomatch hc),h.2.2.1]
   ·rw[w9 g]at h;exact#[h.2.1,⋯,h.2.2.1,by rw[h.2.2.2];exact λc hc=>(nomatch hc)]
  have hok:kK rs':=#[⋯,λr hr=>by have:=hrs r hr;lia];have sF:=sE.trans s6;have hS6:=(sF.seq hS3);right;change Same H6 H'/\∃(wd:su) (u v:()),H' wd=AK (.lst [.str (tx u),.str (tx v)])/\(u.length<=8/\v.length<=8)/\(∀c ∈ u,c ∈ [x,y])/\(∀c ∈ v,c ∈ [x,y])/\σ=[!!a,~~~!n,AK (.str (tx [x,y])),AK (.bl b),!!o,-~~~t,AK (.str (tx (if q0=AM then [y,x]else [x,y]))),AK (.str (tx ((yc t q0).map (nm2 x y)))),!!pa,!!wd,AL,AL,AL,AL]
  ·rfl'
   refine#[⋯,⋯,λD hD=>CompR.by (λi AR H'=>Same H6 H'/\H' D=AK (.lst AR)/\∃ws:List (()),AR=ws.map (λw=>V.str (tx w))/\ws.length=i/\∀w ∈ ws,w.length<=8/\∀c ∈ w,c ∈ [x,y]) #[zd hD,zb,[],rfl,rfl,λw h=>(nomatch h)] ?_ ?_]
   ·refine nm3 ?_;rintro i AR H' hi ⟨hs,hH,ws,rfl,hwl,hwb⟩:_;right
    erw[y4]
    rfl'
    refine#[yq,uC (hs.seq hS6) hB ⋯ λc hc=>wU hc ∅ ∅ λz hz=>J9 hz (show 1<=2 by decide) (show 2<=26 by decide) ∅ ∅ λw hw1 hw2=>#[hH,by rw[aa,hwl];have:i<2:=hi;lia,CNx.mk hi #[zu hs hD,zb,ws ++ [w],by rw[aq];rfl,by rw[ak,hwl];rfl,λw' hw'=>?_]]];rcases AV.mp hw' with h | h
    ·exact hwb w' h
    ·rw[AW.mp h];exact#[⋯,hw2]
   ·rintro AR H' ⟨hs,hH,ws,rfl,hwl,hwb⟩
    match ws,hwl,hwb,hH with
    | [u,v],_,hwb,hH =>
     have hu:=hwb u ay;have hv:=hwb v (ar _ ay);exact#[hs,D,u,v,hH,hu.1,hv.1,hu.2,hv.2,rfl]
  rintro σ H7 ⟨s7,wd,u,v,hW,⟨hu8,hv8⟩,hu,hv,rfl⟩:_;have hS7:=s7.seq hS6;right;change H'=H7/\∃r:Nat,r<=5/\σ=[!!a,~~~!n,AK (.str (tx [x,y])),AK (.bl b),!!o,-~~~t,AK (.str (tx (if q0=AM then [y,x]else [x,y]))),AK (.str (tx ((yc t q0).map (nm2 x y)))),!!pa,!!wd,-~~~r,AL,AL,AL]
  ·rfl'
   refine uC hS7 hB ∅ λc hc=>?_;have c0:=cz c (b:=6) ∅;have c1:=cp c (b:=6) ∅;exact#[c,rfl,∅,rfl,(c % 6).toNat,⋯,⋯]
  rintro σ H7 ⟨rfl,r,hr5,rfl⟩:_;have hrm:r ∈ [0,1,2,3,4,5]:=by erw[dn,cL,or_false];lia
  right;change H'=H7/\∃m:Nat,(m=1\/m=2)/\σ=[!!a,~~~!n,AK (.str (tx [x,y])),AK (.bl b),!!o,-~~~t,AK (.str (tx (if q0=AM then [y,x]else [x,y]))),AK (.str (tx ((yc t q0).map (nm2 x y)))),!!pa,!!wd,-~~~r,-~~~m,AL,AL]
  ·rfl'
   refine uC hS7 hB ∅ λc hc=>?_;have c0:=cz (c / 6) (b:=2) ∅;have c1:=cp (c / 6) (b:=2) ∅;exact#[c,rfl,#[∅,∅],∅,rfl,(1+c / 6 % 2).toNat,⋯,⋯]
  rintro σ H7 ⟨rfl,m,hm12,rfl⟩:_;have sA:=sF.trans s7;have hTab7:=hTab.same (s3.trans sA);have ho7:=ho.same sA;have hPa7:=hPa.same s7;let#[px,hPx,hPi]:=id hPa7;have hb60:∀p ∈ rs',p.1.length<=60/\p.2.length<=60/\(∀c ∈ p.1,c ∈ [x,y])/\∀c ∈ p.2,c ∈ [x,y]:=λp hp=>by have h:=hrs p hp;exact#[⋯,⋯,h.2.2]
  right;change (LsA K H' pa (rs'.map dR)/\H' wd=AK (.lst [.str (tx u),.str (tx v)]))/\∃fp:su,JOut K H' k [x,y] ([x,y].map λZ=>1) rs' u v r m fp/\σ=[!!a,~~~!n,AK (.str (tx [x,y])),AK (.bl b),!!o,-~~~t,AK (.str (tx (if q0=AM then [y,x]else [x,y]))),AK (.str (tx ((yc t q0).map (nm2 x y)))),!!pa,!!wd,-~~~r,-~~~m,!!fp,AL]
  ·rfl'
   refine#[px,.inl (SqL.of hPx),λhd hh=>?_];have sh:=zd (o:=HO.lst px) hh;have hW':=sh _ _ hW;have hT':=hTab7.same sh;let#[tp,htp,_]:=id hT';refine#[_,SqL.of hW',_,rfl,_,SqL.of hW',_,rfl,o,hd,k,[x,y],_,rs',u,v,r,m,rfl,ho7.same sh,hG,#[px,zb,Iss.same sh _ _ hPi],⋯,hb60,⋯,⋯,hu,hv,⋯,⋯,?_,hT',λfp H' sT hTk hJ=>#[(hPa7.same sh).samT sT htp,sT.at htp hW' (λZ z=>by cases z),fp,hJ,rfl]];rcases hm12 with rfl | rfl
   ·show 1 ^ (1 * 2)<=1000;decide
   ·show 2 ^ (2 * 2)<=1000;decide
  rintro σ H8 ⟨⟨hPa8,hW8⟩,fp,hJ,rfl⟩:_;right;change Same H8 H'/\σ=[!!a,~~~!n,AK (.str (tx [x,y])),AK (.bl b),!!o,-~~~t,AK (.str (tx (if q0=AM then [y,x]else [x,y]))),AK (.str (tx ((yc t q0).map (nm2 x y)))),!!pa,!!wd,-~~~r,-~~~m,!!fp,AL]
  ·rfl'
   exact#[fp,[x,y],rfl,(show 2<=6 by decide),hJ.ans ⋯,λH' s'=>#[AM,rfl,Yi s']]
  rintro σ H9 ⟨s9,rfl⟩:_;right;change Same H8 H'/\∃du:su,(∃ps:List zC,LsA K H' du (ps.map dR)/\ps.Perm ((qX k t r q0).map (mp (nm2 x y)))/\ps.Pairwise λa b=>rankF.lt (vQ k [x,y] [] b.1) (vQ k [x,y] [] a.1)=AN)/\σ=[!!a,~~~!n,AK (.str (tx [x,y])),AK (.bl b),!!o,-~~~t,AK (.str (tx (if q0=AM then [y,x]else [x,y]))),AK (.str (tx ((yc t q0).map (nm2 x y)))),!!pa,!!wd,-~~~r,-~~~m,!!fp,!!du]
  ·rfl'
   refine#[t,r,x,y,q0,b,rfl,hxy,hg,htm,hrm,λD' H' rs s' hL hp hs=>?_];rw[hk]at hp hs;exact#[s9.trans s',D',#[rs,hL,hp,hs],rfl]
  rintro σ H10 ⟨s10,du,⟨ps,hdu,hdp,hds⟩,rfl⟩:_;let#[i,j,hi,hj,hJ79]:=hJ.j79 hG hxy hkm htm hrm hA hb60 hm12 hu8 hv8 hu hv hdp hds;let#[hSh,h12]:=zcn hxy hkm htm hrm hdp;right
  rfl'
  exact#[fp,du,pa,wd,[x,y],ps,rs',u,v,i,j,decide (t<=r),m,by rw[show decide ((t:Int)<=(r:Int))=decide (t<=r)from decide_eq_decide.mpr ⋯],.inl rfl,hdu,hSh,h12,hPa8.same s10,hok,λp hp=>(hb60 p hp).2.2,s10 _ _ hW8,#[hu8,hv8],hu,hv,hi,hj,hJ79.same s10,q]
end
def FnE(K:sr)(x q:sB)(st:sI)(f:su):Prop:=∃fd,Fun K x q st f fd
def FnA(K:sr)(x:sB)(st:sI)(f:su):Prop:=aw K sk x=AK (AK (.ref f))/\FnE K x x st f
def FnA.mk{K:sr}{x:sB}{st:sI}{f:su}{h:sU}{mg:sB->Option sv}(q:FnA K x st f)(X:K.In h)(G:h.Ns sk mg):mg x=AK (.ref f)/\aO K (.ref f)=AM/\FnE K x x st f:=by let#[a,fd,F]:=q;exact#[aN X G a,F.kp,fd,F]
def Yt{us:List sv}(h:us.length=1):∃a,us=[a]:=List.length_eq_one_iff.mp h
theorem vA{us:List sv}(h:us.length=2):∃a0 a1,us=[a0,a1]:=by
 cases us with
 | nil=>cases h
 | cons a r =>
  let#[a1,rfl]:=Yt (Nat.succ.inj h);exact#[a,a1,rfl]
theorem Yg{us:List sv}(h:us.length=3):∃a0 a1 a2,us=[a0,a1,a2]:=by
 cases us with
 | nil=>cases h
 | cons a r =>
  let#[a1,a2,rfl]:=vA (Nat.succ.inj h);exact#[a,a1,a2,rfl]
theorem za6{us:List sv}(h:us.length=4):∃a0 a1 a2 a3,us=[a0,a1,a2,a3]:=by
 cases us with
 | nil=>cases h
 | cons a r =>
  let#[a1,a2,a3,rfl]:=Yg (Nat.succ.inj h);exact#[a,a1,a2,a3,rfl]
theorem zff{us:List sv}(h:us.length=5):∃a0 a1 a2 a3 a4,us=[a0,a1,a2,a3,a4]:=by
 cases us with
 | nil=>cases h
 | cons a r =>
  let#[a1,a2,a3,a4,rfl]:=za6 (Nat.succ.inj h);exact#[a,a1,a2,a3,a4,rfl]
theorem zgx{us:List sv}(h:us.length=6):∃a0 a1 a2 a3 a4 a5,us=[a0,a1,a2,a3,a4,a5]:=by
 cases us with
 | nil=>cases h
 | cons a r =>
  let#[a1,a2,a3,a4,a5,rfl]:=zff (Nat.succ.inj h);exact#[a,a1,a2,a3,a4,a5,rfl]
theorem zg5{us:List sv}(h:us.length=7):∃a0 a1 a2 a3 a4 a5 a6,us=[a0,a1,a2,a3,a4,a5,a6]:=by
 cases us with
 | nil=>cases h
 | cons a r =>
  let#[a1,a2,a3,a4,a5,a6,rfl]:=zgx (Nat.succ.inj h);exact#[a,a1,a2,a3,a4,a5,a6,rfl]
def dfm(P:sJ)(w:sP){K:sr}{mg:sB->Option sv}(base:sU){CX:CXT}{k:Nat}{f:su}{fd:tQ}{nm:sB}{ps:List sB}{sp:Sp}(h:FnOk P w K mg base CX k f fd ps sp)(m:mg nm=AK (.ref f))(p:aO K (.ref f)=AM)(b:Binds K fd ps []):Df P w K mg base CX k nm ps [] sp:=#[_,_,h,m,p,b]
def FnA.df(P:sJ)(w:sP){K:sr}{h:sU}{mg:sB->Option sv}(base:sU){x:sB}{st:sI}{f:_}{CX:CXT}{k:Nat}{ps:List sB}{sp:Sp}(q:FnA K x st f)(X:K.In h)(G:h.Ns sk mg)(H:∀{fd},Fun K x x st f fd->FnOk P w K mg base CX k f fd ps sp)(hb:∀(kV doc pm:sv) (an:Option su) (cdv ct:sv) (us:List sv),us.length=ps.length->bindArgs (bB x x (yQ st) (yj st) (zi st) .none kV doc pm an cdv ct) #[us,[]]=pure (ps.zip us)):Df P w K mg base CX k x ps [] sp:=by let#[M,p,_,F]:=q.mk X G;exact dfm P w base (H F) M p (F.binds hb)
local macro_rules | `(tactic| injections)=>`(tactic| (intro _ _ _ _ _ _ us hl;first | (obtain⟨_,e⟩:=Yt hl;subst e;rfl) | (obtain⟨_,_,e⟩:=vA hl;subst e;rfl) | (obtain⟨_,_,_,e⟩:=Yg hl;subst e;rfl) | (obtain⟨_,_,_,_,e⟩:=za6 hl;subst e;rfl) | (obtain⟨_,_,_,_,_,e⟩:=zff hl;subst e;rfl) | (obtain⟨_,_,_,_,_,_,e⟩:=zgx hl;subst e;rfl) | (obtain⟨_,_,_,_,_,_,_,e⟩:=zg5 hl;subst e;rfl)))
local macro_rules | `(nofun)=>`(by injections)
def all_mk{l:PySem.W.OpenLaw}{w:sP}{K:sr}{h:sU}{mg:sB->Option sv}{fa f0 f1 f2 f3 f4 f5 f6 f7 f8 f9 f10 f11 f12 f13 f14 f15 f16 f17 f18 f19 f20 f21 f22 f23 f24 f25 f26 f27 f28 f29 f30 f31 f32 f33 f34 f35 f36 f37 f38 f39 f40 f41 f42 f43 f44 f45 f46 f47 f48 f49 f50 f51 f52 f53 f54 f55 f56 f57 f58 f59 f60 f61 pL gN gH gG gK gL ic gM gX gJ gY:su}{cc TB:su}(X:K.In h)(G:h.Ns sk mg)(hfa:mg "law" = AK (.ref fa))(hlam:∃a o fd,mg "in_order" = AK (.ref a)/\h.get? a=AK o/\o.data=.func fd/\fd.code=.ref cc)(hgT:sk≠TB)
{od6 an6 od12 an12 od30 an30 od61 an61:Option su}{sl6 sl12 sl30 sl61:Array (Option sv)}{oc6 kV6 dc6 pm6 cd6 ct6 oc12 kV12 dc12 pm12 cd12 ct12 oc30 kV30 dc30 pm30 cd30 ct30 oc61 kV61 dc61 pm61 cd61 ct61:sv}
  {t6:Az}
  {fI:su}
  {odI anI:Option su}
  {slI:Array (Option sv)}
  {ocI kVI dcI pmI cdI ctI:sv}
  {t8:Az}
  {fU:su}
  {odU anU:Option su}
  {slU:Array (Option sv)}
  {ocU kVU dcU pmU cdU ctU:sv}
  {t9:Az}
  {tmt:Az}
  {tmu tms tmd tmp:Az}
  {tcu tce tcd tcp:Az}
  {tju tjs:Az}
  {iR:su}
  {iB:su}
  {lX:su}
  {iL:su}
  {iS:su}
  {iC:su}
  {lE:su}
  {io:su}
  {lY:su}
  {lF:su}
  {mD:su}
  {iZ:su}
  {lb:su}
  {oh:su}
  {ng:Az}
  {d1_gone:sv}
  {d2_gone:Option su}
  {d3_gone:Nat}
  {d4_gone:Array (Option sv)}
  {nk:su}
  {oy:Az}
  {d1_unmet:sv}
  {d2_unmet:Option su}
  {d3_unmet:Nat}
  {d4_unmet:Array (Option sv)}
  (a0:FnA K "is_small_letter" yY f0)
  (a1:FnA K "letters_of" vd f1)
  (a2:FnA K "stands_at" vV f2)
  (a3:FnA K "put" zb8 f3)
  (a4:FnA K "first_within" xU f4)
  (a5:FnA K "first_from" ve f5)
  (a6:aw K sk "gone" = AK (AK (.ref f6))) (l6:K.lookup f6=AK #[oc6,od6,.func (bB "gone" "gone" (yQ vK) (yj vK) (zi vK) (.ref oh) kV6 dc6 pm6 an6 cd6 ct6),sl6]) (k6:bV K cd6 "gone" = AM) (p6:aO K (.ref f6)=AM)
  (a7:FnA K "back" VF f7)
  (a8:FnA K "moved" Z2 f8)
  (a9:FnA K "by_pacts" uQ f9)
  (a10:FnA K "pairs_of" vz f10)
  (a11:FnA K "as_rule" jv f11)
  (a12:aw K sk "in_order" = AK (AK (.ref f12))) (l12:K.lookup f12=AK #[oc12,od12,.func (bB "in_order" "in_order" (yQ yL) (yj yL) (zi yL) .none kV12 dc12 pm12 an12 cd12 ct12),sl12]) (k12:bV K cd12 "in_order" = AM) (p12:aO K (.ref f12)=AM)
  (a13:FnA K "brought_down" xP f13)
  (a14:FnA K "refuse_beyond" xo f14)
  (a15:FnA K "built_anew" vq f15)
  (a16:FnA K "thinned" jx f16)
  (a17:FnA K "_law_cell" U5 f17)
  (a18:FnA K "_law_mixed" Xp f18)
  (a19:FnA K "_law_letters" j4 f19)
  (a20:FnA K "_law_word" UE f20)
  (a21:FnA K "_law_whole" XA f21)
  (a22:FnA K "_law_steps" XZ f22)
  (a23:FnA K "_law_used" UL f23)
  (a24:FnA K "_law_end" zbH f24)
  (a25:FnA K "agree" XD f25)
  (a26:FnA K "overlaps" uY f26)
  (a27:FnA K "peak" Jo f27)
  (a28:FnA K "form_of" jt f28)
  (a29:FnA K "is_met" ZQ f29)
  (a30:aw K sk "unmet" = AK (AK (.ref f30))) (l30:K.lookup f30=AK #[oc30,od30,.func (bB "unmet" "unmet" (yQ xS) (yj xS) (zi xS) (.ref nk) kV30 dc30 pm30 an30 cd30 ct30),sl30]) (k30:bV K cd30 "unmet" = AM) (p30:aO K (.ref f30)=AM)
  (a31:FnA K "system_by" vS f31)
  (a32:FnA K "first_entries" yO f32)
  (a33:FnA K "is_beyond" wE f33)
  (a34:FnA K "thinned_within" y9 f34)
  (a35:FnA K "unmet_within" xM f35)
  (a36:FnA K "entry_of" uU f36)
  (a37:FnA K "completed" ww f37)
  (a38:FnA K "table_of" vD f38)
  (a39:FnA K "table_count" wv f39)
  (a40:FnA K "tables_within" xm f40)
  (a41:FnA K "table_at" vv f41)
  (a42:FnA K "tells_apart" wy f42)
  (a43:FnA K "world_apart" wo f43)
  (a44:FnA K "gone_within" wk f44)
  (a45:FnA K "judged_by_roads" yU f45)
  (a46:FnA K "judged_by_worlds" yN f46)
  (a47:FnA K "judged" ZA f47)
  (a48:FnA K "_law_entries" jh f48)
  (a49:FnA K "_law_table_ok" vx f49)
  (a50:FnA K "_law_answer" Ye f50)
  (a51:FnA K "_law_form" UO f51)
  (a52:FnA K "_law_turned" ut f52)
  (a53:FnA K "_law_sided" qc f53)
  (a54:FnA K "_law_alternating" wq f54)
  (a55:FnA K "_law_rules_behind" xT f55)
  (a56:FnA K "_law_tables" uA f56)
  (a57:FnA K "_law_led" zc4 f57)
  (a58:FnA K "_law_holds" X2 f58)
  (a59:FnA K "_law_first_world" wl f59)
  (a60:FnA K "_law_right" qk f60)
  (a61:aw K sk "law" = AK (AK (.ref f61))) (l61:K.lookup f61=AK #[oc61,od61,.func (bB "law" "law" (yQ jR) (yj jR) (zi jR) .none kV61 dc61 pm61 an61 cd61 ct61),sl61]) (k61:bV K cd61 "law" = AM) (p61:aO K (.ref f61)=AM)
  (g_LetterError:aw K sk "LetterError" = AK (AK (.ref pL)))
  (g_NoLetters:aw K sk "NoLetters" = AK (AK (.ref gN)))
  (g_Order:aw K sk "Order" = AK (AK (.ref gH)))
  (g_FromRight:aw K sk "FromRight" = AK (AK (.ref gG)))
  (g_NotTurned:aw K sk "NotTurned" = AK (AK (.ref gK)))
  (g_System:aw K sk "System" = AK (AK (.ref gL)))
  (g_NoUse:aw K sk "NoUse" = AK (AK (.ref ic)))
  (g_TooFar:aw K sk "TooFar" = AK (AK (.ref gM)))
  (g_NoWorld:aw K sk "NoWorld" = AK (AK (.ref gX)))
  (g_World:aw K sk "World" = AK (AK (.ref gJ)))
  (g_TooMany:aw K sk "TooMany" = AK (AK (.ref gY)))
  (kbb:aS K (.type "bool") (.type "bool")=AK AM)
  (kt:aS K (.type "tuple") (.type "tuple")=AK AM)
  (ki:aS K (.type "int") (.type "int")=AK AM)
  (kb:aS K (.type "int") (.type "bool")=AK AN)
  (kl:aS K (.type "list") (.type "list")=AK AM)
  (XIl:XI K gN)
  (xi:ah K (.ref gN) "__init__" = AK (AK (.builtin "ValueError.__init__")))
  (most:aw K sk "MOST_LETTERS" = AK (AK (.int 6 t6)))
  (nq:bY K gH fA=AM)
  (nv:cA K gH=AM)
  (nw:cG K gH=AM)
  (ny:ah K (.ref gH) "__setattr__" = AK (AK (.builtin "object.__setattr__")))
  (oE:cT K gH=AM)
  (oF:aO K (.ref gH)=AM)
  (nz:ah K (.ref gH) "letters" = AK AL)
  (pZ:aS K (.ref gH) (.ref gH)=AK AM)
  (rb:ah K (.ref gH) "__class__" = AK (AK (.builtin "object.__class__")))
  (rd:bU K gH (.type "object")=AK AM)
  (mE:bY K gG fA=AM)
  (mF:cA K gG=AM)
  (mG:cG K gG=AM)
  (mH:ah K (.ref gG) "__setattr__" = AK (AK (.builtin "object.__setattr__")))
  (mI:cT K gG=AM)
  (mJ:aO K (.ref gG)=AM)
  (mK:ah K (.ref gG) "letters" = AK AL)
  (nR:aS K (.ref gG) (.ref gH)=AK AM)
  (nS:ah K (.ref gG) "__class__" = AK (AK (.builtin "object.__class__")))
  (nU:bU K gG (.type "object")=AK AM)
  (win:aw K sk "WINDOW" = AK (AK (.int 128 t8)))
  (XIt:XI K gK)
  (nn:ah K (.ref gK) "number" = AK AL)
  (ini:ah K (.ref gK) "__init__" = AK (AK (.ref fI)))
  (lI:K.lookup fI=AK #[ocI,odI,.func (bB "__init__" "NotTurned.__init__" (yQ z9) (yj z9) (zi z9) .none kVI dcI pmI anI cdI ctI),slI])
  (kI:bV K cdI "NotTurned.__init__" = AM)
  (pI:aO K (.ref fI)=AM)
  (fnI:be K (.ref fI)=AM)
  (nV:bY K gL fA=AM)
  (nW:cA K gL=AM)
  (nX:cG K gL=AM)
  (nY:ah K (.ref gL) "__setattr__" = AK (AK (.builtin "object.__setattr__")))
  (nZ:cT K gL=AM)
  (oa:aO K (.ref gL)=AM)
  (no_System:ah K (.ref gL) "order" = AK AL)
  (nr_System:ah K (.ref gL) "rules" = AK AL)
  (XIu:XI K ic)
  (ua:ah K (.ref ic) "at" = AK AL)
  (iniU:ah K (.ref ic) "__init__" = AK (AK (.ref fU)))
  (lU:K.lookup fU=AK #[ocU,odU,.func (bB "__init__" "NoUse.__init__" (yQ yK) (yj yK) (zi yK) .none kVU dcU pmU anU cdU ctU),slU])
  (kU:bV K cdU "NoUse.__init__" = AM)
  (pU:aO K (.ref fU)=AM)
  (fnU:be K (.ref fU)=AM)
  (XIf:XI K gM)
  (vi:ah K (.ref gM) "__init__" = AK (AK (.builtin "ValueError.__init__")))
  (sFF:dk K (.ref gM) (.ref gM)=AK AM)
  (XIq:XI K gX)
  (nwi:ah K (.ref gX) "__init__" = AK (AK (.builtin "ValueError.__init__")))
  (mostr:aw K sk "MOST_ROOMS" = AK (AK (.int 8 t9)))
  (oG:bY K gJ fA=AM)
  (oH:cA K gJ=AM)
  (oJ:cG K gJ=AM)
  (oK:ah K (.ref gJ) "__setattr__" = AK (AK (.builtin "object.__setattr__")))
  (oM:cT K gJ=AM)
  (oN:aO K (.ref gJ)=AM)
  (oO:ah K (.ref gJ) "letters" = AK AL)
  (nt_World:ah K (.ref gJ) "table" = AK AL)
  (XIm:XI K gY)
  (wi:ah K (.ref gY) "__init__" = AK (AK (.builtin "ValueError.__init__")))
  (mostt:aw K sk "MOST_TABLES" = AK (AK (.int 1000 tmt)))
  (ks:aS K (.type "str") (.type "str")=AK AM)
  (nmin:aw K sk "min" = AK AL)
  (nany:aw K sk "any" = AK AL)
  (nsorted:aw K sk "sorted" = AK AL)
  (mou:aw K sk "MOST_USES_thinning" = AK (AK (.int 40 tmu)))
  (mos:aw K sk "MOST_STEPS_thinning" = AK (AK (.int 240 tms)))
  (mod_:aw K sk "MOST_SIDE_thinning" = AK (AK (.int 60 tmd)))
  (mop:aw K sk "MOST_PASSES" = AK (AK (.int 20 tmp)))
  (mcu:aw K sk "MOST_USES_completing" = AK (AK (.int 40 tcu)))
  (mce:aw K sk "MOST_ENTRIES" = AK (AK (.int 12 tce)))
  (mcd:aw K sk "MOST_SIDE_completing" = AK (AK (.int 10 tcd)))
  (mcp:aw K sk "MOST_PEAKS" = AK (AK (.int 8 tcp)))
  (mju:aw K sk "MOST_USES_judging" = AK (AK (.int 40 tju)))
  (mjs:aw K sk "MOST_STEPS_judging" = AK (AK (.int 2000 tjs)))
  (lZ:ah K (.ref gH) "__init__" = AK (AK (.ref iR)))
  (md:FnE K "__init__" "Order.__init__" vp iR)
  (iT:be K (.ref iR)=AM)
  (lc:ah K (.ref gH) "weight" = AK (AK (.ref iB)))
  (lg:FnE K "weight" "Order.weight" xO iB)
  (iD:be K (.ref iB)=AM)
  (mf:ah K (.ref gH) "seen" = AK (AK (.ref lX)))
  (mh:FnE K "seen" "Order.seen" wY lX)
  (mi:be K (.ref lX)=AM)
  (iM:ah K (.ref gG) "seen" = AK (AK (.ref iL)))
  (iN:FnE K "seen" "FromRight.seen" xa iL)
  (iO:be K (.ref iL)=AM)
  (mj:ah K (.ref gH) "rank" = AK (AK (.ref iS)))
  (ml:FnE K "rank" "Order.rank" xG iS)
  (iU:be K (.ref iS)=AM)
  (lh:ah K (.ref gH) "before" = AK (AK (.ref iC)))
  (li:FnE K "before" "Order.before" xL iC)
  (iE:be K (.ref iC)=AM)
  (lG:ah K (.ref gL) "__init__" = AK (AK (.ref lE)))
  (lH:FnE K "__init__" "System.__init__" wx lE)
  (lJ:be K (.ref lE)=AM)
  (ip:ah K (.ref gL) "rules_told" = AK (AK (.ref io)))
  (iq:FnE K "rules_told" "System.rules_told" yF io)
  (ir:be K (.ref io)=AM)
  (mm:ah K (.ref gJ) "__init__" = AK (AK (.ref lY)))
  (mn:FnE K "__init__" "World.__init__" vo lY)
  (mq:be K (.ref lY)=AM)
  (lK:ah K (.ref gJ) "rooms" = AK (AK (.ref lF)))
  (lL:FnE K "rooms" "World.rooms" wC lF)
  (lM:be K (.ref lF)=AM)
  (mL:ah K (.ref gJ) "led" = AK (AK (.ref mD)))
  (mM:FnE K "led" "World.led" vW mD)
  (mN:be K (.ref mD)=AM)
  (lj:ah K (.ref gJ) "parted" = AK (AK (.ref iZ)))
  (lm:FnE K "parted" "World.parted" xV iZ)
  (ln:be K (.ref iZ)=AM)
  (lr:ah K (.ref gJ) "broken" = AK (AK (.ref lb)))
  (lu:FnE K "broken" "World.broken" xQ lb)
  (lv:be K (.ref lb)=AM)
  (oj:K.lookup oh=AK #[d1_gone,d2_gone,.seq #[.int 4000 ng] d3_gone,d4_gone])
  (nA:K.lookup nk=AK #[d1_unmet,d2_unmet,.seq #[.int 4000 oy] d3_unmet,d4_unmet])
  (fiR_init:ah K (.ref gG) "__init__" = AK (AK (.ref iR)))
  (fiR_weight:ah K (.ref gG) "weight" = AK (AK (.ref iB)))
  (fiR_rank:ah K (.ref gG) "rank" = AK (AK (.ref iS)))
  (fiR_before:ah K (.ref gG) "before" = AK (AK (.ref iC)))
  (b0:aw K sk "len" = AK AL)
  (b1:aw K sk "range" = AK AL)
  (b2:aw K sk "isinstance" = AK AL)
  (b3:aw K sk "str" = AK AL)
  (b4:aw K sk "int" = AK AL)
  (b5:aw K sk "tuple" = AK AL)
  (b6:aw K sk "list" = AK AL)
  (b7:aw K sk "bool" = AK AL)
  (b8:aw K sk "enumerate" = AK AL)
  (b9:aw K sk "all" = AK AL)
  (b10:aw K sk "ValueError" = AK AL)
  (b11:aw K sk "max" = AK AL)
  (b12:aw K sk "reversed" = AK AL)
  (b13:aw K sk "zip" = AK AL)
  (b14:aw K sk "sum" = AK AL)
  (b15:aw K sk "sorted" = AK AL)
  : ∃fd:tQ,(∀(s:sw) (v:sv),Ak s fd #[[v],[]] [("_law_script",v)])/\∀base:sU,K.In base->base.Ns sk mg->base.BuiltinsAt mg TB->PySem.W.CodeHd base cc TB->FnOk l.prog w K mg base CX0 12 fa fd ["_law_script"] (WS K TB):=by
 have e:=hfa.symm.trans (aN X G a61);cases e;have B:Bt mg:=#[aP X G b0,aP X G b1,aP X G b2,aP X G b3,aP X G b4,aP X G b5,aP X G b6,aP X G b7,aP X G b8,aP X G b9,aP X G b10,aP X G b11,aP X G b12,aP X G b13,aP X G b14,aP X G b15];let#[M1,p1,_,F1]:=a1.mk X G;have B1:=F1.binds (ps:=["text"]) nofun;have F6:FunD K "gone" "gone" vK (.ref oh) f6 (bB "gone" "gone" (yQ vK) (yj vK) (zi vK) (.ref oh) kV6 dc6 pm6 an6 cd6 ct6):=⟨#[_,_,_,_,_,_,_,_,_,rfl,l6,k6]⟩;have M6:=aN X G a6;have F12:=fun_mk (st:=yL) l12 k12 p12;have M12:=aN X G a12;have F30:FunD K "unmet" "unmet" xS (.ref nk) f30 (bB "unmet" "unmet" (yQ xS) (yj xS) (zi xS) (.ref nk) kV30 dc30 pm30 an30 cd30 ct30):=⟨#[_,_,_,_,_,_,_,_,_,rfl,l30,k30]⟩;have M30:=aN X G a30;have F61:=fun_mk (st:=jR) l61 k61 p61;have B61:=F61.binds (ps:=["_law_script"]) nofun;have M61:=aN X G a61
 have HCC:cd12=.ref cc:=by
  let#[ai,oi,fdi,m1,m2,m3,m4]:=hlam;have e1:=m1.symm.trans (aN X G a12);cases e1;have e2:=m2.symm.trans (X _ _ l12);cases e2;cases m3;exact m4
 refine#[bB "law" "law" (yQ jR) (yj jR) (zi jR) .none kV61 dc61 pm61 an61 cd61 ct61,λs v=>.of_eq rfl,λbase Z Z HBT HCH=>?_];have TL:zgZ K mg gN:=#[XIl,xi,aN X G g_NoLetters,t6,aN X G most];have TO:TOrd K mg gH gG gH:=#[#[nq,nv,nw,ny],#[mE,mF,mG,mH],#[nq,nv,nw,ny],aN X G g_Order,aN X G g_FromRight,nz,mK,nz];have TNt:TNT K mg gK:=#[XIt,aN X G g_NotTurned,nn];have FI:=fun_mk (st:=z9) lI kI pI;have BI:=FI.binds (ps:=["self","number"]) nofun;have TD:DNT l.prog w K mg base gK:=#[TNt,_,_,ini,fnI,uV TNt FI,BI];have TS:zdF K mg gL:=#[#[nV,nW,nX,nY],aN X G g_System,no_System,nr_System];have TWi:zgE mg:=#[t8,aN X G win];have TNu:TNU K mg ic:=#[XIu,aN X G g_NoUse,ua];have FU:=fun_mk (st:=yK) lU kU pU;have BU:=FU.binds (ps:=["self","at"]) nofun;have TUd:DNU l.prog w K mg base ic:=#[TNu,_,_,iniU,fnU,Zq TNu FU,BU];have TF:zcQ K mg gM:=#[XIf,vi,aN X G g_TooFar];have TNw:zfa K mg gX:=#[XIq,nwi,aN X G g_NoWorld,t9,aN X G mostr];have CLw:zaG K mg gJ:=#[#[oG,oH,oJ,oK],aN X G g_World,oO,nt_World];have TM:K3 K mg gY:=#[XIm,wi,aN X G g_TooMany,tmt,aN X G mostt];have TMk:TMo mg:=#[#[tmu,aN X G mou],#[tms,aN X G mos],#[tmd,aN X G mod_],#[tmp,aN X G mop]];have TMcc:TMc mg:=#[#[tcu,aN X G mcu],#[tce,aN X G mce],#[tcd,aN X G mcd],#[tcp,aN X G mcp]];have TMjj:TMj mg:=#[#[tju,aN X G mju],#[tjs,aN X G mjs]];have d:=λ{x st f CX k ps sp}(q:FnA K x st f) H hb=>FnA.df l.prog w base (CX:=CX) (k:=k) (ps:=ps) (sp:=sp) q X G H hb;have D0:=d a0 (λF=>KU F) nofun;have D1:=dfm l.prog w base (ZZ B TL F1 D0) M1 p1 B1;have D2:=d a2 (λF=>YD B F) nofun;have D3:=d a3 (λF=>zdu B TUd F D2) nofun;let#[_,iV]:=md;have rW:=iV.kp;have nH:=iV.binds (ps:=["self","letters"]) nofun;have pM:DMk l.prog w K mg base CX0 3 gH ["self","letters"] (ZG K):=#[_,_,#[oE,lZ,iT,oF],ug B iV D1,nH];let#[_,iF]:=lg;have mT:=iF.kp;have mU:=iF.binds (ps:=["self","word"]) nofun;have oV:DM l.prog w K mg base CX0 1 gH "weight" ["self","word"] Z6:=#[_,_,#[lc,iD,mT],wW B iF,mU];let#[_,mr]:=mh;have pN:=mr.kp;have pO:=mr.binds (ps:=["self","word"]) nofun;have pP:DM l.prog w K mg base CX0 1 gH "seen" ["self","word"] UU:=#[_,_,#[mf,mi,pN],Zz B mr,pO];let#[_,iP]:=iN;have om:=iP.kp;have oo:=iP.binds (ps:=["self","word"]) nofun;have oq:DM l.prog w K mg base CX0 1 gG "seen" ["self","word"] XM:=#[_,_,#[iM,iO,om],uZ B iP,oo];have TT:TWS l.prog w K mg base gH gG gH:=#[TO,pM,#[_,_,#[mI,fiR_init,iT,mJ],ug B iV D1,nH],oV,#[_,_,#[fiR_weight,iD,mT],wW B iF,mU],pP,oq];let#[_,iW]:=ml;have nI:=iW.kp;have nJ:=iW.binds (ps:=["self","word"]) nofun;have nL:DM l.prog w K mg base CX0 2 gH "rank" ["self","word"] (kg gH gG gH):=#[_,_,#[mj,iU,nI],uB B TT iW,nJ];have DRk:DR l.prog w K mg base gH gG gH:=⟨λC h=>by rcases h with e | e | e; (rw[e];exact#[TO.cO,nL]); (rw[e];exact#[TO.cR,#[_,_,#[fiR_rank,iU,nI],uB B TT iW,nJ]]); (rw[e];exact#[TO.cO,nL])⟩;let#[_,iG]:=li;have mV:=iG.kp;have mW:=iG.binds (ps:=["self","one","other"]) nofun;have mX:DM l.prog w K mg base CX0 3 gH "before" ["self","one","other"] (UH gH gG gH):=#[_,_,#[lh,iE,mV],vj B DRk iG,mW];have DBk:DB l.prog w K mg base gH gG gH:=⟨λC h=>by rcases h with e | e | e; (rw[e];exact#[TO.cO,mX]); (rw[e];exact#[TO.cR,#[_,_,#[fiR_before,iE,mV],vj B DRk iG,mW]]); (rw[e];exact#[TO.cO,mX])⟩;have D4:=d a4 (λF=>j1 B F) nofun;have D5:=d a5 (λF=>Z0 B TWi F D4) nofun;have O6:=zb2 (P:=l.prog) (w:=w) (base:=base) B TF TUd F6 D5 D3;have D6:Df l.prog w K mg base (CXx l.prog w) 4 "gone" ["rules","word","most"] [] (xR K gM):=#[_,_,O6,M6,p6,λs us hK hl=>by let#[_,_,_,rfl]:=Yg (us:=us) (by simpa using hl);exact BindsTo.of_defaults rfl (hK _ _ oj) rfl rfl rfl];have D6d:Df l.prog w K mg base (CXx l.prog w) 4 "gone" ["rules","word","most"] [.int 4000 ng] (xR K gM):=#[_,_,O6,M6,p6,λs us hK hl=>by let#[_,_,rfl]:=vA (us:=us) (by simpa using hl);exact BindsTo.of_defaults rfl (hK _ _ oj) rfl rfl rfl];have D7:=d a7 (λF=>zca B F) nofun;have D8:=d a8 (λF=>zai B F) nofun;have D9:=d a9 (λF=>XB B F D8 D7) nofun;have D10:=d a10 (λF=>Wn B F) nofun;have D11:=d a11 (λF=>VL B DBk F D7) nofun;have D12:=dfm l.prog w base (Xo B DRk (aP X G nsorted) HCH HBT hgT F12 HCC D11) M12 p12 (F12.binds nofun);have D13:=d a13 (λF=>jr B TMk F D10 D6 D6d D9 D7) nofun;have D14:=d a14 (λF=>qF B TF TMk F) nofun;have D15:=d a15 (λF=>Zi B F D13 D14 D11) nofun;have D16:=d a16 (λF=>Ue B TF TMk F D12 D15 D10) nofun;have D17:=d a17 (λF=>zc1 B F) nofun;have D18:=d a18 (λF=>zag B F) nofun;have D19:=d a19 (λF=>VS B F D18) nofun;have D20:=d a20 (λF=>zcq B F) nofun;have D21:=d a21 (λF=>zaa B #[ki,kb] F) nofun;have D22:=d a22 (λF=>zar B #[kl,kt,kbb] F D21) nofun;have D23:=d a23 (λF=>zcP B F) nofun;have D24:=d a24 (λF=>zeA B F D23) nofun;let#[_,lN]:=lH;have rV:=lN.kp;have pB:=lN.binds (ps:=["self","order","rules"]) nofun;have pC:DMk l.prog w K mg base (CXx l.prog w) 5 gL ["self","order","rules"] (qN K gH gG gH gK gL):=#[_,_,#[nZ,lG,lJ,oa],kq B TD TS DBk lN,pB];have MS:MkS l.prog w K mg base gH gG gH gK gL:=pC;have D25:=d a25 (λF=>Ke B F) nofun;have D26:=d a26 (λF=>Wv B F D25) nofun;have D27:=d a27 (λF=>zc8 B F D3) nofun;have D28:=d a28 (λF=>V0 B F D6 D6d) nofun;have D29:=d a29 (λF=>Qa B F D27 D28) nofun;let#[_,iu]:=iq;have nB:=iu.kp;have nC:=iu.binds (ps:=["self"]) nofun;have nE:DM l.prog w K mg base CX0 1 gL "rules_told" ["self"] (ZH K gL):=#[_,_,#[ip,ir,nB],vG B TS iu,nC];have O30:=KR (P:=l.prog) (w:=w) (base:=base) B TS F30 D26 D29 nE;have D30:Df l.prog w K mg base (CXx l.prog w) 7 "unmet" ["system","most"] [] (uz K gL gM):=#[_,_,O30,M30,p30,λs us hK hl=>by let#[_,_,rfl]:=vA (us:=us) (by simpa using hl);exact BindsTo.of_defaults rfl (hK _ _ nA) rfl rfl rfl];have D30d:Df l.prog w K mg base (CXx l.prog w) 7 "unmet" ["system","most"] [.int 4000 oy] (uz K gL gM):=#[_,_,O30,M30,p30,λs us hK hl=>by let#[_,rfl]:=Yt (us:=us) (by simpa using hl);exact BindsTo.of_defaults rfl (hK _ _ nA) rfl rfl rfl];have D31:=d a31 (λF=>YQ B TS MS F D10) nofun;have D32:=d a32 (λF=>qD B F) nofun;have D33:=d a33 (λF=>Xe B (aP X G nany) TMcc F) nofun;have D34:=d a34 (λF=>qh B TF ⟨sFF⟩ F D16 D33) nofun;have D35:=d a35 (λF=>jy B TF ⟨sFF⟩ TMcc F D30 D30d D31) nofun;have D36:=d a36 (λF=>Xl B F D27 D9 D10) nofun;have D37:=d a37 (λF=>Xh B TMcc F D32 D34 D35 D36) nofun;have D38:=d a38 (λF=>XO B TNw F) nofun;let#[_,mv]:=mn;have rX:=mv.kp;have pQ:=mv.binds (ps:=["self","letters","table"]) nofun;have pR:DMk l.prog w K mg base (CXx l.prog w) 4 gJ ["self","letters","table"] (uh gJ):=#[_,_,#[oM,mm,mq,oN],ZR B CLw mv D1 D38,pQ];let#[_,lP]:=lL;have pD:=lP.kp;have pE:=lP.binds (ps:=["self"]) nofun;have pF:DM l.prog w K mg base CX0 1 gJ "rooms" ["self"] (qY gJ):=#[_,_,#[lK,lM,pD],kB B CLw lP,pE];let#[_,mP]:=mM;have re:=mP.kp;have rf:=mP.binds (ps:=["self","room","word"]) nofun;have oe:DM l.prog w K mg base CX0 1 gJ "led" ["self","room","word"] (jj gJ):=#[_,_,#[mL,mN,re],YV B CLw mP,rf];let#[_,lw]:=lm;have oW:=lw.kp;have oX:=lw.binds (ps:=["self","one","other"]) nofun;have oY:DM l.prog w K mg base CX0 2 gJ "parted" ["self","one","other"] (vB gJ):=#[_,_,#[lj,ln,oW],jI B CLw lw pF oe,oX];let#[_,lx]:=lu;have oZ:=lx.kp;have pb:=lx.binds (ps:=["self","pacts"]) nofun;have pc:DM l.prog w K mg base CX0 3 gJ "broken" ["self","pacts"] (uX K gJ):=#[_,_,#[lr,lv,oZ],jT B CLw lx oY,pb];have D39:=d a39 (λF=>kD B F) nofun;have D40:=d a40 (λF=>qJ B TM F D39) nofun;have D41:=d a41 (λF=>X1 B F) nofun;have D42:=d a42 (λF=>kA B CLw F oe pc) nofun;have D43:=d a43 (λF=>kJ B TM CLw F D40 D39 D41 D42 pR) nofun;have D44:=d a44 (λF=>kC B TF ⟨sFF⟩ TMjj F D6 D6d D10) nofun;have D45:=d a45 (λF=>uw B TMjj F D44 D9 D7) nofun;have D46:=d a46 (λF=>vX B F D43) nofun;have D47:=d a47 (λF=>Qc B TO TM F D37 D45 D40 D46) nofun;have D48:=d a48 (λF=>Uc B #[kl,kt,kbb] ⟨ks⟩ F D22) nofun;have D49:=d a49 (λF=>Xk B #[kl,kt,kbb] F D21) nofun;have D50:=d a50 (λF=>JO B #[kt,ks] F D22 D49 D48) nofun;have D51:=d a51 (λF=>zch B ⟨(aP X G nmin)⟩ F) nofun;have D52:=d a52 (λF=>Ja B F D18) nofun;have D53:=d a53 (λF=>zak B (aP X G nsorted) F) nofun;have D54:=d a54 (λF=>ko B F) nofun;have D55:=d a55 (λF=>jS B F D53 D54) nofun;have D56:=d a56 (λF=>U1 B F) nofun;have D57:=d a57 (λF=>zeq B F) nofun;have D58:=d a58 (λF=>K7 B F D57) nofun;have D59:=d a59 (λF=>ku B F D56 D57 D58) nofun;have D60:=d a60 (λF=>KI B F D51 D59 D24) nofun;exact zej B TT F61 D17 D19 D52 D47 D55 D60 D20 D50 D18
def walk{l:PySem.W.OpenLaw}{q:sJ}{loose:List sB}{XP:(sB->Option sv)->sU->Prop}{YP:sP->sU->Prop}{d:DefRec}{K:Params->sr}(hn:l.most=AK 63)(hdf:d.params.defaults=[])(hY:∀(w:sP) (h:sU),YP w h->(K w.params).In h) (hj:((PyProof.Rows.recsOf q).find? λr=>r.name ==("in_order" : sB)).isSome=AM) (hno:∀w:sP,zcX (K w.params)=AM)(F:∀(w:sP) (mg:sB->Option sv) (fa:su) (h:sU) (cc T:su),(K w.params).In h->h.Ns sk mg->mg d.name=AK (.ref fa)->(∃a o fd,mg "in_order" = AK (.ref a)/\h.get? a=AK o/\o.data=.func fd/\fd.code=.ref cc)->sk≠T ->
   ∃fd:tQ,(∀(s:sw) (u:sv),Ak s fd #[[u],[]] [("_law_script",u)])/\∀base:sU,(K w.params).In base->base.Ns sk mg->base.BuiltinsAt mg T->PySem.W.CodeHd base cc T->FnOk l.prog w (K w.params) mg base CX0 12 fa fd ["_law_script"] (WS (K w.params) T)) :
  PySem.W.WalkO q loose XP YP l.row.toRowW d [] (λf vs=>gc f vs):=by
 let#[din,hd]:=Bg.mp hj;have hnm:din.name="in_order":=by simpa using ee hd
 exact L3.walk_ofT (n:=63) (k:=12) (x:="_law_script") (CX:=λZ=>CX0) (din:=din) (sp:=λw T=>WS (K w.params) T) hn ∅ hdf #[rfl,∅,∅] (eX hd) hY hno (λw mg fa h cc T a b c e g=>F w mg fa h cc T a b c (by rw[hnm]at e;exact e) g) (λZ Z a ns T hl hB hT hS=>#[a,ns,rfl,hS,hB,hT,λZ=>rfl]) λZ Z Z Z Z z=>z
end LL
namespace PySem.W.Fast
local macro_rules | `(#print $s:str)=>do let c:=s.getString.toList;let d<-(List.range (c.length/11)).mapM λi=>`(def $(mkIdent (.mkSimple s!"tw{((c.drop (11*i)).take 11).foldl (λa x=>a*57+(x.toNat-65)) 0}")):ident:=Nat);return Lean.mkNullNode d.toArray
#print "iSEJAfP[WxyBrlyilTHgjnphCoLta\\f[[dDipMLim[CUcONsZnkkrgNUmWiN[sW\\aKk[R_WUsbNL\\hnqZIVvs_MakhnwYEVbMbZLvEXjpovDYVgAsTqxZidjfXX`ahTeMq]h\\LsdnSEGum_KVMVAMsMpEjSkYdoClO[tcAeDIOhjhORnJqQNBMKyUc`\\eZmy^Wyfilhhk_`ItAdJ^h[W[\\Gdki[h`jIn\\]KghEKS]fkdwfhXxBSflwIcxQTZmPgvZQOYiU^dQGJ^j[lKSuYgQ]jUSKhaeu_kCUNwKwmROoHnq`BW]xRchQmJkRv_V^B^cPnp`jMFvtZaCnKUsrQHf[kytqqY`nIngtwMoO`XBTQfDh_R^ItXdfMEkZn^AsLKJmx[Qu[QoJ[vQNaTsbQeuuhHHkSMQnGa`mIG\\WpnicYjRWrQVxJHkkSm]w\\MmqoMyenspTU]wdnoxKKe`qWvBdeDaAcNGvqYgAgfcSQuoScgsQikDRR^CTSIooiTd_EmKX]vle`LETYhUKeDRdrvOK\\OWYQjMn^DAXriYnKDRTKN[iYbxmQklh]E_SghijIgQUxGOTorgQwtEjs\\ahAHmXmxUAqi`KteGVWqBP[vTOheFURKwAr^PrLXDBLBCSRBQ\\aG[RUmFMGjs\\dbUmVHWlS\\xRHAHS_aF]lHDVoqsJgv]Dc[FcmFrh`V\\hAmMJaZjKKFDCCLGsK[DltKweDXNWCneFWBoonEs^qWrJB[Era`opNdUchnQoM_IhnRDeNMuReUsyWVkivJaHNPrkupBFqfIxdgYSlFB[OECkWvhQFjIoHEwcFK\\]DVXiTtHLQqfxJOMrATDXLSVrgeLiwpHpBFuLsrhRghmFVuHWIVYjOwurppLaMjhRmZd^x^oQjeY^_D]HCQSnKrMKfne[R\\ZR`JD\\QFERTIQcit\\Tp]OlabAQ\\WWmJ`LK_dtfcbbhGrFAYfHSkcXaRQfSZ[OIcshkvEDoJBxLWGPLyTr^pt_WbyEciJGNAsT`cyAMb`JtAYgeuDhagtYedL]IiOB`UeQYfmythELNHVSOwJd[^qIXQMwFfANvXxOCNkfKYfQeYlyZkwUL]o^B]QVWSgpnUgwoQgE\\CuDiDcTVbPfj\\KiGGYyfqmfkknuoZMhKZ\\jwkGsMQiSw]JmSLqCOOXAr_dmtNuKfpUuRQPjJBOYkFKYJi^RKgp``qGylh[UxNhJLRwHMwvCbdXKWbHd^]meyQek]ttxbgn`CUMiSrfHWpFPENsNx\\mYGxiEwvFkVB^cOkT_scaVJGdAtJ_jOMZBdhILDhIrALlcGjMrntkbrqNFmcVV_r^eDH]TuLf_g`lio\\ksqLLclm\\mruSWJSVLvc]ohuMB\\sNOrQjqBs^`dONhslduMxFjLdeLNvJndBZ_ahU]`C[xw]Op^]QRTCknIxvTfJpbji`y\\ikXn^mpga^dadaabueZVHWyVipRIZTpgV^HAXBSwruUCKgJRW^SMdoRXsWPXNTgN]Q[jG]Y_wRtL^yJCJpStLqvoIDvCyoEj`]BJNVcKAMAwgJtyjnQsdq`PNtQwMxxQAGy\\]mlAWT`xjZWBCtETO`hRkTDjGZDRfTFVZHqtDfVvPYjRUEvc_tCKLEZpL^T`MOCn\\MvnhsK_YYCHAcBZruFjmWkS`NrSTG^SOY\\ucBBeWPIaWbRbiBQgdglQlPdbOMkJQNyCrLljRBFrXD\\hva]ACqIhwJvp`mUXlQncnYDhfusQv_]MOkq]fy[qZRIdDXAel]VYvAEamYiqt]BCwEgdRUyYgxpZkQBZBCwGuTkYELsRUalpgSV\\CUVo]otCeHVTpVB_baCAD^Kqv]]MJvh]fbkAbRG_Mbpul^btDJCYYBMgntlWtgqwNxdlJBgvqnBNl^Y^JcPZ]vsjd_pxjlUKBAvRkHHtVnArVpbBteeTCjUNp^Sb\\pKdbb\\HQdygoaAKkttB]gaKbd`m`s]aYS\\NxdqaH`VVVbmaBCxWAi^vS`WsqlQNH[ujlmxSSFGQILED^wjZkUPpGFAFE^xRYgsgqTrVjTrgRwbIP_\\_VcbEnFSHrt_ddw^gTvrGOBqAnTfBirlrjkZnSrgsILGaZKdMoSVgTI]IFp_^PWEgGGecfcFGyIignT`XsGmmR`XklVymb]EvXF\\IeRWksm\\oLbLl`hGdkJKaBsjgPKFodovYfKJTjq\\hSdbSZV\\qwkQddYcXwHcvV_p[wqls^m_R`JGgx]]Eiv^dscRplb`xhqYXI\\gpG^OvNrYNB_D__hJRPg\\mAKKSfaMpEyDenCi\\[VjVI]xFIeeUMLgdjYToJWyQdGU`Ff^K_c]WdhaGrFIPfa]l\\W`gPImSOLNbm_]HNNFwicqqtKj^cLAYVZgypvGCgZvngtkuD^esGCL[decGhfxKRFQ`j[sNe^ARfugOwGcVGIaigTMUnGFVQfx\\USueMNFCCPGTyCX\\JogBpvDRdQpTSYRwEFYcUKDUSaZkCvikprWhxKfOQ_uUG\\Qqewdh_nSYndJfJjOvImo_jMGeuyKmsEvC`R\\ljbj]dqFRRHnTMj[erom[eR`\\YRC[P[U\\CvTfbqU]\\\\nkqwlOFvj^kYLlMDomyKqRI`W`WsdfnqRLuIlDXE[kbvVMwuqonuNguUyS\\rOTaejdxYbOfbBawEHVELaBXRZHNfd]^pVGmrHd[jS`b_k^BOTfdtk\\nfUP]Hnf_THVXl[fKSsxKteBFeDc_IIIThJ_krBvu`rRY\\Aav]`nhOxvnoxFKNsisFuTWDaYKsybHNBSSrouHgsyEoahc]Vl_[qmfpruqoffcHLND^tZbh`uDk_TGYEqYUA[U\\NYH`AqNR\\Xr_ISOVgm_JjlPxB]ErhUWGbiC^CQtIeJJmZn[JcQZJCeQeCOnjuxFpSfrypeiEWOSND[ThCSFwWcQjxJcByPpA^vmljuWyVkCsLTTsQxaFAUhYnr\\YVoApwarq^Uchdj\\LQJpQ^RiPTioChUogaoMcK^[AJmAFsHNugAIlwqmoTXGPPpNPQUdhIs[^PjUv]FkVVuOR\\HAXAhwluAsSIMbXoerNtvRnQhvEQQGR]YbHyRWafdVhHkwEinL]Yan_rBRJdT[hkwIq_YvlEdHwjiZqnUynqocOTEgDnlc`oc[FhcSJywXx[E]OoUrnpomlXqNYdu\\rMJsmPnvaErIKykQ`cvQWSS[gXNDHsnRxEVUq[XlxdQNBTxR^mqLRRGfAgBJdqJUtaDKspbMKjouOISeVtbQPaTQVytPhpbq_EeFlB`rlQGp\\GtZ\\[Sp\\uC[q[_cVBPhjx`W\\djalbROJmhhpqHaMLKjJwViZxMfA]yAp`q\\aiOlmXZCrJgoZC\\_[QIHBLJJlJcTKxcLly^JVSBf^^IhNJJj^cesxITilANMgkknwdyU]JqkYLgbsfCZTsZArSEF_ME`eVIcKBPMONPSRLcWpowEPdOp]nEhlQDjs`NqtrpKglgGErTd_ueKgaKPxGCdaOroTU\\xg\\TsWUXYdHCYIlY[_gXh_cpZ_sJPPNgAQZD_PAFu\\]yQFPD^VbA`NuqUH\\mJytJ_UTFAXprR`oc`leohqygs^gJbYephAITOiECNdDeLMbjWTvqVkUrPkpSPiMRQFSAqHTJNb`WD]D`]koVqdZ[SZrNB]i`u_HosYPXmOstYkwLvAYqdRfDB^kIWCN\\jUFgFolOQpLkOcjPxUIoqHFKdBjxBjJR_FOHFVnbmuMmrGFfjosFFXLMJtXgriXnie]gRyBNaDxbHoXTR[HKWvPmhUEUFVuO_lXlKauKCRfNPxWxXwYPRgYMi\\rCv]x]YNanAICwab_BEhMVLEIkybbXAg]VXMGhqTJ_lFTHYx]LgC`LpDdsVmnBwkwtMkgm[UOhLZJHWZueb_cQKV\\bavqXh``BqAreTTiV]DQOjHR]DOdCJwiIgyvkPYXYgmsmQ]jvQ__FjpjpywTr[OX^UZWkiXJ\\l^HrZhOKP]YanquyCfSQD[HjPrPaAg]BehK_CiiPXeYh_\\jleFwwalGRJpyutmKCoQWBhAEOsbDgIanSErk]xxbFM_GonDge^Mw\\OZVtgLBHlZTEnSAHnZsqA`Tm[ftWqvFLNiJPcwvvKkCEGFAeawLBqMSDrJIVCHAoynQTG`sJ[t]WtLOimwUB\\BIyu]NJEGRKsWwVI_grZta[vSEJ^LA`VtBGdl_Hotiyf^l__^fVGWmXfh_cn[y^qQTsPwBUDtk\\Qs^PBp^b]nG[iKOS^DKiIwLucHvjOmH\\VEUDCaK[lGo[XYiS^`vjrPYBb`AVvc`pCqhRcAlU^xJoTEDK\\QSVR[kIeo\\_emv`GjNpnVBlIDaFGfSwPBFNWyoXOZ\\iXMcGOXpClyjCrekMjCr]WRZqyMRts`tTB\\XneDHQxJo`YG]asXAdJxEcQ]DXvORv^jgCUq\\h`nFlrBHiaUhPxsBJcZAMfRsoqiax^[AvgxMZgLLe^BoETSpCruXBea_oBTPJP\\COw\\XcCq_kSTaIFOypNAQbqiacwGoS_L\\Bl[fVlhGLSCxXmVTpscddFyGnFVu\\^smehGqvYNnREmTZQGarZASJxhL\\LsFhlfmdoZu_HcrmAGabr\\FhDunuLkAAc`E^T^ngllrJkEWqZ]SyLlQw`QHLjVywYBlsGLjOrvPFEIcmiWroiKZjGd[GmDmq^XeVSTyR]aXk\\EfMytgX`SNtnVKYQZhJRYohPjWcmikTodtSvINlasdXJFiaYbwTqMNE^uu_^lO]AP`sgoVJ`wlMACPjrJWXABYmIRWfJk[oTZ`vPJQXpcFif[lYHdUsnFS][jVrfwyeEOLI[ZpSu`ir\\hCs_Z[^Q[sbawjVMhnqshMYKJ`AXkjnWUNakVnsOQatsQwtFFt[XSKKylaxryhnyXcZMohGTuErkm\\oUxqUAKEjQlosNsBs\\LOrautIyTtsJuHcqip[QdWvEVtnoCMWKEE]LlOFFhfvCBxPCjGjdOJUCPJDeYj^C^AmTktvYZufOxuRocHTSdt[KRvV]OVml^KOKVPyOHGqK]ksKDbPxGivsdnDN`focpOYjulGcSC`wxAj\\g\\mZtBLiqbd\\YvcGYjNVk]q]ixfZqmC^[CfE]lZckVfKGKYVQVNbRRJtmiFcCGB^[FOQjTR]pwrKxYFNge`KYtLtib]qK\\qt_eOJRGYWLYnR`^ChYEMhmDQhiZkXxlJVXJjHRRqalINrrvbnlcf`msf`QTJDtQW\\xhenojOhGL][agF`qMBT`xpGGl]tTcW^JYOImkvLYugQRI\\gbLfFyLtlpwZQu[VtWSuoaFMJ]rqAUVyLONXpiiksScsZ_^IdNSIdLrrjNqR^n]FRqExheHsNEwVIhfmZIMgaeOeOnblm[^npoU]^TGam]_Or\\ZsxLPDq_aDCHVIrV]nBoIQJ\\XBBiLyFl\\Ob]^iCvAbxOem\\O[]NGl[vuAvr^HV^pIKs[gQuHubEgpn[Wd`jmMPpBXA^hFWCtm[XvNHnEWG[xI[vHsrHobqYGAw_xVncUsAEVulLifUkVAyToaZlfMJf_c_TJ`noNnydC[Q]Iifkho]befEsNBa`aQGc]UOWTMo^\\IRbLmfLNO^Yp^[\\^_VUpGTxNUYRFaHYThoQ`rr]ICHmXoYBFijGKFnPmkkBXQSsx\\YKb\\eBgpTA[cwgJOPPZJCBVT\\MyjfSJgAiXBHI\\JpXCNqWJqFsYk[ZoF_Y]oMaR[igyOAgpIIYffbgM`u_KAVNXY`T_ONBBnlPtmorboTh_bESIDVbq]DqAQbBMBOWgOkTsSBQ[TigJWw\\rdDwB`LVXxjWudcPOIYbkqLAQK[uBJVqSGLCjsWkNhnLkawDcxMqYpoC`F[NJqmDJEEK_sbjTLgfi_YGJVLvHagiOaXbxypbbdiafVktrrRP`DqdGHEdrmoCECMSRu`pGxPvrFjRsBGHRogssnxB[\\C_CZWjQBlQOQTBBY_e`T\\DEXhIMIQLcQMcRdppjLDEZcGxFaoTTBS`SYovIxAiAPZoAelmy_GxAUCqZpMISefqYUDPWxEjHQalLdYT[OPQeOJRetdQfFy[XtKeKBwqbxuiBMKlHFGWI`cCSWsMIZNSKUBRF]xsgfBTBELdfV^QvRa\\\\VUtmt`TAngFWjyvmXNudjoWEf\\WmtDJJlkWIrUYtQbBAMAugQWK_MEyXPRMJGDLAtjI]NLydklijL^`EDrewUZPD_DLRgm_\\bENJg__F_cneFAiaJZXWbE]F`aP^MP]^qQkDaDsKfGX][OkAmInCsS^mQPBKqSQ[l_YgtiFQhBh_xFE_B^[N`owH\\`hNWVROLGpkwJ]iZ^s_ggnDfsBLNyl`X_Zwen\\Rs^hXiiTqWk_whoLHVQkYPDShtF]SDYgfh_NPUsTvIclXMp^IKUiNX[QN_xCVovaXTkLwFVYY[CWBbBcUxQIJLg[IkuAVEPIWrFIhjrLeBMOA`Cn`Il_qaydwdAuKvxMjfByeHHMVePkd^dSrSMO]JwU^CF_dHLyBgrcmbaF_TvXuqOGcVcgQYGmyapVveuKwYpGSEYKtvdBPtaQlb\\tSV[ef[\\u^nl]\\uuxMLKtWKcPrloIHBhnNFtMwXC^^lLaYuhYei]evegbREvkxrgxktdnUQaoIfstJQ_JyQvPlClRf`ihvMTtrsJKgEVxJAdYKhpbsvFRUJuAoP^e[YfVojqAiIcwa^gq`mLcFoyQmrYULkwvbLg]KsrD[kxUCfPo`ZYJUmlVraopEAVddfMrFBSSA`n]EOtmUEtCgyirFCGYV_Zu[rdFb`h_XWIGNseP^KxgqyGZsbTsNZYRqNh\\\\PaSIY^kQn_jsrOQ]Wb_QXjqapSygbPINudMd]\\OVFQqeHTHenTQk^EuI]DTooFiQaRhMSywxsKASIjgn`hWhLFTajL\\WjjuVsTluwqbKfUnA]vbchkslvkYatt[FWh_jNRBnpZiERBxqWOktVdD^FYHu\\tr^D^oJd^ZLF_qMRodilW__GcLjWbIDJbkWAFr[XZq_MAEWcbjGobyRJtiARVJcdZqQ[lrEOClsPkLdljxnaj[H`pK]_Wvm]iknx`UNpL]nicaAeuCQGehL^jFaTe]ASfoyKDuibWxGfLxZGvpPtpII[imPf_osC_EfrlohBZyj^YaOt\\aAfXHLXZnPdSKYkXUXYMUU`omLelujmfJFYQaRMZcHlRh_MJ`EZUqlvFdYdirKM`qqIVjeb`Iu`fUYmg_cyPajqyxWQ^dKFbdKtlYgCbNWJoZx]AA[UvWIpouP^WBfiABRHFICZHC_Q_lQZ`S]t_iuTOYl^UOpNeiQtum[YMSfBIpFMyxsYynpO_KdpoYGgqWmKKBynKpbPnKITUwDwAVXETEaSHLRYlIoy\\]nkRENsjlicCPiyF"
end PySem.W.Fast
open PySem PySem.W PyProof.Rows
set_option maxRecDepth 100000 in
set_option maxHeartbeats 0 in
theorem PySem.Challenge.cw_letterlaw_k79_rounds_judged_holds : PySem.Challenge.rw_letterlaw_k79_rounds_judged.Holds := by
 w_on;o_law;k_head; (case hw=>w_witness2)
 k_fill
 refine LL.walk (l:=PySem.Challenge.rw_letterlaw_k79_rounds_judged) rfl rfl (λw h Y=>PySem.W.km_in_of Y) ?hJJ ?hNN ?hFF
 case hJJ=>first | kernel_rfl | rfl | decide +kernel
 case hNN=>intro w;first | kernel_rfl | rfl
 case hFF =>
  intro w mg fa h cc T KX G hmg hlam hgT
  refine' LL.all_mk KX G hmg hlam hgT ?a0 ?a1 ?a2 ?a3 ?a4 ?a5 ?a6 ?l6 ?k6 ?p6 ?a7 ?a8 ?a9 ?a10 ?a11 ?a12 ?l12 ?k12 ?p12 ?a13 ?a14 ?a15 ?a16 ?a17 ?a18 ?a19 ?a20 ?a21 ?a22 ?a23 ?a24 ?a25 ?a26 ?a27 ?a28 ?a29 ?a30 ?l30 ?k30 ?p30 ?a31 ?a32 ?a33 ?a34 ?a35 ?a36 ?a37 ?a38 ?a39 ?a40 ?a41 ?a42 ?a43 ?a44 ?a45 ?a46 ?a47 ?a48 ?a49 ?a50 ?a51 ?a52 ?a53 ?a54 ?a55 ?a56 ?a57 ?a58 ?a59 ?a60 ?a61 ?l61 ?k61 ?p61 ?g_LetterError ?g_NoLetters ?g_Order ?g_FromRight ?g_NotTurned ?g_System ?g_NoUse ?g_TooFar ?g_NoWorld ?g_World ?g_TooMany ?kbb ?kt ?ki ?kb ?kl ?XIl ?xi ?most ?nq ?nv ?nw ?ny ?oE ?oF ?nz ?pZ ?rb ?rd ?mE ?mF ?mG ?mH ?mI ?mJ ?mK ?nR ?nS ?nU ?win ?XIt ?nn ?ini ?lI ?kI ?pI ?fnI ?nV ?nW ?nX ?nY ?nZ ?oa ?no_System ?nr_System ?XIu ?ua ?iniU ?lU ?kU ?pU ?fnU ?XIf ?vi ?sFF ?XIq ?nwi ?mostr ?oG ?oH ?oJ ?oK ?oM ?oN ?oO ?nt_World ?XIm ?wi ?mostt ?ks ?nmin ?nany ?nsorted ?mou ?mos ?mod_ ?mop ?mcu ?mce ?mcd ?mcp ?mju ?mjs ?lZ ?md ?iT ?lc ?lg ?iD ?mf ?mh ?mi ?iM ?iN ?iO ?mj ?ml ?iU ?lh ?li ?iE ?lG ?lH ?lJ ?ip ?iq ?ir ?mm ?mn ?mq ?lK ?lL ?lM ?mL ?mM ?mN ?lj ?lm ?ln ?lr ?lu ?lv ?oj ?nA ?fiR_init ?fiR_weight ?fiR_rank ?fiR_before ?b0 ?b1 ?b2 ?b3 ?b4 ?b5 ?b6 ?b7 ?b8 ?b9 ?b10 ?b11 ?b12 ?b13 ?b14 ?b15
  (case a0|a1|a2|a3|a4|a5=>exact#[by k_is,_,L2.fun_mk (by k_is) (by k_is) (by k_is)])
  case a6|l6|k6|p6=>k_is
  (case a7|a8|a9|a10|a11=>exact#[by k_is,_,L2.fun_mk (by k_is) (by k_is) (by k_is)])
  case a12|l12|k12|p12=>k_is
  (case a13|a14|a15|a16|a17|a18|a19|a20|a21|a22|a23|a24|a25|a26|a27|a28|a29=>exact#[by k_is,_,L2.fun_mk (by k_is) (by k_is) (by k_is)])
  case a30|l30|k30|p30=>k_is
  (case a31|a32|a33|a34|a35|a36|a37|a38|a39|a40|a41|a42|a43|a44|a45|a46|a47|a48|a49|a50|a51|a52|a53|a54|a55|a56|a57|a58|a59|a60=>exact#[by k_is,_,L2.fun_mk (by k_is) (by k_is) (by k_is)])
  case a61|l61|k61|p61|g_LetterError|g_NoLetters|g_Order|g_FromRight|g_NotTurned|g_System|g_NoUse|g_TooFar|g_NoWorld|g_World|g_TooMany|xi|most|ny|oF|nz|rb|rd|mH|mJ|mK|nS|nU|win|nn|ini|lI|kI|pI|nY|oa|no_System|nr_System|ua|iniU|lU|kU|pU|vi|sFF|nwi|mostr|oK|oN|oO|nt_World|wi|mostt|nmin|nany|nsorted|mou|mos|mod_|mop|mcu|mce|mcd|mcp|mju|mjs|lZ|lc|mf|iM|mj|lh|lG|ip|mm|lK|mL|lj|lr=>k_is
  (case XIl|XIt|XIu|XIf|XIq|XIm=>exact#[#[by first | kernel_rfl | rfl | k_is | decide +kernel,by k_is,by k_is,by k_is,by k_is],by k_is,by k_is,by k_is,by k_is])
  case oj|nA|fiR_init|fiR_weight|fiR_rank|fiR_before|b0|b1|b2|b3|b4|b5|b6|b7|b8|b9|b10|b11|b12|b13|b14|b15=>k_is
  (case md|lg|mh|iN|ml|li|lH|iq|mn|lL|mM|lm|lu=>exact#[_,L2.fun_mk (by k_is) (by k_is) (by k_is)])
  (case kbb|kt|ki|kb|kl|pZ|nR|ks=>first | kernel_rfl | rfl)
  (case nq|nw|oE|mE|mG|mI|nV|nX|nZ|oG|oJ|oM=>first | kernel_rfl | rfl | k_is | decide +kernel)
  (case nv|mF|fnI|nW|fnU|oH|iT|iD|mi|iO|iU|iE|lJ|ir|mq|lM|mN|ln|lv=>first | kernel_rfl | rfl | k_is)
#print axioms PySem.Challenge.cw_letterlaw_k79_rounds_judged_holds
